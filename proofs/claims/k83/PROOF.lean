import PyProof.Rows.All
import Wide.All
import OpenK.AllK
import Wide.FinOn
import Lean
import PyProof.EqAt
import PyProof.EqKinds
import PyProof.TupleCall
import PyProof.NeKinds
import KE.IntBitsLaws
import KE.KRevIter
import KE.KSortKey
import KE.KLam
import KE.KNestM
import KE.KDictList
import PyProof.ZipIter
import PyProof.Rows.Range3
import PyProof.CollectWalk
import PyProof.ListNew
import PyProof.Rows.SetFrom
import KE.KDictSum
import PyProof.FactsAll.set_1
import PyProof.ListRange
import PyProof.ConsumeWalk
import PySem.Challenge.RW_lidprice_k83_whole_any_places
set_option Elab.async false
set_option linter.all false
set_option maxRecDepth 100000
namespace L2
open PySem PySem.Spec PyProof.Rows
abbrev Key := Sum Int Str
def keyIs : Key → Value → Bool
  | .inl k, v => Value.isInt k v
  | .inr x, v => Value.isStrOf x v
def keyH (w : World) : Key → Int
  | .inl k => hashInt k
  | .inr x => hashStr w x
theorem keyIs_shape : ∀ {k : Key} {v : Value}, keyIs k v = true → (∃ i t, k = Sum.inl i ∧ v = Value.int i t) ∨ (∃ x t, k = Sum.inr x ∧ v = Value.str x t)
  | .inl i, v, h => by
    obtain ⟨t, e⟩ := Value.isInt_shape (k := i) (v := v) h
    exact .inl ⟨i, t, rfl, e⟩
  | .inr x, v, h => by
    obtain ⟨t, e⟩ := Value.isStrOf_shape (x := x) (v := v) h
    exact .inr ⟨x, t, rfl, e⟩
theorem key_ll (a b : Int) : decide ((Sum.inl a : Key) = Sum.inl b) = (a == b) := by
  by_cases e : a = b
  · subst e; simp
  · have h : ¬ (Sum.inl a : Key) = Sum.inl b := fun q => e (Sum.inl.inj q)
    rw [decide_eq_false h]
    exact (beq_eq_false_iff_ne.mpr e).symm
theorem key_rr (a b : Str) : decide ((Sum.inr a : Key) = Sum.inr b) = decide (a = b) := by
  by_cases e : a = b
  · subst e; simp
  · have h : ¬ (Sum.inr a : Key) = Sum.inr b := fun q => e (Sum.inr.inj q)
    rw [decide_eq_false h, decide_eq_false e]
theorem key_lr (a : Int) (b : Str) : decide ((Sum.inl a : Key) = Sum.inr b) = false := decide_eq_false (fun q => nomatch q)
theorem key_rl (a : Str) (b : Int) : decide ((Sum.inr a : Key) = Sum.inl b) = false := decide_eq_false (fun q => nomatch q)
def mixKind (prog : Program) (w : World) : PySem.KeyKind prog w Key where
  is := keyIs
  hash := keyH w
  inj := fun v a b ha hb => by
    rcases keyIs_shape ha with ⟨i, t, rfl, rfl⟩ | ⟨x, t, rfl, rfl⟩
    · rcases keyIs_shape hb with ⟨j, u, rfl, e⟩ | ⟨y, u, rfl, e⟩
      · injection e with e1 _; rw [e1]
      · exact nomatch e
    · rcases keyIs_shape hb with ⟨j, u, rfl, e⟩ | ⟨y, u, rfl, e⟩
      · exact nomatch e
      · injection e with e1 _; rw [e1]
  byValue := fun k v h => by
    rcases keyIs_shape h with ⟨i, t, rfl, rfl⟩ | ⟨x, t, rfl, rfl⟩ <;> rfl
  pyHash := fun hv h => by
    rcases keyIs_shape hv with ⟨i, t, rfl, rfl⟩ | ⟨x, t, rfl, rfl⟩
    · exact wpAny_pyHash_int h
    · exact wpAny_pyHash_str h
  eqBool := fun hu hv h => by
    rcases keyIs_shape hu with ⟨i, t, rfl, rfl⟩ | ⟨x, t, rfl, rfl⟩
    · rcases keyIs_shape hv with ⟨j, u, rfl, rfl⟩ | ⟨y, u, rfl, rfl⟩
      · rw [key_ll] at h; exact wpAny_eqBool_int h
      · rw [key_lr] at h; exact SeqAt.EqAt.int_str i t y u _ _ _ _ h
    · rcases keyIs_shape hv with ⟨j, u, rfl, rfl⟩ | ⟨y, u, rfl, rfl⟩
      · rw [key_rl] at h; exact SeqAt.EqAt.str_int x t j u _ _ _ _ h
      · rw [key_rr] at h; exact wpAny_eqBool_str h
  «strs» := fun k x t v h => by
    rcases keyIs_shape h with ⟨i, u, rfl, e⟩ | ⟨y, u, rfl, e⟩
    · exact nomatch e
    · injection e with e1 _
      subst e1
      cases v <;> rfl
end L2
namespace L2
open PySem PySem.Spec PyProof.Rows
inductive V where
  | non | bl (b : Bool) | int (i : Int) | str (x : Str) | byt (b : Array UInt8) | flt (b : UInt64) | ref (a : Addr) | ty (n : String)
  deriving DecidableEq
def RelV : V → Value → Prop
  | .non, u => u = Value.none
  | .bl b, u => u = Value.bool b
  | .int i, u => ∃ t, u = Value.int i t
  | .str x, u => ∃ t, u = Value.str x t
  | .byt b, u => ∃ t, u = Value.bytes b t
  | .flt b, u => ∃ t, u = Value.float b t
  | .ref a, u => u = Value.ref a
  | .ty n, u => u = Value.type n
abbrev Vals : List V → List Value → Prop := Paired RelV
theorem Vals.length {xs : List V} {us : List Value} (r : Vals xs us) : xs.length = us.length := Paired.length r
theorem Vals.get : ∀ {xs : List V} {us : List Value} {i : Nat} {x : V}, Vals xs us → xs[i]? = some x → ∃ u, us[i]? = some u ∧ RelV x u
  | _, _, _, _, .nil, e => by simp at e
  | _, _, 0, _, .cons r _, e => by simp at e; subst e; exact ⟨_, rfl, r⟩
  | _, _, i + 1, x, .cons _ t, e => by
    obtain ⟨u, h1, h2⟩ := Vals.get (i := i) (x := x) t (by simpa using e)
    exact ⟨u, by simpa using h1, h2⟩
theorem Vals.set {x : V} {u : Value} (r : RelV x u) : ∀ {xs : List V} {us : List Value} (i : Nat), Vals xs us → Vals (xs.set i x) (us.set i u)
  | _, _, _, .nil => .nil
  | _, _, 0, .cons _ t => .cons r t
  | _, _, i + 1, .cons q t => .cons q (Vals.set r i t)
theorem Vals.append : ∀ {xs ys : List V} {us ws : List Value}, Vals xs us → Vals ys ws → Vals (xs ++ ys) (us ++ ws)
  | _, _, _, _, .nil, s => s
  | _, _, _, _, .cons r t, s => .cons r (Vals.append t s)
theorem Vals.take : ∀ {xs : List V} {us : List Value} (n : Nat), Vals xs us → Vals (xs.take n) (us.take n)
  | _, _, 0, _ => .nil
  | _, _, _ + 1, .nil => .nil
  | _, _, n + 1, .cons r t => .cons r (Vals.take n t)
theorem Vals.drop : ∀ {xs : List V} {us : List Value} (n : Nat), Vals xs us → Vals (xs.drop n) (us.drop n)
  | _, _, 0, r => r
  | _, _, _ + 1, .nil => .nil
  | _, _, n + 1, .cons _ t => Vals.drop n t
def RelO : Option V → Option Value → Prop
  | some v, some u => RelV v u
  | none, none => True
  | _, _ => False
def KV {κ : Type} : List (κ × V) → List (κ × Value) → Prop := Paired fun (p : κ × V) (q : κ × Value) => p.1 = q.1 ∧ RelV p.2 q.2
def kV : Key → V
  | .inl i => .int i
  | .inr x => .str x
inductive HO where
  | lst (xs : List V)
  | tup (xs : List V)
  | dK (kvs : List (Key × V)) | dT (kvs : List (List Key × V))
  | set (S : Int → Bool) (n : Nat)
  | ins (C dx : Addr) (fs : List (Str × V))
  | own (x : Addr)
  | xd (fs : List (Str × V))
  | met (f x : Addr)
  | rng (lo hi : Int)
  | frz (o : Obj) (u : HO)
  | tbl (ps : Array Value)
  | ext (φ : Heap → Prop)
abbrev Hp := Addr → Option HO
def upd (H : Hp) (a : Addr) (o : HO) : Hp := fun b => if b = a then some o else H b
theorem upd_same {H : Hp} {a : Addr} {o : HO} : upd H a o a = some o := by unfold upd; rw [if_pos rfl]
theorem upd_ne {H : Hp} {a b : Addr} {o : HO} (h : b ≠ a) : upd H a o b = H b := by unfold upd; rw [if_neg h]
theorem ne_of {H : Hp} {a b : Addr} {o u : HO} (h : H a = some o) (h' : H b = some u) (d : o ≠ u) : a ≠ b := by
  intro e; subst e; rw [h] at h'; exact d (Option.some.inj h')
theorem ne_of_none {H : Hp} {a b : Addr} {o : HO} (h : H a = some o) (h' : H b = none) : a ≠ b := by
  intro e; subst e; rw [h] at h'; cases h'
section
variable (P : Program) (w : World)
def ObjOk (H : Hp) (h : Heap) (a : Addr) : HO → Prop
  | .lst xs => xs.length ≤ sizeLine ∧ ∃ (its : List Value) (n : Nat), Vals xs its ∧ h.get? a = some { cls := .type "list", data := .seq its.toArray n }
  | .tup xs => xs.length ≤ sizeLine ∧ ∃ its : List Value, Vals xs its ∧ IsTup h a its.toArray
  | .dK kvs => kvs.length ≤ sizeLine ∧ (a == sysModules) = false ∧ ∃ vs, KV kvs vs ∧ h.DictOf (mixKind P w) a vs
  | .dT kvs => kvs.length ≤ sizeLine ∧ (a == sysModules) = false ∧ ∃ xs : List (List Key × Addr × Value),
      Paired (fun (p : List Key × V) (q : List Key × Addr × Value) => p.1 = q.1 ∧ H q.2.1 = some (.tup (p.1.map kV)) ∧ RelV p.2 q.2.2) kvs xs ∧
      ∃ o es ep, h.get? a = some o ∧ o.ExactDict ∧ o.data = .dict es ep ∧ es.toList = xs.map (entryOfKey (tupleKind (mixKind P w))) ∧ (xs.map (·.1)).Nodup
  | .set S n => h.SetOf (intKind P w) a S n
  | .ins C dx fs => H dx = some (.own a) ∧ fs.length ≤ 1000 ∧ dx ≠ a ∧ h.get? a = some (PySem.W.instObj C dx) ∧
      ∃ mA, h.Ns1 dx mA ∧ (∀ f, RelO (fs.lookup f) (mA f)) ∧ PySem.Within mA (fs.map (·.1))
  | .own _ => ∃ o, h.get? a = some o
  | .xd fs => ∃ mA, h.Ns1 a mA ∧ ∀ f, RelO (fs.lookup f) (mA f)
  | .rng lo hi => ∃ t u v, h.get? a = some { cls := .type "range", data := .fields #[.int lo t, .int hi u, .int 1 v] }
  | .frz o u => h.get? a = some o ∧ ObjOk H h a u
  | .tbl ps => h.get? a = some { cls := .none, data := .fields ps }
  | .met f x => h.get? a = some (PySem.W.methodObj (.ref f) (.ref x))
  | .ext φ => φ h ∧ (∃ o, h.get? a = some o) ∧ ∀ h1 h2 : Heap, φ h1 → (∀ o, h1.get? a = some o → h2.get? a = some o) → φ h2
def HOk (H : Hp) (h : Heap) : Prop := ∀ a o, H a = some o → ObjOk P w H h a o
end
section
variable {P : Program} {w : World} {H H' : Hp} {h h' : Heap} {a : Addr} {o : HO}
theorem ObjOk.lt (x : ObjOk P w H h a o) : a < h.objs.size := by
  cases o with
  | lst xs => obtain ⟨_, _, _, _, e⟩ := x; exact Heap.lt_size e
  | tup xs => obtain ⟨_, _, _, p⟩ := x; exact p.lt
  | dK kvs => obtain ⟨_, _, _, _, o, _, _, e, _⟩ := x; exact Heap.lt_size e
  | dT kvs => obtain ⟨_, _, _, _, o, _, _, e, _⟩ := x; exact Heap.lt_size e
  | set S n => obtain ⟨o, _, _, _, e, _⟩ := x; exact Heap.lt_size e
  | ins C dx fs => obtain ⟨_, _, _, e, _⟩ := x; exact Heap.lt_size e
  | own y => obtain ⟨_, e⟩ := x; exact Heap.lt_size e
  | xd fs => obtain ⟨_, ⟨_, _, _, e, _⟩, _⟩ := x; exact Heap.lt_size e
  | rng lo hi => obtain ⟨_, _, _, e⟩ := x; exact Heap.lt_size e
  | frz ob u => obtain ⟨e, _⟩ := x; exact Heap.lt_size e
  | tbl ps => exact Heap.lt_size (show h.get? a = some _ from x)
  | met f y => exact Heap.lt_size (show h.get? a = some _ from x)
  | ext φ => obtain ⟨_, ⟨_, e⟩, _⟩ := x; exact Heap.lt_size e
theorem Paired.mapP {α β : Type} {F G : α → β → Prop} : ∀ {l₁ : List α} {l₂ : List β}, Paired F l₁ l₂ → (∀ a b, F a b → G a b) → Paired G l₁ l₂
  | _, _, .nil, _ => .nil
  | _, _, .cons r t, f => .cons (f _ _ r) (Paired.mapP t f)
theorem ObjOk.stay (x : ObjOk P w H h a o) (k : ∀ b u, (b = a ∨ H b = some (.own a)) → h.get? b = some u → h'.get? b = some u)
    (ho : ∀ b, H b = some (.own a) → H' b = some (.own a)) (ht : ∀ b xs, H b = some (.tup xs) → H' b = some (.tup xs)) : ObjOk P w H' h' a o := by
  induction o with
  | lst xs => obtain ⟨z, its, n, r, e⟩ := x; exact ⟨z, its, n, r, k _ _ (.inl rfl) e⟩
  | tup xs => obtain ⟨z, its, r, ob, e, c⟩ := x; exact ⟨z, its, r, ob, k _ _ (.inl rfl) e, c⟩
  | dK kvs => obtain ⟨z, y, vs, r, ob, es, ep, e, c⟩ := x; exact ⟨z, y, vs, r, ob, es, ep, k _ _ (.inl rfl) e, c⟩
  | dT kvs =>
    obtain ⟨z, y, xs, r, ob, es, ep, e, c⟩ := x
    exact ⟨z, y, xs, Paired.mapP r fun p q z => ⟨z.1, ht _ _ z.2.1, z.2.2⟩, ob, es, ep, k _ _ (.inl rfl) e, c⟩
  | set S n => obtain ⟨ob, es, ep, t, e, c⟩ := x; exact ⟨ob, es, ep, t, k _ _ (.inl rfl) e, c⟩
  | ins C dx fs =>
    obtain ⟨d, z, ne, e, mA, ⟨od, es, ep, e2, c⟩, r⟩ := x
    exact ⟨ho _ d, z, ne, k _ _ (.inl rfl) e, mA, ⟨od, es, ep, k _ _ (.inr d) e2, c⟩, r⟩
  | own y => obtain ⟨ob, e⟩ := x; exact ⟨ob, k _ _ (.inl rfl) e⟩
  | xd fs => obtain ⟨mA, ⟨od, es, ep, e, c⟩, r⟩ := x; exact ⟨mA, ⟨od, es, ep, k _ _ (.inl rfl) e, c⟩, r⟩
  | rng lo hi => obtain ⟨t, u, v, e⟩ := x; exact ⟨t, u, v, k _ _ (.inl rfl) e⟩
  | frz ob u ih => obtain ⟨e, q⟩ := x; exact ⟨k _ _ (.inl rfl) e, ih q⟩
  | tbl ps =>
    have e : h.get? a = some { cls := .none, data := .fields ps } := x
    show h'.get? a = some { cls := .none, data := .fields ps }
    exact k a _ (.inl rfl) e
  | met f y =>
    have e : h.get? a = some (PySem.W.methodObj (.ref f) (.ref y)) := x
    show h'.get? a = some (PySem.W.methodObj (.ref f) (.ref y))
    exact k a _ (.inl rfl) e
  | ext φ => obtain ⟨p, ⟨o, e⟩, st⟩ := x; exact ⟨st _ _ p fun o q => k _ _ (.inl rfl) q, ⟨o, k _ _ (.inl rfl) e⟩, st⟩
theorem HOk.lt (x : HOk P w H h) (e : H a = some o) : a < h.objs.size := (x a o e).lt
theorem HOk.fresh (x : HOk P w H h) (e : h.objs.size ≤ a) : H a = none := by
  cases q : H a with
  | none => rfl
  | some u => exact absurd (Nat.lt_of_lt_of_le (x.lt q) e) (Nat.lt_irrefl _)
theorem HOk.kept (x : HOk P w H h) (k : ∀ b u, h.get? b = some u → h'.get? b = some u) : HOk P w H h' := fun a o e =>
  (x a o e).stay (fun b u _ q => k b u q) (fun _ q => q) fun _ _ q => q
theorem HOk.laid (x : HOk P w H h) (k : ∀ b u, h.get? b = some u → h'.get? b = some u) (hp : h.objs.size ≤ a) (new : ObjOk P w (upd H a o) h' a o) : HOk P w (upd H a o) h' := fun b u e => by
  have hn := x.fresh hp
  by_cases hb : b = a
  · subst hb; rw [upd_same] at e; cases e; exact new
  · rw [upd_ne hb] at e
    exact (x b u e).stay (fun c v _ q => k c v q) (fun c q => by rw [upd_ne (ne_of_none q hn)]; exact q) fun c xs q => by rw [upd_ne (ne_of_none q hn)]; exact q
end
def Rd (H : Hp) (a : Addr) (u : HO) : Prop := H a = some u ∨ ∃ o, H a = some (.frz o u)
theorem Rd.of {H : Hp} {a : Addr} {u : HO} (h : H a = some u) : Rd H a u := .inl h
theorem Rd.ok {P : Program} {w : World} {H : Hp} {h : Heap} {a : Addr} {u : HO} (r : Rd H a u) (x : HOk P w H h) : ObjOk P w H h a u := by
  rcases r with r | ⟨o, r⟩
  · exact x a u r
  · obtain ⟨_, q⟩ := x a _ r
    exact q
def Mut : Option HO → Prop
  | some (.lst _) => True
  | some (.dK _) => True
  | some (.dT _) => True
  | some (.set _ _) => True
  | some (.ins _ _ _) => True
  | some (.ext _) => True
  | _ => False
section
variable {P : Program} {w : World} {H : Hp} {h h' : Heap} {x e : Addr} {o' : HO}
theorem HOk.write (ok : HOk P w H h) (mu : Mut (H x)) (he : e = x ∨ H e = some (.own x)) (k : ∀ b u, b ≠ e → h.get? b = some u → h'.get? b = some u) (heo : ∃ u, h'.get? e = some u)
    (new : ObjOk P w (upd H x o') h' x o') : HOk P w (upd H x o') h' := fun b u q => by
  have nown : ∀ c y, H c = some (.own y) → c ≠ x := fun c y r z => by subst z; rw [r] at mu; exact mu
  have ntup : ∀ c xs, H c = some (.tup xs) → c ≠ x := fun c xs r z => by subst z; rw [r] at mu; exact mu
  by_cases hb : b = x
  · subst hb; rw [upd_same] at q; cases q; exact new
  · rw [upd_ne hb] at q
    by_cases hbe : b = e
    · have q' : H b = some (.own x) := by
        rcases he with z | z
        · exact absurd (hbe.trans z) hb
        · rw [hbe]; exact z
      rw [q] at q'; cases q'
      obtain ⟨v, hv⟩ := heo
      exact ⟨v, by rw [hbe]; exact hv⟩
    · refine (ok b u q).stay (fun c v hc r => k c v ?_ r) (fun c r => by rw [upd_ne (nown c b r)]; exact r) fun c xs r => by rw [upd_ne (ntup c xs r)]; exact r
      rcases hc with rfl | hc
      · exact hbe
      · rintro rfl
        rcases he with z | z
        · exact nown c b hc z
        · rw [hc] at z; cases z; exact hb rfl
end
structure Un (fs ex : List Addr) (H H' : Hp) (h h' : Heap) : Prop where
  keep : ∀ b o, h.get? b = some o → H b = none → b ∉ fs → b ∉ ex → h'.get? b = some o
  slot : ∀ b o, h.get? b = some o → H b = none → b ∈ fs → b ∉ ex → ∃ sl, h'.get? b = some { o with slots := sl }
  free : ∀ b o, h.get? b = some o → H b = none → b ∉ ex → H' b = none
  there : ∀ b o, h.get? b = some o → b ∉ ex → ∃ o', h'.get? b = some o'
  tups : ∀ b xs, H b = some (.tup xs) → H' b = some (.tup xs)
  frzs : ∀ b o u, H b = some (.frz o u) → H' b = some (.frz o u)
  tbls : ∀ b ps, H b = some (.tbl ps) → ∃ more, H' b = some (.tbl (ps ++ more))
section
variable {fs fs' ex ex' : List Addr} {H H1 H2 : Hp} {h h1 h2 h' : Heap} {a x e : Addr} {o : HO}
theorem Un.any (u : Un fs ex H H1 h h1) {b : Addr} {ob : Obj} (q : h.get? b = some ob) (n : H b = none) (hx : b ∉ ex) : ∃ sl, h1.get? b = some { ob with slots := sl } := by
  by_cases hb : b ∈ fs
  · exact u.slot b ob q n hb hx
  · exact ⟨ob.slots, u.keep b ob q n hb hx⟩
theorem Un.trans (a : Un fs ex H H1 h h1) (b : Un fs ex H1 H2 h1 h2) : Un fs ex H H2 h h2 where
  keep := fun c ob q n hc hx => b.keep c ob (a.keep c ob q n hc hx) (a.free c ob q n hx) hc hx
  slot := fun c ob q n hc hx => by
    obtain ⟨sl, e1⟩ := a.slot c ob q n hc hx
    obtain ⟨sl', e2⟩ := b.slot c _ e1 (a.free c ob q n hx) hc hx
    exact ⟨sl', e2⟩
  free := fun c ob q n hx => by
    obtain ⟨o', e1⟩ := a.there c ob q hx
    exact b.free c o' e1 (a.free c ob q n hx) hx
  there := fun c ob q hx => by
    obtain ⟨o', e1⟩ := a.there c ob q hx
    exact b.there c o' e1 hx
  tups := fun c xs q => b.tups c xs (a.tups c xs q)
  frzs := fun c ob xs q => b.frzs c ob xs (a.frzs c ob xs q)
  tbls := fun c ps q => by
    obtain ⟨m1, e1⟩ := a.tbls c ps q
    obtain ⟨m2, e2⟩ := b.tbls c _ e1
    exact ⟨m1 ++ m2, by rw [e2, Array.append_assoc]⟩
theorem Un.kept (k : ∀ b u, h.get? b = some u → h'.get? b = some u) : Un fs ex H H h h' :=
  ⟨fun b ob q _ _ _ => k b ob q, fun b ob q _ _ _ => ⟨ob.slots, k b ob q⟩, fun _ _ _ n _ => n, fun b ob q _ => ⟨ob, k b ob q⟩, fun _ _ q => q, fun _ _ _ q => q, fun _ ps q => ⟨#[], by rw [q]; simp⟩⟩
theorem Un.refl : Un fs ex H H h h := Un.kept fun _ _ q => q
theorem Un.laid (k : ∀ b u, h.get? b = some u → h'.get? b = some u) (hp : h.objs.size ≤ a) (hn : H a = none) : Un fs ex H (upd H a o) h h' where
  keep := fun b u q _ _ _ => k b u q
  slot := fun b u q _ _ _ => ⟨u.slots, k b u q⟩
  free := fun b u q n _ => by rw [upd_ne (Nat.ne_of_lt (Nat.lt_of_lt_of_le (Heap.lt_size q) hp))]; exact n
  there := fun b u q _ => ⟨u, k b u q⟩
  tups := fun b xs q => by rw [upd_ne (ne_of_none q hn)]; exact q
  frzs := fun b u xs q => by rw [upd_ne (ne_of_none q hn)]; exact q
  tbls := fun b ps q => ⟨#[], by rw [upd_ne (ne_of_none q hn), q]; simp⟩
theorem Un.write (mu : Mut (H x)) (he : e = x ∨ H e = some (.own x)) (k : ∀ b u, b ≠ e → h.get? b = some u → h'.get? b = some u) (heo : ∃ u, h'.get? e = some u) : Un fs ex H (upd H x o) h h' := by
  have hx : ∀ b, H b = none → b ≠ x := fun b n z => by subst z; rw [n] at mu; exact mu
  have hb : ∀ b, H b = none → b ≠ e := fun b n z => by
    subst z
    rcases he with r | r
    · exact hx b n r
    · rw [n] at r; cases r
  have hm : ∀ b u, H b = some u → ¬ Mut (some u) → b ≠ x := fun b u q nm z => by subst z; rw [q] at mu; exact nm mu
  refine ⟨fun b u q n _ _ => k b u (hb b n) q, fun b u q n _ _ => ⟨u.slots, k b u (hb b n) q⟩, fun b u q n _ => by rw [upd_ne (hx b n)]; exact n, fun b u q _ => ?_,
    fun b xs q => by rw [upd_ne (hm b _ q fun z => z)]; exact q, fun b u xs q => by rw [upd_ne (hm b _ q fun z => z)]; exact q, fun b ps q => ⟨#[], by rw [upd_ne (hm b _ q fun z => z), q]; simp⟩⟩
  by_cases hbe : b = e
  · subst hbe; exact heo
  · exact ⟨u, k b u hbe q⟩
theorem Un.mono (u : Un fs ex H H1 h h1) (hs : ∀ b ∈ fs, b ∈ fs') (hx : ∀ b ∈ ex, b ∈ ex') : Un fs' ex' H H1 h h1 :=
  ⟨fun b ob q n hb he => u.keep b ob q n (fun z => hb (hs b z)) fun z => he (hx b z), fun _ _ q n _ he => u.any q n fun z => he (hx _ z), fun b ob q n he => u.free b ob q n fun z => he (hx b z), fun b ob q he => u.there b ob q fun z => he (hx b z), u.tups, u.frzs, u.tbls⟩
end
def trk (h : Heap) (H : Hp) : List Addr := (List.range h.objs.size).filter fun a => (H a).isSome
def hidT (h : Heap) (H : Hp) : Heap := PySem.W.hideAll h (trk h H)
theorem hidT_size (h : Heap) (H : Hp) : (hidT h H).objs.size = h.objs.size := PySem.W.hideAll_size _ _
theorem hidT_get {h : Heap} {H : Hp} {b : Addr} {o : Obj} (e : h.get? b = some o) (n : H b = none) : (hidT h H).get? b = some o :=
  PySem.W.hideAll_get _ e fun hm => by
    have q : (H b).isSome = true := (List.mem_filter.mp hm).2
    rw [n] at q; simp at q
theorem of_hidT {h : Heap} {H : Hp} {b : Addr} {o : Obj} (e : (hidT h H).get? b = some o) : h.get? b = some o ∧ H b = none := by
  have e' : h.get? b = some o := PySem.W.of_hideAll (trk h H) e
  refine ⟨e', ?_⟩
  cases q : H b with
  | none => rfl
  | some x =>
    have hm : b ∈ trk h H := List.mem_filter.mpr ⟨List.mem_range.mpr (Heap.lt_size e'), by simp [q]⟩
    have z : (hidT h H).get? b = none := PySem.W.hideAll_none (trk h H) hm
    rw [z] at e; cases e
def allNews (g h : Heap) (L : Addr) : List (Addr × Obj) := (List.range h.objs.size).filterMap fun a => if a = L ∨ (g.get? a).isSome = true then none else (h.get? a).map fun o => (a, o)
def rest (g h : Heap) (L d : Addr) : List (Addr × Obj) := (allNews g h L).filter fun p => decide (p.1 ≠ d)
end L2
namespace L2
open PySem PySem.Spec PyProof.Rows
structure Mod (K : PySem.W.Frag) (mg : Str → Option Value) (base : Heap) : Prop where
  kin : K.In base
  glob : base.Ns mainGlobals mg
  blt : ∃ mb, base.Ns builtinsNs mb ∧ ∀ x : Str, x ≠ "__name__" → mb x = bootBuiltins x
  nolimit : base.NoLimit
structure Cx where
  prog : Program
  w : World
  K : PySem.W.Frag
  mg : Str → Option Value
  base : Heap
  A : Around
  N : List Str
  s₀ : Shared
  H₀ : Hp
  env : Env
  outer : List Env
  stack : List Env
  ex : List Addr
  fn : Str → Bool
  calm : Bool
  pn : List (Addr × Obj)
  xe : Value → Shared → Prop
def frs (l : List Env) : List Addr := l.filterMap (·.frame)
abbrev Cx.fs (X : Cx) : List Addr := frs X.outer
def Vis (sc : Scope) (x : Str) : Prop := sc.names.lookup x = some .local ∨ sc.names.lookup x = some .cell ∨ sc.names.lookup x = some .free
def Loc (sc : Scope) (x : Str) : Prop := sc.names.lookup x = some .local ∨ sc.names.lookup x = some .cell
def Look (env : Env) (h : Heap) (m : Str → Option Value) (x : Str) (u : Value) : Prop :=
  (env.kindOf x = some .local ∧ m x = some u) ∨ ((env.kindOf x = some .cell ∨ env.kindOf x = some .free) ∧ ∃ c, env.cells.lookup x = some c ∧ h.IsCell c (some u))
structure Cx.Ok (X : Cx) : Prop where
  mod : Mod X.K X.mg X.base
  kind : X.env.scope.kind = .function
  glob : X.env.globals = mainGlobals
  blt : X.env.builtins = builtinsNs
  above : X.s₀.heap.objs.size ≤ X.env.locals
  inj : ∀ x y c, X.env.cells.lookup x = some c → X.env.cells.lookup y = some c → x = y
  has : ∀ x, (X.env.kindOf x = some .cell ∨ X.env.kindOf x = some .free) → ∃ c, X.env.cells.lookup x = some c
  cab : ∀ x c, X.fn x = true → X.env.cells.lookup x = some c → X.s₀.heap.objs.size ≤ c
  hd : X.calm = true → X.A.handled = none
  frames : X.A.frames = some X.stack
  stk : X.stack = X.outer ∨ (X.stack = X.env :: X.outer ∧ X.env.frame = some X.env.locals)
  exf : ∀ b ∈ X.ex, b ≠ X.env.locals ∧ ∀ x c, X.env.cells.lookup x = some c → c ≠ b
  bs : ∀ b o, X.base.get? b = some o → X.s₀.heap.get? b = some o ∧ X.H₀ b = none
  bsz : X.base.objs.size ≤ X.s₀.heap.objs.size
  noex : ∀ b o, X.base.get? b = some o → b ∉ X.ex
  exfs : ∀ b ∈ X.ex, b ∉ X.fs
  funs : X.s₀.heap.FunFrames X.base X.outer
  frf : ∀ b ∈ X.fs, X.H₀ b = none
structure Inv (X : Cx) (pins : List (Addr × Obj)) (σ : List (Option V)) (H : Hp) (s : Shared) : Prop where
  ok : X.Ok
  os : s.os = X.s₀.os
  bare : AllBare s.gens
  base : Un X.fs X.ex X.H₀ H X.s₀.heap s.heap
  loc : ∃ m, s.heap.Ns X.env.locals m ∧ ∀ (i : Nat) (x : Str) (v : V), X.N[i]? = some x → σ[i]? = some (some v) → Vis X.env.scope x → ∃ u, RelV v u ∧ Look X.env s.heap m x u
  cell : ∀ x c, X.env.cells.lookup x = some c → ∃ v, s.heap.IsCell c v
  free : H X.env.locals = none
  freeC : ∀ x c, X.env.cells.lookup x = some c → H c = none
  pin : ∀ p ∈ X.pn ++ pins, s.heap.get? p.1 = some p.2 ∧ H p.1 = none ∧ p.1 ≠ X.env.locals ∧ p.1 ∉ X.fs ∧ ∀ v, p.2.data ≠ .cell v
  hok : HOk X.prog X.w H s.heap
  len : σ.length = X.N.length
section
variable {X : Cx} {pins : List (Addr × Obj)} {σ : List (Option V)} {H H' : Hp} {s : Shared} {h' : Heap}
theorem Cx.Ok.nofr (ok : X.Ok) {b : Addr} {o : Obj} (e : X.base.get? b = some o) : b ∉ X.fs := fun hb => by
  have := (ok.funs.mem hb).1
  rw [e] at this; cases this
theorem Inv.bs (I : Inv X pins σ H s) : ∀ b o, X.base.get? b = some o → s.heap.get? b = some o ∧ H b = none := fun b o e =>
  ⟨I.base.keep b o (I.ok.bs b o e).1 (I.ok.bs b o e).2 (I.ok.nofr e) (I.ok.noex b o e), I.base.free b o (I.ok.bs b o e).1 (I.ok.bs b o e).2 (I.ok.noex b o e)⟩
theorem Inv.bk (I : Inv X pins σ H s) : ∀ b o, X.base.get? b = some o → s.heap.get? b = some o := fun b o e => (I.bs b o e).1
theorem Inv.mod (I : Inv X pins σ H s) : Mod X.K X.mg X.base := I.ok.mod
theorem Inv.kIn (I : Inv X pins σ H s) : X.K.In s.heap := I.ok.mod.kin.keeps I.bk
theorem Inv.nolimit (I : Inv X pins σ H s) : s.heap.NoLimit := I.ok.mod.nolimit.keeps I.bk
theorem Inv.fr (I : Inv X pins σ H s) : ∃ m, Fr X.base X.env.locals s.heap m :=
  let ⟨m, hn, _⟩ := I.loc
  ⟨m, hn, I.bk, Nat.le_trans I.ok.bsz I.ok.above⟩
theorem Inv.lt (I : Inv X pins σ H s) : X.env.locals < s.heap.objs.size := let ⟨_, hn, _⟩ := I.loc; hn.lt
theorem Inv.sz (I : Inv X pins σ H s) : X.s₀.heap.objs.size ≤ s.heap.objs.size := Nat.le_trans I.ok.above (Nat.le_of_lt I.lt)
theorem Inv.nofs (I : Inv X pins σ H s) {a : Addr} (h : s.heap.objs.size ≤ a) : a ∉ X.fs := fun hb => by
  obtain ⟨_, o, ho, _⟩ := I.ok.funs.mem hb
  exact absurd (Nat.lt_of_lt_of_le (Heap.lt_size ho) (Nat.le_trans I.sz h)) (Nat.lt_irrefl _)
theorem Inv.cne (I : Inv X pins σ H s) : ∀ x c, X.env.cells.lookup x = some c → c ≠ X.env.locals := fun x c e z => by
  obtain ⟨v, o, ho, hd⟩ := I.cell x c e
  obtain ⟨m, ⟨o', es, ep, ho', hd', _⟩, _⟩ := I.loc
  rw [z, ho'] at ho; cases ho; rw [hd'] at hd; cases hd
theorem Inv.funs (I : Inv X pins σ H s) : s.heap.FunFrames X.base X.outer := by
  have all : ∀ (l : List Env), (∀ b ∈ frs l, b ∈ X.fs) → X.s₀.heap.FunFrames X.base l → s.heap.FunFrames X.base l := by
    intro l
    induction l with
    | nil => intro _ _; trivial
    | cons env r ih =>
      intro hs hl
      obtain ⟨hk, ⟨L, o, hf, hn, ho, hd⟩, hr⟩ := hl
      have hL : L ∈ X.fs := hs L (by unfold frs; rw [List.filterMap_cons, hf]; exact List.mem_cons_self)
      obtain ⟨sl, e⟩ := I.base.slot L o ho (I.ok.frf L hL) hL fun z => I.ok.exfs L z hL
      exact ⟨hk, ⟨L, _, hf, hn, e, hd⟩, ih (fun b hb => hs b (by unfold frs; rw [List.filterMap_cons, hf]; exact List.mem_cons_of_mem _ hb)) hr⟩
  exact all X.outer (fun _ hb => hb) I.ok.funs
theorem Inv.stack (I : Inv X pins σ H s) : s.heap.FunFrames X.base X.stack := by
  rcases I.ok.stk with e | ⟨e, hf⟩
  · rw [e]; exact I.funs
  · rw [e]
    obtain ⟨m, hn, _⟩ := I.loc
    refine .cons (by rw [I.ok.kind]; decide) hf hn ?_ I.funs
    exact Heap.get?_none_of_le (Nat.le_trans I.ok.bsz I.ok.above)
theorem Inv.stkSub (I : Inv X pins σ H s) : ∀ b ∈ frs X.stack, b ∈ X.env.locals :: X.fs := fun b hb => by
  rcases I.ok.stk with e | ⟨e, hf⟩
  · rw [e] at hb; exact List.mem_cons_of_mem _ hb
  · rw [e] at hb
    unfold frs at hb
    rw [List.filterMap_cons, hf] at hb
    exact hb
theorem Inv.stkFree (I : Inv X pins σ H s) : ∀ b ∈ frs X.stack, H b = none := fun b hb => by
  rcases List.mem_cons.mp (I.stkSub b hb) with e | hb
  · rw [e]; exact I.free
  · obtain ⟨_, o, ho, _⟩ := I.ok.funs.mem hb
    exact I.base.free b o ho (I.ok.frf b hb) fun z => I.ok.exfs b z hb
theorem Inv.step {g' : Array GenState} {t' : Nat} {d' : Drawn} {ch : List Addr} (I : Inv X pins σ H s)
    (hch : ∀ b ∈ ch, (b ∈ X.ex ∨ X.s₀.heap.objs.size ≤ b) ∧ b ≠ X.env.locals ∧ (∀ x c, X.env.cells.lookup x = some c → c ≠ b) ∧ ∀ p ∈ X.pn ++ pins, p.1 ≠ b)
    (keep : ∀ b o, b ≠ X.env.locals → b ∉ X.fs → b ∉ ch → s.heap.get? b = some o → H b = none → h'.get? b = some o)
    (slot : ∀ b o, b ≠ X.env.locals → b ∈ X.fs → b ∉ ch → s.heap.get? b = some o → H b = none → ∃ sl, h'.get? b = some { o with slots := sl }) (free : ∀ b o, b ∉ ch → s.heap.get? b = some o → H b = none → H' b = none)
    (there : ∀ b o, b ∉ ch → s.heap.get? b = some o → ∃ o', h'.get? b = some o')
    (tups : ∀ b xs, H b = some (.tup xs) → H' b = some (.tup xs)) (frzs : ∀ b o u, H b = some (.frz o u) → H' b = some (.frz o u)) (tbls : ∀ b ps, H b = some (.tbl ps) → ∃ more, H' b = some (.tbl (ps ++ more)))
    (ns : ∀ m, s.heap.Ns X.env.locals m → h'.Ns X.env.locals m) (hok : HOk X.prog X.w H' h') (hg : AllBare g') :
    Inv X pins σ H' { s with heap := h', gens := g', drawn := d', toks := t' } := by
  have neL : ∀ b o, X.s₀.heap.get? b = some o → b ≠ X.env.locals := fun b o e => Nat.ne_of_lt (Nat.lt_of_lt_of_le (Heap.lt_size e) I.ok.above)
  have neC : ∀ b o, X.s₀.heap.get? b = some o → b ∉ X.ex → b ∉ ch := fun b o e hx hb => by
    rcases (hch b hb).1 with z | z
    · exact hx z
    · exact absurd (Nat.lt_of_lt_of_le (Heap.lt_size e) z) (Nat.lt_irrefl _)
  have cellK : ∀ x c, X.env.cells.lookup x = some c → ∀ v, s.heap.IsCell c v → h'.IsCell c v := fun x c e v ⟨o, ho, hd⟩ => by
    have nch : c ∉ ch := fun z => (hch c z).2.2.1 x c e rfl
    by_cases hc : c ∈ X.fs
    · obtain ⟨sl, q⟩ := slot c o (I.cne x c e) hc nch ho (I.freeC x c e)
      exact ⟨_, q, hd⟩
    · exact ⟨o, keep c o (I.cne x c e) hc nch ho (I.freeC x c e), hd⟩
  refine ⟨I.ok, I.os, hg, ⟨fun b o e n hb hx => ?_, fun b o e n hb hx => ?_, fun b o e n hx => ?_, fun b o e hx => ?_, fun b xs e => tups b xs (I.base.tups b xs e), fun b o xs e => frzs b o xs (I.base.frzs b o xs e), fun b ps e => ?_⟩, ?_, fun x c e => ?_, ?_, fun x c e => ?_, fun p hp => ?_, hok, I.len⟩
  · exact keep b o (neL b o e) hb (neC b o e hx) (I.base.keep b o e n hb hx) (I.base.free b o e n hx)
  · obtain ⟨sl, e1⟩ := I.base.slot b o e n hb hx
    obtain ⟨sl', e2⟩ := slot b _ (neL b o e) hb (neC b o e hx) e1 (I.base.free b o e n hx)
    exact ⟨sl', e2⟩
  · obtain ⟨o', e1⟩ := I.base.there b o e hx
    exact free b o' (neC b o e hx) e1 (I.base.free b o e n hx)
  · obtain ⟨o', e1⟩ := I.base.there b o e hx
    exact there b o' (neC b o e hx) e1
  · obtain ⟨m1, e1⟩ := I.base.tbls b ps e
    obtain ⟨m2, e2⟩ := tbls b _ e1
    exact ⟨m1 ++ m2, by rw [e2, Array.append_assoc]⟩
  · obtain ⟨m, hn, hl⟩ := I.loc
    refine ⟨m, ns m hn, fun i x v e1 e2 e3 => ?_⟩
    obtain ⟨u, r, l⟩ := hl i x v e1 e2 e3
    refine ⟨u, r, ?_⟩
    rcases l with l | ⟨k, c, e, z⟩
    · exact .inl l
    · exact .inr ⟨k, c, e, cellK x c e _ z⟩
  · obtain ⟨v, z⟩ := I.cell x c e
    exact ⟨v, cellK x c e v z⟩
  · obtain ⟨m, ⟨o, _, _, ho, _⟩, _⟩ := I.loc
    exact free _ o (fun z => (hch _ z).2.1 rfl) ho I.free
  · obtain ⟨v, o, ho, hd⟩ := I.cell x c e
    exact free c o (fun z => (hch c z).2.2.1 x c e rfl) ho (I.freeC x c e)
  · obtain ⟨e, n, ne, nf, d⟩ := I.pin p hp
    have nch : p.1 ∉ ch := fun z => (hch p.1 z).2.2.2 p hp rfl
    exact ⟨keep p.1 p.2 ne nf nch e n, free p.1 p.2 nch e n, ne, nf, d⟩
theorem Inv.un {t' : Nat} (I : Inv X pins σ H s) (u : Un X.fs [] H H' s.heap h') (hok : HOk X.prog X.w H' h') : Inv X pins σ H' { s with heap := h', toks := t' } := by
  obtain ⟨m, ⟨o, es, ep, ho, r⟩, _⟩ := id I.loc
  obtain ⟨sl, hL⟩ := u.any ho I.free (by simp)
  exact I.step (g' := s.gens) (d' := s.drawn) (ch := []) (fun _ z => nomatch z) (fun b o _ hb _ e n => u.keep b o e n hb (by simp)) (fun b o _ hb _ e n => u.slot b o e n hb (by simp)) (fun b o _ e n => u.free b o e n (by simp)) (fun b o _ e => u.there b o e (by simp)) u.tups u.frzs u.tbls (fun m' hm => by
    obtain ⟨o', es', ep', ho', r'⟩ := hm
    rw [ho] at ho'; cases ho'
    exact ⟨_, es', ep', hL, r'⟩) hok I.bare
theorem Inv.call {g' : Array GenState} {t' : Nat} {d' : Drawn} {ch : List Addr} (I : Inv X pins σ H s) (u : Un (frs X.stack) ch H H' s.heap h') (hok : HOk X.prog X.w H' h') (hg : AllBare g')
    (hch : ∀ b ∈ ch, (b ∈ X.ex ∨ X.s₀.heap.objs.size ≤ b) ∧ b ≠ X.env.locals ∧ (∀ x c, X.env.cells.lookup x = some c → c ≠ b) ∧ ∀ p ∈ X.pn ++ pins, p.1 ≠ b) :
    Inv X pins σ H' { s with heap := h', gens := g', drawn := d', toks := t' } := by
  obtain ⟨m, ⟨o, es, ep, ho, r⟩, _⟩ := id I.loc
  obtain ⟨sl, hL⟩ := u.any ho I.free fun z => (hch _ z).2.1 rfl
  exact I.step (ch := ch) hch (fun b o hL hb hc e n => u.keep b o e n (fun z => (List.mem_cons.mp (I.stkSub b z)).elim hL hb) hc) (fun b o _ _ hc e n => u.any e n hc) (fun b o hc e n => u.free b o e n hc) (fun b o hc e => u.there b o e hc) u.tups u.frzs u.tbls (fun m' hm => by
    obtain ⟨o', es', ep', ho', r'⟩ := hm
    rw [ho] at ho'; cases ho'
    exact ⟨_, es', ep', hL, r'⟩) hok hg
theorem Inv.turned {t' : Nat} {it : Addr} (I : Inv X pins σ H s) (k : ∀ b o, b ≠ it → s.heap.get? b = some o → h'.get? b = some o) (hn : H it = none) (hL : it ≠ X.env.locals)
    (h1 : it ∈ X.ex ∨ X.s₀.heap.objs.size ≤ it) (h2 : ∀ x c, X.env.cells.lookup x = some c → c ≠ it) (h3 : ∀ p ∈ X.pn ++ pins, p.1 ≠ it) : Inv X pins σ H { s with heap := h', toks := t' } := by
  have nit : ∀ b u, H b = some u → b ≠ it := fun b u e z => by rw [z, hn] at e; cases e
  refine I.step (g' := s.gens) (d' := s.drawn) (ch := [it]) (fun b hb => ?_) (fun b o _ _ hc e _ => k b o (fun z => hc (by simp [z])) e) (fun b o _ _ hc e _ => ⟨o.slots, k b o (fun z => hc (by simp [z])) e⟩) (fun _ _ _ _ n => n)
    (fun b o hc e => ⟨o, k b o (fun z => hc (by simp [z])) e⟩) (fun _ _ e => e) (fun _ _ _ e => e) (fun b ps e => ⟨#[], by rw [e]; simp⟩) (fun m hm => ?_) (fun b u e => ?_) I.bare
  · have e : b = it := by simpa using hb
    subst e
    exact ⟨h1, hL, h2, h3⟩
  · obtain ⟨o, es, ep, ho, r⟩ := hm
    exact ⟨o, es, ep, k _ o (Ne.symm hL) ho, r⟩
  · refine (I.hok b u e).stay (fun c v hc q => k c v ?_ q) (fun _ q => q) fun _ _ q => q
    rcases hc with z | z
    · rw [z]; exact nit b u e
    · exact nit c _ z
theorem Inv.tok (I : Inv X pins σ H s) (t : Nat) : Inv X pins σ H { s with toks := t } := I.un (h' := s.heap) (t' := t) Un.refl I.hok
theorem Inv.kept {t' : Nat} (I : Inv X pins σ H s) (k : ∀ b u, s.heap.get? b = some u → h'.get? b = some u) : Inv X pins σ H { s with heap := h', toks := t' } := I.un (Un.kept k) (I.hok.kept k)
theorem Inv.laid {a : Addr} {o : HO} {t' : Nat} (I : Inv X pins σ H s) (k : ∀ b u, s.heap.get? b = some u → h'.get? b = some u) (hp : s.heap.objs.size ≤ a) (new : ObjOk X.prog X.w (upd H a o) h' a o) :
    Inv X pins σ (upd H a o) { s with heap := h', toks := t' } := I.un (Un.laid k hp (I.hok.fresh hp)) (I.hok.laid k hp new)
theorem Inv.write {x e : Addr} {o : HO} {t' : Nat} (I : Inv X pins σ H s) (mu : Mut (H x)) (he : e = x ∨ H e = some (.own x)) (k : ∀ b u, b ≠ e → s.heap.get? b = some u → h'.get? b = some u) (heo : ∃ u, h'.get? e = some u)
    (new : ObjOk X.prog X.w (upd H x o) h' x o) : Inv X pins σ (upd H x o) { s with heap := h', toks := t' } := I.un (Un.write mu he k heo) (I.hok.write mu he k heo new)
theorem Inv.pins_of {pins' : List (Addr × Obj)} (I : Inv X pins σ H s) (h : ∀ p ∈ pins', s.heap.get? p.1 = some p.2 ∧ H p.1 = none ∧ p.1 ≠ X.env.locals ∧ p.1 ∉ X.fs ∧ ∀ v, p.2.data ≠ .cell v) : Inv X pins' σ H s :=
  ⟨I.ok, I.os, I.bare, I.base, I.loc, I.cell, I.free, I.freeC, fun p hp => (List.mem_append.mp hp).elim (fun z => I.pin p (List.mem_append_left _ z)) (h p), I.hok, I.len⟩
theorem nodup_ix {N : List Str} (hN : N.Nodup) {i j : Nat} {x : Str} (a : N[i]? = some x) (b : N[j]? = some x) : i = j := by
  obtain ⟨h1, e1⟩ := List.getElem?_eq_some_iff.mp a
  obtain ⟨h2, e2⟩ := List.getElem?_eq_some_iff.mp b
  exact (List.getElem_inj hN).mp (e1.trans e2.symm)
theorem store_ok2 {M : Model} {A : Around} {E : Value → Shared → Prop} {i : Nat} {x : Str} {v : V} {u : Value} {Q : Unit → Shared → Prop} (I : Inv X pins σ H s) (hN : X.N.Nodup) (hi : X.N[i]? = some x) (hx : Loc X.env.scope x) (r : RelV v u)
    (h : ∀ s', Inv X pins (σ.set i (some v)) H s' → (∃ a, Heap.SameBut a s.heap s'.heap ∧ (a = X.env.locals ∨ X.env.cells.lookup x = some a)) → Q () s') (hf : X.fn x = true ∨ X.env.scope.names.lookup x = some .local := by first | exact .inl rfl | exact .inr rfl | assumption) : wpAny M A (storeName X.env x u) Q E s := by
  obtain ⟨m, hn, hl⟩ := id I.loc
  have hcls : (X.env.scope.kind == .class || (X.env.scope.kind == .module && X.env.locals != X.env.globals)) = false := by rw [I.ok.kind]; rfl
  have hiσ : i < σ.length := by rw [I.len]; exact (List.getElem?_eq_some_iff.mp hi).1
  have cne := I.cne
  have tracked : ∀ {a : Addr} {h' : Heap}, (∃ o, s.heap.get? a = some o ∧ H a = none) → Heap.SameBut a s.heap h' → HOk X.prog X.w H h' := fun {a h'} ha hs b ob e => by
    obtain ⟨_, _, hfree⟩ := ha
    refine (I.hok b ob e).stay (fun c w' hc q => (hs.2 c ?_).trans q) (fun _ q => q) fun _ _ q => q
    rintro rfl
    rcases hc with rfl | hc
    · rw [hfree] at e; cases e
    · rw [hfree] at hc; cases hc
  rcases hx with hk | hk
  · refine wpAny_storeName_local hk hn (fun h' hn' hs => ?_) hcls
    obtain ⟨oL, _, _, hoL, _⟩ := id hn
    refine h _ ⟨I.ok, I.os, I.bare, ⟨fun b o e n hb hx => ?_, fun b o e n hb hx => ?_, I.base.free, fun b o e hx => ?_, I.base.tups, I.base.frzs, I.base.tbls⟩, ⟨_, hn', fun j y v' e1 e2 e3 => ?_⟩, fun y c e => ?_, I.free, I.freeC, fun p hp => ?_, tracked ⟨oL, hoL, I.free⟩ hs, by simpa using I.len⟩ ⟨_, hs, .inl rfl⟩
    · exact (hs.2 b (Nat.ne_of_lt (Nat.lt_of_lt_of_le (Heap.lt_size e) I.ok.above))).trans (I.base.keep b o e n hb hx)
    · obtain ⟨sl, e1⟩ := I.base.slot b o e n hb hx
      exact ⟨sl, (hs.2 b (Nat.ne_of_lt (Nat.lt_of_lt_of_le (Heap.lt_size e) I.ok.above))).trans e1⟩
    · obtain ⟨o', e1⟩ := I.base.there b o e hx
      exact ⟨o', (hs.2 b (Nat.ne_of_lt (Nat.lt_of_lt_of_le (Heap.lt_size e) I.ok.above))).trans e1⟩
    · by_cases hj : j = i
      · subst hj
        rw [hi] at e1; cases e1
        rw [List.getElem?_set_self hiσ] at e2
        cases e2
        exact ⟨u, r, .inl ⟨hk, by simp⟩⟩
      · rw [List.getElem?_set_ne (Ne.symm hj)] at e2
        obtain ⟨u', r', q⟩ := hl j y v' e1 e2 e3
        refine ⟨u', r', ?_⟩
        rcases q with ⟨k, e⟩ | ⟨k, c, e, z⟩
        · refine .inl ⟨k, ?_⟩
          have : y ≠ x := fun e => hj (nodup_ix hN e1 (e ▸ hi))
          simp [this, e]
        · exact .inr ⟨k, c, e, z.sameBut hs (cne y c e)⟩
    · obtain ⟨w', z⟩ := I.cell y c e
      exact ⟨w', z.sameBut hs (cne y c e)⟩
    · obtain ⟨e, n, ne, nf, d⟩ := I.pin p hp
      exact ⟨(hs.2 p.1 ne).trans e, n, ne, nf, d⟩
  · have hfn : X.fn x = true := by
      rcases hf with z | z
      · exact z
      · rw [z] at hk; cases hk
    obtain ⟨c, hc⟩ := I.ok.has x (.inl hk)
    obtain ⟨w', z⟩ := I.cell x c hc
    refine wpAny_storeName_cell I.ok.kind hk hc z (fun h' hc' hs => ?_)
    obtain ⟨oc, hoc, hocd⟩ := id z
    refine h { s with heap := h' } ⟨I.ok, I.os, I.bare, ⟨fun b o e n hb hx => ?_, fun b o e n hb hx => ?_, I.base.free, fun b o e hx => ?_, I.base.tups, I.base.frzs, I.base.tbls⟩, ⟨m, hn.sameBut hs (Ne.symm (cne x c hc)), fun j y v' e1 e2 e3 => ?_⟩, fun y c' e => ?_, I.free, I.freeC, fun p hp => ?_, tracked ⟨oc, hoc, I.freeC x c hc⟩ hs, by simpa using I.len⟩ ⟨c, hs, .inr hc⟩
    · exact (hs.2 b (Nat.ne_of_lt (Nat.lt_of_lt_of_le (Heap.lt_size e) (I.ok.cab x c hfn hc)))).trans (I.base.keep b o e n hb hx)
    · obtain ⟨sl, e1⟩ := I.base.slot b o e n hb hx
      exact ⟨sl, (hs.2 b (Nat.ne_of_lt (Nat.lt_of_lt_of_le (Heap.lt_size e) (I.ok.cab x c hfn hc)))).trans e1⟩
    · obtain ⟨o', e1⟩ := I.base.there b o e hx
      exact ⟨o', (hs.2 b (Nat.ne_of_lt (Nat.lt_of_lt_of_le (Heap.lt_size e) (I.ok.cab x c hfn hc)))).trans e1⟩
    · by_cases hj : j = i
      · subst hj
        rw [hi] at e1; cases e1
        rw [List.getElem?_set_self hiσ] at e2
        cases e2
        exact ⟨u, r, .inr ⟨.inl hk, c, hc, hc'⟩⟩
      · rw [List.getElem?_set_ne (Ne.symm hj)] at e2
        obtain ⟨u', r', q⟩ := hl j y v' e1 e2 e3
        refine ⟨u', r', ?_⟩
        rcases q with q | ⟨k, c', e, z'⟩
        · exact .inl q
        · refine .inr ⟨k, c', e, z'.sameBut hs ?_⟩
          rintro rfl
          exact hj (nodup_ix hN e1 (I.ok.inj _ _ _ e hc ▸ hi))
    · by_cases hcc : c' = c
      · subst hcc; exact ⟨_, hc'⟩
      · obtain ⟨w2, z2⟩ := I.cell y c' e
        exact ⟨w2, z2.sameBut hs hcc⟩
    · obtain ⟨e, n, ne, nf, d⟩ := I.pin p hp
      refine ⟨(hs.2 p.1 ?_).trans e, n, ne, nf, d⟩
      intro q
      rw [q, hoc] at e
      have q' : oc = p.2 := Option.some.inj e
      exact d w' (by rw [← q']; exact hocd)
theorem store_ok {M : Model} {A : Around} {E : Value → Shared → Prop} {i : Nat} {x : Str} {v : V} {u : Value} {Q : Unit → Shared → Prop} (I : Inv X pins σ H s) (hN : X.N.Nodup) (hi : X.N[i]? = some x) (hx : Loc X.env.scope x) (r : RelV v u)
    (h : ∀ s', Inv X pins (σ.set i (some v)) H s' → Q () s') (hf : X.fn x = true ∨ X.env.scope.names.lookup x = some .local := by first | exact .inl rfl | exact .inr rfl | assumption) : wpAny M A (storeName X.env x u) Q E s :=
  store_ok2 I hN hi hx r (fun s' I' _ => h s' I') hf
theorem Inv.call' {s' : Shared} {ch : List Addr} (I : Inv X pins σ H s) (ho : s'.os = s.os) (u : Un (frs X.stack) ch H H' s.heap s'.heap) (hok : HOk X.prog X.w H' s'.heap) (hg : AllBare s'.gens)
    (hch : ∀ b ∈ ch, (b ∈ X.ex ∨ X.s₀.heap.objs.size ≤ b) ∧ b ≠ X.env.locals ∧ (∀ x c, X.env.cells.lookup x = some c → c ≠ b) ∧ ∀ p ∈ X.pn ++ pins, p.1 ≠ b) : Inv X pins σ H' s' := by
  obtain ⟨h', g', d', t', o'⟩ := s'
  have e : o' = s.os := ho
  subst e
  exact I.call (g' := g') (t' := t') (d' := d') u hok hg hch
end
abbrev XK := Value → Option Addr → Hp → Prop
abbrev St := List (Option V)
abbrev VK := V → Hp → Prop
abbrev TE := St → Hp → VK → Prop
abbrev TT := St → Hp → (Bool → Hp → Prop) → Prop
abbrev TA := St → Hp → (List V → Hp → Prop) → Prop
structure Ends where
  nx : St → Hp → Prop
  rt : VK
  bk : St → Hp → Prop := fun _ _ => False
  ct : St → Hp → Prop := fun _ _ => False
abbrev TS := Ends → St → Hp → Prop
def EP (X : Cx) (pins : List (Addr × Obj)) (σ : St) (Q : VK) (u : Value) (s' : Shared) : Prop := ∃ v H', Inv X pins σ H' s' ∧ RelV v u ∧ Q v H'
def TP (X : Cx) (pins : List (Addr × Obj)) (σ : St) (Q : Bool → Hp → Prop) (b : Bool) (s' : Shared) : Prop := ∃ H', Inv X pins σ H' s' ∧ Q b H'
def AP (X : Cx) (pins : List (Addr × Obj)) (σ : St) (Q : List V → Hp → Prop) (us : List Value) (s' : Shared) : Prop := ∃ vs H', Inv X pins σ H' s' ∧ Vals vs us ∧ Q vs H'
def SP (X : Cx) (pins : List (Addr × Obj)) (D : Ends) (f : Flow) (s' : Shared) : Prop :=
  match f with
  | .next => ∃ σ' H', Inv X pins σ' H' s' ∧ D.nx σ' H'
  | .brk => ∃ σ' H', Inv X pins σ' H' s' ∧ D.bk σ' H'
  | .cont => ∃ σ' H', Inv X pins σ' H' s' ∧ D.ct σ' H'
  | .ret u => ∃ v σ' H', Inv X pins σ' H' s' ∧ RelV v u ∧ D.rt v H'
def PE (X : Cx) (e : Expr) (t : TE) : Prop :=
  ∀ (pins : List (Addr × Obj)) (s : Shared) (σ : St) (H : Hp) (Q : VK), Inv X pins σ H s → t σ H Q → wpAny (model X.prog X.w) X.A (eval e X.env) (EP X pins σ Q) X.xe s
def PT (X : Cx) (e : Expr) (t : TT) : Prop :=
  ∀ (pins : List (Addr × Obj)) (s : Shared) (σ : St) (H : Hp) (Q : Bool → Hp → Prop), Inv X pins σ H s → t σ H Q → wpAny (model X.prog X.w) X.A (isTrue e X.env (eval e X.env)) (TP X pins σ Q) X.xe s
def PW (X : Cx) (e : Expr) (t : TT) : Prop :=
  ∀ (whole : Sem Value) (pins : List (Addr × Obj)) (s : Shared) (σ : St) (H : Hp) (Q : Bool → Hp → Prop), Inv X pins σ H s → t σ H Q → wpAny (model X.prog X.w) X.A (isTrue e X.env whole) (TP X pins σ Q) X.xe s
theorem PW.pt {X : Cx} {e : Expr} {t : TT} (h : PW X e t) : PT X e t := h _
def PA (X : Cx) (es : List Expr) (t : TA) : Prop :=
  ∀ (pos : Pos) (pins : List (Addr × Obj)) (s : Shared) (σ : St) (H : Hp) (Q : List V → Hp → Prop), Inv X pins σ H s → t σ H Q → wpAny (model X.prog X.w) X.A (spliced (backTo pos (starEach es X.env))) (AP X pins σ Q) X.xe s
def PS (X : Cx) (st : Stmt) (t : TS) : Prop :=
  ∀ (pins : List (Addr × Obj)) (s : Shared) (σ : St) (H : Hp) (D : Ends), Inv X pins σ H s → t D σ H → wpAny (model X.prog X.w) X.A (exec st X.env) (SP X pins D) X.xe s
def PSs (X : Cx) (st : List Stmt) (t : TS) : Prop :=
  ∀ (pins : List (Addr × Obj)) (s : Shared) (σ : St) (H : Hp) (D : Ends), Inv X pins σ H s → t D σ H → wpAny (model X.prog X.w) X.A (execs st X.env) (SP X pins D) X.xe s
theorem thn {α : Type} {t : Sem α} {Q Q' : α → Shared → Prop} {M : Model} {A : Around} {E : Value → Shared → Prop} {s : Shared} (h : wpAny M A t Q E s) (hQ : ∀ a s, Q a s → Q' a s) : wpAny M A t Q' E s := wpAny_mono h hQ fun _ _ x => x
end L2
namespace L2
open PySem PySem.Spec PyProof.Rows
section
variable {X : Cx}
def tVar (i : Nat) : TE := fun σ H Q => ∃ v, σ[i]? = some (some v) ∧ Q v H
def tC (v : V) : TE := fun _ H Q => Q v H
theorem pe_var {i : Nat} {x : Str} {pos : Pos} (hN : X.N[i]? = some x) (hv : Vis X.env.scope x) (hd : (x == ("__debug__" : Str)) = false := by decide) (hcd : (x == ("__classdict__" : Str)) = false := by decide) : PE X (.Name x pos) (tVar i) := by
  intro pins s σ H Q I h
  obtain ⟨v, e, h⟩ := h
  obtain ⟨m, hn, hl⟩ := I.loc
  obtain ⟨u, r, l⟩ := hl i x v hN e hv
  have fin : EP X pins σ Q u s := ⟨v, H, I, r, h⟩
  rcases l with ⟨hk, hm⟩ | ⟨hk, c, hc, hcell⟩
  · exact wpAny_Name (wpAny_loadName_local I.ok.kind hk hn hm fin) hd
  · rcases hk with hk | hk
    · exact wpAny_Name (wpAny_loadName_cell I.ok.kind hk hc hcell fin) hd
    · exact wpAny_Name (wpAny_loadName_free I.ok.kind hk hc hcell fin hcd) hd
theorem pe_int {i j pos} : PE X (.Constant (.int i) j pos) (tC (.int i)) := fun _ _ _ H _ I h => wpAny_Constant_int ⟨.int i, H, I.tok _, ⟨_, rfl⟩, h⟩
theorem pe_bl {b j pos} : PE X (.Constant (.bool b) j pos) (tC (.bl b)) := fun _ _ _ H _ I h => Constant_bool ⟨.bl b, H, I, rfl, h⟩
theorem pe_non {j pos} : PE X (.Constant .none j pos) (tC .non) := fun _ _ _ H _ I h => Constant_none ⟨.non, H, I, rfl, h⟩
def Gl (X : Cx) (x : Str) : Prop := X.env.kindOf x = some .globalImplicit
theorem ld_glob {E : Value → Shared → Prop} {pins : List (Addr × Obj)} {s : Shared} {σ : St} {H : Hp} {x : Str} {u : Value} {pos : Pos} {Q : Value → Shared → Prop} (I : Inv X pins σ H s) (hg : Gl X x) (hm : X.mg x = some u) (h : Q u s)
    (hd : (x == ("__debug__" : Str)) = false := by decide) : wpAny (model X.prog X.w) X.A (eval (.Name x pos) X.env) Q E s :=
  Calls.Name_function_global I.ok.kind hg (Calls.loadGlobal_global (by rw [I.ok.glob]; exact I.mod.glob.keeps I.bk) hm h) hd
theorem ld_blt {E : Value → Shared → Prop} {pins : List (Addr × Obj)} {s : Shared} {σ : St} {H : Hp} {x : Str} {u : Value} {pos : Pos} {Q : Value → Shared → Prop} (I : Inv X pins σ H s) (hg : Gl X x) (hm : X.mg x = none) (hv : bootBuiltins x = some u) (h : Q u s)
    (hn : x ≠ "__name__" := by decide) (hd : (x == ("__debug__" : Str)) = false := by decide) : wpAny (model X.prog X.w) X.A (eval (.Name x pos) X.env) Q E s := by
  obtain ⟨mb, h1, h2⟩ := I.mod.blt
  exact Calls.Name_function_global I.ok.kind hg (Calls.loadGlobal_builtin (by rw [I.ok.glob]; exact I.mod.glob.keeps I.bk) hm (by rw [I.ok.blt]; exact h1.keeps I.bk) ((h2 x hn).trans hv) h) hd
theorem pe_glob {x : Str} {v : V} {u : Value} {pos : Pos} (hg : Gl X x) (hm : X.mg x = some u) (r : RelV v u) (hd : (x == ("__debug__" : Str)) = false := by decide) : PE X (.Name x pos) (tC v) :=
  fun _ _ _ H _ I h => ld_glob I hg hm ⟨v, H, I, r, h⟩ hd
theorem pe_bltn {x : Str} {v : V} {u : Value} {pos : Pos} (hg : Gl X x) (hm : X.mg x = none) (hv : bootBuiltins x = some u) (r : RelV v u) (hn : x ≠ "__name__" := by decide) (hd : (x == ("__debug__" : Str)) = false := by decide) : PE X (.Name x pos) (tC v) :=
  fun _ _ _ H _ I h => ld_blt I hg hm hv ⟨v, H, I, r, h⟩ hn hd
variable {a b : Expr} {ta tb : TE} {pos : Pos}
def tB (t : TE) : TT := fun σ H Q => t σ H fun x H1 => ∃ c, x = .bl c ∧ Q c H1
theorem pt_val {e : Expr} {t : TE} (h : PE X e t) (he : ∀ whole, isTrue e X.env whole = (do let v ← whole; standAt e.pos; holding [v] (truthy v)) := by intro _; rfl) : PT X e (tB t) := by
  intro pins s σ H Q I hw
  refine isTrue_plain (thn (h pins s σ H _ I hw) fun v s1 ⟨x, H1, I1, r1, q1⟩ => ?_) (he _)
  obtain ⟨d, rfl, q⟩ := q1
  cases r1
  exact wpAny_truthy_bool ⟨H1, I1, q⟩
variable {tA tB' : TT} {rest : List Expr}
def tAnd (t u : TT) : TT := fun σ H Q => t σ H fun c H1 => if c = true then u σ H1 Q else Q false H1
def tOr (t u : TT) : TT := fun σ H Q => t σ H fun c H1 => if c = true then Q true H1 else u σ H1 Q
def tNot (t : TT) : TT := fun σ H Q => t σ H fun c H1 => Q (!c) H1
theorem pw_and1 (ha : PT X a tA) : PW X (.BoolOp .And [a] pos) tA := by
  intro wh pins s σ H Q I h
  refine isTrue_and (thn (ha pins s σ H Q I h) fun c s1 e => ?_)
  cases c with
  | true => exact isTrue_and_nil e
  | false => exact e
theorem pw_or1 (ha : PT X a tA) : PW X (.BoolOp .Or [a] pos) tA := by
  intro wh pins s σ H Q I h
  refine isTrue_or (thn (ha pins s σ H Q I h) fun c s1 e => ?_)
  cases c with
  | false => exact isTrue_or_nil e
  | true => exact e
theorem pw_and (ha : PT X a tA) (hb : PW X (.BoolOp .And (b :: rest) pos) tB') : PW X (.BoolOp .And (a :: b :: rest) pos) (tAnd tA tB') := by
  intro wh pins s σ H Q I h
  refine isTrue_and (thn (ha pins s σ H _ I h) fun c s1 ⟨H1, I1, q1⟩ => ?_)
  cases c with
  | true => exact hb wh pins s1 σ H1 Q I1 q1
  | false => exact ⟨H1, I1, q1⟩
theorem pw_or (ha : PT X a tA) (hb : PW X (.BoolOp .Or (b :: rest) pos) tB') : PW X (.BoolOp .Or (a :: b :: rest) pos) (tOr tA tB') := by
  intro wh pins s σ H Q I h
  refine isTrue_or (thn (ha pins s σ H _ I h) fun c s1 ⟨H1, I1, q1⟩ => ?_)
  cases c with
  | true => exact ⟨H1, I1, q1⟩
  | false => exact hb wh pins s1 σ H1 Q I1 q1
theorem pt_not (ha : PT X a tA) : PT X (.UnaryOp .Not a pos) (tNot tA) := by
  intro pins s σ H Q I h
  exact isTrue_not (ha pins s σ H (fun c H1 => Q (!c) H1) I h)
def tAndV (ta tb : TE) : TE := fun σ H Q => ta σ H fun x H1 => ∃ c, x = .bl c ∧ if c = true then tb σ H1 Q else Q (.bl false) H1
def tNotV (ta : TE) : TE := fun σ H Q => ta σ H fun x H1 => ∃ c, x = .bl c ∧ Q (.bl (!c)) H1
theorem pe_one {op} {t : TE} (h : PE X a t) : PE X (.BoolOp op [a] pos) t := fun pins s σ H Q I hw => BoolOp_one (h pins s σ H Q I hw)
theorem pe_and (ha : PE X a ta) (hb : PE X (.BoolOp .And (b :: rest) pos) tb) : PE X (.BoolOp .And (a :: b :: rest) pos) (tAndV ta tb) := by
  intro pins s σ H Q I h
  refine BoolOp_and (thn (ha pins s σ H _ I h) fun v s1 ⟨x, H1, I1, r1, q1⟩ => ?_)
  obtain ⟨c, rfl, q1⟩ := q1
  cases r1
  refine wpAny_truthy_bool ?_
  cases c with
  | true => exact hb pins s1 σ H1 Q I1 q1
  | false => exact ⟨.bl false, H1, I1, rfl, q1⟩
theorem pe_not (ha : PE X a ta) : PE X (.UnaryOp .Not a pos) (tNotV ta) := by
  intro pins s σ H Q I h
  refine UnaryOp_ (thn (ha pins s σ H _ I h) fun v s1 ⟨x, H1, I1, r1, q1⟩ => ?_)
  obtain ⟨c, rfl, q1⟩ := q1
  cases r1
  exact not_of (wpAny_truthy_bool ⟨.bl (!c), H1, I1, rfl, q1⟩)
def tIf (t : TT) (ta tb : TE) : TE := fun σ H Q => t σ H fun c H1 => if c = true then ta σ H1 Q else tb σ H1 Q
theorem pe_ifExp {c : Expr} (hc : PT X c tA) (ha : PE X a ta) (hb : PE X b tb) : PE X (.IfExp c a b pos) (tIf tA ta tb) := by
  intro pins s σ H Q I h
  refine wpAny_IfExp (thn (hc pins s σ H _ I h) fun d s1 ⟨H1, I1, q1⟩ => ?_)
  cases d with
  | true => exact ha pins s1 σ H1 Q I1 q1
  | false => exact hb pins s1 σ H1 Q I1 q1
end
end L2
namespace L2
open PySem PySem.Spec PyProof.Rows
def SqL (K : PySem.W.Frag) (H : Hp) (a : Addr) (xs : List V) : Prop :=
  Rd H a (.lst xs) ∨
    ∃ (o : Obj) (its : Array Value) (n : Nat), K.lookup a = some o ∧ o.cls = .type "list" ∧ o.dict = none ∧ o.data = .seq its n ∧ its.size ≤ sizeLine ∧ Vals xs its.toList
def SqT (K : PySem.W.Frag) (H : Hp) (a : Addr) (xs : List V) : Prop :=
  Rd H a (.tup xs) ∨
    ∃ (o : Obj) (its : Array Value) (n : Nat), K.lookup a = some o ∧ o.cls = .type "tuple" ∧ o.data = .seq its n ∧ its.size ≤ sizeLine ∧ Vals xs its.toList
def absV : Value → Option V
  | .none => some .non
  | .bool b => some (.bl b)
  | .int i _ => some (.int i)
  | .str x _ => some (.str x)
  | .bytes b _ => some (.byt b)
  | .float b _ => some (.flt b)
  | .ref a => some (.ref a)
  | .type n => some (.ty n)
  | _ => none
theorem RelV.abs {x : V} {u : Value} (r : RelV x u) : absV u = some x := by
  cases x with
  | non => cases r; rfl
  | bl _ => cases r; rfl
  | int _ => obtain ⟨t, rfl⟩ := r; rfl
  | str _ => obtain ⟨t, rfl⟩ := r; rfl
  | byt _ => obtain ⟨t, rfl⟩ := r; rfl
  | flt _ => obtain ⟨t, rfl⟩ := r; rfl
  | ref _ => cases r; rfl
  | ty _ => cases r; rfl
theorem RelV.inj {x y : V} {u : Value} (r : RelV x u) (q : RelV y u) : x = y := Option.some.inj (r.abs.symm.trans q.abs)
theorem Vals.inj : ∀ {xs ys : List V} {us : List Value}, Vals xs us → Vals ys us → xs = ys
  | _, _, _, .nil, .nil => rfl
  | _, _, _, .cons r t, .cons r' t' => by rw [r.inj r', Vals.inj t t']
section
variable {X : Cx} {pins : List (Addr × Obj)} {σ : St} {H : Hp} {s : Shared} {a : Addr} {xs ys : List V}
theorem SqL.of {K : PySem.W.Frag} (h : H a = some (.lst xs)) : SqL K H a xs := .inl (.inl h)
theorem SqT.of {K : PySem.W.Frag} (h : H a = some (.tup xs)) : SqT K H a xs := .inl (.inl h)
theorem Inv.list (I : Inv X pins σ H s) (h : SqL X.K H a xs) : ∃ its : List Value, Vals xs its ∧ PlainL s.heap a its.toArray ∧ xs.length ≤ sizeLine := by
  rcases h with h | ⟨o, its, n, hk, hc, hd, hs, hz, r⟩
  · obtain ⟨z, its, n, r, e⟩ := h.ok I.hok
    exact ⟨its, r, ⟨_, n, e, rfl, rfl, rfl⟩, z⟩
  · refine ⟨its.toList, r, ⟨o, n, I.kIn a o hk, hc, hd, by simpa using hs⟩, ?_⟩
    have e := r.length
    simp only [Array.length_toList] at e
    omega
theorem Inv.tuple (I : Inv X pins σ H s) (h : SqT X.K H a xs) : ∃ its : List Value, Vals xs its ∧ IsTup s.heap a its.toArray ∧ xs.length ≤ sizeLine := by
  rcases h with h | ⟨o, its, n, hk, hc, hs, hz, r⟩
  · obtain ⟨z, its, r, p⟩ := h.ok I.hok
    exact ⟨its, r, p, z⟩
  · refine ⟨its.toList, r, ⟨o, I.kIn a o hk, hc, n, by simpa using hs⟩, ?_⟩
    have e := r.length
    simp only [Array.length_toList] at e
    omega
theorem Inv.list_inj (I : Inv X pins σ H s) (h : SqL X.K H a xs) (h' : SqL X.K H a ys) : xs = ys := by
  obtain ⟨its, r, ⟨o, n, e, _, _, d⟩, _⟩ := I.list h
  obtain ⟨its', r', ⟨o', n', e', _, _, d'⟩, _⟩ := I.list h'
  rw [e] at e'; cases e'
  rw [d] at d'
  injection d' with d1 _
  have : its = its' := by simpa using congrArg Array.toList d1
  subst this
  exact r.inj r'
theorem Inv.tuple_inj (I : Inv X pins σ H s) (h : SqT X.K H a xs) (h' : SqT X.K H a ys) : xs = ys := by
  obtain ⟨its, r, ⟨o, e, _, n, d⟩, _⟩ := I.tuple h
  obtain ⟨its', r', ⟨o', e', _, n', d'⟩, _⟩ := I.tuple h'
  rw [e] at e'; cases e'
  rw [d] at d'
  injection d' with d1 _
  have : its = its' := by simpa using congrArg Array.toList d1
  subst this
  exact r.inj r'
end
abbrev Cx.wish (X : Cx) (E : Value → Shared → Prop) : Cx := { X with xe := E }
abbrev Cx.nox (X : Cx) : Cx := X.wish fun _ _ => False
theorem Cx.Ok.wish {X : Cx} (ok : X.Ok) (E : Value → Shared → Prop) : (X.wish E).Ok :=
  ⟨ok.mod, ok.kind, ok.glob, ok.blt, ok.above, ok.inj, ok.has, ok.cab, ok.hd, ok.frames, ok.stk, ok.exf, ok.bs, ok.bsz, ok.noex, ok.exfs, ok.funs, ok.frf⟩
theorem Cx.Ok.unwish {X : Cx} {E : Value → Shared → Prop} (ok : (X.wish E).Ok) : X.Ok :=
  ⟨ok.mod, ok.kind, ok.glob, ok.blt, ok.above, ok.inj, ok.has, ok.cab, ok.hd, ok.frames, ok.stk, ok.exf, ok.bs, ok.bsz, ok.noex, ok.exfs, ok.funs, ok.frf⟩
section
variable {X : Cx} {pins : List (Addr × Obj)} {σ : St} {H : Hp} {s : Shared} {E : Value → Shared → Prop}
theorem Inv.wish (I : Inv X pins σ H s) (E : Value → Shared → Prop) : Inv (X.wish E) pins σ H s := ⟨I.ok.wish E, I.os, I.bare, I.base, I.loc, I.cell, I.free, I.freeC, I.pin, I.hok, I.len⟩
theorem Inv.unwish (I : Inv (X.wish E) pins σ H s) : Inv X pins σ H s := ⟨I.ok.unwish, I.os, I.bare, I.base, I.loc, I.cell, I.free, I.freeC, I.pin, I.hok, I.len⟩
theorem SP.unwish {D : Ends} {f : Flow} {s' : Shared} (h : SP (X.wish E) pins D f s') : SP X pins D f s' := by
  cases f with
  | next => obtain ⟨σ', H', I, q⟩ := h; exact ⟨σ', H', I.unwish, q⟩
  | brk => obtain ⟨σ', H', I, q⟩ := h; exact ⟨σ', H', I.unwish, q⟩
  | cont => obtain ⟨σ', H', I, q⟩ := h; exact ⟨σ', H', I.unwish, q⟩
  | ret u => obtain ⟨v, σ', H', I, r, q⟩ := h; exact ⟨v, σ', H', I.unwish, r, q⟩
theorem PE.nox {e : Expr} {t : TE} (h : PE X.nox e t) : PE X e t := fun pins s σ H Q I hw =>
  wpAny_mono (h pins s σ H Q (I.wish _) hw) (fun _ _ ⟨v, H', I', r, q⟩ => ⟨v, H', I'.unwish, r, q⟩) fun _ _ z => False.elim z
theorem PT.nox {e : Expr} {t : TT} (h : PT X.nox e t) : PT X e t := fun pins s σ H Q I hw =>
  wpAny_mono (h pins s σ H Q (I.wish _) hw) (fun _ _ ⟨H', I', q⟩ => ⟨H', I'.unwish, q⟩) fun _ _ z => False.elim z
theorem PSs.nox {st : List Stmt} {t : TS} (h : PSs X.nox st t) : PSs X st t := fun pins s σ H D I hw =>
  wpAny_mono (h pins s σ H D (I.wish _) hw) (fun _ _ q => q.unwish) fun _ _ z => False.elim z
end
section
variable {X : Cx} {st : Stmt} {rest : List Stmt} {t u : TS} {e : Expr} {te : TE} {pos : Pos}
def tNext : TS := fun D σ H => D.nx σ H
def tSeq (t u : TS) : TS := fun D σ H => t { D with nx := u D } σ H
theorem pss_nil : PSs X [] tNext := fun _ _ σ H _ I h => wpAny_execs_nil ⟨σ, H, I, h⟩
theorem pss_cons (h1 : PS X st t) (h2 : PSs X rest u) : PSs X (st :: rest) (tSeq t u) := by
  intro pins s σ H D I h
  refine wpAny_execs_cons (thn (h1 pins s σ H { D with nx := u D } I h) fun f s1 q => ?_)
  cases f with
  | next =>
    obtain ⟨σ', H', I', q⟩ := q
    exact h2 pins s1 σ' H' D I' q
  | ret v => exact q
  | brk => exact q
  | cont => exact q
theorem pss_one (h1 : PS X st t) : PSs X [st] t := by
  intro pins s σ H D I h
  refine wpAny_execs_cons (thn (h1 pins s σ H D I h) fun f s1 q => ?_)
  cases f with
  | next => exact wpAny_execs_nil q
  | ret v => exact q
  | brk => exact q
  | cont => exact q
theorem Inv.quiet {pins : List (Addr × Obj)} {σ : St} {H : Hp} {s : Shared} (I : Inv X pins σ H s) : interactive X.env = false := by simp [interactive, I.ok.kind]
def tDrop (te : TE) : TS := fun D σ H => te σ H fun _ H1 => D.nx σ H1
theorem ps_expr (he : PE X e te) (hs : swapsWith e none pos.line X.env = pure false := by rfl) : PS X (.Expr e pos) (tDrop te) := by
  intro pins s σ H D I h
  exact wpAny_Expr_any (thn (he pins s σ H _ I h) fun v s1 ⟨x, H1, I1, r1, q1⟩ => ⟨σ, H1, I1, q1⟩) I.quiet hs
def tRet (te : TE) : TS := fun D σ H => te σ H D.rt
theorem ps_ret (he : PE X e te) : PS X (.Return (some e) pos) (tRet te) := by
  intro pins s σ H D I h
  exact wpAny_Return_some (thn (he pins s σ H _ I h) fun v s1 ⟨x, H1, I1, r1, q1⟩ => ⟨x, σ, H1, I1, r1, q1⟩)
def tIfS (c : TT) (t u : TS) : TS := fun D σ H => c σ H fun b H1 => if b = true then t D σ H1 else u D σ H1
theorem ps_if {c : Expr} {a b : List Stmt} {tc : TT} (hc : PT X c tc) (ha : PSs X a t) (hb : PSs X b u) : PS X (.If c a b pos) (tIfS tc t u) := by
  intro pins s σ H D I h
  refine wpAny_If (thn (hc pins s σ H _ I h) fun d s1 ⟨H1, I1, q1⟩ => ?_)
  cases d with
  | true => exact ha pins s1 σ H1 D I1 q1
  | false => exact hb pins s1 σ H1 D I1 q1
def tNever : TS := fun _ _ _ => False
theorem ps_never : PS X st tNever := fun _ _ _ _ _ _ h => h.elim
end
abbrev TG := V → St → Hp → (St → Hp → Prop) → Prop
abbrev TGs := List V → St → Hp → (St → Hp → Prop) → Prop
def PG (X : Cx) (target : Expr) (t : TG) : Prop :=
  ∀ (pins : List (Addr × Obj)) (s : Shared) (σ : St) (H : Hp) (v : V) (u : Value) (Q : St → Hp → Prop), Inv X pins σ H s → RelV v u → t v σ H Q →
    wpAny (model X.prog X.w) X.A (assign target X.env u) (fun _ s' => ∃ σ' H', Inv X pins σ' H' s' ∧ Q σ' H') X.xe s
def PGs (X : Cx) (ts : List Expr) (t : TGs) : Prop :=
  ∀ (pins : List (Addr × Obj)) (s : Shared) (σ : St) (H : Hp) (vs : List V) (us : List Value) (Q : St → Hp → Prop), Inv X pins σ H s → Vals vs us → t vs σ H Q →
    wpAny (model X.prog X.w) X.A (assignInOrder ((assignEach ts X.env).map (·.2)) us) (fun _ s' => ∃ σ' H', Inv X pins σ' H' s' ∧ Q σ' H') X.xe s
section
variable {X : Cx} {pos : Pos}
def gName (i : Nat) : TG := fun v σ H Q => Q (σ.set i (some v)) H
theorem pg_name {i : Nat} {x : Str} (hN : X.N.Nodup) (hi : X.N[i]? = some x) (hx : Loc X.env.scope x) (hf : X.fn x = true ∨ X.env.scope.names.lookup x = some .local := by first | exact .inl rfl | exact .inr rfl | assumption) : PG X (.Name x pos) (gName i) := by
  intro pins s σ H v u Q I r h
  exact wpAny_assign_Name (store_ok I hN hi hx r (fun s' I' => ⟨_, H, I', h⟩) hf)
def gNil : TGs := fun vs σ H Q => vs = [] ∧ Q σ H
def gCons (t : TG) (u : TGs) : TGs := fun vs σ H Q => ∃ v r, vs = v :: r ∧ t v σ H fun σ' H' => u r σ' H' Q
theorem pgs_nil : PGs X [] gNil := by
  intro pins s σ H vs us Q I r h
  obtain ⟨e, h⟩ := h
  subst e
  cases r
  exact assignInOrder_nil ⟨σ, H, I, h⟩
theorem pgs_cons {e : Expr} {es : List Expr} {t : TG} {u : TGs} (h1 : PG X e t) (h2 : PGs X es u)
    (hs : (assignEach (e :: es) X.env).map (·.2) = assign e X.env :: (assignEach es X.env).map (·.2) := by rfl) : PGs X (e :: es) (gCons t u) := by
  intro pins s σ H vs us Q I r h
  obtain ⟨v, vr, e1, h⟩ := h
  subst e1
  cases r with
  | cons r rr =>
    rw [hs]
    refine assignInOrder_cons (thn (h1 pins s σ H _ _ _ I r h) fun _ s1 ⟨σ1, H1, I1, q1⟩ => ?_)
    exact h2 pins s1 σ1 H1 _ _ Q I1 rr q1
def gTup (K : PySem.W.Frag) (n : Nat) (t : TGs) : TG := fun v σ H Q => ∃ a xs, v = .ref a ∧ SqT K H a xs ∧ xs.length = n ∧ t xs σ H Q
theorem pg_tup {es : List Expr} {k : Nat} {t : TGs} {n : Nat} (hc : X.calm = true) (h : PGs X es t)
    (hn : (assignEach es X.env).length = n := by rfl) (hst : (assignEach es X.env).findIdx? (·.1) = none := by rfl) : PG X (.Tuple es k pos) (gTup X.K n t) := by
  intro pins s σ H v u Q I r hw
  obtain ⟨a, xs, e1, hq, hl, hw⟩ := hw
  subst e1
  cases r
  obtain ⟨its, rv, ht, hz⟩ := I.tuple hq
  refine assign_Tuple_tuple (I.ok.hd hc) ht (by simp [hn, ← hl, rv.length]) hst fun h' hx => ?_
  have I1 : Inv X pins σ H { s with heap := h' } := I.kept (t' := s.toks) fun b o e => hx b o (Nat.ne_of_lt (Heap.lt_size e)) e
  exact h pins _ σ H xs _ Q I1 (by simpa using rv) hw
def tAsg (te : TE) (g : TG) : TS := fun D σ H => te σ H fun x H1 => g x σ H1 D.nx
theorem ps_asg {tg e : Expr} {te : TE} {g : TG} (he : PE X e te) (hg : PG X tg g) (hs : swapsWithSole [tg] e pos.line X.env = pure false := by rfl) (hw : swappedStores [tg] e X.env = pure none := by rfl)
    (h1 : (assignEach [tg] X.env).map (·.2) = [assign tg X.env] := by rfl) : PS X (.Assign [tg] e pos) (tAsg te g) := by
  intro pins s σ H D I h
  refine wpAny_Assign_stores (thn (he pins s σ H _ I h) fun v s1 ⟨x, H1, I1, r1, q1⟩ => ?_) hs hw
  rw [h1]
  exact thn (hg pins s1 σ H1 x v _ I1 r1 q1) fun _ s2 q => q
theorem ps_set {i : Nat} {x : Str} {e : Expr} {te : TE} {pos' : Pos} (hN : X.N.Nodup) (hi : X.N[i]? = some x) (hx : Loc X.env.scope x) (he : PE X e te) (hs : swapsWith e (some (.Name x pos')) pos.line X.env = pure false := by rfl) (hf : X.fn x = true ∨ X.env.scope.names.lookup x = some .local := by first | exact .inl rfl | exact .inr rfl | assumption) :
    PS X (.Assign [.Name x pos'] e pos) (tAsg te (gName i)) := by
  intro pins s σ H D I h
  refine wpAny_Assign_Name (thn (he pins s σ H _ I h) fun v s1 ⟨y, H1, I1, r1, q1⟩ => ?_) hs
  exact store_ok I1 hN hi hx r1 (fun s2 I2 => ⟨_, H1, I2, q1⟩) hf
end
section
variable {X : Cx} {pos : Pos}
def tWhile (c : TT) (tb : TS) : TS := fun D σ H => ∃ W : Nat → St → Hp → Prop, (∃ m, W m σ H) ∧ ∀ m σ H, W m σ H →
  c σ H fun b H1 => if b = true then ∃ N : St → Hp → Prop, (∀ σ' H', N σ' H' → ∃ m', m' < m ∧ W m' σ' H') ∧ tb { D with nx := N, ct := N, bk := D.nx } σ H1 else D.nx σ H1
theorem ps_while {c : Expr} {body : List Stmt} {tc : TT} {tb : TS} (hp : PassesOwn (model X.prog X.w) X.A X.env X.xe) (hc : PT X c tc) (hb : PSs X body tb) : PS X (.While c body [] pos) (tWhile tc tb) := by
  intro pins s σ H D I h
  obtain ⟨W, ⟨m0, w0⟩, turn⟩ := h
  refine wpAny_While (codeAny_whileLoop (fun n s' => ∃ σ' H', Inv X pins σ' H' s' ∧ W n σ' H') ?_ m0 ⟨σ, H, I, w0⟩)
  rintro n s1 ⟨σ1, H1, I1, w1⟩
  refine wpAny_passesOwn hp (thn (hc pins s1 σ1 H1 _ I1 (turn n σ1 H1 w1)) fun b s2 ⟨H2, I2, q2⟩ => ?_)
  cases b with
  | true =>
    obtain ⟨N, hN, q2⟩ := q2
    rw [if_pos rfl]
    refine wpAny_passesOwn hp (thn (hb pins s2 σ1 H2 _ I2 q2) fun f s3 q3 => ?_)
    cases f with
    | next =>
      obtain ⟨σ3, H3, I3, n3⟩ := q3
      obtain ⟨m', hm, w3⟩ := hN σ3 H3 n3
      exact ⟨m', hm, σ3, H3, I3, w3⟩
    | cont =>
      obtain ⟨σ3, H3, I3, n3⟩ := q3
      obtain ⟨m', hm, w3⟩ := hN σ3 H3 n3
      exact ⟨m', hm, σ3, H3, I3, w3⟩
    | brk => exact q3
    | ret v => exact q3
  | false =>
    rw [if_neg Bool.false_ne_true]
    exact wpAny_execs_nil ⟨σ1, H2, I2, q2⟩
end
structure It where
  go : Nat → Hp → Prop
  yld : Nat → Hp → V → Hp → Prop
  stop : Nat → Hp → Prop
def FpOk (X : Cx) (pins : List (Addr × Obj)) (H : Hp) (b : Addr) : Prop :=
  H b = none ∧ b ≠ X.env.locals ∧ b ∉ X.fs ∧ (b ∈ X.ex ∨ X.s₀.heap.objs.size ≤ b) ∧ (∀ x c, X.env.cells.lookup x = some c → c ≠ b) ∧ ∀ p ∈ X.pn ++ pins, p.1 ≠ b
theorem Inv.fpOk {X : Cx} {pins : List (Addr × Obj)} {σ : St} {H H' : Hp} {s : Shared} {b : Addr} (I : Inv X pins σ H s) (hb : s.heap.objs.size ≤ b) (hn : H' b = none) : FpOk X pins H' b := by
  refine ⟨hn, Nat.ne_of_gt (Nat.lt_of_lt_of_le I.lt hb), I.nofs hb, .inr (Nat.le_trans I.sz hb), fun x c e z => ?_, fun p hp z => ?_⟩
  · obtain ⟨v, q⟩ := I.cell x c e
    exact absurd (Nat.lt_of_lt_of_le q.lt (by rw [z]; exact hb)) (Nat.lt_irrefl _)
  · exact absurd (Nat.lt_of_lt_of_le (Heap.lt_size (I.pin p hp).1) (by rw [z]; exact hb)) (Nat.lt_irrefl _)
structure Turn (P : Program) (w : World) (K : PySem.W.Frag) (tg : Expr) (J : It) (fp : List Addr) (it : Addr) (tn : Nat → Heap → Prop) : Prop where
  mem : it ∈ fp
  obj : ∀ i h, tn i h → ∀ b ∈ fp, ∃ o, h.get? b = some o ∧ ∀ v, o.data ≠ .cell v
  keep : ∀ i h h', tn i h → (∀ b ∈ fp, ∀ o, h.get? b = some o → h'.get? b = some o) → tn i h'
  item : ∀ (X : Cx), X.prog = P → X.w = w → X.K = K → X.calm = true → ∀ (i : Nat) (pins : List (Addr × Obj)) (s : Shared) (σ : St) (H : Hp) (E : Value → Shared → Prop), Inv X pins σ H s → (∀ b ∈ fp, FpOk X pins H b) → tn i s.heap → J.go i H →
    wpAny (model P w) X.A (pyNext (.ref it)) (fun r s1 => ∃ u, r = some u ∧
      wpAny (model P w) X.A (letOwnedTupleGo tg (.ref it) u) (fun _ s2 => ∃ x H', Inv X pins σ H' s2 ∧ RelV x u ∧ J.yld i H x H' ∧ tn (i + 1) s2.heap ∧ ∀ b ∈ fp, H' b = none) E s1) E s
  done : ∀ (X : Cx), X.prog = P → X.w = w → X.K = K → X.calm = true → ∀ (i : Nat) (pins : List (Addr × Obj)) (s : Shared) (σ : St) (H : Hp) (E : Value → Shared → Prop), Inv X pins σ H s → (∀ b ∈ fp, FpOk X pins H b) → tn i s.heap → J.stop i H →
    wpAny (model P w) X.A (pyNext (.ref it)) (fun r s1 => r = none ∧ Inv X pins σ H s1) E s
  self : ∀ (A : Around) (i : Nat) (s : Shared) (Q : Value → Shared → Prop) (E : Value → Shared → Prop), tn i s.heap → Q (.ref it) s → wpAny (model P w) A (pyIter (.ref it)) Q E s
abbrev TI := St → Hp → (It → Hp → Prop) → Prop
def PIE (X : Cx) (pins : List (Addr × Obj)) (σ : St) (tg : Expr) (R : It → Hp → Prop) (itv : Value) (s2 : Shared) : Prop :=
  ∃ (it : Addr) (fp : List Addr) (tn : Nat → Heap → Prop) (J : It) (H' : Hp), itv = .ref it ∧ Inv X pins σ H' s2 ∧ Turn X.prog X.w X.K tg J fp it tn ∧ tn 0 s2.heap ∧ (∀ b ∈ fp, FpOk X pins H' b) ∧ R J H'
def PI (X : Cx) (tg iter : Expr) (wi : TI) : Prop :=
  ∀ (pins : List (Addr × Obj)) (s : Shared) (σ : St) (H : Hp) (R : It → Hp → Prop), Inv X pins σ H s → wi σ H R →
    wpAny (model X.prog X.w) X.A (eval iter X.env) (fun v s1 => wpAny (model X.prog X.w) X.A (pyIter v) (PIE X pins σ tg R) X.xe s1) X.xe s
theorem go_of {M : Model} {A : Around} {E : Value → Shared → Prop} {s : Shared} {tg : Expr} {it : Addr} {u : Value} {o : Obj} {n : String} {vs : Array Value} {Q : Unit → Shared → Prop} (ho : s.heap.get? it = some o) (hc : o.cls = .type n) (hd : o.data = .fields vs)
    (hn : ["enumerate", "zip", "dict_itemiterator", "dict_reverseitemiterator", "odict_iterator", "itertools.zip_longest", "itertools.pairwise"].contains n = false) (hQ : Q () s) : wpAny M A (letOwnedTupleGo tg (.ref it) u) Q E s := by
  unfold letOwnedTupleGo
  cases tg <;> first
    | exact wpAny_pure hQ
    | (cases u <;> first
        | exact wpAny_pure hQ
        | (refine wpAny_bind (wpAny_load ho ?_)
           rw [hc, hd]
           show wpAny M A (if (["enumerate", "zip", "dict_itemiterator", "dict_reverseitemiterator", "odict_iterator", "itertools.zip_longest", "itertools.pairwise"].contains n && vs[0]? == some (rawInt _)) = true then _ else _) Q E s
           rw [if_neg (by intro h; rw [hn, Bool.false_and] at h; cases h)]
           exact wpAny_pure hQ))
def Itl (K : PySem.W.Frag) (a : Addr) : It :=
  ⟨fun i H => ∃ xs x, SqL K H a xs ∧ xs[i]? = some x, fun i H x H' => H' = H ∧ ∀ xs, SqL K H a xs → xs[i]? = some x, fun i H => ∃ xs, SqL K H a xs ∧ xs.length ≤ i⟩
def Itr (lo : Int) (n : Nat) : It := ⟨fun i _ => i < n, fun i H x H' => H' = H ∧ x = .int (lo + i), fun i _ => n ≤ i⟩
theorem turn_list {P : Program} {w : World} {K : PySem.W.Frag} {tg : Expr} (a it : Addr) : Turn P w K tg (Itl K a) [it] it (fun i h => h.IsListIter it a i) where
  mem := by simp
  obj := fun i h st b hb => by
    have e : b = it := by simpa using hb
    subst e
    obtain ⟨o, e, c, d⟩ := st
    exact ⟨o, e, fun v z => by rw [d] at z; cases z⟩
  keep := fun i h h' st k => st.at fun o e => k it (by simp) o e
  item := by
    intro X hP hw hK hc i pins s σ H E I hf st hg
    subst hP hw hK
    obtain ⟨xs, x, hq, hx⟩ := hg
    obtain ⟨its, rv, p, hz⟩ := I.list hq
    obtain ⟨u, hu, ru⟩ := rv.get hx
    obtain ⟨f0, f1, f2, f3, f4, f5⟩ := hf it (by simp)
    refine wpAny_pyNext_list_item st p.isList (x := u) (by simpa using hu) fun h' st' sb => ?_
    have I1 : Inv X pins σ H { s with heap := h' } := I.turned (t' := s.toks) (fun b o hb e => (sb.2 b hb).trans e) f0 f1 f3 f4 f5
    obtain ⟨o, e, c, d⟩ := id st'
    exact ⟨u, rfl, go_of (s := { s with heap := h' }) e c d (by decide) ⟨x, H, I1, ru, ⟨rfl, fun ys hy => by rw [I.list_inj hy hq]; exact hx⟩, st', fun b hb => (hf b hb).1⟩⟩
  done := by
    intro X hP hw hK hc i pins s σ H E I hf st hg
    subst hP hw hK
    obtain ⟨xs, hq, hx⟩ := hg
    obtain ⟨its, rv, p, hz⟩ := I.list hq
    obtain ⟨f0, f1, f2, f3, f4, f5⟩ := hf it (by simp)
    have hl := rv.length
    exact wpAny_pyNext_list_end (I.ok.hd hc) st p.isList (by simp; omega) fun h' eb => ⟨rfl, I.turned (t' := s.toks) (fun b o hb e => eb b o hb e) f0 f1 f3 f4 f5⟩
  self := fun _ _ _ _ _ st h => wpAny_pyIter_listiter st h
theorem turn_range {P : Program} {w : World} {K : PySem.W.Frag} {tg : Expr} (it : Addr) (lo : Int) (n : Nat) : Turn P w K tg (Itr lo n) [it] it (fun i h => IsRangeIter h it (lo + (i : Nat) * 1) ((n : Int) - (i : Nat)) 1) where
  mem := by simp
  obj := fun i h st b hb => by
    have e : b = it := by simpa using hb
    subst e
    exact ⟨_, st, fun v z => by
      have z' : Data.fields _ = Data.cell v := z
      cases z'⟩
  keep := fun i h h' st k => k it (by simp) _ st
  item := by
    intro X hP hw hK hc i pins s σ H E I hf st hg
    subst hP hw hK
    obtain ⟨f0, f1, f2, f3, f4, f5⟩ := hf it (by simp)
    have W := Walks.range (prog := X.prog) (w := X.w) (I.ok.hd hc) it lo 1 n
    refine W.item i s _ _ hg st fun v h' tk hv st' kk => ?_
    obtain ⟨t, rfl⟩ := hv
    have I1 : Inv X pins σ H { s with heap := h', toks := tk } := I.turned (fun b o hb e => kk b o (by simpa using hb) e) f0 f1 f3 f4 f5
    refine ⟨_, rfl, go_of (s := { s with heap := h', toks := tk }) (n := "range_iterator") st' rfl rfl (by decide) ⟨.int (lo + i), H, I1, ⟨t, ?_⟩, ⟨rfl, rfl⟩, st', fun b hb => (hf b hb).1⟩⟩
    rw [Int.mul_one]
  done := by
    intro X hP hw hK hc i pins s σ H E I hf st hg
    subst hP hw hK
    obtain ⟨f0, f1, f2, f3, f4, f5⟩ := hf it (by simp)
    exact wpAny_pyNext_range_end (I.ok.hd hc) st (by have : n ≤ i := hg; omega) fun h' eb => ⟨rfl, I.turned (t' := s.toks) (fun b o hb e => eb b o hb e) f0 f1 f3 f4 f5⟩
  self := fun _ _ _ _ _ st h => wpAny_pyIter_rangeiter st h
end L2
namespace L2
open PySem PySem.Spec PyProof.Rows
section
variable {X : Cx} {tg : Expr}
def iList (K : PySem.W.Frag) (tl : TE) : TI := fun σ H R => tl σ H fun x H1 => ∃ a, x = .ref a ∧ (∃ xs, SqL K H1 a xs) ∧ R (Itl K a) H1
theorem pi_list {l : Expr} {tl : TE} (hl : PE X l tl) : PI X tg l (iList X.K tl) := by
  intro pins s σ H R I h
  refine thn (hl pins s σ H _ I h) fun v s1 ⟨x, H1, I1, r1, q1⟩ => ?_
  obtain ⟨a, e, ⟨xs, hq⟩, q⟩ := q1
  subst e
  cases r1
  obtain ⟨its, rv, p, hz⟩ := I1.list hq
  refine wpAny_pyIter_list p.isList ?_
  refine ⟨s1.heap.objs.size, [s1.heap.objs.size], _, _, H1, rfl, I1.kept (t' := s1.toks) fun b o e => Heap.get?_push_of_some _ e, turn_list a _, ⟨_, Heap.get?_push_size _ rfl, rfl, rfl⟩, fun b hb => ?_, q⟩
  have e : b = s1.heap.objs.size := by simpa using hb
  subst e
  exact I1.fpOk (Nat.le_refl _) (I1.hok.fresh (Nat.le_refl _))
theorem range_it {pins : List (Addr × Obj)} {σ : St} {H : Hp} {s : Shared} {R : It → Hp → Prop} {E : Value → Shared → Prop} {lo hi : Int} {t u v : Tok} {tk : Nat} (I : Inv X pins σ H s) (h1 : -(2 ^ 62) ≤ lo) (h2 : lo < 2 ^ 62) (h3 : -(2 ^ 62) ≤ hi) (h4 : hi < 2 ^ 62)
    (q : R (Itr lo (hi - lo).toNat) H) : wpAny (model X.prog X.w) X.A (pyIter (.ref s.heap.objs.size)) (PIE X pins σ tg R) E { s with heap := s.heap.push { cls := .type "range", data := .fields #[.int lo t, .int hi u, .int 1 v] }, toks := tk } := by
  refine wpAny_pyIter_range (IsRange.new ..) (small_one h1 h2 h3 h4) ?_
  have I1 : Inv X pins σ H { s with heap := s.heap.push { cls := .type "range", data := .fields #[.int lo t, .int hi u, .int 1 v] }, toks := tk } := I.kept fun b o e => Heap.get?_push_of_some _ e
  refine ⟨(s.heap.push { cls := .type "range", data := .fields #[.int lo t, .int hi u, .int 1 v] }).objs.size, [(s.heap.push { cls := .type "range", data := .fields #[.int lo t, .int hi u, .int 1 v] }).objs.size], _, _, H, rfl,
    I1.kept (t' := tk) fun b o e => Heap.get?_push_of_some _ e, turn_range _ lo (hi - lo).toNat, ?_, fun b hb => ?_, q⟩
  · have e1 : lo + ((0 : Nat) : Int) * 1 = lo := by simp
    have e2 : (((hi - lo).toNat : Nat) : Int) - ((0 : Nat) : Int) = Builtin.Range.rangeSize lo hi 1 := by rw [rangeSize_one]; split <;> omega
    show IsRangeIter _ _ (lo + ((0 : Nat) : Int) * 1) ((((hi - lo).toNat : Nat) : Int) - ((0 : Nat) : Int)) 1
    rw [e1, e2]
    exact Heap.get?_push_size _ rfl
  · have e : b = (s.heap.push { cls := .type "range", data := .fields #[.int lo t, .int hi u, .int 1 v] }).objs.size := by simpa using hb
    subst e
    exact I1.fpOk (Nat.le_refl _) (I1.hok.fresh (Nat.le_refl _))
def iRng1 (ta : TA) : TI := fun σ H R => ta σ H fun vs H1 => ∃ j : Int, vs = [.int j] ∧ -(2 ^ 62) ≤ j ∧ j < 2 ^ 62 ∧ R (Itr 0 j.toNat) H1
def iRng2 (ta : TA) : TI := fun σ H R => ta σ H fun vs H1 => ∃ i j : Int, vs = [.int i, .int j] ∧ (-(2 ^ 62) ≤ i ∧ i < 2 ^ 62 ∧ -(2 ^ 62) ≤ j ∧ j < 2 ^ 62) ∧ R (Itr i (j - i).toNat) H1
theorem pi_range1 {a : Expr} {ta : TA} {p pos : Pos} (hg : Gl X "range") (hm : X.mg "range" = none) (ha : PA X [a] ta) (hs : starEach [a] X.env = [(false, eval a X.env)] := by rfl) : PI X tg (.Call (.Name "range" p) [a] [] pos) (iRng1 ta) := by
  intro pins s σ H R I h
  refine Call_ (ld_blt I hg hm boot_range (PyProof.Rows.callWith_type1 (thn (ha pos pins s σ H _ I h) fun us s1 ⟨vs, H1, I1, r1, q1⟩ => ?_) hs rfl))
  obtain ⟨j, e, q1, q2, q⟩ := q1
  subst e
  cases r1 with
  | cons r rr =>
    cases rr
    obtain ⟨t, rfl⟩ := r
    exact call_range_1 (range_it I1 (by omega) (by omega) q1 q2 (by simpa using q))
theorem pi_range2 {a b : Expr} {ta : TA} {p pos : Pos} (hg : Gl X "range") (hm : X.mg "range" = none) (ha : PA X [a, b] ta) (hs : starEach [a, b] X.env = [(false, eval a X.env), (false, eval b X.env)] := by rfl) (hs2 : starEach [b] X.env = [(false, eval b X.env)] := by rfl) :
    PI X tg (.Call (.Name "range" p) [a, b] [] pos) (iRng2 ta) := by
  intro pins s σ H R I h
  refine Call_ (ld_blt I hg hm boot_range (PyProof.Rows.callWith_type1 (thn (ha pos pins s σ H _ I h) fun us s1 ⟨vs, H1, I1, r1, q1⟩ => ?_) (by rw [hs, hs2]) (by rw [hs2]; rfl)))
  obtain ⟨i, j, e, ⟨q1, q2, q3, q4⟩, q⟩ := q1
  subst e
  cases r1 with
  | cons r rr =>
    cases rr with
    | cons r' rr =>
      cases rr
      obtain ⟨t, rfl⟩ := r
      obtain ⟨t', rfl⟩ := r'
      exact call_range_2 (range_it I1 q1 q2 q3 q4 q)
def tFor (wi : TI) (g : TG) (tb : TS) : TS := fun D σ H => wi σ H fun J H1 => ∃ W : Nat → Nat → St → Hp → Prop, (∃ m, W 0 m σ H1) ∧ ∀ i m σ H, W i m σ H →
  (J.stop i H ∧ D.nx σ H) ∨ (J.go i H ∧ ∃ N : St → Hp → Prop, (∀ σ' H', N σ' H' → ∃ m', m' < m ∧ W (i + 1) m' σ' H') ∧ ∀ x H', J.yld i H x H' → g x σ H' fun σ2 H2 => tb { D with nx := N, ct := N, bk := D.nx } σ2 H2)
def pinsAt (fp : List Addr) (h : Heap) : List (Addr × Obj) := fp.filterMap fun b => (h.get? b).map fun o => (b, o)
theorem mem_pinsAt {fp : List Addr} {h : Heap} {b : Addr} {o : Obj} (hb : b ∈ fp) (e : h.get? b = some o) : (b, o) ∈ pinsAt fp h := List.mem_filterMap.mpr ⟨b, hb, by rw [e]; rfl⟩
theorem of_pinsAt {fp : List Addr} {h : Heap} {p : Addr × Obj} (hp : p ∈ pinsAt fp h) : p.1 ∈ fp ∧ h.get? p.1 = some p.2 := by
  obtain ⟨b, hb, e⟩ := List.mem_filterMap.mp hp
  cases q : h.get? b with
  | none => rw [q] at e; cases e
  | some o =>
    rw [q] at e
    have e' : (b, o) = p := Option.some.inj e
    subst e'
    exact ⟨hb, q⟩
theorem Inv.pinned {pins : List (Addr × Obj)} {σ : St} {H : Hp} {s : Shared} {fp : List Addr} (I : Inv X pins σ H s) (hf : ∀ b ∈ fp, FpOk X pins H b) (ho : ∀ b ∈ fp, ∃ o, s.heap.get? b = some o ∧ ∀ v, o.data ≠ .cell v) : Inv X (pins ++ pinsAt fp s.heap) σ H s :=
  I.pins_of fun p hp => (List.mem_append.mp hp).elim (fun z => I.pin p (List.mem_append_right _ z)) fun z => by
    obtain ⟨hb, e⟩ := of_pinsAt z
    obtain ⟨f0, f1, f2, _⟩ := hf p.1 hb
    obtain ⟨o, e', d⟩ := ho p.1 hb
    rw [e] at e'; cases e'
    exact ⟨e, f0, f1, f2, d⟩
theorem Inv.unpinned {pins pl : List (Addr × Obj)} {σ : St} {H : Hp} {s : Shared} (I : Inv X (pins ++ pl) σ H s) : Inv X pins σ H s := I.pins_of fun p hp => I.pin p (List.mem_append_right _ (List.mem_append_left _ hp))
theorem ps_for {iter : Expr} {body : List Stmt} {wi : TI} {g : TG} {tb : TS} {pos : Pos} (hp : PassesOwn (model X.prog X.w) X.A X.env X.xe) (hc : X.calm = true) (hi : PI X tg iter wi) (hg : PG X tg g) (hb : PSs X body tb)
    (hs : ∀ x, foldedSetIterable iter X.env x = pure x := by intro _; rfl) : PS X (.For tg iter body [] pos) (tFor wi g tb) := by
  intro pins s σ H D I h
  refine wpAny_For (thn (hi pins s σ H _ I h) fun v s1 h1 => thn h1 fun itv s2 h2 => ?_) hs
  obtain ⟨it, fp, tn, J, H2, e, I2, T, st2, f2, W, ⟨m0, w0⟩, turn⟩ := h2
  subst e
  have stat : ∀ {H' : Hp}, (∀ b ∈ fp, H' b = none) → ∀ b ∈ fp, FpOk X pins H' b := fun hn b hb => ⟨hn b hb, (f2 b hb).2⟩
  refine codeAny_forLoop_any (fun n s' => ∃ i σ' H', Inv X pins σ' H' s' ∧ tn i s'.heap ∧ (∀ b ∈ fp, H' b = none) ∧ W i n σ' H') ?_ m0 ⟨0, σ, H2, I2, st2, fun b hb => (f2 b hb).1, w0⟩
  rintro n s3 ⟨i, σ3, H3, I3, st3, fr3, w3⟩
  rcases turn i n σ3 H3 w3 with ⟨stop, qn⟩ | ⟨go, N, hN, step⟩
  · refine wpAny_passesOwn hp (thn (T.done X rfl rfl rfl hc i pins s3 σ3 H3 X.xe I3 (stat fr3) st3 stop) fun r s4 ⟨hr, I4⟩ => ?_)
    subst hr
    exact wpAny_execs_nil ⟨σ3, H3, I4, qn⟩
  · refine wpAny_passesOwn hp (thn (T.item X rfl rfl rfl hc i pins s3 σ3 H3 X.xe I3 (stat fr3) st3 go) fun r s4 ⟨u, hr, h4⟩ => ?_)
    subst hr
    refine wpAny_passesOwn hp (thn h4 fun _ s5 ⟨x, H5, I5, r5, y5, st5, fr5⟩ => ?_)
    have I5' := I5.pinned (stat fr5) (T.obj _ _ st5)
    refine wpAny_passesOwn hp (thn (hg _ s5 σ3 H5 x u _ I5' r5 (step x H5 y5)) fun _ s6 ⟨σ6, H6, I6, q6⟩ => ?_)
    refine wpAny_passesOwn hp (thn (hb _ s6 σ6 H6 _ I6 q6) fun f s7 q7 => ?_)
    have again : ∀ {σ7 : St} {H7 : Hp}, Inv X (pins ++ pinsAt fp s5.heap) σ7 H7 s7 → N σ7 H7 → ∃ m, m < n ∧ ∃ i σ' H', Inv X pins σ' H' s7 ∧ tn i s7.heap ∧ (∀ b ∈ fp, H' b = none) ∧ W i m σ' H' := fun {σ7 H7} I7 n7 => by
      obtain ⟨m', hm, w7⟩ := hN σ7 H7 n7
      refine ⟨m', hm, i + 1, σ7, H7, I7.unpinned, T.keep _ _ _ st5 fun b hb o e => (I7.pin (b, o) (List.mem_append_right _ (List.mem_append_right _ (mem_pinsAt hb e)))).1, fun b hb => ?_, w7⟩
      obtain ⟨o, e, d⟩ := T.obj _ _ st5 b hb
      exact (I7.pin (b, o) (List.mem_append_right _ (List.mem_append_right _ (mem_pinsAt hb e)))).2.1
    cases f with
    | next => obtain ⟨σ7, H7, I7, n7⟩ := q7; exact again I7 n7
    | cont => obtain ⟨σ7, H7, I7, n7⟩ := q7; exact again I7 n7
    | brk => obtain ⟨σ7, H7, I7, q7⟩ := q7; exact ⟨σ7, H7, I7.unpinned, q7⟩
    | ret v => obtain ⟨x7, σ7, H7, I7, r7, q7⟩ := q7; exact ⟨x7, σ7, H7, I7.unpinned, r7, q7⟩
end
theorem for_list {K : PySem.W.Frag} {a : Addr} {xs : List V} {g : TG} {tb : TS} {D : Ends} {σ : St} {H : Hp} (Pv : Nat → St → Hp → Prop) (h0 : Pv 0 σ H) (hl : ∀ i σ H, i ≤ xs.length → Pv i σ H → SqL K H a xs)
    (hs : ∀ i x σ H, xs[i]? = some x → Pv i σ H → g x σ H fun σ2 H2 => tb { D with nx := Pv (i + 1), ct := Pv (i + 1), bk := D.nx } σ2 H2) (hd : ∀ σ H, Pv xs.length σ H → D.nx σ H) :
    ∃ W : Nat → Nat → St → Hp → Prop, (∃ m, W 0 m σ H) ∧ ∀ i m σ H, W i m σ H →
      ((Itl K a).stop i H ∧ D.nx σ H) ∨ ((Itl K a).go i H ∧ ∃ N : St → Hp → Prop, (∀ σ' H', N σ' H' → ∃ m', m' < m ∧ W (i + 1) m' σ' H') ∧ ∀ x H', (Itl K a).yld i H x H' → g x σ H' fun σ2 H2 => tb { D with nx := N, ct := N, bk := D.nx } σ2 H2) := by
  refine ⟨fun i m σ H => m = xs.length - i ∧ i ≤ xs.length ∧ Pv i σ H, ⟨xs.length, by simp, Nat.zero_le _, h0⟩, ?_⟩
  rintro i m σ H ⟨rfl, hi, p⟩
  have q := hl i σ H hi p
  by_cases hlt : i < xs.length
  · refine .inr ⟨⟨xs, xs[i], q, by simp [hlt]⟩, Pv (i + 1), fun σ' H' p' => ⟨xs.length - (i + 1), by omega, rfl, hlt, p'⟩, fun x H' y => ?_⟩
    obtain ⟨e, y⟩ := y
    subst e
    exact hs i x σ _ (y xs q) p
  · have e : i = xs.length := by omega
    subst e
    exact .inl ⟨⟨xs, q, Nat.le_refl _⟩, hd σ H p⟩
theorem for_range {lo : Int} {n : Nat} {g : TG} {tb : TS} {D : Ends} {σ : St} {H : Hp} (Pv : Nat → St → Hp → Prop) (h0 : Pv 0 σ H)
    (hs : ∀ i σ H, i < n → Pv i σ H → g (.int (lo + i)) σ H fun σ2 H2 => tb { D with nx := Pv (i + 1), ct := Pv (i + 1), bk := D.nx } σ2 H2) (hd : ∀ σ H, Pv n σ H → D.nx σ H) :
    ∃ W : Nat → Nat → St → Hp → Prop, (∃ m, W 0 m σ H) ∧ ∀ i m σ H, W i m σ H →
      ((Itr lo n).stop i H ∧ D.nx σ H) ∨ ((Itr lo n).go i H ∧ ∃ N : St → Hp → Prop, (∀ σ' H', N σ' H' → ∃ m', m' < m ∧ W (i + 1) m' σ' H') ∧ ∀ x H', (Itr lo n).yld i H x H' → g x σ H' fun σ2 H2 => tb { D with nx := N, ct := N, bk := D.nx } σ2 H2) := by
  refine ⟨fun i m σ H => m = n - i ∧ i ≤ n ∧ Pv i σ H, ⟨n, by simp, Nat.zero_le _, h0⟩, ?_⟩
  rintro i m σ H ⟨rfl, hi, p⟩
  by_cases hlt : i < n
  · refine .inr ⟨hlt, Pv (i + 1), fun σ' H' p' => ⟨n - (i + 1), by omega, rfl, hlt, p'⟩, fun x H' y => ?_⟩
    obtain ⟨e, y⟩ := y
    subst e y
    exact hs i σ _ hlt p
  · have e : i = n := by omega
    subst e
    exact .inl ⟨Nat.le_refl _, hd σ H p⟩
theorem while_by {c : TT} {tb : TS} {D : Ends} {σ : St} {H : Hp} (Pv : St → Hp → Prop) (μ : St → Hp → Nat) (h0 : Pv σ H)
    (hs : ∀ σ H, Pv σ H → c σ H fun b H1 => if b = true then tb { D with nx := fun σ' H' => Pv σ' H' ∧ μ σ' H' < μ σ H, ct := fun σ' H' => Pv σ' H' ∧ μ σ' H' < μ σ H, bk := D.nx } σ H1 else D.nx σ H1)
    (mono : ∀ σ H Q Q', (∀ b H1, Q b H1 → Q' b H1) → c σ H Q → c σ H Q') : tWhile c tb D σ H := by
  refine ⟨fun m σ H => m = μ σ H ∧ Pv σ H, ⟨_, rfl, h0⟩, ?_⟩
  rintro m σ H ⟨rfl, p⟩
  refine mono σ H _ _ (fun b H1 q => ?_) (hs σ H p)
  cases b with
  | true => exact ⟨_, fun σ' H' ⟨p', l⟩ => ⟨_, l, rfl, p'⟩, q⟩
  | false => exact q
end L2
namespace L2
open PySem PySem.Spec PyProof.Rows
abbrev R2 := V → V → Hp → VK → Prop
def OpR (X : Cx) (f : Value → Value → Sem Value) (r : R2) : Prop :=
  ∀ (pins : List (Addr × Obj)) (s : Shared) (σ : St) (H : Hp) (x y : V) (v u : Value) (Q : VK), Inv X pins σ H s → RelV x v → RelV y u → r x y H Q →
    wpAny (model X.prog X.w) X.A (f v u) (EP X pins σ Q) X.xe s
def UnR (X : Cx) (f : Value → Sem Value) (r : V → Hp → VK → Prop) : Prop :=
  ∀ (pins : List (Addr × Obj)) (s : Shared) (σ : St) (H : Hp) (x : V) (v : Value) (Q : VK), Inv X pins σ H s → RelV x v → r x H Q →
    wpAny (model X.prog X.w) X.A (f v) (EP X pins σ Q) X.xe s
def CallR (X : Cx) (f : Value) (r : List V → Hp → VK → Prop) : Prop :=
  ∀ (pins : List (Addr × Obj)) (s : Shared) (σ : St) (H : Hp) (xs : List V) (us : List Value) (Q : VK), Inv X pins σ H s → Vals xs us → r xs H Q →
    wpAny (model X.prog X.w) X.A (call f us) (EP X pins σ Q) X.xe s
def tOp (r : R2) (ta tb : TE) : TE := fun σ H Q => ta σ H fun x H1 => tb σ H1 fun y H2 => r x y H2 Q
def tUn (r : V → Hp → VK → Prop) (ta : TE) : TE := fun σ H Q => ta σ H fun x H1 => r x H1 Q
def rI (C : Int → Int → Prop) (g : Int → Int → V) : R2 := fun x y H Q => ∃ i j, x = .int i ∧ y = .int j ∧ C i j ∧ Q (g i j) H
def rI0 (g : Int → Int → V) : R2 := fun x y H Q => ∃ i j, x = .int i ∧ y = .int j ∧ Q (g i j) H
def rU (g : Int → V) : V → Hp → VK → Prop := fun x H Q => ∃ i, x = .int i ∧ Q (g i) H
section
variable {X : Cx} {a b c : Expr} {ta tb tc : TE} {pos : Pos}
theorem binT (ha : PE X a ta) (hb : PE X b tb) {pins : List (Addr × Obj)} {s : Shared} {σ : St} {H : Hp} {R : V → V → Hp → Prop} (I : Inv X pins σ H s)
    (h : ta σ H fun x H1 => tb σ H1 fun y H2 => R x y H2) {Q : Value → Shared → Prop} {f : Value → Value → Sem Value}
    (hf : ∀ v u s2 x y H2, Inv X pins σ H2 s2 → RelV x v → RelV y u → R x y H2 → wpAny (model X.prog X.w) X.A (f v u) Q X.xe s2) :
    wpAny (model X.prog X.w) X.A (eval a X.env) (fun v s₁ => wpAny (model X.prog X.w) X.A (eval b X.env) (fun u s₂ => wpAny (model X.prog X.w) X.A (f v u) Q X.xe s₂) X.xe s₁) X.xe s := by
  refine thn (ha pins s σ H _ I h) fun v s1 ⟨x, H1, I1, r1, q1⟩ => ?_
  refine thn (hb pins s1 σ H1 _ I1 q1) fun u s2 ⟨y, H2, I2, r2, q2⟩ => ?_
  exact hf v u s2 x y H2 I2 r1 r2 q2
theorem pe_op {op : Operator} {r : R2} (ho : OpR X (binaryOp op) r) (ha : PE X a ta) (hb : PE X b tb) : PE X (.BinOp a op b pos) (tOp r ta tb) := by
  intro pins s σ H Q I h
  exact wpAny_BinOp (binT ha hb I h fun v u s2 x y H2 I2 rx ry q => ho pins s2 σ H2 x y v u Q I2 rx ry q)
theorem pe_un {op : UnaryOp} {r : V → Hp → VK → Prop} (ho : UnR X (unaryOp op) r) (ha : PE X a ta) : PE X (.UnaryOp op a pos) (tUn r ta) := by
  intro pins s σ H Q I h
  exact UnaryOp_ (thn (ha pins s σ H _ I h) fun v s1 ⟨x, H1, I1, r1, q1⟩ => ho pins s1 σ H1 x v Q I1 r1 q1)
theorem opI {f : Value → Value → Sem Value} {C : Int → Int → Prop} {g : Int → Int → Int}
    (rule : ∀ (i j : Int) (t u : Tok) (s : Shared) (Q : Value → Shared → Prop) (E : Value → Shared → Prop), C i j → Q (.int (g i j) s.toks) { s with toks := s.toks + 1 } → wpAny (model X.prog X.w) X.A (f (.int i t) (.int j u)) Q E s) :
    OpR X f (rI C fun i j => .int (g i j)) := by
  intro pins s σ H x y v u Q I rx ry h
  obtain ⟨i, j, rfl, rfl, hc, q⟩ := h
  obtain ⟨t, rfl⟩ := rx
  obtain ⟨t', rfl⟩ := ry
  exact rule i j t t' s _ _ hc ⟨.int (g i j), H, I.tok _, ⟨_, rfl⟩, q⟩
theorem opI0 {f : Value → Value → Sem Value} {g : Int → Int → Int}
    (rule : ∀ (i j : Int) (t u : Tok) (s : Shared) (Q : Value → Shared → Prop) (E : Value → Shared → Prop), Q (.int (g i j) s.toks) { s with toks := s.toks + 1 } → wpAny (model X.prog X.w) X.A (f (.int i t) (.int j u)) Q E s) :
    OpR X f (rI0 fun i j => .int (g i j)) := by
  intro pins s σ H x y v u Q I rx ry h
  obtain ⟨i, j, rfl, rfl, q⟩ := h
  obtain ⟨t, rfl⟩ := rx
  obtain ⟨t', rfl⟩ := ry
  exact rule i j t t' s _ _ ⟨.int (g i j), H, I.tok _, ⟨_, rfl⟩, q⟩
theorem opB0 {f : Value → Value → Sem Value} {g : Int → Int → Bool}
    (rule : ∀ (i j : Int) (t u : Tok) (s : Shared) (Q : Value → Shared → Prop) (E : Value → Shared → Prop), Q (.bool (g i j)) s → wpAny (model X.prog X.w) X.A (f (.int i t) (.int j u)) Q E s) :
    OpR X f (rI0 fun i j => .bl (g i j)) := by
  intro pins s σ H x y v u Q I rx ry h
  obtain ⟨i, j, rfl, rfl, q⟩ := h
  obtain ⟨t, rfl⟩ := rx
  obtain ⟨t', rfl⟩ := ry
  exact rule i j t t' s _ _ ⟨.bl (g i j), H, I, rfl, q⟩
def CDiv (i j : Int) : Prop := 0 < j ∧ j < 1073741824
def CMul (i j : Int) : Prop := (-(2 ^ 64) < i ∧ i < 2 ^ 64) ∨ (-(2 ^ 64) < j ∧ j < 2 ^ 64)
theorem CMul.ok {i j : Int} (h : CMul i j) : IntMulOk i j := by
  rcases h with ⟨h1, h2⟩ | ⟨h1, h2⟩
  · exact .of_left (intBits_le_64 h1 h2)
  · exact .of_right (intBits_le_64 h1 h2)
theorem two_pow_nn (k : Nat) : (0 : Int) ≤ 2 ^ k := by
  rw [two_pow_cast]
  exact Int.natCast_nonneg _
theorem op_add : OpR X (binaryOp .Add) (rI0 fun i j => .int (i + j)) := opI0 fun _ _ _ _ _ _ _ q => add_int q
theorem op_sub : OpR X (binaryOp .Sub) (rI0 fun i j => .int (i - j)) := opI0 fun _ _ _ _ _ _ _ q => sub_int q
theorem op_mul : OpR X (binaryOp .Mult) (rI CMul fun i j => .int (i * j)) := opI fun _ _ _ _ _ _ _ hc q => mul_int q hc.ok
theorem op_fdiv : OpR X (binaryOp .FloorDiv) (rI CDiv fun i j => .int (i / j)) := opI fun i j _ _ _ _ _ hc q => by
  have h1 : (0 : Int) < j := hc.1
  have h2 : j < 1073741824 := hc.2
  exact floordiv_int (by omega) (by rw [Int.fdiv_eq_ediv_of_nonneg i (by omega)]; exact q) (.inl (PyProof.noPylong_small (by omega)))
theorem op_mod : OpR X (binaryOp .Mod) (rI (fun _ j => 0 < j) fun i j => .int (i % j)) := opI fun i j _ _ _ _ _ hc q => by
  have h1 : (0 : Int) < j := hc
  exact mod_int' (by omega) (by rw [Int.fmod_eq_emod_of_nonneg i (by omega)]; exact q)
theorem op_modN : OpR X (binaryOp .Mod) (rI (fun _ j => j ≠ 0) fun i j => .int (i.fmod j)) := opI fun _ _ _ _ _ _ _ hc q => mod_int' hc q
theorem op_shr : OpR X (binaryOp .RShift) (rI (fun _ j => 0 ≤ j) fun i j => .int (i / 2 ^ j.toNat)) := opI fun i j _ _ _ _ _ hc q =>
  rshift_int hc (by rw [Int.fdiv_eq_ediv_of_nonneg i (two_pow_nn _)]; exact q)
theorem op_and : OpR X (binaryOp .BitAnd) (rI0 fun i j => .int (Builtin.bitAnd i j)) := opI0 fun _ _ _ _ _ _ _ q => and_int q
theorem unI {f : Value → Sem Value} {g : Int → Int}
    (rule : ∀ (i : Int) (t : Tok) (s : Shared) (Q : Value → Shared → Prop) (E : Value → Shared → Prop), Q (.int (g i) s.toks) { s with toks := s.toks + 1 } → wpAny (model X.prog X.w) X.A (f (.int i t)) Q E s) :
    UnR X f (rU fun i => .int (g i)) := by
  intro pins s σ H x v Q I rx h
  obtain ⟨i, rfl, q⟩ := h
  obtain ⟨t, rfl⟩ := rx
  exact rule i t s _ _ ⟨.int (g i), H, I.tok _, ⟨_, rfl⟩, q⟩
theorem un_neg : UnR X (unaryOp .USub) (rU fun i => .int (-i)) := unI fun _ _ _ _ _ q => neg_int q
end
def scal : V → V → Bool
  | .non, .non => true | .non, .int _ => true | .int _, .non => true | .non, .bl _ => true | .bl _, .non => true | .non, .str _ => true | .str _, .non => true
  | .int _, .int _ => true | .bl _, .bl _ => true | .str _, .str _ => true | .byt _, .byt _ => true
  | .int _, .str _ => true | .str _, .int _ => true | .bl _, .str _ => true | .str _, .bl _ => true
  | _, _ => false
def rEq : R2 := fun x y H Q => scal x y = true ∧ Q (.bl (decide (x = y))) H
def rNe : R2 := fun x y H Q => scal x y = true ∧ Q (.bl (!decide (x = y))) H
theorem dec_int {i j : Int} : decide (V.int i = V.int j) = (i == j) := by
  rw [Bool.eq_iff_iff]
  simp
theorem dec_bl {i j : Bool} : decide (V.bl i = V.bl j) = (i == j) := by
  rw [Bool.eq_iff_iff]
  simp
theorem dec_str {i j : Str} : decide (V.str i = V.str j) = (i == j) := by
  rw [Bool.eq_iff_iff]
  simp
theorem dec_byt {i j : Array UInt8} : decide (V.byt i = V.byt j) = (i.toList == j.toList) := by
  rw [Bool.eq_iff_iff]
  cases i
  cases j
  simp
section
variable {X : Cx} {a b c : Expr} {ta tb tc : TE} {pos : Pos}
theorem fin_bl {pins : List (Addr × Obj)} {σ : St} {H : Hp} {s : Shared} {Q : VK} {k k' : Bool} (I : Inv X pins σ H s) (q : Q (.bl k) H) (e : k = k') : EP X pins σ Q (.bool k') s := by
  subst e
  exact ⟨.bl k, H, I, rfl, q⟩
theorem op_eq : OpR X (compareOp .Eq) rEq := by
  intro pins s σ H x y v u Q I rx ry h
  obtain ⟨hs, q⟩ := h
  cases x with
  | non =>
    cases rx
    cases y with
    | non => cases ry; exact PySem.EqNone.eq_none_none (fin_bl I q (by simp))
    | bl j => cases ry; exact PySem.EqNone.eq_none_bool (fin_bl I q (by simp))
    | int j => obtain ⟨t', rfl⟩ := ry; exact PySem.EqNone.eq_none_int (fin_bl I q (by simp))
    | str j => obtain ⟨t', rfl⟩ := ry; exact PySem.EqNone.eq_none_str (fin_bl I q (by simp))
    | _ => exact absurd (show false = true from hs) Bool.false_ne_true
  | bl i =>
    cases rx
    cases y with
    | non => cases ry; exact PySem.EqNone.eq_bool_none (fin_bl I q (by simp))
    | bl j => cases ry; exact eq_bool (fin_bl I q dec_bl)
    | str j => obtain ⟨t', rfl⟩ := ry; exact PySem.EqMixed.eq_bool_str (fin_bl I q (by simp))
    | _ => exact absurd (show false = true from hs) Bool.false_ne_true
  | int i =>
    obtain ⟨t, rfl⟩ := rx
    cases y with
    | non => cases ry; exact PySem.EqNone.eq_int_none (fin_bl I q (by simp))
    | int j => obtain ⟨t', rfl⟩ := ry; exact eq_int (fin_bl I q dec_int)
    | str j => obtain ⟨t', rfl⟩ := ry; exact PySem.EqMixed.eq_int_str (fin_bl I q (by simp))
    | _ => exact absurd (show false = true from hs) Bool.false_ne_true
  | str i =>
    obtain ⟨t, rfl⟩ := rx
    cases y with
    | non => cases ry; exact PySem.EqNone.eq_str_none (fin_bl I q (by simp))
    | bl j => cases ry; exact PySem.EqMixed.eq_str_bool (fin_bl I q (by simp))
    | int j => obtain ⟨t', rfl⟩ := ry; exact PySem.EqMixed.eq_str_int (fin_bl I q (by simp))
    | str j => obtain ⟨t', rfl⟩ := ry; exact eq_str (fin_bl I q dec_str)
    | _ => exact absurd (show false = true from hs) Bool.false_ne_true
  | byt i =>
    obtain ⟨t, rfl⟩ := rx
    cases y with
    | byt j => obtain ⟨t', rfl⟩ := ry; exact PySem.W.eq_bytes (fin_bl I q dec_byt)
    | _ => exact absurd (show false = true from hs) Bool.false_ne_true
  | _ => cases y <;> exact absurd (show false = true from hs) Bool.false_ne_true
theorem op_ne : OpR X (compareOp .NotEq) rNe := by
  intro pins s σ H x y v u Q I rx ry h
  obtain ⟨hs, q⟩ := h
  cases x with
  | non =>
    cases rx
    cases y with
    | non => cases ry; exact PySem.EqNone.ne_none_none (fin_bl I q (by simp))
    | bl j => cases ry; exact PySem.EqNone.ne_none_bool (fin_bl I q (by simp))
    | int j => obtain ⟨t', rfl⟩ := ry; exact PySem.EqNone.ne_none_int (fin_bl I q (by simp))
    | str j => obtain ⟨t', rfl⟩ := ry; exact PySem.EqNone.ne_none_str (fin_bl I q (by simp))
    | _ => exact absurd (show false = true from hs) Bool.false_ne_true
  | bl i =>
    cases rx
    cases y with
    | non => cases ry; exact PySem.EqNone.ne_bool_none (fin_bl I q (by simp))
    | bl j => cases ry; exact ne_bool (fin_bl I q (congrArg not dec_bl))
    | str j => obtain ⟨t', rfl⟩ := ry; exact PySem.EqMixed.ne_bool_str (fin_bl I q (by simp))
    | _ => exact absurd (show false = true from hs) Bool.false_ne_true
  | int i =>
    obtain ⟨t, rfl⟩ := rx
    cases y with
    | non => cases ry; exact PySem.EqNone.ne_int_none (fin_bl I q (by simp))
    | int j => obtain ⟨t', rfl⟩ := ry; exact ne_int (fin_bl I q (congrArg not dec_int))
    | str j => obtain ⟨t', rfl⟩ := ry; exact PySem.EqMixed.ne_int_str (fin_bl I q (by simp))
    | _ => exact absurd (show false = true from hs) Bool.false_ne_true
  | str i =>
    obtain ⟨t, rfl⟩ := rx
    cases y with
    | non => cases ry; exact PySem.EqNone.ne_str_none (fin_bl I q (by simp))
    | bl j => cases ry; exact PySem.EqMixed.ne_str_bool (fin_bl I q (by simp))
    | int j => obtain ⟨t', rfl⟩ := ry; exact PySem.EqMixed.ne_str_int (fin_bl I q (by simp))
    | str j => obtain ⟨t', rfl⟩ := ry; exact ne_str (fin_bl I q (congrArg not dec_str))
    | _ => exact absurd (show false = true from hs) Bool.false_ne_true
  | byt i =>
    obtain ⟨t, rfl⟩ := rx
    cases y with
    | byt j => obtain ⟨t', rfl⟩ := ry; exact PySem.W.ne_bytes (fin_bl I q (congrArg not dec_byt))
    | _ => exact absurd (show false = true from hs) Bool.false_ne_true
  | _ => cases y <;> exact absurd (show false = true from hs) Bool.false_ne_true
theorem op_lt : OpR X (compareOp .Lt) (rI0 fun i j => .bl (decide (i < j))) := opB0 fun _ _ _ _ _ _ _ q => lt_int q
theorem op_le : OpR X (compareOp .LtE) (rI0 fun i j => .bl (decide (i ≤ j))) := opB0 fun _ _ _ _ _ _ _ q => le_int q
theorem op_gt : OpR X (compareOp .Gt) (rI0 fun i j => .bl (decide (j < i))) := opB0 fun _ _ _ _ _ _ _ q => gt_int q
theorem op_isN : OpR X (compareOp .Is) (fun x y H Q => y = .non ∧ Q (.bl (decide (x = .non))) H) := by
  intro pins s σ H x y v u Q I rx ry h
  obtain ⟨rfl, q⟩ := h
  cases ry
  refine is_none_gen (fin_bl I q ?_)
  cases x <;> first
    | (cases rx; rfl)
    | (obtain ⟨t, rfl⟩ := rx; rfl)
theorem nomark (b : Expr) {op : CmpOp} (h : op ≠ .In := by decide) (h2 : op ≠ .NotIn := by decide) : behindInMarks op b = false := by
  have e1 : (op == CmpOp.In) = false := by cases op <;> first | rfl | exact absurd rfl h
  have e2 : (op == CmpOp.NotIn) = false := by cases op <;> first | rfl | exact absurd rfl h2
  cases b <;> simp [behindInMarks, e1, e2]
theorem pe_cmpR {op : CmpOp} {r : R2} (ho : OpR X (compareOp op) r) (ha : PE X a ta) (hb : PE X b tb) (hm : behindInMarks op b = false) : PE X (.Compare a [op] [b] pos) (tOp r ta tb) := by
  intro pins s σ H Q I h
  exact wpAny_Compare1 (binT ha hb I h fun v u s2 x y H2 I2 rx ry q => ho pins s2 σ H2 x y v u Q I2 rx ry q) hm
def tTest (t : TE) : TT := fun σ H Q => t σ H fun x H' => ∃ k, x = .bl k ∧ Q k H'
theorem pt_cmpR {op : CmpOp} {r : R2} (ho : OpR X (compareOp op) r) (ha : PE X a ta) (hb : PE X b tb) (hm : behindInMarks op b = false) : PT X (.Compare a [op] [b] pos) (tTest (tOp r ta tb)) := by
  intro pins s σ H Q I h
  refine wpAny_isTrue_Compare1 (thn (ha pins s σ H _ I h) fun v s1 ⟨x, H1, I1, r1, q1⟩ => thn (hb pins s1 σ H1 _ I1 q1) fun u s2 ⟨y, H2, I2, r2, q2⟩ =>
    thn (ho pins s2 σ H2 x y v u _ I2 r1 r2 q2) fun c s3 ⟨z, H3, I3, r3, k, e, q3⟩ => ?_) hm
  subst e
  cases r3
  exact wpAny_truthy_bool ⟨H3, I3, q3⟩
def tChain (r r' : R2) (ta tb tc : TE) : TE := fun σ H Q => ta σ H fun x H1 => tb σ H1 fun y H2 => r x y H2 fun z H3 => ∃ k, z = .bl k ∧
  (if k = true then tc σ H3 fun w' H4 => r' y w' H4 Q else Q (.bl false) H3)
theorem pe_chain {op op' : CmpOp} {r r' : R2} (ho : OpR X (compareOp op) r) (ho' : OpR X (compareOp op') r') (ha : PE X a ta) (hb : PE X b tb) (hc : PE X c tc)
    (hm : lastMarks [op, op'] [b, c] = false := by with_unfolding_all rfl) : PE X (.Compare a [op, op'] [b, c] pos) (tChain r r' ta tb tc) := by
  intro pins s σ H Q I h
  refine Compare_chain (thn (ha pins s σ H _ I h) fun v s1 ⟨x, H1, I1, r1, q1⟩ => chain_link (thn (hb pins s1 σ H1 _ I1 q1) fun u s2 ⟨y, H2, I2, r2, q2⟩ =>
    thn (ho pins s2 σ H2 x y v u _ I2 r1 r2 q2) fun d s3 ⟨z, H3, I3, r3, k, e, q3⟩ => ?_)) hm
  subst e
  cases r3
  refine wpAny_truthy_bool ?_
  cases k with
  | false => exact ite_ff ⟨.bl false, H3, I3, rfl, q3⟩
  | true => exact ite_tt (chain_last (thn (hc pins s3 σ H3 _ I3 q3) fun w' s4 ⟨z', H4, I4, r4, q4⟩ => ho' pins s4 σ H4 y z' u w' Q I4 r2 r4 q4))
theorem line63 : (sizeLine : Nat) < 2 ^ 63 := by rw [sizeLine_eq]; decide
theorem vals1 {x : V} {us : List Value} (r : Vals [x] us) : ∃ u, us = [u] ∧ RelV x u := by
  cases r with
  | cons r1 r2 => cases r2; exact ⟨_, rfl, r1⟩
theorem vals2 {x y : V} {us : List Value} (r : Vals [x, y] us) : ∃ u w', us = [u, w'] ∧ RelV x u ∧ RelV y w' := by
  cases r with
  | cons r1 r2 =>
    cases r2 with
    | cons r3 r4 => cases r4; exact ⟨_, _, rfl, r1, r3⟩
theorem call_abs : CallR X (.builtin "abs") (fun xs H Q => ∃ i, xs = [.int i] ∧ Q (.int (if i < 0 then -i else i)) H) := by
  intro pins s σ H xs us Q I r h
  obtain ⟨i, rfl, q⟩ := h
  obtain ⟨u, rfl, t, rfl⟩ := vals1 r
  exact call_abs_int fun u tk => ⟨.int (if i < 0 then -i else i), H, I.tok _, ⟨_, rfl⟩, q⟩
end
end L2
namespace L2
open PySem PySem.Spec PyProof.Rows
structure ObjM (h : Heap) (x dx C : Addr) (mA : Str → Option Value) : Prop where
  obj : h.get? x = some (PySem.W.instObj C dx)
  ns : h.Ns1 dx mA
  ne : dx ≠ x
theorem lookIn_ns {h : Heap} {dx : Addr} {mA : Str → Option Value} (n : h.Ns1 dx mA) : ∃ od, h.get? dx = some od ∧ ∀ name, PySem.W.lookIn name od = some (mA name) := by
  obtain ⟨o, es, ep, ho, hd, hk, _, hm⟩ := n
  refine ⟨o, ho, fun name => ?_⟩
  have e := hm name
  unfold nsFind findBy at e
  rw [← Array.find?_toList] at e
  unfold PySem.W.lookIn
  rw [hd]
  dsimp only
  split
  · rename_i y q
    rw [q] at e
    exact congrArg some e
  · rename_i q
    rw [q] at e
    have a : es.toList.any (·.refKey) = false := by
      rw [List.any_eq_false]
      intro y hy
      obtain ⟨z, t, hkey⟩ := hk y (Array.mem_toList_iff.mp hy)
      simp [DictEntry.refKey, hkey]
    have a' : ¬ es.toList.any (·.refKey) = true := by rw [a]; exact Bool.false_ne_true
    rw [if_neg a']
    exact congrArg some e
theorem ObjM.look {h : Heap} {x dx C : Addr} {mA : Str → Option Value} (I : ObjM h x dx C mA) : ∃ od, PySem.W.InstAt h x (PySem.W.instObj C dx) C (some od) ∧ ∀ name, PySem.W.lookIn name od = some (mA name) :=
  let ⟨od, ho, hl⟩ := lookIn_ns I.ns
  ⟨od, ⟨I.obj, rfl, rfl, ho⟩, hl⟩
section
variable {prog : Program} {w : World} {A : Around} {E : Value → Shared → Prop} {s : Shared} {K : PySem.W.Frag} {x dx C f : Addr} {mA : Str → Option Value} {name : Str} {v : Value}
end
section
variable {P : Program} {w : World} {H H' : Hp} {h h' : Heap} {a C dx : Addr} {fs fs' : List (Str × V)}
theorem ins_get (hok : HOk P w H h) (e : H a = some (.ins C dx fs)) : ∃ mA, ObjM h a dx C mA ∧ (∀ f, RelO (fs.lookup f) (mA f)) ∧ PySem.Within mA (fs.map (·.1)) ∧ fs.length ≤ 1000 ∧ H dx = some (.own a) := by
  obtain ⟨d, z, ne, ob, mA, n, r, q⟩ := (show ObjOk P w H h a (.ins C dx fs) from hok a _ e)
  exact ⟨mA, ⟨ob, n, ne⟩, r, q, z, d⟩
end
structure Cls (K : PySem.W.Frag) (C : Addr) : Prop where
  pg : PySem.W.plainGet K C Str.empty = true
  hd : PySem.W.hasDictIn K C = true
  po : PySem.W.plainOver K C = true
  sa : PySem.W.findIn K (.ref C) "__setattr__" = some (some (.builtin "object.__setattr__"))
theorem Cls.get {K : PySem.W.Frag} {C : Addr} (c : Cls K C) (f : Str) : PySem.W.plainGet K C f = true := c.pg
structure Con (K : PySem.W.Frag) (C : Addr) (f : Str) (v : V) (u : Value) : Prop where
  at_ : PySem.W.findIn K (.ref C) f = some (some u)
  rel : RelV v u
  get : PySem.W.specialIn K u "__get__" = some none
  cp : PySem.W.copiedNames.contains f = false
structure Meth (K : PySem.W.Frag) (C : Addr) (m : Str) (f : Addr) : Prop where
  at_ : PySem.W.findIn K (.ref C) m = some (some (.ref f))
  fn : PySem.W.isFn K (.ref f) = true
  kp : PySem.W.keepIn K (.ref f) = true
section
variable {X : Cx} {pins : List (Addr × Obj)} {σ : St} {H : Hp} {s : Shared} {a C dx : Addr} {fs : List (Str × V)} {f : Str} {v : V} {A : Around} {E : Value → Shared → Prop}
theorem Inv.made (I : Inv X pins σ H s) : Inv X pins σ (upd (upd H s.heap.objs.size (.own (s.heap.objs.size + 1))) (s.heap.objs.size + 1) (.ins C s.heap.objs.size []))
    { s with heap := (s.heap.push PySem.W.emptyDict).push (PySem.W.instObj C s.heap.objs.size) } := by
  have e1 : (s.heap.push PySem.W.emptyDict).get? s.heap.objs.size = some PySem.W.emptyDict := Heap.get?_push_size s.heap rfl
  have e2 : ((s.heap.push PySem.W.emptyDict).push (PySem.W.instObj C s.heap.objs.size)).get? (s.heap.objs.size + 1) = some (PySem.W.instObj C s.heap.objs.size) := by
    have := Heap.get?_push_size (s.heap.push PySem.W.emptyDict) (o := PySem.W.instObj C s.heap.objs.size) rfl
    rwa [Heap.size_push] at this
  have e3 : (s.heap.push PySem.W.emptyDict).Ns s.heap.objs.size (fun _ => none) := ⟨PySem.W.emptyDict, #[], _, e1, rfl, (fun e he => absurd he (by simp)), fun _ => rfl⟩
  have I1 := I.laid (a := s.heap.objs.size) (o := .own (s.heap.objs.size + 1)) (h' := s.heap.push PySem.W.emptyDict) (t' := s.toks) (fun b u q => Heap.get?_push_of_some _ q) (Nat.le_refl _) ⟨_, e1⟩
  refine I1.laid (a := s.heap.objs.size + 1) (o := .ins C s.heap.objs.size []) (t' := s.toks) (fun b u q => Heap.get?_push_of_some _ q) (Nat.le_of_eq (Heap.size_push _ _)) ?_
  have ne : s.heap.objs.size ≠ s.heap.objs.size + 1 := Nat.ne_of_lt (Nat.lt_succ_self _)
  refine ⟨by rw [upd_ne ne, upd_same], Nat.zero_le _, ne, e2, fun _ => none, (Heap.Ns1.of_empty e3).at fun o q => Heap.get?_push_of_some _ q, fun _ => True.intro, fun y hy => absurd rfl hy⟩
end
section
variable {X : Cx} {o e value : Expr} {f : Str} {pos pos' tpos : Pos} {ta tv : TE}
end
section
variable {X : Cx} {pins : List (Addr × Obj)} {σ : St} {H : Hp} {s : Shared} {A : Around} {E : Value → Shared → Prop} {Q : Value → Shared → Prop} {c : Value} {b : Bool}
inductive TyOf (K : PySem.W.Frag) (H : Hp) : V → Value → Prop where
  | non : TyOf K H .non (.type "NoneType")
  | bl (x : Bool) : TyOf K H (.bl x) (.type "bool")
  | int (i : Int) : TyOf K H (.int i) (.type "int")
  | str (x : Str) : TyOf K H (.str x) (.type "str")
  | flt (x : UInt64) : TyOf K H (.flt x) (.type "float")
  | lst {a : Addr} {xs : List V} (e : H a = some (.lst xs)) : TyOf K H (.ref a) (.type "list")
  | frz {a : Addr} {o : Obj} {xs : List V} (e : H a = some (.frz o (.lst xs))) : TyOf K H (.ref a) (.type "list")
  | tup {a : Addr} {xs : List V} (e : H a = some (.tup xs)) : TyOf K H (.ref a) (.type "tuple")
  | dK {a : Addr} {kvs : List (Key × V)} (e : H a = some (.dK kvs)) : TyOf K H (.ref a) (.type "dict")
  | dT {a : Addr} {kvs : List (List Key × V)} (e : H a = some (.dT kvs)) : TyOf K H (.ref a) (.type "dict")
  | ins {a C dx : Addr} {fs : List (Str × V)} (e : H a = some (.ins C dx fs)) (cl : Cls K C) (ha : PySem.W.findIn K (.ref C) "__class__" = some (some (.builtin "object.__class__")))
      (hn : PySem.W.specialIn K (.builtin "object.__class__") "__get__" = some (some (.builtin "getset_descriptor.__get__"))) (htk : PySem.W.takesIn K (.builtin "object.__class__") = some true)
      (hm : PySem.W.mroIn K C (.type "object") = some true) : TyOf K H (.ref a) (.ref C)
theorem isinst_ok {x : V} {u t : Value} (I : Inv X pins σ H s) (rx : RelV x u) (ty : TyOf X.K H x t) (e : PySem.W.kitOne X.K t c = some b) (h : ∀ tk, Q (.bool b) { s with toks := tk }) :
    wpAny (model X.prog X.w) A (call (.builtin "isinstance") [u, c]) Q E s := by
  cases ty with
  | non => cases (show u = Value.none from rx); exact PySem.W.kia_one PySem.W.kitx_none I.kIn True.intro e (fun z => nomatch z) h
  | bl y => cases (show u = Value.bool y from rx); exact PySem.W.kia_one PySem.W.kitx_bool I.kIn True.intro e (fun z => nomatch z) h
  | int i => obtain ⟨t, q⟩ := (show ∃ t, u = Value.int i t from rx); cases q; exact PySem.W.kia_one PySem.W.kitx_int I.kIn True.intro e (fun z => nomatch z) h
  | str y => obtain ⟨t, q⟩ := (show ∃ t, u = Value.str y t from rx); cases q; exact PySem.W.kia_one PySem.W.kitx_str I.kIn True.intro e (fun z => nomatch z) h
  | flt y => obtain ⟨t, q⟩ := (show ∃ t, u = Value.float y t from rx); cases q; exact PySem.W.kia_one PySem.W.kitx_float I.kIn True.intro e (fun z => nomatch z) h
  | @lst a xs ea =>
    cases (show u = Value.ref a from rx)
    obtain ⟨_, _, n, _, h1⟩ := (show ObjOk X.prog X.w H s.heap a (.lst xs) from I.hok a _ ea)
    exact PySem.W.kia_one PySem.W.kitx_list I.kIn ⟨_, h1, rfl⟩ e (fun z => nomatch z) h
  | @frz a ob xs ea =>
    cases (show u = Value.ref a from rx)
    obtain ⟨_, _, _, n, _, h1⟩ := (show ObjOk X.prog X.w H s.heap a (.frz ob (.lst xs)) from I.hok a _ ea)
    exact PySem.W.kia_one PySem.W.kitx_list I.kIn ⟨_, h1, rfl⟩ e (fun z => nomatch z) h
  | @tup a xs ea =>
    cases (show u = Value.ref a from rx)
    obtain ⟨_, _, _, p⟩ := (show ObjOk X.prog X.w H s.heap a (.tup xs) from I.hok a _ ea)
    obtain ⟨o, h1, h2, _⟩ := p
    exact PySem.W.kia_one PySem.W.kitx_tuple I.kIn ⟨o, h1, h2⟩ e (fun z => nomatch z) h
  | @dK a kvs ea =>
    cases (show u = Value.ref a from rx)
    obtain ⟨_, _, vs, _, p⟩ := (show ObjOk X.prog X.w H s.heap a (.dK kvs) from I.hok a _ ea)
    obtain ⟨o, es, ep, h1, h2, _⟩ := p
    exact PySem.W.kia_one PySem.W.kitx_dict I.kIn ⟨o, h1, h2.1⟩ e (fun z => nomatch z) h
  | @dT a kvs ea =>
    cases (show u = Value.ref a from rx)
    obtain ⟨_, _, xs, _, o, es, ep, h1, h2, _⟩ := (show ObjOk X.prog X.w H s.heap a (.dT kvs) from I.hok a _ ea)
    exact PySem.W.kia_one PySem.W.kitx_dict I.kIn ⟨o, h1, h2.1⟩ e (fun z => nomatch z) h
  | @ins a C dx fs ea cl ha hn htk hm =>
    cases (show u = Value.ref a from rx)
    obtain ⟨mA, O, _⟩ := ins_get I.hok ea
    obtain ⟨od, J, _⟩ := O.look
    exact PySem.W.kia_one (PySem.W.kitx_own (cl.get _) cl.hd ha hn htk hm) I.kIn J e (fun z => nomatch z) h
end
end L2
namespace L2
open PySem PySem.Spec PyProof.Rows
structure Room (k : Nat) (A : Around) : Prop where
  hd : A.handled = none
  dp : A.depth + 3 * k + 5 < recursionLimit
  un : A.units + 16 * k + 200 < cLine
theorem Room.mono {j k : Nat} {A : Around} (r : Room k A) (h : j ≤ k) : Room j A := ⟨r.hd, by have := r.dp; omega, by have := r.un; omega⟩
theorem Room.deeper {k : Nat} {A : Around} (r : Room (k + 1) A) (env : Env) : Room k (A.deeper env) :=
  ⟨r.hd, by have := r.dp; show A.depth + 1 + 3 * k + 5 < _; omega, by have := r.un; show A.units + 3 + 16 * k + 200 < _; omega⟩
theorem Room.in1 {k : Nat} {A : Around} (r : Room (k + 1) A) : Room k A.in1 :=
  ⟨r.hd, by have := r.dp; show A.depth + 3 * k + 5 < _; omega, by have := r.un; show A.units + 1 + 16 * k + 200 < _; omega⟩
theorem Room.depth {k : Nat} {A : Around} (r : Room k A) : A.depth < recursionLimit := by have := r.dp; omega
theorem Room.units {k : Nat} {A : Around} (r : Room k A) : A.units + 64 < cLine := by have := r.un; omega
theorem Room.units0 {k : Nat} {A : Around} (r : Room k A) : A.units < cLine := by have := r.un; omega
def tNil : TA := fun _ H Q => Q [] H
def tCons (ta : TE) (tr : TA) : TA := fun σ H Q => ta σ H fun x H1 => tr σ H1 fun xs H2 => Q (x :: xs) H2
section
variable {X : Cx} {e : Expr} {es : List Expr} {te : TE} {t : TA} {pos : Pos}
theorem pa_nil : PA X [] tNil := fun _ _ _ _ H Q I h => Calls.spliced_nil ⟨[], H, I, .nil, h⟩
theorem pa_cons (ha : PE X e te) (hr : PA X es t) (hs : starEach (e :: es) X.env = (false, eval e X.env) :: starEach es X.env := by rfl) : PA X (e :: es) (tCons te t) := by
  intro pos pins s σ H Q I h
  rw [hs]
  show wpAny _ _ (spliced ((false, eval e X.env) :: backTo pos (starEach es X.env))) _ _ s
  refine Calls.spliced_cons (thn (ha pins s σ H _ I h) fun u s1 ⟨x, H1, I1, r1, q1⟩ => ?_)
  exact thn (hr pos pins s1 σ H1 _ I1 q1) fun us s2 ⟨xs, H2, I2, r2, q2⟩ => ⟨x :: xs, H2, I2, .cons r1 r2, q2⟩
def tTup (t : TA) : TE := fun σ H Q => t σ H fun xs H1 => xs.length ≤ sizeLine ∧ ∀ p, H1 p = none → Q (.ref p) (upd H1 p (.tup xs))
def tLst (t : TA) : TE := fun σ H Q => t σ H fun xs H1 => xs.length ≤ sizeLine ∧ ∀ p, H1 p = none → Q (.ref p) (upd H1 p (.lst xs))
theorem pe_tup {x1} (h : PA X es t) : PE X (.Tuple es x1 pos) (tTup t) := by
  intro pins s σ H Q I hq
  refine wpAny_Tuple_spliced (thn (h pos pins s σ H _ I hq) fun us s1 ⟨xs, H1, I1, r, z, q⟩ => ⟨by rw [← r.length]; exact z, ?_⟩)
  have hf : H1 s1.heap.objs.size = none := I1.hok.fresh (Nat.le_refl _)
  refine ⟨.ref s1.heap.objs.size, upd H1 s1.heap.objs.size (.tup xs), I1.laid (t' := s1.toks) (fun b u e => Heap.get?_push_of_some _ e) (Nat.le_refl _) ?_, rfl, q _ hf⟩
  exact ⟨z, us, r, ⟨_, Heap.get?_push_size _ rfl, rfl, _, rfl⟩⟩
theorem pe_lst (h : PA X es t) : PE X (.List es pos) (tLst t) := by
  intro pins s σ H Q I hq
  refine wpAny_List_spliced (thn (h pos pins s σ H _ I hq) fun us s1 ⟨xs, H1, I1, r, z, q⟩ => ⟨by rw [← r.length]; exact z, ?_⟩)
  have hf : H1 s1.heap.objs.size = none := I1.hok.fresh (Nat.le_refl _)
  refine ⟨.ref s1.heap.objs.size, upd H1 s1.heap.objs.size (.lst xs), I1.laid (t' := s1.toks) (fun b u e => Heap.get?_push_of_some _ e) (Nat.le_refl _) ?_, rfl, q _ hf⟩
  exact ⟨z, us, 0, r, Heap.get?_push_size _ rfl⟩
end
abbrev Sp := List V → Hp → VK → XK → Prop
abbrev CXT := List Env → Hp → Shared → XK → Value → Shared → Prop
structure Env0 (P : Program) (w : World) (K : PySem.W.Frag) (mg : Str → Option Value) (base : Heap) (A : Around) (outer : List Env) (s : Shared) (H : Hp) : Prop where
  frames : A.frames = some outer
  mod : Mod K mg base
  bs : ∀ b o, base.get? b = some o → s.heap.get? b = some o ∧ H b = none
  bsz : base.objs.size ≤ s.heap.objs.size
  funs : s.heap.FunFrames base outer
  frf : ∀ b ∈ frs outer, H b = none
  hok : HOk P w H s.heap
  bare : AllBare s.gens
def CE (outer : List Env) (P : Program) (w : World) (H : Hp) (s : Shared) (Q : VK) (u : Value) (s' : Shared) : Prop :=
  ∃ v H', s'.os = s.os ∧ AllBare s'.gens ∧ Un (frs outer) [] H H' s.heap s'.heap ∧ HOk P w H' s'.heap ∧ RelV v u ∧ Q v H'
def CR (CX : CXT) (outer : List Env) (P : Program) (w : World) (H : Hp) (s : Shared) (Q : VK) (E : XK) (r : Result) (s' : Shared) : Prop :=
  match r with
  | .ok (.ret u) => CE outer P w H s Q u s'
  | .ok _ => False
  | .error e => CX outer H s E e s'
structure FnOk (P : Program) (w : World) (K : PySem.W.Frag) (mg : Str → Option Value) (base : Heap) (CX : CXT) (k : Nat) (f : Addr) (fd : FuncData) (ps : List Str) (sp : Sp) : Prop where
  len : ∀ vs H Q E, sp vs H Q E → vs.length = ps.length
  run : ∀ (A : Around) (outer : List Env) (s : Shared) (H : Hp) (args : Args) (us : List Value) (vs : List V) (Q : VK) (E : XK), Room k A → Env0 P w K mg base A outer s H → BindsTo s fd args (ps.zip us) → Vals vs us → sp vs H Q E →
    codeAny (model P w) A (.call (.ref f) args) (CR CX outer P w H s Q E) s
theorem FnOk.mono {P : Program} {w : World} {K : PySem.W.Frag} {mg : Str → Option Value} {base : Heap} {CX : CXT} {j k : Nat} {f : Addr} {fd : FuncData} {ps : List Str} {sp : Sp} (F : FnOk P w K mg base CX j f fd ps sp) (h : j ≤ k) :
    FnOk P w K mg base CX k f fd ps sp := ⟨F.len, fun A outer s H args us vs Q E hr => F.run A outer s H args us vs Q E (hr.mono h)⟩
theorem FnOk.imp {P : Program} {w : World} {K : PySem.W.Frag} {mg : Str → Option Value} {base : Heap} {CX : CXT} {k : Nat} {f : Addr} {fd : FuncData} {ps : List Str} {sp sp' : Sp} (F : FnOk P w K mg base CX k f fd ps sp)
    (h : ∀ vs H Q E, sp' vs H Q E → sp vs H Q E) : FnOk P w K mg base CX k f fd ps sp' :=
  ⟨fun vs H Q E q => F.len vs H Q E (h _ _ _ _ q), fun A outer s H args us vs Q E hr he hb hv hs => F.run A outer s H args us vs Q E hr he hb hv (h _ _ _ _ hs)⟩
theorem Env0.in1 {P : Program} {w : World} {K : PySem.W.Frag} {mg : Str → Option Value} {base : Heap} {A : Around} {outer : List Env} {s : Shared} {H : Hp} (e : Env0 P w K mg base A outer s H) :
    Env0 P w K mg base A.in1 outer s H := ⟨e.frames, e.mod, e.bs, e.bsz, e.funs, e.frf, e.hok, e.bare⟩
section
variable {X : Cx} {pins : List (Addr × Obj)} {σ : St} {H : Hp} {s s' : Shared}
theorem Inv.env0 (I : Inv X pins σ H s) : Env0 X.prog X.w X.K X.mg X.base X.A X.stack s H :=
  ⟨I.ok.frames, I.ok.mod, I.bs, Nat.le_trans I.ok.bsz I.sz, I.stack, I.stkFree, I.hok, I.bare⟩
theorem Inv.after {Q : VK} {u : Value} (I : Inv X pins σ H s) (h : CE X.stack X.prog X.w H s Q u s') : EP X pins σ Q u s' := by
  obtain ⟨v, H', os, bare, un, hok, r, q⟩ := h
  obtain ⟨hh, g, d, t, os'⟩ := s'
  obtain rfl : os' = s.os := os
  exact ⟨v, H', I.call (h' := hh) (g' := g) (d' := d) (t' := t) (ch := []) un hok bare (fun b z => absurd z (by simp)), r, q⟩
end
def tCall (sp : Sp) (dvs : List V) (E : XK) (t : TA) : TE := fun σ H Q => t σ H fun vs H1 => sp (vs ++ dvs) H1 Q E
def Binds (K : PySem.W.Frag) (fd : FuncData) (ps : List Str) (ds : List Value) : Prop :=
  ∀ (s : Shared) (us : List Value), K.In s.heap → (us ++ ds).length = ps.length → BindsTo s fd ⟨us, []⟩ (ps.zip (us ++ ds))
theorem Binds.all {K : PySem.W.Frag} {fd : FuncData} {ps : List Str} (h : ∀ us : List Value, us.length = ps.length → bindArgs fd ⟨us, []⟩ = pure (ps.zip us)) : Binds K fd ps [] := fun s us _ hl => by
  rw [List.append_nil] at hl ⊢
  exact .of_eq (h us hl)
def Passes (CX : CXT) (X : Cx) (E : XK) : Prop := ∀ (pins : List (Addr × Obj)) (σ : St) (H : Hp) (s : Shared) (e : Value) (s' : Shared), Inv X pins σ H s → CX X.stack H s E e s' → X.xe e s'
section
variable {X : Cx} {CX : CXT} {k : Nat} {f C : Addr} {fd : FuncData} {ps : List Str} {sp : Sp} {dvs : List V} {ds : List Value} {E : XK} {x m : Str} {p pos apos : Pos} {e o : Expr} {es : List Expr} {ta : TE} {t : TA}
theorem run_fn {pins : List (Addr × Obj)} {σ : St} {H : Hp} {s : Shared} {Q : VK} {us : List Value} {vs : List V} (F : FnOk X.prog X.w X.K X.mg X.base CX k f fd ps sp) (hr : Room k X.A) (hb : Binds X.K fd ps ds) (hd : Vals dvs ds) (hx : Passes CX X E)
    (I : Inv X pins σ H s) (r : Vals vs us) (h : sp (vs ++ dvs) H Q E) : wpAny (model X.prog X.w) X.A (call (.ref f) us) (EP X pins σ Q) X.xe s := by
  have r2 : Vals (vs ++ dvs) (us ++ ds) := r.append hd
  have hl : (us ++ ds).length = ps.length := by rw [← r2.length]; exact F.len _ _ _ _ h
  refine wpAny_call (codeAny_mono (F.run X.A X.stack s H ⟨us, []⟩ (us ++ ds) (vs ++ dvs) Q E hr I.env0 (hb s us I.kIn hl) r2 h) fun r s' hq => ?_)
  cases r with
  | error e => exact hx pins σ H s e s' I hq
  | ok fl =>
    cases fl with
    | ret u => exact I.after hq
    | next => exact False.elim hq
    | brk => exact False.elim hq
    | cont => exact False.elim hq
theorem pe_call (F : FnOk X.prog X.w X.K X.mg X.base CX k f fd ps sp) (hr : Room k X.A) (hg : Gl X x) (hm : X.mg x = some (.ref f)) (hk : PySem.W.keepIn X.K (.ref f) = true) (hb : Binds X.K fd ps ds) (hd : Vals dvs ds) (hx : Passes CX X E)
    (ha : PA X (e :: es) t) (hdb : (x == ("__debug__" : Str)) = false := by decide) (he : starEach (e :: es) X.env = (false, eval e X.env) :: starEach es X.env := by rfl) (hpl : (backTo pos (starEach es X.env)).any (·.1) = false := by rfl) :
    PE X (.Call (.Name x p) (e :: es) [] pos) (tCall sp dvs E t) := by
  intro pins s σ H Q I h
  refine wpAny_Call_Name_kw (ld_glob I hg hm ?_ hdb)
  refine PySem.W.callWith_K (h₀ := X.base) I.ok.mod.kin hk (thn (ha pos pins s σ H _ I h) fun us s1 ⟨vs, H1, I1, r, q⟩ => ⟨I1.kIn, ?_⟩) he hpl
  exact run_fn F hr hb hd hx I1 r q
structure Mk (K : PySem.W.Frag) (C f : Addr) : Prop where
  makes : PySem.W.makesIn K C = true
  init : PySem.W.findIn K (.ref C) "__init__" = some (some (.ref f))
  fn : PySem.W.isFn K (.ref f) = true
  kp : PySem.W.keepIn K (.ref C) = true
end
section
variable {X : Cx} {CX : CXT} {k : Nat} {f C : Addr} {fd : FuncData} {ps ks : List Str} {sp : Sp} {E : XK} {x m : Str} {p pos apos kpos : Pos} {e o : Expr} {es : List Expr} {kws : List Keyword} {te ta : TE} {t tk : TA} {nm : Option Str}
structure KBinds (K : PySem.W.Frag) (fd : FuncData) (ps ks : List Str) (g : List Value → List Value → List Value) (gV : List V → List V → List V) : Prop where
  to : ∀ (s : Shared) (us ws : List Value), K.In s.heap → (g us ws).length = ps.length → BindsTo s fd ⟨us, ks.zip ws⟩ (ps.zip (g us ws))
  rel : ∀ {vs : List V} {us : List Value} {zs : List V} {ws : List Value}, Vals vs us → Vals zs ws → Vals (gV vs zs) (g us ws)
variable {g : List Value → List Value → List Value} {gV : List V → List V → List V}
end
structure FnScope (N P : List Str) (sc : Scope) : Prop where
  kind : sc.kind = .function
  co : sc.isCoroutine = false
  gen : sc.isGenerator = false
  nd : N.Nodup
  pre : N.take P.length = P
  par : ∀ x ∈ P, sc.names.lookup x = some .local ∨ sc.names.lookup x = some .cell
  nofree : ∀ y ∈ sc.names, y.2 ≠ .free
theorem bindL_out {kindOf : Str → Option NameKind} {x : Str} : ∀ {binds : List (Str × Value)} {m : Str → Option Value}, (∀ v, (x, v) ∉ binds) → bindL kindOf binds m x = m x
  | [], _, _ => rfl
  | (n, v) :: r, m, h => by
    unfold bindL
    rw [bindL_out fun w hw => h w (List.mem_cons_of_mem _ hw)]
    split
    · have : x ≠ n := by rintro rfl; exact h v List.mem_cons_self
      simp [this]
    · rfl
theorem bindC_out {kindOf : Str → Option NameKind} {x : Str} : ∀ {binds : List (Str × Value)} {m : Str → Option Value}, (∀ v, (x, v) ∉ binds) → bindC kindOf binds m x = m x
  | [], _, _ => rfl
  | (n, v) :: r, m, h => by
    unfold bindC
    rw [bindC_out fun w hw => h w (List.mem_cons_of_mem _ hw)]
    split
    · rfl
    · have : x ≠ n := by rintro rfl; exact h v List.mem_cons_self
      simp [this]
theorem bindL_get {kindOf : Str → Option NameKind} {x : Str} {v : Value} : ∀ {P : List Str} {vs : List Value} {i : Nat} {m : Str → Option Value}, P.Nodup → P[i]? = some x → vs[i]? = some v → kindOf x = some .local →
    bindL kindOf (P.zip vs) m x = some v
  | [], _, _, _, _, h, _, _ => by simp at h
  | _ :: _, [], _, _, _, _, h, _ => by simp at h
  | p :: P, w :: vs, 0, m, nd, h1, h2, hk => by
    simp at h1 h2; subst h1; subst h2
    show bindL kindOf ((p, w) :: P.zip vs) m p = _
    unfold bindL
    rw [bindL_out fun v hv => (List.nodup_cons.mp nd).1 (List.of_mem_zip hv).1, if_pos hk]
    simp
  | p :: P, w :: vs, i + 1, m, nd, h1, h2, hk => by
    show bindL kindOf ((p, w) :: P.zip vs) m x = _
    unfold bindL
    exact bindL_get (i := i) (List.nodup_cons.mp nd).2 (by simpa using h1) (by simpa using h2) hk
theorem bindC_get {kindOf : Str → Option NameKind} {x : Str} {v : Value} : ∀ {P : List Str} {vs : List Value} {i : Nat} {m : Str → Option Value}, P.Nodup → P[i]? = some x → vs[i]? = some v → kindOf x ≠ some .local →
    bindC kindOf (P.zip vs) m x = some v
  | [], _, _, _, _, h, _, _ => by simp at h
  | _ :: _, [], _, _, _, _, h, _ => by simp at h
  | p :: P, w :: vs, 0, m, nd, h1, h2, hk => by
    simp at h1 h2; subst h1; subst h2
    show bindC kindOf ((p, w) :: P.zip vs) m p = _
    unfold bindC
    rw [bindC_out fun v hv => (List.nodup_cons.mp nd).1 (List.of_mem_zip hv).1, if_neg hk]
    simp
  | p :: P, w :: vs, i + 1, m, nd, h1, h2, hk => by
    show bindC kindOf ((p, w) :: P.zip vs) m x = _
    unfold bindC
    exact bindC_get (i := i) (List.nodup_cons.mp nd).2 (by simpa using h1) (by simpa using h2) hk
def start (N : List Str) (vs : List V) : St := vs.map some ++ List.replicate (N.length - vs.length) none
def cxOf (CX : CXT) (P : Program) (w : World) (K : PySem.W.Frag) (mg : Str → Option Value) (base : Heap) (N : List Str) (qual : Str) (scope : Scope) (f : Addr) (cd : Value) (A : Around) (outer : List Env) (s : Shared) (H : Hp) (E : XK) : Cx where
  prog := P
  w := w
  K := K
  mg := mg
  base := base
  A := A.deeper (envOfC qual scope s.heap.objs.size f cd)
  N := N
  s₀ := s
  H₀ := H
  env := envOfC qual scope s.heap.objs.size f cd
  outer := outer
  stack := envOfC qual scope s.heap.objs.size f cd :: outer
  ex := []
  calm := true
  fn := fun _ => true
  pn := []
  xe := fun e s' => wpAny (model P w) (A.deeper (envOfC qual scope s.heap.objs.size f cd)) (leaving (envOfC qual scope s.heap.objs.size f cd) e) (fun _ s'' => CX outer H s E e s'') (fun e' s'' => CX outer H s E e' s'') s'
theorem cell_has {sc : Scope} {n : Nat} {x : Str} (h : sc.names.lookup x = some .cell) : ∃ c, (cellsFrom n sc.names []).lookup x = some c := by
  have q := PySem.W.cellsFrom_some sc.names n [] (.inl h)
  exact Option.isSome_iff_exists.mp q
theorem inv_start {CX : CXT} {P : Program} {w : World} {K : PySem.W.Frag} {mg : Str → Option Value} {base : Heap} {N ps : List Str} {qual : Str} {scope : Scope} {f : Addr} {cd : Value} {A : Around} {outer : List Env} {s s1 : Shared} {H : Hp} {E : XK} {us : List Value} {vs : List V}
    (S : FnScope N ps scope) (hd : A.handled = none) (e0 : Env0 P w K mg base A outer s H) (hl : vs.length = ps.length) (r : Vals vs us)
    (x : InCallC s s.heap.objs.size (bindL (envOfC qual scope s.heap.objs.size f cd).kindOf (ps.zip us) fun _ => none) (cellsFrom (s.heap.objs.size + 1) scope.names []) (bindC (envOfC qual scope s.heap.objs.size f cd).kindOf (ps.zip us) fun _ => none) s1) :
    Inv (cxOf CX P w K mg base N qual scope f cd A outer s H E) [] (start N vs) H s1 := by
  have hpl : ps.length ≤ N.length := by have := congrArg List.length S.pre; rw [List.length_take] at this; omega
  obtain ⟨h1, tk, rfl, hk⟩ := x.done
  have noA : ∀ b : Addr, b ∉ (cxOf CX P w K mg base N qual scope f cd A outer s H E).ex := fun b z => absurd (show b ∈ ([] : List Addr) from z) (by simp)
  refine ⟨⟨e0.mod, S.kind, rfl, rfl, Nat.le_refl _, fun y z c h1 h2 => ?_, fun y hy => ?_, fun y c _ h => ?_, fun _ => hd, Around.frames_deeper e0.frames, .inr ⟨rfl, rfl⟩, fun b z => absurd z (noA b), e0.bs, e0.bsz, fun b _ _ => noA b, fun b z => absurd z (noA b), e0.funs, e0.frf⟩,
    rfl, e0.bare, Un.kept hk, ⟨_, x.toInCall.ns, fun i y v h1 h2 h3 => ?_⟩, fun y c h => ⟨_, x.cell y c h⟩, e0.hok.fresh (Nat.le_refl _), fun y c h => ?_, fun p hp => absurd (show p ∈ ([] : List (Addr × Obj)) from hp) (by simp), e0.hok.kept hk, ?_⟩
  · exact name_of_addr x.apart (PySem.mem_of_lookup h1) (PySem.mem_of_lookup h2)
  · have hy : scope.names.lookup y = some .cell ∨ scope.names.lookup y = some .free := hy
    rcases hy with hy | hy
    · exact cell_has hy
    · exact absurd rfl (S.nofree _ (PySem.mem_of_lookup hy))
  · exact Nat.le_of_lt (x.above y c (PySem.mem_of_lookup h))
  · have hi : i < vs.length := by
      unfold start at h2
      by_cases hi : i < vs.length
      · exact hi
      · rw [List.getElem?_append_right (by simpa using hi)] at h2
        rw [List.getElem?_replicate] at h2
        split at h2 <;> cases h2
    have ha : vs[i]? = some v := by
      unfold start at h2
      rw [List.getElem?_append_left (by simpa using hi), List.getElem?_map] at h2
      cases e : vs[i]? with
      | none => rw [e] at h2; cases h2
      | some a => rw [e] at h2; cases h2; rfl
    obtain ⟨u, hu, rv⟩ := r.get ha
    have hp : ps[i]? = some y := by
      rw [← S.pre, List.getElem?_take_of_lt (by omega)]; exact h1
    have ndP : ps.Nodup := by rw [← S.pre]; exact S.nd.sublist (List.take_sublist _ _)
    refine ⟨u, rv, ?_⟩
    rcases S.par y (List.mem_of_getElem? hp) with k | k
    · exact .inl ⟨k, bindL_get ndP hp hu k⟩
    · obtain ⟨c, e⟩ := cell_has (n := s.heap.objs.size + 1) k
      refine .inr ⟨.inl k, c, e, ?_⟩
      have q := x.cell y c e
      rw [bindC_get ndP hp hu (by show scope.names.lookup y ≠ _; rw [k]; decide)] at q
      exact q
  · exact e0.hok.fresh (Nat.le_of_lt (x.above y c (PySem.mem_of_lookup h)))
  · unfold start
    show _ = N.length
    rw [List.length_append, List.length_map, List.length_replicate]
    omega
theorem fn_of {CX : CXT} {P : Program} {w : World} {K : PySem.W.Frag} {mg : Str → Option Value} {base : Heap} {k : Nat} {f : Addr} {name qual : Str} {params : Arguments} {body : List Stmt} {scope : Scope} {dV kV doc pm cdv ct oc : Value} {an od : Option Addr}
    {osl : Array (Option Value)} {N ps : List Str} {sp : Sp} (lk : K.lookup f = some ⟨oc, od, .func (PySem.W.fnOf name qual params body scope dV kV doc pm an cdv ct), osl⟩) (hcd : PySem.W.codeIn K cdv qual = true) (S : FnScope N ps scope)
    (len : ∀ vs H Q E, sp vs H Q E → vs.length = ps.length)
    (hbody : ∀ (A : Around) (outer : List Env) (s : Shared) (H : Hp) (vs : List V) (Q : VK) (E : XK), Room k (A.deeper (envOfC qual scope s.heap.objs.size f cdv)) → sp vs H Q E →
      ∃ t, PSs (cxOf CX P w K mg base N qual scope f cdv A outer s H E) body t ∧ t { nx := fun _ H' => Q .non H', rt := Q } (start N vs) H) :
    FnOk P w K mg base CX (k + 1) f (PySem.W.fnOf name qual params body scope dV kV doc pm an cdv ct) ps sp := by
  refine ⟨len, fun A outer s H args us vs Q E hr e0 hb r hsp => ?_⟩
  have hl := len _ _ _ _ hsp
  have KX : K.In s.heap := e0.mod.kin.keeps fun b o e => (e0.bs b o e).1
  have lim : s.heap.NoLimit := e0.mod.nolimit.keeps fun b o e => (e0.bs b o e).1
  have hkind : ∀ y ∈ ps.zip us, scope.names.lookup y.1 = some .local ∨ (scope.names.lookup y.1 = some .cell ∧ ((cellsFrom (s.heap.objs.size + 1) scope.names []).lookup y.1).isSome = true) := fun ⟨n, v⟩ hy => by
    rcases S.par n (List.of_mem_zip hy).1 with q | q
    · exact .inl q
    · exact .inr ⟨q, PySem.W.cellsFrom_some _ _ _ (.inl q)⟩
  refine codeAny_call_function hr.depth (KX _ _ lk) rfl S.co S.gen rfl (PySem.W.codeRec_of KX hcd) (hb _ _ _ _ ?_)
  refine wpAny_newFunctionEnv_cells S.kind hkind fun env he s1 x => ?_
  subst he
  refine ⟨lim.keeps x.toInCall.keep, codeAny_func ?_⟩
  obtain ⟨t, ht, hq⟩ := hbody A outer s H vs Q E (hr.deeper _) hsp
  have I : Inv (cxOf CX P w K mg base N qual scope f cdv A outer s H E) [] (start N vs) H s1 := inv_start S hr.hd e0 hl r x
  refine wpAny_mono (ht [] s1 (start N vs) H _ I hq) (fun fl s' hs => ?_) fun e s' hs => hs
  have fin : ∀ {σ' : St} {H' : Hp} {v : V} {u : Value}, Inv (cxOf CX P w K mg base N qual scope f cdv A outer s H E) [] σ' H' s' → RelV v u → Q v H' → CE outer P w H s Q u s' :=
    fun {σ' H' v u} J rv q => ⟨v, H', J.os, J.bare, J.base, J.hok, rv, q⟩
  cases fl with
  | ret u =>
    obtain ⟨v, σ', H', J, rv, q⟩ := hs
    exact fin J rv q
  | next =>
    obtain ⟨σ', H', J, q⟩ := hs
    exact fin (v := V.non) (u := Value.none) J rfl q
  | brk =>
    obtain ⟨_, _, _, q⟩ := hs
    exact False.elim q
  | cont =>
    obtain ⟨_, _, _, q⟩ := hs
    exact False.elim q
end L2
namespace L2
open PySem PySem.Spec PyProof.Rows
section
variable {X : Cx} {x : Str} {p pos : Pos} {e : Expr} {es : List Expr} {t : TA} {id T : String} {r : List V → Hp → VK → Prop}
def tCB (r : List V → Hp → VK → Prop) (t : TA) : TE := fun σ H Q => t σ H fun vs H1 => r vs H1 Q
theorem pe_callB (hc : CallR X (.builtin id) r) (hg : Gl X x) (hm : X.mg x = none) (hv : bootBuiltins x = some (.builtin id)) (ha : PA X (e :: es) t) (hn : x ≠ "__name__" := by decide) (hdb : (x == ("__debug__" : Str)) = false := by decide)
    (he : starEach (e :: es) X.env = (false, eval e X.env) :: starEach es X.env := by rfl) (hpl : (backTo pos (starEach es X.env)).any (·.1) = false := by rfl) : PE X (.Call (.Name x p) (e :: es) [] pos) (tCB r t) := by
  intro pins s σ H Q I h
  refine wpAny_Call_Name_kw (ld_blt I hg hm hv ?_ hn hdb)
  exact PyProof.Rows.callWith_builtin1 (thn (ha pos pins s σ H _ I h) fun us s1 ⟨vs, H1, I1, r1, q1⟩ => hc pins s1 σ H1 vs us Q I1 r1 q1) he hpl
theorem pe_callTy (hc : CallR X (.type T) r) (hg : Gl X x) (hm : X.mg x = none) (hv : bootBuiltins x = some (.type T)) (ha : PA X (e :: es) t) (hn : x ≠ "__name__" := by decide) (hdb : (x == ("__debug__" : Str)) = false := by decide)
    (he : starEach (e :: es) X.env = (false, eval e X.env) :: starEach es X.env := by rfl) (hpl : (backTo pos (starEach es X.env)).any (·.1) = false := by rfl) : PE X (.Call (.Name x p) (e :: es) [] pos) (tCB r t) := by
  intro pins s σ H Q I h
  refine wpAny_Call_Name_kw (ld_blt I hg hm hv ?_ hn hdb)
  exact PyProof.Rows.callWith_type1 (thn (ha pos pins s σ H _ I h) fun us s1 ⟨vs, H1, I1, r1, q1⟩ => hc pins s1 σ H1 vs us Q I1 r1 q1) he hpl
end
end L2
namespace HT
open PySem PyProof.Rows
section
open PySem.SeqAt
open PySem.AutoSeq1 (wpAny_loadPart')
open PySem.MeetsSeq PySem.MeetsSeq2 PySem.MeetsSeq3
end
section
variable {prog : Program} {w : World} {A : Around} {E : Value → Shared → Prop} {s : Shared}
def sIx (n d : Nat) : Option Int → Nat
  | none => d
  | some v => if v < 0 then (v + (n : Int)).toNat else min v.toNat n
theorem sIx_none (n d : Nat) : sIx n d none = d := rfl
theorem sIx_nat (n d k : Nat) : sIx n d (some (k : Int)) = min k n := by
  show (if (k : Int) < 0 then ((k : Int) + (n : Int)).toNat else min (k : Int).toNat n) = min k n
  rw [if_neg (by omega), Int.toNat_natCast]
end
end HT
namespace L2
open PySem PySem.Spec PyProof.Rows
abbrev TO := St → Hp → (Option Int → Hp → Prop) → Prop
def PO (X : Cx) (e : Option Expr) (t : TO) : Prop :=
  ∀ (pins : List (Addr × Obj)) (s : Shared) (σ : St) (H : Hp) (Q : Option Int → Hp → Prop), Inv X pins σ H s → t σ H Q →
    wpAny (model X.prog X.w) X.A (evalPart e X.env) (fun u s' => ∃ o H', Inv X pins σ H' s' ∧ IsPart u o ∧ Q o H') X.xe s
def tNoPart : TO := fun _ H Q => Q none H
def tPart (t : TE) : TO := fun σ H Q => t σ H fun x H1 => ∃ i, x = .int i ∧ Q (some i) H1
theorem intsAre_of {ns : List Int} : ∀ {us : List Value}, Vals (ns.map V.int) us → IntsAre us ns := by
  induction ns with
  | nil => intro us r; rw [List.map_nil] at r; cases r; exact .nil
  | cons n ns ih =>
    intro us r
    rw [List.map_cons] at r
    cases r with
    | cons r1 r2 =>
      obtain ⟨t, e⟩ := r1
      subst e
      exact .cons n t (ih r2)
section
variable {X : Cx} {e : Expr} {te : TE} {lo hi : Option Expr} {tl th : TO} {pos p2 : Pos}
theorem po_none : PO X none tNoPart := by
  intro pins s σ H Q I h
  rw [evalPart_none]
  exact wpAny_pure ⟨none, H, I, .none, h⟩
theorem po_some (h : PE X e te) : PO X (some e) (tPart te) := by
  intro pins s σ H Q I hw
  rw [evalPart_some]
  refine thn (h pins s σ H _ I hw) fun u s1 ⟨x, H1, I1, r1, q1⟩ => ?_
  obtain ⟨i, rfl, q⟩ := q1
  obtain ⟨t, rfl⟩ := r1
  exact ⟨some i, H1, I1, .int i t, q⟩
def SlR (X : Cx) (r : V → Option Int → Option Int → Hp → VK → Prop) : Prop :=
  ∀ (pins : List (Addr × Obj)) (s : Shared) (σ : St) (H : Hp) (x : V) (v vl vu : Value) (lo hi : Option Int) (sl : Addr) (Q : VK), Inv X pins σ H s → RelV x v → s.heap.IsSliceOf sl vl vu .none → IsPart vl lo → IsPart vu hi → r x lo hi H Q →
    ∃ T id, typeLookup (.type T) "__getitem__" = pure (some (.builtin id)) ∧ s.TypeIs v T ∧ wpAny (model X.prog X.w) X.A (getItem v (.ref sl)) (EP X pins σ Q) X.xe s
def tSl (r : V → Option Int → Option Int → Hp → VK → Prop) (te : TE) (tl th : TO) : TE := fun σ H Q => te σ H fun x H1 => tl σ H1 fun l H2 => th σ H2 fun u H3 => r x l u H3 Q
theorem pe_slice {r : V → Option Int → Option Int → Hp → VK → Prop} (hr : SlR X r) (he : PE X e te) (hl : PO X lo tl) (hu : PO X hi th) : PE X (.Subscript e (.Slice lo hi none p2) pos) (tSl r te tl th) := by
  intro pins s σ H Q I h
  refine Subscript_ (thn (he pins s σ H _ I h) fun v s1 ⟨x, H1, I1, r1, q1⟩ => ?_)
  refine wpAny_Slice (thn (hl pins s1 σ H1 _ I1 q1) fun vl s2 ⟨l, H2, I2, pl, q2⟩ => thn (hu pins s2 σ H2 _ I2 q2) fun vu s3 ⟨u, H3, I3, pu, q3⟩ => ?_)
  rw [evalPart_none]
  refine wpAny_pure ?_
  have I4 : Inv X pins σ H3 { s3 with heap := s3.heap.push { cls := .type "slice", data := .fields #[vl, vu, .none] } } := I3.kept (t' := s3.toks) fun b ob q => Heap.get?_push_of_some _ q
  obtain ⟨T, id, hT, ht, hg⟩ := hr pins { s3 with heap := s3.heap.push { cls := .type "slice", data := .fields #[vl, vu, .none] } } σ H3 x v vl vu l u s3.heap.objs.size Q I4 r1 (Heap.IsSliceOf.new ..) pl pu q3
  show wpAny (model X.prog X.w) X.A (subscriptTail e (.Slice lo hi none p2) v (.ref s3.heap.objs.size)) (EP X pins σ Q) X.xe { s3 with heap := s3.heap.push { cls := .type "slice", data := .fields #[vl, vu, .none] } }
  exact tail_any (ops := [.ref s3.heap.objs.size, v]) ht hT hg (by with_unfolding_all rfl)
def cutV (xs : List V) (lo hi : Option Int) : List V := (xs.drop (HT.sIx xs.length 0 lo)).take (HT.sIx xs.length xs.length hi - HT.sIx xs.length 0 lo)
theorem cutV_length (xs : List V) (lo hi : Option Int) : (cutV xs lo hi).length ≤ xs.length := by
  unfold cutV
  rw [List.length_take, List.length_drop]
  omega
end
end L2
namespace L2
open PySem PySem.Spec PyProof.Rows
def ixN (n : Nat) (i : Int) : Option Nat := if 0 ≤ i then (if i < n then some i.toNat else none) else if -(n : Int) ≤ i then some (i + n).toNat else none
def atI {α : Type} (xs : List α) (i : Int) : Option α := (ixN xs.length i).bind fun j => xs[j]?
theorem ixN_seq {n : Nat} {i : Int} {j : Nat} (h : ixN n i = some j) : seqIndex? i n = some j ∧ j < n ∧ -(n : Int) ≤ i ∧ i < n := by
  unfold ixN at h
  by_cases h0 : 0 ≤ i
  · rw [if_pos h0] at h
    by_cases h1 : i < n
    · rw [if_pos h1] at h
      have e : i.toNat = j := Option.some.inj h
      exact ⟨by rw [seqIndex_of h0 h1, e], by omega, by omega, h1⟩
    · rw [if_neg h1] at h; cases h
  · rw [if_neg h0] at h
    by_cases h1 : -(n : Int) ≤ i
    · rw [if_pos h1] at h
      have e : (i + n).toNat = j := Option.some.inj h
      exact ⟨by rw [seqIndex_neg (by omega) h1, e], by omega, h1, by omega⟩
    · rw [if_neg h1] at h; cases h
theorem atI_get {α : Type} {xs : List α} {i : Int} {v : α} (h : atI xs i = some v) : ∃ j, seqIndex? i xs.length = some j ∧ xs[j]? = some v ∧ j < xs.length ∧ -(xs.length : Int) ≤ i ∧ i < xs.length := by
  unfold atI at h
  cases e : ixN xs.length i with
  | none => rw [e] at h; cases h
  | some j =>
    rw [e] at h
    obtain ⟨h1, h2, h3, h4⟩ := ixN_seq e
    exact ⟨j, h1, h, h2, h3, h4⟩
theorem atI_nat {α : Type} {xs : List α} {j : Nat} {v : α} (h : xs[j]? = some v) : atI xs (j : Int) = some v := by
  have hj : j < xs.length := (List.getElem?_eq_some_iff.mp h).1
  have e : ixN xs.length (j : Int) = some j := by
    unfold ixN
    rw [if_pos (by omega), if_pos (by omega)]; simp
  unfold atI; rw [e]; exact h
theorem atI_last {α : Type} (xs : List α) (v : α) : atI (xs ++ [v]) (-1) = some v := by
  have hl : (xs ++ [v]).length = xs.length + 1 := by simp
  have e : ixN (xs ++ [v]).length (-1) = some xs.length := by
    unfold ixN
    rw [hl, if_neg (by decide), if_pos (by omega)]
    congr 1
    omega
  unfold atI
  rw [e]
  show (xs ++ [v])[xs.length]? = some v
  simp
def PlainIx (b : Expr) : Prop := ∀ o i, subscripted b false o i = operate [o, i] (getItem o i)
def IxR (X : Cx) (r : R2) : Prop :=
  ∀ (value slice : Expr) (pins : List (Addr × Obj)) (s : Shared) (σ : St) (H : Hp) (x y : V) (v u : Value) (Q : VK), Inv X pins σ H s → RelV x v → RelV y u → r x y H Q →
    subscripted slice false v u = operate [v, u] (getItem v u) → wpAny (model X.prog X.w) X.A (subscriptTail value slice v u) (EP X pins σ Q) X.xe s
def MtR (X : Cx) (id : String) (r : V → List V → Hp → VK → Prop) : Prop :=
  ∀ (pins : List (Addr × Obj)) (s : Shared) (σ : St) (H : Hp) (x : V) (xs : List V) (v : Value) (us : List Value) (Q : VK), Inv X pins σ H s → RelV x v → Vals xs us → r x xs H Q →
    wpAny (model X.prog X.w) X.A (call (.builtin id) (v :: us)) (EP X pins σ Q) X.xe s
section
variable {X : Cx} {a b : Expr} {ta tb : TE} {pos : Pos}
theorem pe_ix {r : R2} (hr : IxR X r) (ha : PE X a ta) (hb : PE X b tb) (hs : PlainIx b) : PE X (.Subscript a b pos) (tOp r ta tb) := by
  intro pins s σ H Q I h
  exact Subscript_ (binT ha hb I h fun v u s2 x y H2 I2 rx ry q => hr a b pins s2 σ H2 x y v u Q I2 rx ry q (hs _ _))
def rIxL (K : PySem.W.Frag) : R2 := fun x y H Q => ∃ p xs i v, x = .ref p ∧ y = .int i ∧ SqL K H p xs ∧ atI xs i = some v ∧ Q v H
def rIxT (K : PySem.W.Frag) : R2 := fun x y H Q => ∃ p xs i v, x = .ref p ∧ y = .int i ∧ SqT K H p xs ∧ atI xs i = some v ∧ Q v H
theorem ix_list : IxR X (rIxL X.K) := by
  intro value slice pins s σ H x y v u Q I rx ry h hs
  obtain ⟨p, xs, i, z, rfl, rfl, hq, he, q⟩ := h
  cases rx
  obtain ⟨t, rfl⟩ := ry
  obtain ⟨its, r, pl, hz⟩ := I.list hq
  obtain ⟨j, h1, h2, h3, h4, h5⟩ := atI_get he
  obtain ⟨w, ew, rw'⟩ := r.get h2
  have hl := r.length
  have hn := line63
  have fin : EP X pins σ Q w s := ⟨z, H, I, rw', q⟩
  by_cases h0 : 0 ≤ i
  · have hj : i.toNat = j := by
      rw [seqIndex_of h0 h5] at h1
      exact Option.some.inj h1
    exact item_listR pl.isList h0 (by omega) (by rw [hj]; simpa using ew) fin hs
  · have hj : (i + (its.toArray.size : Int)).toNat = j := by
      rw [seqIndex_neg (by omega) h4] at h1
      rw [List.size_toArray, ← hl]
      exact Option.some.inj h1
    exact subscriptTail_builtinR (x := w) pl.isList.typeIs slot_list_getitem.lookup
      (wpAny_getItem_list_neg (Q := fun r s' => r = w ∧ EP X pins σ Q r s') pl.isList (by omega) (by rw [List.size_toArray] <;> omega) (by omega) (by rw [hj]; simpa using ew) ⟨rfl, fin⟩) hs
theorem ix_tup : IxR X (rIxT X.K) := by
  intro value slice pins s σ H x y v u Q I rx ry h hs
  obtain ⟨p, xs, i, z, rfl, rfl, hq, he, q⟩ := h
  cases rx
  obtain ⟨t, rfl⟩ := ry
  obtain ⟨its, r, pl, hz⟩ := I.tuple hq
  obtain ⟨j, h1, h2, h3, h4, h5⟩ := atI_get he
  obtain ⟨w, ew, rw'⟩ := r.get h2
  have hl := r.length
  have hn := line63
  have fin : EP X pins σ Q w s := ⟨z, H, I, rw', q⟩
  exact subscriptTail_builtinR (x := w) pl.typeIs slot_tuple_getitem.lookup
    (getItem_tuple (j := j) (Q := fun r s' => r = w ∧ EP X pins σ Q r s') pl (by omega) (by omega) (by rw [List.size_toArray, ← hl]; exact h1) (by simpa using ew) ⟨rfl, fin⟩) hs
theorem Inv.lst {pins : List (Addr × Obj)} {σ : St} {H : Hp} {s : Shared} {p : Addr} {xs : List V} (I : Inv X pins σ H s) (h : H p = some (.lst xs)) :
    ∃ (its : List Value) (n : Nat), Vals xs its ∧ s.heap.get? p = some { cls := .type "list", data := .seq its.toArray n } ∧ xs.length ≤ sizeLine := by
  obtain ⟨z, its, n, r, e⟩ := I.hok p _ h
  exact ⟨its, n, r, e, z⟩
theorem slice_bounds (lo hi : Option Int) (n : Nat) : (sliceBounds lo hi none n).1 = ((HT.sIx n 0 lo : Nat) : Int) ∧ (sliceBounds lo hi none n).2.1 = ((HT.sIx n n hi : Nat) : Int) ∧ (sliceBounds lo hi none n).2.2 = 1 := by
  refine ⟨?_, ?_, rfl⟩
  · cases lo with
    | none => simp [sliceBounds, HT.sIx]
    | some i =>
      simp only [sliceBounds, HT.sIx, Option.getD_none, show (1 : Int) > 0 by decide, if_true]
      by_cases h : i < 0
      · simp only [h, if_true] <;> omega
      · simp only [h, if_false] <;> omega
  · cases hi with
    | none => simp [sliceBounds, HT.sIx]
    | some i =>
      simp only [sliceBounds, HT.sIx, Option.getD_none, show (1 : Int) > 0 by decide, if_true]
      by_cases h : i < 0
      · simp only [h, if_true] <;> omega
      · simp only [h, if_false] <;> omega
theorem slicePick_cut (its : List Value) (lo hi : Option Int) : slicePick its.toArray lo hi none = ((its.drop (HT.sIx its.length 0 lo)).take (HT.sIx its.length its.length hi - HT.sIx its.length 0 lo)).toArray := by
  obtain ⟨h1, h2, h3⟩ := slice_bounds lo hi its.toArray.size
  unfold slicePick
  rw [h1, h2, h3]
  simp only [sliceRange_one, pick_run, List.size_toArray] <;> rfl
def rSlL (K : PySem.W.Frag) : V → Option Int → Option Int → Hp → VK → Prop := fun x lo hi H Q => ∃ a xs, x = .ref a ∧ SqL K H a xs ∧ ∀ p, H p = none → Q (.ref p) (upd H p (.lst (cutV xs lo hi)))
theorem sl_list : SlR X (rSlL X.K) := by
  intro pins s σ H x v vl vu lo hi sl Q I rx hs pl pu h
  obtain ⟨a, xs, rfl, hx, q⟩ := h
  cases rx
  obtain ⟨its, r, ht, hz⟩ := I.list hx
  have hlen := r.length
  refine ⟨"list", _, slot_list_getitem.lookup, ht.isList.typeIs, ?_⟩
  refine wpAny_getItem_list_slice ht.isList hs pl pu .none (by simp) ?_ (by rw [List.size_toArray] <;> omega)
  rw [slicePick_cut, ← hlen]
  refine ⟨.ref s.heap.objs.size, _, I.laid (t' := s.toks) (o := .lst (cutV xs lo hi)) (fun b ob q => Heap.get?_push_of_some _ q) (Nat.le_refl _) ?_, rfl, q _ (I.hok.fresh (Nat.le_refl _))⟩
  exact ⟨Nat.le_trans (cutV_length xs lo hi) hz, _, 0, (r.drop (HT.sIx xs.length 0 lo)).take (HT.sIx xs.length xs.length hi - HT.sIx xs.length 0 lo), Heap.get?_push_size _ rfl⟩
def flatV : V → Bool
  | .non => true
  | .bl _ => true
  | .int _ => true
  | .str _ => true
  | _ => false
def eqV : V → V → Bool
  | .non, .non => true
  | .bl a, .bl b => a == b
  | .bl a, .int b => (if a then 1 else 0) == b
  | .int a, .bl b => a == (if b then 1 else 0)
  | .int a, .int b => a == b
  | .str a, .str b => a == b
  | _, _ => false
theorem eqAt_V {A : Around} {s : Shared} {y x : V} {u v : Value} (ry : RelV y u) (rx : RelV x v) (fy : flatV y = true) (fx : flatV x = true) : SeqAt.EqAt A s u v (eqV y x) := by
  cases y with
  | non =>
    cases ry
    cases x with
    | non => cases rx; exact SeqAt.EqAt.same _
    | bl b => cases rx; exact SeqAt.EqAt.none_bool b
    | int b => obtain ⟨t, rfl⟩ := rx; exact SeqAt.EqAt.none_int b t
    | str b => obtain ⟨t, rfl⟩ := rx; exact SeqAt.EqAt.none_str b t
    | _ => exact absurd (show false = true from fx) Bool.false_ne_true
  | bl a =>
    cases ry
    cases x with
    | non => cases rx; exact SeqAt.EqAt.bool_none a
    | bl b => cases rx; exact SeqAt.EqAt.bool_bool a b
    | int b => obtain ⟨t, rfl⟩ := rx; exact SeqAt.EqAt.bool_int a b t
    | str b => obtain ⟨t, rfl⟩ := rx; exact SeqAt.EqAt.bool_str a b t
    | _ => exact absurd (show false = true from fx) Bool.false_ne_true
  | int a =>
    obtain ⟨t', rfl⟩ := ry
    cases x with
    | non => cases rx; exact SeqAt.EqAt.int_none a t'
    | bl b => cases rx; exact SeqAt.EqAt.int_bool a t' b
    | int b => obtain ⟨t, rfl⟩ := rx; exact SeqAt.EqAt.int_int a t' b t
    | str b => obtain ⟨t, rfl⟩ := rx; exact SeqAt.EqAt.int_str a t' b t
    | _ => exact absurd (show false = true from fx) Bool.false_ne_true
  | str a =>
    obtain ⟨t', rfl⟩ := ry
    cases x with
    | non => cases rx; exact SeqAt.EqAt.str_none a t'
    | bl b => cases rx; exact SeqAt.EqAt.str_bool a t' b
    | int b => obtain ⟨t, rfl⟩ := rx; exact SeqAt.EqAt.str_int a t' b t
    | str b => obtain ⟨t, rfl⟩ := rx; exact SeqAt.EqAt.str_str a t' b t
    | _ => exact absurd (show false = true from fx) Bool.false_ne_true
  | _ => exact absurd (show false = true from fy) Bool.false_ne_true
def eqU (x : V) (u : Value) : Bool := match u with
  | .none => eqV .non x
  | .bool b => eqV (.bl b) x
  | .int i _ => eqV (.int i) x
  | .str z _ => eqV (.str z) x
  | _ => false
theorem eqU_of {x y : V} {u : Value} (r : RelV y u) (f : flatV y = true) : eqU x u = eqV y x := by
  cases y with
  | non => cases r; rfl
  | bl b => cases r; rfl
  | int i => obtain ⟨t, rfl⟩ := r; rfl
  | str z => obtain ⟨t, rfl⟩ := r; rfl
  | _ => exact absurd (show false = true from f) Bool.false_ne_true
theorem any_eqU {x : V} : ∀ {xs : List V} {us : List Value}, Vals xs us → xs.all flatV = true → us.any (eqU x) = xs.any fun y => eqV y x
  | _, _, .nil, _ => rfl
  | y :: xs, u :: us, .cons r t, f => by
    rw [List.all_cons, Bool.and_eq_true] at f
    rw [List.any_cons, List.any_cons, eqU_of r f.1, any_eqU t f.2]
theorem mem_eqAt {A : Around} {s : Shared} {x : V} {v : Value} (rx : RelV x v) (fx : flatV x = true) : ∀ {xs : List V} {us : List Value}, Vals xs us → xs.all flatV = true → ∀ u ∈ us, SeqAt.EqAt A s u v (eqU x u)
  | _, _, .nil, _ => fun u hu => by cases hu
  | y :: xs, u :: us, .cons r t, f => fun u' hu => by
    rw [List.all_cons, Bool.and_eq_true] at f
    rcases List.mem_cons.mp hu with rfl | hu
    · rw [eqU_of r f.1]; exact eqAt_V r rx f.1 fx
    · exact mem_eqAt rx fx t f.2 u' hu
def inV (x : V) (xs : List V) : Bool := xs.any fun y => eqV y x
def rIn (K : PySem.W.Frag) (neg : Bool) : R2 := fun x y H Q => ∃ p xs, y = .ref p ∧ (SqL K H p xs ∨ SqT K H p xs) ∧ flatV x = true ∧ xs.all flatV = true ∧ Q (.bl (if neg then !inV x xs else inV x xs)) H
theorem op_in_seq : OpR X (compareOp .In) (rIn X.K false) := by
  intro pins s σ H x y v u Q I rx ry h
  obtain ⟨p, xs, rfl, hq, fx, fs, q⟩ := h
  cases ry
  rcases hq with hq | hq
  · obtain ⟨its, r, pl, hz⟩ := I.list hq
    refine SeqAt.in_listAt (eqU x) pl.isList (fun w hw => mem_eqAt rx fx r fs w (by simpa using hw)) ⟨.bl _, H, I, rfl, ?_⟩
    rw [show its.toArray.any (eqU x) = its.any (eqU x) by simp, any_eqU r fs]
    exact q
  · obtain ⟨its, r, pl, hz⟩ := I.tuple hq
    refine SeqAt.in_tupleAt (eqU x) pl (fun w hw => mem_eqAt rx fx r fs w (by simpa using hw)) ⟨.bl _, H, I, rfl, ?_⟩
    rw [show its.toArray.any (eqU x) = its.any (eqU x) by simp, any_eqU r fs]
    exact q
theorem call_len_seq : CallR X (.builtin "len") (fun xs H Q => ∃ p ys, xs = [.ref p] ∧ (SqL X.K H p ys ∨ SqT X.K H p ys) ∧ Q (.int ys.length) H) := by
  intro pins s σ H xs us Q I r h
  obtain ⟨p, ys, rfl, hq, q⟩ := h
  obtain ⟨u, rfl, rx⟩ := vals1 r
  cases rx
  have hn := line63
  rcases hq with hq | hq
  · obtain ⟨its, r', pl, hz⟩ := I.list hq
    have hlen := r'.length
    exact Calls.call_len_list pl.isList (by simp only [List.size_toArray] <;> omega) ⟨.int ys.length, H, I.tok _, ⟨s.toks + 1, by rw [List.size_toArray, hlen]⟩, q⟩
  · obtain ⟨its, r', pl, hz⟩ := I.tuple hq
    have hlen := r'.length
    exact len_tuple pl (by simp only [List.size_toArray] <;> omega) ⟨.int ys.length, H, I.tok _, ⟨s.toks + 1, by rw [List.size_toArray, hlen]⟩, q⟩
theorem call_list_of : CallR X (.type "list") (fun xs H Q => ∃ p ys, xs = [.ref p] ∧ (SqL X.K H p ys ∨ SqT X.K H p ys) ∧ ∀ l, H l = none → Q (.ref l) (upd H l (.lst ys))) := by
  intro pins s σ H xs us Q I r h
  obtain ⟨p, ys, rfl, hq, q⟩ := h
  obtain ⟨u, rfl, rx⟩ := vals1 r
  cases rx
  have fin : ∀ (its : List Value), Vals ys its → ys.length ≤ sizeLine → ∀ (h' : Heap) (c' : Nat), (∀ b o', s.heap.get? b = some o' → h'.get? b = some o') →
      h'.get? s.heap.objs.size = some { cls := .type "list", dict := none, data := .seq its.toArray c', slots := #[] } → EP X pins σ Q (.ref s.heap.objs.size) { s with heap := h' } := fun its r' hz h' c' kp e =>
    ⟨.ref s.heap.objs.size, _, I.laid (t' := s.toks) kp (Nat.le_refl _) (show ObjOk X.prog X.w _ h' _ (.lst ys) from ⟨hz, its, c', r', e⟩), rfl, q _ (I.hok.fresh (Nat.le_refl _))⟩
  rcases hq with hq | hq
  · obtain ⟨its, r', pl, hz⟩ := I.list hq
    have hlen := r'.length
    obtain ⟨o, ho, hc, n, hd⟩ := pl.isList
    exact call_list_seq p (.inl rfl) ho hc hd (fun h' c' kp e => fin its r' hz h' c' kp e) (by simp only [List.size_toArray] <;> omega)
  · obtain ⟨its, r', pl, hz⟩ := I.tuple hq
    have hlen := r'.length
    obtain ⟨o, ho, hc, n, hd⟩ := pl
    exact call_list_seq p (.inr rfl) ho hc hd (fun h' c' kp e => fin its r' hz h' c' kp e) (by simp only [List.size_toArray] <;> omega)
def tyV (K : PySem.W.Frag) (T : String) (x : V) (H : Hp) : Prop := match x with
  | .str _ => T = "str"
  | .int _ => T = "int"
  | .ref p => (T = "list" ∧ ∃ xs, SqL K H p xs) ∨ (T = "tuple" ∧ ∃ o, K.lookup p = some o ∧ o.cls = .type "tuple" ∧ o.dict = none) ∨
      (T = "dict" ∧ ((∃ kvs, H p = some (.dK kvs)) ∨ ∃ kvs, H p = some (.dT kvs))) ∨ (T = "set" ∧ ∃ S n, H p = some (.set S n))
  | _ => False
theorem tyV_is {pins : List (Addr × Obj)} {σ : St} {H : Hp} {s : Shared} {T : String} {x : V} {v : Value} (I : Inv X pins σ H s) (r : RelV x v) (ty : tyV X.K T x H) :
    s.TypeIs v T ∧ ∀ a, v = .ref a → ∃ ob, s.heap.get? a = some ob ∧ ob.dict = none := by
  cases x with
  | str z =>
    obtain ⟨t, rfl⟩ := r
    cases (show T = "str" from ty)
    exact ⟨typeIs_str s z t, fun _ e => nomatch e⟩
  | int i =>
    obtain ⟨t, rfl⟩ := r
    cases (show T = "int" from ty)
    exact ⟨typeIs_int s i t, fun _ e => nomatch e⟩
  | ref p =>
    cases r
    rcases ty with ⟨rfl, xs, hq⟩ | ⟨rfl, o, hk, hc, hd⟩ | ⟨rfl, hk⟩ | ⟨rfl, S, n, hk⟩
    · obtain ⟨its, _, pl, _⟩ := I.list hq
      refine ⟨pl.isList.typeIs, fun a e => ?_⟩
      cases e
      obtain ⟨o, n, e, c, hd, _⟩ := pl
      exact ⟨o, e, hd⟩
    · refine ⟨⟨o, I.kIn p o hk, hc⟩, fun a e => ?_⟩
      cases e
      exact ⟨o, I.kIn _ o hk, hd⟩
    · have z : ∃ o, s.heap.get? p = some o ∧ o.ExactDict := by
        rcases hk with ⟨kvs, hk⟩ | ⟨kvs, hk⟩
        · obtain ⟨_, _, _, _, o, _, _, e, ex, _⟩ := I.hok p _ hk
          exact ⟨o, e, ex⟩
        · obtain ⟨_, _, _, _, o, _, _, e, ex, _⟩ := I.hok p _ hk
          exact ⟨o, e, ex⟩
      obtain ⟨o, e, ex⟩ := z
      refine ⟨⟨o, e, ex.1⟩, fun a e2 => ?_⟩
      cases e2
      exact ⟨o, e, ex.2.1⟩
    · obtain ⟨o, _, _, _, e, ex, _⟩ := I.hok p _ hk
      refine ⟨⟨o, e, ex.1⟩, fun a e2 => ?_⟩
      cases e2
      exact ⟨o, e, ex.2.1⟩
  | _ => exact False.elim ty
def tBM0 (K : PySem.W.Frag) (T : String) (r : V → List V → Hp → VK → Prop) (to : TE) : TE := fun σ H Q => to σ H fun x H1 => tyV K T x H1 ∧ r x [] H1 Q
def tBM (K : PySem.W.Frag) (T : String) (r : V → List V → Hp → VK → Prop) (to : TE) (t : TA) : TE := fun σ H Q => to σ H fun x H1 => tyV K T x H1 ∧ t σ H1 fun xs H2 => r x xs H2 Q
variable {o e : Expr} {es : List Expr} {to : TE} {t : TA} {name : Str} {apos cpos : Pos} {T id : String} {r : V → List V → Hp → VK → Prop}
theorem pe_bm0 (pa : PlainAttrs T) (slot : Slot T name id) (hty : typeOf (.builtin id) = pure (.type "method_descriptor")) (hm : MtR X id r) (ho : PE X o to)
    (hbase : attributeBase o name X.env (eval o X.env) = eval o X.env := by rfl) (hline : (apos.endLine == cpos.line) = true := by rfl) : PE X (.Call (.Attribute o name apos) [] [] cpos) (tBM0 X.K T r to) := by
  intro pins s σ H Q I h
  refine wpAny_Call_method0_late hbase hline (thn (ho pins s σ H _ I h) fun v s1 ⟨x, H1, I1, r1, ty, q1⟩ => ?_)
  obtain ⟨h1, h2⟩ := tyV_is I1 r1 ty
  exact ⟨T, id, pa, slot, hty, h1, h2, Calls.callWith_builtin rfl (PySem.evalArgs_none (hm pins s1 σ H1 x [] v [] Q I1 r1 .nil q1))⟩
theorem pe_bm (pa : PlainAttrs T) (slot : Slot T name id) (hty : typeOf (.builtin id) = pure (.type "method_descriptor")) (hm : MtR X id r) (ho : PE X o to) (ha : PA X (e :: es) t)
    (hbase : attributeBase o name X.env (eval o X.env) = eval o X.env := by rfl)
    (hfew : ((backTo cpos (starEach (e :: es) X.env)).all (fun x => !x.1) && (backToKw cpos (keywordEach [] X.env)).all (fun x => x.1.isSome)
      && decide ((e :: es).length + ([] : List Keyword).length + (if ([] : List Keyword).isEmpty then 0 else 1) < 30)) = true := by rfl)
    (hline : (apos.endLine == cpos.line) = true := by rfl) (hs : starEach (e :: es) X.env = (false, eval e X.env) :: starEach es X.env := by rfl) (hplain : (backTo cpos (starEach es X.env)).any (·.1) = false := by rfl) :
    PE X (.Call (.Attribute o name apos) (e :: es) [] cpos) (tBM X.K T r to t) := by
  intro pins s σ H Q I h
  refine wpAny_Call_method_late hbase hfew hline rfl (thn (ho pins s σ H _ I h) fun v s1 ⟨x, H1, I1, r1, ty, q1⟩ => ?_)
  obtain ⟨h1, h2⟩ := tyV_is I1 r1 ty
  refine ⟨T, id, pa, slot, hty, h1, h2, ?_⟩
  have hA := ha cpos pins s1 σ H1 _ I1 q1
  rw [hs] at hA ⊢
  refine Calls.callWith_builtin (by show (false || (backTo cpos (starEach es X.env)).any (·.1)) = false; rw [hplain] <;> rfl) (Calls.evalArgs_plain ?_)
  exact thn hA fun us s2 ⟨vs, H2, I2, r2, q2⟩ => hm pins s2 σ H2 x vs v us Q I2 r1 r2 q2
end
end L2
namespace L2
open PySem PySem.Spec PyProof.Rows
def MtM (X : Cx) (id : String) (r : V → List V → Hp → VK → Prop) : Prop :=
  ∀ (pins : List (Addr × Obj)) (s : Shared) (σ : St) (H : Hp) (x : V) (xs : List V) (v : Value) (us : List Value) (Q : VK), Inv X pins σ H s → RelV x v → Vals xs us → r x xs H Q →
    wpAny (model X.prog X.w) X.A (call (.builtin id) (v :: us)) (EP X pins σ Q) X.xe s
theorem Vals.one : ∀ {x : V} {us : List Value}, Vals [x] us → ∃ u, us = [u] ∧ RelV x u
  | _, _, .cons r .nil => ⟨_, rfl, r⟩
theorem Vals.zero : ∀ {us : List Value}, Vals [] us → us = []
  | _, .nil => rfl
theorem Vals.dropLast {xs : List V} {us : List Value} (h : Vals xs us) : Vals xs.dropLast us.dropLast := by
  induction h with
  | nil => exact .nil
  | cons r t ih =>
    cases t with
    | nil => exact .nil
    | cons q t' => exact .cons r ih
theorem Vals.eraseIdx : ∀ {xs : List V} {us : List Value} (i : Nat), Vals xs us → Vals (xs.eraseIdx i) (us.eraseIdx i)
  | _, _, _, .nil => .nil
  | _, _, 0, .cons _ t => t
  | _, _, i + 1, .cons r t => .cons r (Vals.eraseIdx i t)
theorem Vals.reverse {xs : List V} {us : List Value} (h : Vals xs us) : Vals xs.reverse us.reverse := by
  induction h with
  | nil => exact .nil
  | cons r t ih => rw [List.reverse_cons, List.reverse_cons]; exact Vals.append ih (.cons r .nil)
section
variable {X : Cx} {pins : List (Addr × Obj)} {σ : St} {H : Hp} {s : Shared} {l b : Addr} {xs ys zs : List V}
theorem Inv.lset {its its' : List Value} {n : Nat} {f : Array Value → Array Value} {t' : Nat} (I : Inv X pins σ H s) (hH : H l = some (.lst xs))
    (e : s.heap.get? l = some { cls := .type "list", data := .seq its.toArray n }) (hf : f its.toArray = its'.toArray) (hv : Vals ys its') (hz : ys.length ≤ sizeLine) :
    Inv X pins σ (upd H l (.lst ys)) { s with heap := s.heap.update l (Obj.mapSeq f), toks := t' } := by
  have q := PySem.IsL.update e f
  rw [hf] at q
  refine I.write (x := l) (e := l) (by rw [hH]; exact trivial) (.inl rfl) (fun b' u hb hu => (Heap.get?_update_other s.heap (Obj.mapSeq f) (Ne.symm hb)).trans hu) ⟨_, q⟩ ?_
  exact ⟨hz, its', _, hv, q⟩
theorem Inv.lnew {its : List Value} {t' : Nat} (I : Inv X pins σ H s) (hv : Vals ys its) (hz : ys.length ≤ sizeLine) :
    Inv X pins σ (upd H s.heap.objs.size (.lst ys)) { s with heap := s.heap.push { cls := .type "list", data := .seq its.toArray }, toks := t' } :=
  I.laid (fun _ _ q => Heap.get?_push_of_some _ q) (Nat.le_refl _) ⟨hz, its, 0, hv, Heap.get?_push_size _ rfl⟩
theorem Inv.fresh (I : Inv X pins σ H s) : H s.heap.objs.size = none := I.hok.fresh (Nat.le_refl _)
theorem Inv.lstM (I : Inv X pins σ H s) (hH : H l = some (.lst xs)) : xs.length ≤ sizeLine ∧ ∃ (its : List Value) (n : Nat), Vals xs its ∧ xs.length = its.length ∧ s.heap.get? l = some { cls := .type "list", data := .seq its.toArray n } := by
  obtain ⟨z, its, n, r, e⟩ := I.hok l _ hH
  exact ⟨z, its, n, r, r.length, e⟩
end
section
variable {X : Cx}
def rAppend : V → List V → Hp → VK → Prop := fun x vs H Q => ∃ l xs y, x = .ref l ∧ vs = [y] ∧ H l = some (.lst xs) ∧ xs.length < sizeLine ∧ Q .non (upd H l (.lst (xs ++ [y])))
theorem mt_append : MtM X "list.append" rAppend := by
  intro pins s σ H x vs v us Q I rx rv h
  obtain ⟨l, xs, y, rfl, rfl, hH, hz, q⟩ := h
  cases rx
  obtain ⟨u, rfl, ru⟩ := rv.one
  obtain ⟨z, its, n, r, hl, e⟩ := I.lstM hH
  refine call_meets F.slot_list_append ⟨_, e, rfl⟩ F.entry_list_append (F.args_list_append_2 _ _) (PySem.list_append l its.toArray n u (by rw [List.size_toArray]; omega)) ⟨e, ?_⟩
  refine ⟨.non, _, I.lset (its' := its ++ [u]) hH e (by simp) (r.append (.cons ru .nil)) ?_, rfl, q⟩
  rw [List.length_append, List.length_singleton]
  omega
def rClear : V → List V → Hp → VK → Prop := fun x vs H Q => ∃ l xs, x = .ref l ∧ vs = [] ∧ H l = some (.lst xs) ∧ Q .non (upd H l (.lst []))
theorem mt_clear : MtM X "list.clear" rClear := by
  intro pins s σ H x vs v us Q I rx rv h
  obtain ⟨l, xs, rfl, rfl, hH, q⟩ := h
  cases rx
  have hus := rv.zero
  subst hus
  obtain ⟨z, its, n, r, hl, e⟩ := I.lstM hH
  refine call_meets F.slot_list_clear ⟨_, e, rfl⟩ F.entry_list_clear (F.args_list_clear_1 _) (AutoSeq1.list_clear_list_0 l its.toArray n (by rw [List.size_toArray]; omega)) ⟨e, ?_⟩
  exact ⟨.non, _, I.lset (its' := []) (ys := []) hH e rfl .nil (Nat.zero_le _), rfl, q⟩
def rCat : R2 := fun x y H Q => ∃ l b xs zs, x = .ref l ∧ y = .ref b ∧ H l = some (.lst xs) ∧ H b = some (.lst zs) ∧ xs.length + zs.length ≤ sizeLine ∧ ∀ p, H p = none → Q (.ref p) (upd H p (.lst (xs ++ zs)))
theorem op_cat : OpR X (binaryOp .Add) rCat := by
  intro pins s σ H x y v u Q I rx ry h
  obtain ⟨l, b, xs, zs, rfl, rfl, hH, hB, hz, q⟩ := h
  cases rx
  cases ry
  obtain ⟨z, its, n, r, hl, e⟩ := I.lstM hH
  obtain ⟨z2, its2, n2, r2, hl2, e2⟩ := I.lstM hB
  refine PySem.P.add_list e e2 ?_ (by rw [List.size_toArray, List.size_toArray]; omega)
  have ea : its.toArray ++ its2.toArray = (its ++ its2).toArray := by simp
  rw [ea]
  exact ⟨.ref _, _, I.lnew (t' := s.toks) (r.append r2) (by rw [List.length_append]; omega), rfl, q _ I.fresh⟩
end
section
variable {prog : Program} {w : World} {A : Around} {E : Value → Shared → Prop} {s : Shared}
end
section
variable {X : Cx}
end
end L2
namespace Att
open PySem PySem.W PySem.Calls PyProof.Rows
theorem ints_of_wellAll {P : Params} {h : Heap} : ∀ (ns : List Int) (vs : List Value), WellAll P h vs (ns.map WData.int) → IntsAre vs ns := by
  intro ns
  induction ns with
  | nil =>
    intro vs w
    rw [List.map_nil] at w
    cases w
    exact .nil
  | cons n ns ih =>
    intro vs w
    rw [List.map_cons] at w
    cases w with
    | cons a b =>
      cases a
      exact .cons _ _ (ih _ b)
theorem script_of {l : OpenLaw} {n : Nat} (hn : l.most = some n) {P : Params} {h : Heap} {args : List WData} {vals : List Value}
    (hpre : l.row.toRowW.claim.pre args = true) (hwl : WellAll P h vals args) :
    ∃ a vs ns, vals = [Value.ref a] ∧ args = [WData.list (ns.map WData.int)] ∧ h.get? a = some { cls := .type "list", data := .seq vs.toArray } ∧ IntsAre vs ns ∧ ns.length ≤ n := by
  have hsh : WShape.hasAll [] args [.list .int] = true := (pre_splitW hpre).1
  have hc : l.pre.holds [] { args := args } = true := (pre_splitW hpre).2
  obtain ⟨d, r, rfl, h1, h2⟩ := hasAllW_cons hsh
  obtain rfl := hasAllW_nil h2
  obtain ⟨xs, rfl, h3⟩ := hasW_list h1
  obtain ⟨ns, rfl⟩ := items_int h3
  have hlen : ns.length ≤ n := by
    unfold OpenLaw.pre at hc
    have h4 : (WTm.not (.lt (.lit (.int (n : Int))) (.len (.arg 0)))).holds [] { args := [.list (ns.map .int)] } = true := by
      have h4 := (holds_andW hc).1
      rw [hn] at h4
      exact h4
    have h5 := condW_of h4 (w_not (w_lt w_lit (w_len_list (w_arg rfl))))
    rw [List.length_map] at h5
    refine Nat.le_of_not_lt fun q => ?_
    have q' : (n : Int) < ((ns.length : Nat) : Int) := by omega
    first
      | (rw [decide_eq_true q'] at h5; exact absurd h5 (by decide))
      | (simp at h5; omega)
  cases hwl with
  | cons w1 w2 =>
    cases w2
    cases w1 with
    | list ho hall => exact ⟨_, _, ns, rfl, rfl, ho, ints_of_wellAll ns _ hall, hlen⟩
theorem post_true (l : OpenLaw) (args : List WData) : l.row.toRowW.claim.post args (.bool true) args = true :=
  postW_of (r := l.row.toRowW) (X := (true == true))
    (show WShape.has [] (.bool true) .bool = true by first | rfl | decide | simp [WShape.has, WShape.arms, WShape.armsAll])
    (show (WTm.eq .res (.lit (.bool true))).value [] { args := args, res := some (.bool true), after := args } = some (.bool (true == true)) from w_eq_bool (w_res rfl) w_lit) rfl
theorem attach_call {l : OpenLaw} {n : Nat} {q : Program} {loose : List Str} {XP : (Str → Option Value) → Heap → Prop} {YP : World → Heap → Prop} {d : DefRec}
    (hn : l.most = some n) (hdf : d.params.defaults = [])
    (call : ∀ (w : World) (s₀ s₁ : Shared) (mg mb : Str → Option Value) (fa : Addr) (o : Obj) (pm cd doc : Value) (a : Addr) (vs : List Value) (ns : List Int),
      Ground q loose [] XP w s₀ mg mb s₁.heap → YP w s₁.heap →
      s₁.heap.get? fa = some o → o.data = .func (docDef d.name d.params d.body d.scope pm cd doc) → s₁.heap.CodeRec cd d.name → mg d.name = some (.ref fa) →
      s₁.heap.get? a = some { cls := .type "list", data := .seq vs.toArray } → IntsAre vs ns → ns.length ≤ n → s₁.gens = #[] →
      codeAny (model l.prog w) callerA (.call (.ref fa) ⟨[.ref a], []⟩) (fun r s' => r = .ok (.ret (.bool true)) ∧ OldK s₁.heap s'.heap ∧ s'.os = s₁.os ∧ AllBare s'.gens) s₁) :
    WalkO q loose XP YP l.row.toRowW d [] (fun f vs => PySem.call f vs) := by
  intro w s₀ s₁ mg mb G Y fa o pm cd doc dV kV ho hd hcd hD hmg hg args vals as hpre hlay hrd hwl hlo
  obtain rfl : dV = .none := Dflts.none hD hdf
  obtain rfl : kV = .none := Dflts.noKw hD
  obtain ⟨a, vs, ns, rfl, rfl, hobj, hints, hlen⟩ := script_of hn hpre hwl
  refine enter_call (codeAny_mono (call w s₀ s₁ mg mb fa o pm cd doc a vs ns G Y ho (fd_plain hd) hcd hmg hobj hints hlen hg) fun r s' hq => ?_)
  obtain ⟨rfl, h2, h3, h4⟩ := hq
  exact ⟨.inl ⟨.bool true, .bool true, [], rfl, fun _ => rfl, .bool true, post_true l _, fun _ => ⟨List.Pairwise.nil, fun _ hm => (nomatch hm)⟩⟩, h2, h3, h4⟩
section
variable {prog : Program} {w : World} {A : Around} {E : Value → Shared → Prop} {s : Shared} {K : Frag}
end
end Att
namespace L2
open PySem PySem.Spec PyProof.Rows
theorem vals_ints : ∀ {vs : List Value} {ns : List Int}, IntsAre vs ns → Vals (ns.map V.int) vs
  | _, _, .nil => .nil
  | _, _, .cons n t h => .cons ⟨t, rfl⟩ (vals_ints h)
def Only (H : Hp) : Prop := ∀ b, H b = none ∨ ∃ o xs, H b = some (.frz o (.lst xs))
theorem law_call {P : Program} {w : World} {K : PySem.W.Frag} {mg mb : Str → Option Value} {CX : CXT} {k : Nat} {fa a : Addr} {fd : FuncData} {x : Str} {sp : Sp} {s₁ : Shared} {vs : List Value} {ns : List Int}
    (KX : K.In s₁.heap) (hns : s₁.heap.Ns mainGlobals mg) (hb : s₁.heap.Ns builtinsNs mb) (hbb : ∀ x : Str, x ≠ "__name__" → mb x = bootBuiltins x) (hlim : s₁.heap.NoLimit) (hg : s₁.gens = #[])
    (ha : s₁.heap.get? a = some { cls := .type "list", data := .seq vs.toArray }) (hi : IntsAre vs ns) (hl : ns.length ≤ sizeLine) (hr : Room k callerA)
    (F : ∀ base : Heap, K.In base → base.Ns mainGlobals mg → FnOk P w K mg base CX k fa fd [x] sp) (hbind : ∀ (s : Shared) (u : Value), BindsTo s fd ⟨[u], []⟩ [(x, u)])
    (hsp : ∀ H : Hp, Only H → SqL K H a (ns.map V.int) → sp [.ref a] H (fun v _ => v = .bl true) fun _ _ _ => False)
    (hCX : ∀ H e s', CX [] H s₁ (fun _ _ _ => False) e s' → False) :
    codeAny (model P w) callerA (.call (.ref fa) ⟨[.ref a], []⟩) (fun r s' => r = .ok (.ret (.bool true)) ∧ OldK s₁.heap s'.heap ∧ s'.os = s₁.os ∧ AllBare s'.gens) s₁ := by
  have rv := vals_ints hi
  have lenV := hi.length
  have core : ∀ H : Hp, Only H → SqL K H a (ns.map V.int) → HOk P w H s₁.heap → (∀ b, H b ≠ none → b = a) → (H a ≠ none → K.lookup a = none) →
      codeAny (model P w) callerA (.call (.ref fa) ⟨[.ref a], []⟩) (fun r s' => r = .ok (.ret (.bool true)) ∧ OldK s₁.heap s'.heap ∧ s'.os = s₁.os ∧ AllBare s'.gens) s₁ := by
    intro H hO hS hok hA hK
    have base_of : ∀ {b : Addr} {o : Obj}, s₁.heap.get? b = some o → H b = none → (hidT s₁.heap H).get? b = some o := fun e n => hidT_get e n
    have noA : ∀ {b : Addr} {o : Obj} {es : Array DictEntry} {ep : Nat}, s₁.heap.get? b = some o → o.data = .dict es ep → H b = none := fun {b o es ep} e d => by
      cases q : H b with
      | none => rfl
      | some u =>
        have e' : b = a := hA b (by rw [q]; simp)
        subst e'
        rw [ha] at e; cases e
        have d' : Data.seq vs.toArray _ = Data.dict es ep := d
        cases d'
    have nsK : ∀ {b : Addr} {m : Str → Option Value}, s₁.heap.Ns b m → (hidT s₁.heap H).Ns b m := fun {b m} ⟨o, es, ep, e, d, r⟩ => ⟨o, es, ep, base_of e (noA e d), d, r⟩
    have hKb : K.In (hidT s₁.heap H) := fun b o e => base_of (KX b o e) (by
      cases q : H b with
      | none => rfl
      | some u =>
        have e' : b = a := hA b (by rw [q]; simp)
        subst e'
        rw [hK (by rw [q]; simp)] at e; cases e)
    have hM : Mod K mg (hidT s₁.heap H) := ⟨hKb, nsK hns, ⟨mb, nsK hb, hbb⟩, let ⟨mc, h1, h2⟩ := hlim; ⟨mc, nsK h1, h2⟩⟩
    have e0 : Env0 P w K mg (hidT s₁.heap H) callerA [] s₁ H := ⟨rfl, hM, fun b o e => of_hidT e, Nat.le_of_eq (hidT_size _ _), trivial, fun b hb => absurd (show b ∈ ([] : List Addr) from hb) (by simp), hok, .of_eq hg⟩
    refine codeAny_mono ((F _ hKb (nsK hns)).run callerA [] s₁ H ⟨[.ref a], []⟩ [.ref a] [.ref a] _ _ hr e0 (hbind s₁ (.ref a)) (.cons rfl .nil) (hsp H hO hS)) fun r s' h => ?_
    cases r with
    | error e => exact (hCX H e s' h).elim
    | ok fl =>
      cases fl with
      | next => exact False.elim h
      | brk => exact False.elim h
      | cont => exact False.elim h
      | ret u =>
        obtain ⟨v, H', os, bare, un, hok', r', q⟩ := h
        have q' : v = .bl true := q
        subst q'
        obtain rfl : u = Value.bool true := r'
        refine ⟨rfl, OldK.of_keep fun b o e => ?_, os, bare⟩
        cases q : H b with
        | none => exact un.keep b o e q (by intro z; exact absurd (show b ∈ ([] : List Addr) from z) (by simp)) (by simp)
        | some u =>
          rcases hO b with z | ⟨ob, xs, z⟩
          · rw [q] at z; cases z
          · have z2 := un.frzs b ob _ z
            obtain ⟨e1, _⟩ := hok b _ z
            obtain ⟨e2, _⟩ := hok' b _ z2
            rw [e] at e1; cases e1
            exact e2
  cases hk : K.lookup a with
  | some o =>
    have e := KX a o hk
    rw [ha] at e
    cases e
    refine core (fun _ => none) (fun _ => .inl rfl) (.inr ⟨_, vs.toArray, _, hk, rfl, rfl, rfl, by rw [List.size_toArray, lenV]; exact hl, by simpa using rv⟩) (fun b u z => by have z' : (none : Option HO) = some u := z; cases z') (fun b z => absurd rfl z) fun z => absurd rfl z
  | none =>
    refine core (fun b => if b = a then some (.frz { cls := .type "list", data := .seq vs.toArray } (.lst (ns.map V.int))) else none) (fun b => ?_) (.inl (.inr ⟨{ cls := .type "list", data := .seq vs.toArray }, if_pos rfl⟩)) (fun b u z => ?_) (fun b z => ?_) fun _ => hk
    · by_cases hb : b = a
      · exact .inr ⟨_, _, if_pos hb⟩
      · exact .inl (if_neg hb)
    · by_cases hb : b = a
      · have z' := (if_pos hb).symm.trans z
        cases z'
        subst hb
        exact ⟨ha, by rw [List.length_map]; exact hl, vs, _, rv, ha⟩
      · have z' := (if_neg hb).symm.trans z
        cases z'
    · by_cases hb : b = a
      · exact hb
      · exact absurd (if_neg hb) z
end L2
namespace L2
open PySem PySem.Spec PyProof.Rows
theorem walk_of {l : PySem.W.OpenLaw} {n k : Nat} {q : Program} {loose : List Str} {XP : (Str → Option Value) → Heap → Prop} {YP : World → Heap → Prop} {d : DefRec} {K : Params → PySem.W.Frag} {CX : World → CXT} {sp : World → Sp} {x : Str}
    (hn : l.most = some n) (hn2 : n ≤ sizeLine) (hdf : d.params.defaults = []) (hr : Room k callerA)
    (hY : ∀ (w : World) (h : Heap), YP w h → (K w.params).In h)
    (F : ∀ (w : World) (mg : Str → Option Value) (fa : Addr) (h : Heap), (K w.params).In h → h.Ns mainGlobals mg → mg d.name = some (.ref fa) →
      ∃ fd : FuncData, (∀ (s : Shared) (u : Value), BindsTo s fd ⟨[u], []⟩ [(x, u)]) ∧
        ∀ base : Heap, (K w.params).In base → base.Ns mainGlobals mg → FnOk l.prog w (K w.params) mg base (CX w) k fa fd [x] (sp w))
    (hsp : ∀ (w : World) (H : Hp) (a : Addr) (ns : List Int), ns.length ≤ n → Only H → SqL (K w.params) H a (ns.map V.int) → sp w [.ref a] H (fun v _ => v = .bl true) fun _ _ _ => False)
    (hCX : ∀ (w : World) (H : Hp) (s : Shared) (e : Value) (s' : Shared), CX w [] H s (fun _ _ _ => False) e s' → False) :
    PySem.W.WalkO q loose XP YP l.row.toRowW d [] (fun f vs => PySem.call f vs) := by
  refine Att.attach_call hn hdf fun w s₀ s₁ mg mb fa o pm cd doc a vs ns G Y ho hd hcd hmg hobj hints hlen hg => ?_
  have KX := hY w _ Y
  obtain ⟨fd, hb, hF⟩ := F w mg fa _ KX G.T.g hmg
  exact law_call KX G.T.g G.T.b G.T.builtins G.T.nolimit hg hobj hints (Nat.le_trans hlen hn2) hr hF hb (fun H hO hS => hsp w H a ns hlen hO hS) fun H e s' => hCX w H s₁ e s'
end L2
namespace L2
open PySem PySem.Spec PyProof.Rows
def defArgs (s : Stmt) : Arguments := match s with
  | .FunctionDef _ a _ _ _ _ _ _ _ _ => a
  | _ => { posonlyargs := [], args := [], vararg := none, kwonlyargs := [], kw_defaults := [], kwarg := none, defaults := [] }
def defBody (s : Stmt) : List Stmt := match s with
  | .FunctionDef _ _ b _ _ _ _ _ _ _ => b
  | _ => []
def defScope (s : Stmt) : Scope := match s with
  | .FunctionDef _ _ _ _ _ _ sc _ _ _ => sc
  | _ => { kind := .function, names := [], isGenerator := false, isCoroutine := false }
abbrev CX0 : CXT := fun _ _ _ _ _ _ => False
abbrev E0 : XK := fun _ _ _ => False
theorem pass0 {X : Cx} : Passes CX0 X E0 := fun _ _ _ _ _ _ _ h => h.elim
structure Fun (K : PySem.W.Frag) (x qual : Str) (st : Stmt) (f : Addr) (fd : FuncData) : Prop where
  ex : ∃ (oc : Value) (od : Option Addr) (kV doc pm : Value) (an : Option Addr) (cdv ct : Value) (osl : Array (Option Value)),
    fd = PySem.W.fnOf x qual (defArgs st) (defBody st) (defScope st) .none kV doc pm an cdv ct ∧ K.lookup f = some ⟨oc, od, .func fd, osl⟩ ∧ PySem.W.codeIn K cdv qual = true
  kp : PySem.W.keepIn K (.ref f) = true
section
variable {P : Program} {w : World} {K : PySem.W.Frag} {mg : Str → Option Value} {base : Heap}
theorem Fun.ok {x qual : Str} {st : Stmt} {f : Addr} {fd : FuncData} {N ps : List Str} {k : Nat} {sp : Sp} (F : Fun K x qual st f fd) (S : FnScope N ps (defScope st)) (len : ∀ vs H Q E, sp vs H Q E → vs.length = ps.length)
    (hbody : ∀ (cdv : Value) (A : Around) (outer : List Env) (s : Shared) (H : Hp) (vs : List V) (Q : VK) (E : XK), Room k (A.deeper (envOfC qual (defScope st) s.heap.objs.size f cdv)) → sp vs H Q E →
      ∃ t, PSs (cxOf CX0 P w K mg base N qual (defScope st) f cdv A outer s H E).nox (defBody st) t ∧ t { nx := fun _ H' => Q .non H', rt := Q } (start N vs) H) : FnOk P w K mg base CX0 (k + 1) f fd ps sp := by
  obtain ⟨oc, od, kV, doc, pm, an, cdv, ct, osl, rfl, lk, hcd⟩ := F.ex
  refine fn_of lk hcd S len fun A outer s H vs Q E hr hsp => ?_
  obtain ⟨t, h, q⟩ := hbody cdv A outer s H vs Q E hr hsp
  exact ⟨t, h.nox, q⟩
theorem Fun.binds {x qual : Str} {st : Stmt} {f : Addr} {fd : FuncData} {ps : List Str} (F : Fun K x qual st f fd)
    (h : ∀ (kV doc pm : Value) (an : Option Addr) (cdv ct : Value) (us : List Value), us.length = ps.length → bindArgs (PySem.W.fnOf x qual (defArgs st) (defBody st) (defScope st) .none kV doc pm an cdv ct) ⟨us, []⟩ = pure (ps.zip us)) : Binds K fd ps [] := by
  obtain ⟨oc, od, kV, doc, pm, an, cdv, ct, osl, rfl, lk, hcd⟩ := F.ex
  exact .all (h kV doc pm an cdv ct)
theorem fun_mk {x qual : Str} {st : Stmt} {f : Addr} {oc : Value} {od an : Option Addr} {osl : Array (Option Value)} {kV doc pm cdv ct : Value} (l : K.lookup f = some ⟨oc, od, .func (PySem.W.fnOf x qual (defArgs st) (defBody st) (defScope st) .none kV doc pm an cdv ct), osl⟩)
    (c : PySem.W.codeIn K cdv qual = true) (k : PySem.W.keepIn K (.ref f) = true) : Fun K x qual st f (PySem.W.fnOf x qual (defArgs st) (defBody st) (defScope st) .none kV doc pm an cdv ct) := ⟨⟨oc, od, kV, doc, pm, an, cdv, ct, osl, rfl, l, c⟩, k⟩
end
theorem small1000 {n : Nat} (h : n ≤ 1000) : n < sizeLine := Nat.lt_of_le_of_lt h (by decide)
section
variable {X : Cx}
theorem pv (i : Nat) {x : Str} {pos : Pos} (hN : X.N[i]? = some x := by rfl) (hv : Vis X.env.scope x := by first | exact Or.inl rfl | exact Or.inr (Or.inl rfl) | exact Or.inr (Or.inr rfl)) (hd : (x == ("__debug__" : Str)) = false := by decide)
    (hcd : (x == ("__classdict__" : Str)) = false := by decide) : PE X (.Name x pos) (tVar i) := pe_var hN hv hd hcd
end
theorem iteF {A B : Prop} (h : B) : if false = true then A else B := by
  rw [if_neg Bool.false_ne_true]
  exact h
theorem iteT {A B : Prop} (h : A) : if true = true then A else B := by
  rw [if_pos rfl]
  exact h
theorem ite2 {c A B : Prop} [Decidable c] (h1 : c → A) (h2 : ¬ c → B) : if c then A else B := by
  by_cases h : c
  · rw [if_pos h]
    exact h1 h
  · rw [if_neg h]
    exact h2 h
def Same (H H' : Hp) : Prop := ∀ b o, H b = some o → H' b = some o
theorem Same.refl (H : Hp) : Same H H := fun _ _ h => h
theorem Same.trans {H H1 H2 : Hp} (a : Same H H1) (b : Same H1 H2) : Same H H2 := fun c o h => b c o (a c o h)
theorem Same.free {H H' : Hp} (e : Same H H') {l : Addr} (h : H' l = Option.none) : H l = Option.none := by
  cases q : H l with
  | none => rfl
  | some o =>
    rw [e l o q] at h
    cases h
theorem Same.seq {K : PySem.W.Frag} {H H' : Hp} {a : Addr} {xs : List V} (e : Same H H') (h : SqL K H a xs) : SqL K H' a xs := by
  rcases h with (h | ⟨o, h⟩) | h
  · exact .inl (.inl (e _ _ h))
  · exact .inl (.inr ⟨o, e _ _ h⟩)
  · exact .inr h
end L2
namespace L2
open PySem PySem.Spec PyProof.Rows
section
variable {κ : Type} [DecidableEq κ]
def valV (kvs : List (κ × V)) (k : κ) : Option V := (kvs.find? fun kv => decide (kv.1 = k)).map (·.2)
def putK (kvs : List (κ × V)) (k : κ) (v : V) : List (κ × V) :=
  if (kvs.any fun kv => decide (kv.1 = k)) = true then kvs.map (fun kv => if kv.1 = k then (kv.1, v) else kv) else kvs ++ [(k, v)]
def dropK (kvs : List (κ × V)) (k : κ) : List (κ × V) := kvs.filter fun kv => decide (kv.1 ≠ k)
theorem valV_pos {p : κ × V} {r : List (κ × V)} {k : κ} (e : p.1 = k) : valV (p :: r) k = some p.2 := by simp [valV, List.find?_cons, e]
theorem valV_neg {p : κ × V} {r : List (κ × V)} {k : κ} (e : ¬ p.1 = k) : valV (p :: r) k = valV r k := by simp [valV, List.find?_cons, e]
theorem valV_any (k : κ) : ∀ kvs : List (κ × V), (kvs.any fun kv => decide (kv.1 = k)) = (valV kvs k).isSome
  | [] => rfl
  | p :: r => by
    rw [List.any_cons]
    by_cases e : p.1 = k
    · simp only [valV_pos e, decide_eq_true e, Bool.true_or, Option.isSome_some]
    · rw [valV_neg e, decide_eq_false e, Bool.false_or]; exact valV_any k r
theorem RelO.isSome_eq {o : Option V} {u : Option Value} (r : RelO o u) : o.isSome = u.isSome := by
  cases o with
  | none => cases u with
    | none => rfl
    | some _ => exact (show False from r).elim
  | some _ => cases u with
    | none => exact (show False from r).elim
    | some _ => rfl
theorem RelO.getD {o : Option V} {u : Option Value} {d : V} {d' : Value} (r : RelO o u) (rd : RelV d d') : RelV (o.getD d) (u.getD d') := by
  cases o with
  | none => cases u with
    | none => exact rd
    | some _ => exact (show False from r).elim
  | some _ => cases u with
    | none => exact (show False from r).elim
    | some _ => exact r
theorem KV.val {kvs : List (κ × V)} {vs : List (κ × Value)} (r : KV kvs vs) (k : κ) : RelO (valV kvs k) (valueAt vs k) := by
  unfold KV at r
  induction r with
  | nil => exact True.intro
  | @cons p q ps qs h t ih =>
    obtain ⟨h1, h2⟩ := h
    by_cases e : p.1 = k
    · have e' : q.1 = k := h1.symm.trans e
      have b : valueAt (q :: qs) k = some q.2 := by simp [valueAt, List.find?_cons, e']
      rw [valV_pos e, b]; exact h2
    · have e' : ¬ q.1 = k := fun z => e (h1.trans z)
      have b : valueAt (q :: qs) k = valueAt qs k := by simp [valueAt, List.find?_cons, e']
      rw [valV_neg e, b]; exact ih
theorem KV.any {kvs : List (κ × V)} {vs : List (κ × Value)} (r : KV kvs vs) (k : κ) : (kvs.any fun kv => decide (kv.1 = k)) = vs.any fun kv => decide (kv.1 = k) := by
  unfold KV at r
  induction r with
  | nil => rfl
  | cons h t ih => rw [List.any_cons, List.any_cons, ih, h.1]
theorem KV.repl {kvs : List (κ × V)} {vs : List (κ × Value)} (r : KV kvs vs) (k : κ) {y : V} {u : Value} (ry : RelV y u) :
    KV (kvs.map fun kv => if kv.1 = k then (kv.1, y) else kv) (vs.map fun kv => if kv.1 = k then (kv.1, u) else kv) := by
  unfold KV at r ⊢
  induction r with
  | nil => exact .nil
  | @cons p q ps qs h t ih =>
    rw [List.map_cons, List.map_cons]
    refine .cons ?_ ih
    obtain ⟨h1, h2⟩ := h
    by_cases e : p.1 = k
    · rw [if_pos e, if_pos (h1.symm.trans e)]; exact ⟨h1, ry⟩
    · rw [if_neg e, if_neg (fun z => e (h1.trans z))]; exact ⟨h1, h2⟩
theorem KV.put {kvs : List (κ × V)} {vs : List (κ × Value)} (r : KV kvs vs) (k : κ) {y : V} {u : Value} (ry : RelV y u) : KV (putK kvs k y) (stored vs k u) := by
  unfold putK stored
  rw [r.any k]
  by_cases e : (vs.any fun kv => decide (kv.1 = k)) = true
  · rw [if_pos e, if_pos e]; exact r.repl k ry
  · rw [if_neg e, if_neg e]; exact Paired.snoc r ⟨rfl, ry⟩
theorem KV.drop {kvs : List (κ × V)} {vs : List (κ × Value)} (r : KV kvs vs) (k : κ) : KV (dropK kvs k) (without vs k) := by
  unfold KV at r ⊢
  unfold dropK without
  induction r with
  | nil => exact .nil
  | @cons p q ps qs h t ih =>
    obtain ⟨h1, h2⟩ := h
    rw [List.filter_cons, List.filter_cons]
    by_cases e : p.1 = k
    · have a : ¬ decide (p.1 ≠ k) = true := by simp [e]
      have b : ¬ decide (q.1 ≠ k) = true := by simp [h1.symm.trans e]
      rw [if_neg a, if_neg b]; exact ih
    · have e' : ¬ q.1 = k := fun z => e (h1.trans z)
      have a : decide (p.1 ≠ k) = true := by simp [e]
      have b : decide (q.1 ≠ k) = true := by simp [e']
      rw [if_pos a, if_pos b]; exact .cons ⟨h1, h2⟩ ih
theorem KV.keys {kvs : List (κ × V)} {vs : List (κ × Value)} (r : KV kvs vs) : kvs.map (·.1) = vs.map (·.1) := by
  unfold KV at r
  induction r with
  | nil => rfl
  | cons h t ih => rw [List.map_cons, List.map_cons, ih, h.1]
theorem KV.length {kvs : List (κ × V)} {vs : List (κ × Value)} (r : KV kvs vs) : kvs.length = vs.length := Paired.length r
end
abbrev KT (H : Hp) : List (List Key × V) → List (List Key × Addr × Value) → Prop := Paired fun p q => p.1 = q.1 ∧ H q.2.1 = some (.tup (p.1.map kV)) ∧ RelV p.2 q.2.2
theorem KT.val {H : Hp} {kvs : List (List Key × V)} {xs : List (List Key × Addr × Value)} (r : KT H kvs xs) (k : List Key) : RelO (valV kvs k) ((atKey xs k).map (·.2)) := by
  induction r with
  | nil => exact True.intro
  | @cons p q ps qs h t ih =>
    obtain ⟨h1, _, h2⟩ := h
    by_cases e : p.1 = k
    · have e' : q.1 = k := h1.symm.trans e
      have b : atKey (q :: qs) k = some q.2 := by simp [atKey, List.find?_cons, e']
      rw [valV_pos e, b]; exact h2
    · have e' : ¬ q.1 = k := fun z => e (h1.trans z)
      have b : atKey (q :: qs) k = atKey qs k := by simp [atKey, List.find?_cons, e']
      rw [valV_neg e, b]; exact ih
theorem KT.repl {H : Hp} {kvs : List (List Key × V)} {xs : List (List Key × Addr × Value)} (r : KT H kvs xs) (k : List Key) {y : V} {u : Value} (ry : RelV y u) :
    KT H (kvs.map fun kv => if kv.1 = k then (kv.1, y) else kv) (xs.map (putAt k u)) := by
  induction r with
  | nil => exact .nil
  | @cons p q ps qs h t ih =>
    rw [List.map_cons, List.map_cons]
    refine .cons ?_ ih
    obtain ⟨h1, h2, h3⟩ := h
    unfold putAt
    by_cases e : p.1 = k
    · rw [if_pos e, if_pos (h1.symm.trans e)]; exact ⟨h1, h2, ry⟩
    · rw [if_neg e, if_neg (fun z => e (h1.trans z))]; exact ⟨h1, h2, h3⟩
theorem KT.put {H : Hp} {kvs : List (List Key × V)} {xs : List (List Key × Addr × Value)} (r : KT H kvs xs) (k : List Key) {b : Addr} {y : V} {u : Value} (hb : H b = some (.tup (k.map kV))) (ry : RelV y u) :
    KT H (putK kvs k y) (storedH xs k b u) := by
  have e : (kvs.any fun kv => decide (kv.1 = k)) = (atKey xs k).isSome := by
    rw [valV_any, (r.val k).isSome_eq, Option.isSome_map]
  unfold putK storedH
  rw [e]
  by_cases q : (atKey xs k).isSome = true
  · rw [if_pos q, if_pos q]; exact r.repl k ry
  · rw [if_neg q, if_neg q]; exact Paired.snoc r ⟨rfl, hb, ry⟩
theorem KT.keeps {H H' : Hp} {kvs : List (List Key × V)} {xs : List (List Key × Addr × Value)} (r : KT H kvs xs) (ht : ∀ b ys, H b = some (.tup ys) → H' b = some (.tup ys)) : KT H' kvs xs :=
  Paired.mapP r fun _ _ z => ⟨z.1, ht _ _ z.2.1, z.2.2⟩
section
variable {P : Program} {w : World} {H : Hp} {h : Heap} {a : Addr}
end
def DGet (H : Hp) (a : Addr) (y : V) (r : Option V) : Prop :=
  (∃ kvs k, Rd H a (.dK kvs) ∧ y = kV k ∧ r = valV kvs k) ∨ ∃ kvs k b, Rd H a (.dT kvs) ∧ y = .ref b ∧ H b = some (.tup (k.map kV)) ∧ r = valV kvs k
def DPut (H : Hp) (a : Addr) (y v : V) (H' : Hp) : Prop :=
  (∃ kvs k, H a = some (.dK kvs) ∧ y = kV k ∧ kvs.length < sizeLine ∧ H' = upd H a (.dK (putK kvs k v))) ∨
  ∃ kvs k b, H a = some (.dT kvs) ∧ y = .ref b ∧ H b = some (.tup (k.map kV)) ∧ kvs.length < sizeLine ∧ H' = upd H a (.dT (putK kvs k v))
theorem DGet.k {H : Hp} {a : Addr} {kvs : List (Key × V)} {k : Key} (e : H a = some (.dK kvs)) : DGet H a (kV k) (valV kvs k) := .inl ⟨kvs, k, .inl e, rfl, rfl⟩
theorem DGet.t {H : Hp} {a b : Addr} {kvs : List (List Key × V)} {k : List Key} (e : H a = some (.dT kvs)) (eb : H b = some (.tup (k.map kV))) : DGet H a (.ref b) (valV kvs k) := .inr ⟨kvs, k, b, .inl e, rfl, eb, rfl⟩
theorem DPut.k {H : Hp} {a : Addr} {kvs : List (Key × V)} {k : Key} {v : V} (e : H a = some (.dK kvs)) (hl : kvs.length < sizeLine) : DPut H a (kV k) v (upd H a (.dK (putK kvs k v))) := .inl ⟨kvs, k, e, rfl, hl, rfl⟩
theorem DPut.t {H : Hp} {a b : Addr} {kvs : List (List Key × V)} {k : List Key} {v : V} (e : H a = some (.dT kvs)) (eb : H b = some (.tup (k.map kV))) (hl : kvs.length < sizeLine) :
    DPut H a (.ref b) v (upd H a (.dT (putK kvs k v))) := .inr ⟨kvs, k, b, e, rfl, eb, hl, rfl⟩
section
variable {X : Cx} {pins : List (Addr × Obj)} {σ : St} {H : Hp} {s : Shared} {a : Addr} {y v : V} {u r : Value} {o : Option V} {A : Around} {E : Value → Shared → Prop}
end
section
variable {X : Cx} {pins : List (Addr × Obj)} {σ : St} {H : Hp} {s : Shared} {a : Addr} {kvs : List (Key × V)} {k : Key} {u : Value} {A : Around} {E : Value → Shared → Prop}
end
section
variable {X : Cx} {o i e value : Expr} {pos pos' tpos : Pos} {td ty tv : TE}
end
section
variable {X : Cx} {pos : Pos}
end
structure M1 (X : Cx) (o : Expr) (m : Str) (apos : Pos) (e : Expr) (cpos : Pos) : Prop where
  base : attributeBase o m X.env (eval o X.env) = eval o X.env
  few : ((backTo cpos (starEach [e] X.env)).all (fun x => !x.1) && (backToKw cpos (keywordEach [] X.env)).all (fun x => x.1.isSome)
    && decide (([e] : List Expr).length + ([] : List Keyword).length + (if ([] : List Keyword).isEmpty then 0 else 1) < 30)) = true
  line : (apos.endLine == cpos.line) = true
  trees : backTo cpos (starEach [e] X.env) = [(false, eval e X.env)]
structure M2 (X : Cx) (o : Expr) (m : Str) (apos : Pos) (e f : Expr) (cpos : Pos) : Prop where
  base : attributeBase o m X.env (eval o X.env) = eval o X.env
  few : ((backTo cpos (starEach [e, f] X.env)).all (fun x => !x.1) && (backToKw cpos (keywordEach [] X.env)).all (fun x => x.1.isSome)
    && decide (([e, f] : List Expr).length + ([] : List Keyword).length + (if ([] : List Keyword).isEmpty then 0 else 1) < 30)) = true
  line : (apos.endLine == cpos.line) = true
  trees : backTo cpos (starEach [e, f] X.env) = [(false, eval e X.env), (false, eval f X.env)]
section
variable {X : Cx} {pins : List (Addr × Obj)} {σ : St} {H : Hp} {s : Shared} {a : Addr} {y d : V} {u r : Value} {o : Option V} {A : Around} {E : Value → Shared → Prop}
end
section
variable {X : Cx} {o e f : Expr} {apos cpos : Pos} {td ty tx : TE}
end
section
variable {X : Cx} {pins : List (Addr × Obj)} {σ : St} {H : Hp} {s : Shared} {a : Addr} {kvs : List (Key × V)} {A : Around} {E : Value → Shared → Prop}
end
section
variable {X : Cx} {pins : List (Addr × Obj)} {σ : St} {H : Hp} {s : Shared} {a : Addr} {y : V} {u : Value} {A : Around} {E : Value → Shared → Prop}
end
end L2
namespace L2
open PySem PySem.Spec PyProof.Rows
section
variable {X : Cx}
end
section
variable {κ : Type} [DecidableEq κ]
theorem valV_not {kvs : List (κ × V)} {k : κ} (h : valV kvs k = none) : ¬ k ∈ kvs.map (·.1) := by
  intro m
  obtain ⟨p, hp, e⟩ := List.mem_map.mp m
  have q : (kvs.any fun kv => decide (kv.1 = k)) = true := List.any_eq_true.mpr ⟨p, hp, decide_eq_true e⟩
  rw [valV_any, h] at q
  exact absurd q (by simp)
end
end L2
namespace PySem
section
variable {prog : Program} {w : World} {A : Around} {E : Value → Shared → Prop} {R : Result → Shared → Prop} {s : Shared}
theorem compLoop_any {elt target iter : Expr} {ifs : List Expr} {scope : Scope} {pos : Pos} {it acc : Value} {env : Env} (I : Nat → Shared → Prop)
    (turn : ∀ n s, I n s → ∀ E' : Value → Shared → Prop, wpAny (model prog w) A (pyNext it) (fun r s₁ => match r with
      | none => R (.ok .next) s₁
      | some v => wpAny (model prog w) A (letOwnedTupleGo target it v) (fun _ s₁' => wpAny (model prog w) A (assign target env v) (fun _ s₂ =>
          wpAny (model prog w) A (forIn ifs true fun c r => if r = true then do let ok ← isTrue c env (eval c env); pure (ForInStep.yield ok) else pure (ForInStep.yield r)) (fun ok s₃ =>
            if ok = true then wpAny (model prog w) A (eval elt env) (fun x s₄ =>
              wpAny (model prog w) A (call (.builtin "list.append") [acc, x]) (fun _ s₅ => ∃ m, m < n ∧ I m s₅) E' s₄) E' s₃
            else ∃ m, m < n ∧ I m s₃) E' s₂) E' s₁') E' s₁) E' s)
    (n : Nat) (h : I n s) :
    codeAny (model prog w) A (.compLoop (.ListComp elt [⟨target, iter, ifs, 0⟩] scope pos) 0 it acc env) R s := by
  refine codeAny_loop rfl I (fun n s hI => ?_) n h
  show wpAny _ A ((compTurn (.ListComp elt [⟨target, iter, ifs, 0⟩] scope pos) 0 it acc env).onRaise (fun x => do noteFrame x env; theTreesLotGoes x)) _ _ s
  refine wpAny_noted ?_
  rw [compTurn_list]
  refine wpAny_bind (wpAny_standAt (wpAny_bind (wpAny_mono (turn n s hI _) (fun r s₁ h₁ => ?_) fun _ _ h' => h')))
  cases r with
  | none => exact wpAny_pure h₁
  | some v =>
    refine wpAny_bind (wpAny_mono h₁ (fun _ s₁' h₁' => ?_) fun _ _ h' => h')
    refine wpAny_bind (wpAny_mono h₁' (fun _ s₂ h₂ => wpAny_bind (wpAny_mono h₂ (fun ok s₃ h₃ => ?_) fun _ _ h' => h')) fun _ _ h' => h')
    cases ok with
    | false => exact wpAny_pure ⟨rfl, h₃⟩
    | true =>
      exact wpAny_bind (wpAny_bind (wpAny_mono h₃ (fun x s₄ h₄ => wpAny_bind (wpAny_mono h₄ (fun _ s₅ h₅ => wpAny_pure (wpAny_pure ⟨rfl, h₅⟩)) fun _ _ h' => h')) fun _ _ h' => h'))
end
end PySem
namespace PySem
def closL (env : Env) : List (Str × NameKind) → List (Str × Addr) → List (Str × Addr)
  | [], cs => cs
  | (n, k) :: r, cs => closL env r (if k == .free then (match env.cells.lookup n with | some a => (n, a) :: cs | none => cs) else cs)
theorem closureFor_closL {scope : Scope} {env : Env} (h : ∀ y ∈ scope.names, y.2 = .free → ∃ c, env.cells.lookup y.1 = some c) : closureFor scope env = pure (closL env scope.names []) := by
  unfold closureFor
  have key : ∀ (l : List (Str × NameKind)) (cs : List (Str × Addr)), (∀ y ∈ l, y.2 = .free → ∃ c, env.cells.lookup y.1 = some c) →
      (forIn l cs fun x r => (match x with
        | (name, kind) => if (kind == NameKind.free) = true then (do let a ← cellOf env name; pure (ForInStep.yield ((name, a) :: r))) else pure (ForInStep.yield r) : Sem (ForInStep (List (Str × Addr))))) = (pure (closL env l cs) : Sem _) := by
    intro l
    induction l with
    | nil => intro cs _; rfl
    | cons y r ih =>
      intro cs hy
      obtain ⟨n, k⟩ := y
      rw [List.forIn_cons]
      by_cases hk : (k == NameKind.free) = true
      · obtain ⟨c, hc⟩ := hy (n, k) List.mem_cons_self (by simpa using hk)
        have e : cellOf env n = pure c := by unfold cellOf; rw [hc]
        simp only [hk, if_true, e, pure_bind]
        rw [ih _ fun z hz => hy z (List.mem_cons_of_mem _ hz)]
        show _ = pure (closL env r (if (k == NameKind.free) = true then (match env.cells.lookup n with | some a => (n, a) :: cs | none => cs) else cs))
        rw [if_pos hk, hc]
      · have hk2 : (k == NameKind.free) = false := by simpa using hk
        simp only [hk2, Bool.false_eq_true, if_false, pure_bind]
        rw [ih _ fun z hz => hy z (List.mem_cons_of_mem _ hz)]
        show _ = pure (closL env r (if (k == NameKind.free) = true then (match env.cells.lookup n with | some a => (n, a) :: cs | none => cs) else cs))
        rw [if_neg hk]
  have k2 := key scope.names [] h
  simp only [bind_pure]
  first
    | exact k2
    | (rw [← k2]; rfl)
theorem closL_mem {env : Env} : ∀ (l : List (Str × NameKind)) (cs : List (Str × Addr)) (p : Str × Addr), p ∈ closL env l cs → p ∈ cs ∨ env.cells.lookup p.1 = some p.2
  | [], _, _, h => .inl h
  | (n, k) :: r, cs, p, h => by
    rcases closL_mem r _ p h with q | q
    · by_cases hk : (k == NameKind.free) = true
      · rw [if_pos hk] at q
        cases e : env.cells.lookup n with
        | none => rw [e] at q; exact .inl q
        | some a =>
          rw [e] at q
          rcases List.mem_cons.mp q with z | z
          · subst z; exact .inr e
          · exact .inl z
      · rw [if_neg hk] at q; exact .inl q
    · exact .inr q
theorem closL_sub {env : Env} : ∀ (l : List (Str × NameKind)) (cs : List (Str × Addr)) (p : Str × Addr), p ∈ cs → p ∈ closL env l cs
  | [], _, _, h => h
  | (n, k) :: r, cs, p, h => by
    refine closL_sub r _ p ?_
    by_cases hk : (k == NameKind.free) = true
    · rw [if_pos hk]
      cases e : env.cells.lookup n with
      | none => exact h
      | some a => exact List.mem_cons_of_mem _ h
    · rw [if_neg hk]; exact h
theorem closL_has {env : Env} {n : Str} {c : Addr} (e : env.cells.lookup n = some c) : ∀ (l : List (Str × NameKind)) (cs : List (Str × Addr)), (n, NameKind.free) ∈ l → (n, c) ∈ closL env l cs
  | [], _, h => nomatch h
  | (m, k) :: r, cs, h => by
    rcases List.mem_cons.mp h with z | z
    · cases z
      refine closL_sub r _ _ ?_
      rw [if_pos (by rfl), e]
      exact List.mem_cons_self
    · exact closL_has e r _ z
theorem lookup_of_mem {β : Type} {n : Str} {c : β} : ∀ {l : List (Str × β)}, (n, c) ∈ l → ∃ d, l.lookup n = some d
  | [], h => nomatch h
  | (m, d) :: r, h => by
    cases q : n == m with
    | true => exact ⟨d, by simp only [List.lookup_cons, q]⟩
    | false =>
      rcases List.mem_cons.mp h with z | z
      · cases z
        simp at q
      · obtain ⟨d', e⟩ := lookup_of_mem z
        exact ⟨d', by simp only [List.lookup_cons, q, e]⟩
theorem relabel_inv {env : Env} : ∀ {names : List (Str × NameKind)} {x : Str} {k : NameKind},
    (names.map fun (n, k) => if (k == NameKind.free && env.scope.kind == .function && env.kindOf n == some .cell) then (n, NameKind.cell) else (n, k)).lookup x = some k →
    ∃ k', names.lookup x = some k' ∧ (k' = k ∨ (k' = .free ∧ k = .cell))
  | [], _, _, h => by simp at h
  | (n, j) :: r, x, k, h => by
    cases hx : x == n with
    | true =>
      refine ⟨j, by simp only [List.lookup_cons, hx], ?_⟩
      by_cases hc : (j == NameKind.free && env.scope.kind == .function && env.kindOf n == some .cell) = true
      · simp only [List.map_cons, if_pos hc, List.lookup_cons, hx] at h
        cases h
        refine .inr ⟨?_, rfl⟩
        simp only [Bool.and_eq_true, beq_iff_eq] at hc
        exact hc.1.1
      · simp only [List.map_cons, if_neg hc, List.lookup_cons, hx] at h
        cases h
        exact .inl rfl
    | false =>
      by_cases hc : (j == NameKind.free && env.scope.kind == .function && env.kindOf n == some .cell) = true
      · simp only [List.map_cons, if_pos hc, List.lookup_cons, hx] at h
        obtain ⟨k', e1, e2⟩ := relabel_inv h
        exact ⟨k', by simp only [List.lookup_cons, hx, e1], e2⟩
      · simp only [List.map_cons, if_neg hc, List.lookup_cons, hx] at h
        obtain ⟨k', e1, e2⟩ := relabel_inv h
        exact ⟨k', by simp only [List.lookup_cons, hx, e1], e2⟩
end PySem
namespace L2
open PySem PySem.Spec PyProof.Rows
open Builtin.Int (intBits)
section
variable {X : Cx}
def CMulB (i j : Int) : Prop := intBits i + intBits j ≤ 134217728
def CDivB (i j : Int) : Prop := j ≠ 0 ∧ intBits j ≤ 9000
theorem op_mulB : OpR X (binaryOp .Mult) (rI CMulB fun i j => .int (i * j)) := opI fun _ _ _ _ _ _ _ hc q => mul_int q (IntMulOk.of_le (Nat.le_refl _) (Nat.le_refl _) hc)
theorem log2_of_bits {j : Int} (h0 : j ≠ 0) (h : intBits j ≤ 9000) : j.natAbs.log2 < 9000 := by
  unfold Builtin.Int.intBits at h
  have e : (j == 0) = false := by simpa using h0
  rw [e] at h
  simp only [Bool.false_eq_true, if_false] at h
  omega
theorem op_fdivB : OpR X (binaryOp .FloorDiv) (rI CDivB fun i j => .int (i.fdiv j)) := opI fun _ _ _ _ _ _ _ hc q => floordiv_int hc.1 q (.inl (PyProof.noPylong_of_log2 (log2_of_bits hc.1 hc.2)))
theorem call_isinst {T : String} : CallR X (.builtin "isinstance") (fun xs H Q => ∃ x t b, xs = [x, .ty T] ∧ TyOf X.K H x t ∧ PySem.W.kitOne X.K t (.type T) = some b ∧ Q (.bl b) H) := by
  intro pins s σ H xs us Q I r h
  obtain ⟨x, t, b, rfl, ty, e, q⟩ := h
  obtain ⟨u, w', rfl, rx, rt⟩ := vals2 r
  cases (show w' = Value.type T from rt)
  exact isinst_ok I rx ty e fun tk => ⟨.bl b, H, I.tok _, rfl, q⟩
theorem getD_at {α : Type} {l : List α} {d : α} {i : Nat} (h : i < l.length) : l.getD i d = l[i] := by simp [h]
theorem all_eq_ints : ∀ (ns ms : List Int), ((List.range (min ns.length ms.length)).all (fun j => ns.getD j 0 == ms.getD j 0) && ns.length == ms.length) = decide (ns = ms) := by
  intro ns ms
  rw [Bool.eq_iff_iff]
  simp only [Bool.and_eq_true, List.all_eq_true, List.mem_range, beq_iff_eq, decide_eq_true_eq]
  constructor
  · rintro ⟨h, hl⟩
    refine List.ext_getElem hl fun i h1 h2 => ?_
    have q := h i (by omega)
    rw [getD_at h1, getD_at h2] at q
    exact q
  · rintro rfl
    exact ⟨fun _ _ => rfl, rfl⟩
theorem ints_at {us : List Value} {ns : List Int} (h : Vals (ns.map V.int) us) {j : Nat} (hj : j < us.length) : ∃ t, us[j] = Value.int (ns.getD j 0) t := by
  have hl := h.length
  rw [List.length_map] at hl
  have e : (ns.map V.int)[j]? = some (.int (ns.getD j 0)) := by
    rw [List.getElem?_map, List.getElem?_eq_getElem (by omega), getD_at (by omega)]
    rfl
  obtain ⟨u, hu, t, r⟩ := h.get e
  rw [List.getElem?_eq_getElem hj] at hu
  exact ⟨t, (Option.some.inj hu).trans r⟩
def rEqT (K : PySem.W.Frag) : R2 := fun x y H Q => ∃ (a b : Addr) (ns ms : List Int), x = .ref a ∧ y = .ref b ∧ SqT K H a (ns.map V.int) ∧ SqT K H b (ms.map V.int) ∧ Q (.bl (decide (ns = ms))) H
def rNeT (K : PySem.W.Frag) : R2 := fun x y H Q => ∃ (a b : Addr) (ns ms : List Int), x = .ref a ∧ y = .ref b ∧ SqT K H a (ns.map V.int) ∧ SqT K H b (ms.map V.int) ∧ Q (.bl (!decide (ns = ms))) H
theorem eqAt_ints {A : Around} {s : Shared} {its its2 : List Value} {ns ms : List Int} (r1 : Vals (ns.map V.int) its) (r2 : Vals (ms.map V.int) its2) :
    ∀ j (h1 : j < its.toArray.size) (h2 : j < its2.toArray.size), PySem.SeqAt.EqAt A s its.toArray[j] its2.toArray[j] (ns.getD j 0 == ms.getD j 0) := fun j h1 h2 => by
  obtain ⟨t1, e1⟩ := ints_at r1 (j := j) (by simpa using h1)
  obtain ⟨t2, e2⟩ := ints_at r2 (j := j) (by simpa using h2)
  rw [List.getElem_toArray, List.getElem_toArray, e1, e2]
  exact PySem.SeqAt.EqAt.int_int _ _ _ _
theorem sizes_ints {its its2 : List Value} {ns ms : List Int} (r1 : Vals (ns.map V.int) its) (r2 : Vals (ms.map V.int) its2) :
    ((List.range (min its.toArray.size its2.toArray.size)).all (fun j => ns.getD j 0 == ms.getD j 0) && its.toArray.size == its2.toArray.size) = decide (ns = ms) := by
  have l1 := r1.length
  have l2 := r2.length
  rw [List.length_map] at l1 l2
  rw [List.size_toArray, List.size_toArray, ← l1, ← l2]
  exact all_eq_ints ns ms
theorem op_eqT (hu : X.A.units < cLine) : OpR X (compareOp .Eq) (rEqT X.K) := by
  intro pins s σ H x y v u Q I rx ry h
  obtain ⟨a, b, ns, ms, rfl, rfl, ha, hb, q⟩ := h
  cases rx
  cases ry
  obtain ⟨its, r1, p1, _⟩ := I.tuple ha
  obtain ⟨its2, r2, p2, _⟩ := I.tuple hb
  refine PySem.SeqAt.eq_tupleAt (show s.heap.IsTuple a its.toArray from p1) (show s.heap.IsTuple b its2.toArray from p2) hu (eqAt_ints r1 r2) ?_
  rw [sizes_ints r1 r2]
  exact ⟨.bl (decide (ns = ms)), H, I, rfl, q⟩
theorem op_neT (hu : X.A.units < cLine) : OpR X (compareOp .NotEq) (rNeT X.K) := by
  intro pins s σ H x y v u Q I rx ry h
  obtain ⟨a, b, ns, ms, rfl, rfl, ha, hb, q⟩ := h
  cases rx
  cases ry
  obtain ⟨its, r1, p1, _⟩ := I.tuple ha
  obtain ⟨its2, r2, p2, _⟩ := I.tuple hb
  refine PySem.SeqAt.RcNeAt.tuples (show s.heap.IsTuple a its.toArray from p1) (show s.heap.IsTuple b its2.toArray from p2) hu (eqAt_ints r1 r2) X.prog X.w _ _ ?_
  rw [sizes_ints r1 r2]
  exact ⟨.bl (!decide (ns = ms)), H, I, rfl, q⟩
end
structure CompOk (sc scope : Scope) : Prop where
  kind : scope.kind = .function
  nocell : ∀ y ∈ scope.names, y.2 ≠ .cell
  loc : ∀ y ∈ scope.names, y.2 = .local → scope.names.lookup y.1 = some .local
  free : ∀ y ∈ scope.names, y.2 = .free → sc.names.lookup y.1 = some .cell ∨ sc.names.lookup y.1 = some .free
def compOkB (sc scope : Scope) : Bool := (scope.kind == .function) && scope.names.all fun y => (y.2 != .cell) && ((y.2 != .local) || (scope.names.lookup y.1 == some .local)) && ((y.2 != .free) || (sc.names.lookup y.1 == some .cell) || (sc.names.lookup y.1 == some .free))
theorem CompOk.of {sc scope : Scope} (h : compOkB sc scope = true) : CompOk sc scope := by
  unfold compOkB at h
  rw [Bool.and_eq_true, List.all_eq_true] at h
  obtain ⟨hk, h⟩ := h
  refine ⟨eq_of_beq hk, fun y hy => ?_, fun y hy e => ?_, fun y hy e => ?_⟩
  · have q := h y hy
    simp only [Bool.and_eq_true, bne_iff_ne] at q
    exact q.1.1
  · have q := h y hy
    simp only [Bool.and_eq_true, Bool.or_eq_true, bne_iff_ne, beq_iff_eq] at q
    exact q.1.2.resolve_left fun z => z e
  · have q := h y hy
    simp only [Bool.and_eq_true, Bool.or_eq_true, bne_iff_ne, beq_iff_eq] at q
    rcases q.2 with (z | z) | z
    · exact absurd e z
    · exact .inl z
    · exact .inr z
structure NL (N M : List Str) (scope : Scope) : Prop where
  len : M.length = N.length
  loc : ∀ (j : Nat) x, M[j]? = some x → scope.names.lookup x ≠ some .local
  free : ∀ (j : Nat) x, M[j]? = some x → scope.names.lookup x = some .free → N[j]? = some x
def nlB (scope : Scope) : List Str → List Str → Bool
  | [], [] => true
  | x :: M, y :: N => (scope.names.lookup x != some .local) && ((scope.names.lookup x != some .free) || x == y) && nlB scope M N
  | _, _ => false
theorem NL.of {scope : Scope} : ∀ {N M : List Str}, nlB scope M N = true → NL N M scope
  | [], [], _ => ⟨rfl, fun j x h => by simp at h, fun j x h => by simp at h⟩
  | [], _ :: _, h => by cases h
  | _ :: _, [], h => by cases h
  | y :: N, x :: M, h => by
    have h' : ((scope.names.lookup x != some .local) && ((scope.names.lookup x != some .free) || x == y) && nlB scope M N) = true := h
    simp only [Bool.and_eq_true, Bool.or_eq_true, bne_iff_ne, beq_iff_eq] at h'
    obtain ⟨⟨h1, h2⟩, h3⟩ := h'
    have q := NL.of h3
    refine ⟨by simp [q.len], fun j z e => ?_, fun j z e f => ?_⟩
    · cases j with
      | zero => simp at e; subst e; exact h1
      | succ j => exact q.loc j z (by simpa using e)
    · cases j with
      | zero =>
        simp at e; subst e
        rcases h2 with w | w
        · exact absurd f w
        · simp [w]
      | succ j => simpa using q.free j z (by simpa using e) f
def cxComp (X : Cx) (ls M : List Str) (scope : Scope) (C : Addr) (fp : List Addr) (s : Shared) (H : Hp) : Cx where
  prog := X.prog
  w := X.w
  K := X.K
  mg := X.mg
  base := X.base
  A := X.A
  N := ls ++ M
  s₀ := s
  H₀ := H
  env := compEnvC scope (closL X.env scope.names []) C X.env
  outer := X.stack
  stack := X.stack
  ex := fp
  fn := fun _ => false
  calm := X.calm
  pn := []
  xe := fun _ _ => False
def PTs (Y : Cx) (ifs : List Expr) (c : TT) : Prop :=
  ∀ (pins : List (Addr × Obj)) (s : Shared) (σ : St) (H : Hp) (Q : Bool → Hp → Prop), Inv Y pins σ H s → c σ H Q →
    wpAny (model Y.prog Y.w) Y.A (forIn ifs true fun c r => if r = true then do let ok ← isTrue c Y.env (eval c Y.env); pure (ForInStep.yield ok) else pure (ForInStep.yield r)) (TP Y pins σ Q) Y.xe s
def tYes : TT := fun _ H Q => Q true H
theorem pts_nil {Y : Cx} : PTs Y [] tYes := fun _ _ _ H _ I h => wpAny_tests_nil ⟨H, I, h⟩
theorem pts_one {Y : Cx} {e : Expr} {c : TT} (h : PT Y e c) : PTs Y [e] c := fun pins s σ H Q I hw => wpAny_tests_one (h pins s σ H Q I hw)
def CompW (k : Nat) (J : It) (g : TG) (c : TT) (te : TE) (σ : St) (H1 : Hp) (D : Addr) (Q : VK) : Prop :=
  ∃ W : Nat → Nat → St → Hp → Prop, (∃ m, W 0 m (List.replicate k none ++ σ) (upd H1 D (.lst []))) ∧ ∀ i m τ H, W i m τ H →
    (J.stop i H ∧ Q (.ref D) H) ∨ (J.go i H ∧ ∀ x H', J.yld i H x H' → g x τ H' fun τ2 H2 => c τ2 H2 fun b H3 => if b = true then te τ2 H3 fun y H4 => ∃ ys m', m' < m ∧ H4 D = some (.lst ys) ∧ ys.length < sizeLine ∧ W (i + 1) m' τ2 (upd H4 D (.lst (ys ++ [y]))) else ∃ m', m' < m ∧ W (i + 1) m' τ2 H3)
def tComp (k : Nat) (wi : TI) (g : TG) (c : TT) (te : TE) : TE := fun σ H Q => wi σ H fun J H1 => ∀ D, H1 D = none → CompW k J g c te σ H1 D Q
structure COff (X : Cx) (pins : List (Addr × Obj)) (H : Hp) (C : Addr) (s : Shared) : Prop where
  ns : ∃ m, s.heap.Ns C m
  none : H C = none
  ne : C ≠ X.env.locals
  young : X.s₀.heap.objs.size ≤ C
  cells : ∀ x c, X.env.cells.lookup x = some c → c ≠ C
  pins : ∀ p ∈ X.pn ++ pins, p.1 ≠ C
theorem Inv.gone {X : Cx} {pins : List (Addr × Obj)} {σ : St} {H : Hp} {C : Addr} {s : Shared} {h' : Heap} (I : Inv X pins σ H s) (o : COff X pins H C s) (hs : Heap.SameBut C s.heap h') : Inv X pins σ H { s with heap := h' } :=
  I.turned (t' := s.toks) (it := C) (fun b ob hb e => (hs.2 b hb).trans e) o.none o.ne (.inr o.young) o.cells o.pins
section
variable {X : Cx} {elt tg iter : Expr} {ifs : List Expr} {scope : Scope} {pos : Pos} {ls M : List Str} {g : TG} {c : TT} {te : TE}
theorem comp_core {J : It} {fp : List Addr} {tn : Nat → Heap → Prop} {it : Addr} {pins : List (Addr × Obj)} {σ : St} {H2 : Hp} {s2 : Shared} {Qe : VK} {RR : Value → Addr → Result → Shared → Prop} {E : Value → Shared → Prop}
    (hc : X.calm = true) (S : CompOk X.env.scope scope) (nl : NL X.N M scope)
    (hb : ∀ C fp s H, PG (cxComp X ls M scope C fp s H) tg g ∧ PTs (cxComp X ls M scope C fp s H) ifs c ∧ PE (cxComp X ls M scope C fp s H) elt te)
    (I2 : Inv X pins σ H2 s2) (T : Turn X.prog X.w X.K tg J fp it tn) (st2 : tn 0 s2.heap) (f2 : ∀ b ∈ fp, FpOk X pins H2 b)
    (hW : ∀ D, H2 D = none → CompW ls.length J g c te σ H2 D Qe)
    (hRR : ∀ D C H' s', Inv X pins σ H' s' → COff X pins H' C s' → Qe (.ref D) H' → RR (.ref D) C (.ok .next) s') :
    wpAny (model X.prog X.w) X.A (newList []) (fun acc s₃ => wpAny (model X.prog X.w) X.A (newFunctionEnv scope X.env.globals (closL X.env scope.names []) [] X.env.qual none .none (some X.env)) (fun cenv s₄ =>
      codeAny (model X.prog X.w) X.A (.compStart (.ListComp elt [⟨tg, iter, ifs, 0⟩] scope pos) 0 (.ref it) acc { cenv with scope := relabel scope X.env }) (RR acc cenv.locals) s₄) E s₃) E s2 := by
  refine wpAny_newObj_type (wpAny_newFunctionEnv S.nocell (by intro y hy; simp at hy) (fun h₁ hns₁ hsb₁ => ?_) S.kind)
  dsimp only at hns₁ hsb₁ ⊢
  have I3 : Inv X pins σ (upd H2 s2.heap.objs.size (.lst [])) { s2 with heap := s2.heap.push { cls := .type "list", dict := none, data := .seq ([] : List Value).toArray }, toks := s2.toks } :=
    I2.laid (fun _ _ q => Heap.get?_push_of_some _ q) (Nat.le_refl _) ⟨Nat.zero_le _, [], 0, .nil, Heap.get?_push_size _ rfl⟩
  have hfreshD : H2 s2.heap.objs.size = none := I2.hok.fresh (Nat.le_refl _)
  generalize hHH : s2.heap.push { cls := .type "list", dict := none, data := .seq ([] : List Value).toArray } = HH at hns₁ hsb₁ I3 ⊢
  have up : ∀ b o, s2.heap.get? b = some o → HH.get? b = some o := fun b o e => by rw [← hHH]; exact Heap.get?_push_of_some _ e
  have old : ∀ b o, HH.get? b = some o → h₁.get? b = some o := fun b o e => hsb₁.extBut b o (Nat.ne_of_lt (Heap.lt_size e)) (Heap.get?_push_of_some _ e)
  generalize hH3 : upd H2 s2.heap.objs.size (.lst []) = H3 at I3
  have f3 : ∀ b ∈ fp, FpOk X pins H3 b := fun b hb => by
    obtain ⟨f0, fr⟩ := f2 b hb
    refine ⟨?_, fr⟩
    obtain ⟨o, e, _⟩ := T.obj 0 _ st2 b hb
    rw [← hH3, upd_ne (Nat.ne_of_lt (Heap.lt_size e))]
    exact f0
  have fplt : ∀ b ∈ fp, b < HH.objs.size := fun b hb => by
    obtain ⟨o, e, _⟩ := T.obj 0 _ st2 b hb
    exact Heap.lt_size (up b o e)
  have sub : ∀ x a, (closL X.env scope.names []).lookup x = some a → X.env.cells.lookup x = some a := fun x a e => by
    rcases closL_mem _ _ _ (PySem.mem_of_lookup e) with z | z
    · exact absurd z (by simp)
    · exact z
  have kin : ∀ x, scope.names.lookup x = some .free → X.env.kindOf x = some .cell ∨ X.env.kindOf x = some .free := fun x e => S.free (x, .free) (PySem.mem_of_lookup e) rfl
  have has : ∀ x a, scope.names.lookup x = some .free → X.env.cells.lookup x = some a → (closL X.env scope.names []).lookup x = some a := fun x a e ec => by
    obtain ⟨d, hd⟩ := lookup_of_mem (closL_has ec scope.names [] (PySem.mem_of_lookup e))
    have := sub x d hd
    rw [ec] at this
    cases this
    exact hd
  have rel : ∀ x k, (relabel scope X.env).names.lookup x = some k → (k = .cell ∨ k = .free) → scope.names.lookup x = some .free := fun x k e hk => by
    obtain ⟨k', e1, e2⟩ := relabel_inv (show (scope.names.map fun (n, k) => if (k == NameKind.free && X.env.scope.kind == .function && X.env.kindOf n == some .cell) then (n, NameKind.cell) else (n, k)).lookup x = some k from e)
    rcases e2 with e2 | ⟨e2, _⟩
    · subst e2
      rcases hk with hk | hk
      · subst hk; exact absurd rfl (S.nocell _ (PySem.mem_of_lookup e1))
      · subst hk; exact e1
    · subst e2; exact e1
  have okY : (cxComp X ls M scope HH.objs.size fp { s2 with heap := HH, toks := s2.toks } H3).Ok := by
    refine ⟨I3.ok.mod, S.kind, I3.ok.glob, I3.ok.blt, Nat.le_refl _, fun x y a h1 h2 => I3.ok.inj x y a (sub x a h1) (sub y a h2), fun x hx => ?_, (fun x a h => nomatch h), I3.ok.hd, I3.ok.frames, .inl rfl, fun b hb' => ⟨Nat.ne_of_lt (fplt b hb'), fun x a e => (f3 b hb').2.2.2.2.1 x a (sub x a e)⟩,
      I3.bs, Nat.le_trans I3.ok.bsz I3.sz, fun b o e hb' => ?_, fun b hb' hs => ?_, I3.stack, I3.stkFree⟩
    · have hf : scope.names.lookup x = some .free := by
        rcases hx with hx | hx
        · exact rel x _ hx (.inl rfl)
        · exact rel x _ hx (.inr rfl)
      obtain ⟨a, ea⟩ := I3.ok.has x (kin x hf)
      exact ⟨a, has x a hf ea⟩
    · rcases (f3 b hb').2.2.2.1 with z | z
      · exact I3.ok.noex b o e z
      · exact absurd (Nat.lt_of_lt_of_le (Heap.lt_size e) (Nat.le_trans I3.ok.bsz z)) (Nat.lt_irrefl _)
    · rcases List.mem_cons.mp (I3.stkSub b hs) with z | z
      · exact (f3 b hb').2.1 z
      · exact (f3 b hb').2.2.1 z
  have IY : Inv (cxComp X ls M scope HH.objs.size fp { s2 with heap := HH, toks := s2.toks } H3) [] (List.replicate ls.length none ++ σ) H3 { s2 with heap := h₁, toks := s2.toks + ([] : List (Str × Value)).length } := by
    refine ⟨okY, rfl, I2.bare, Un.kept old, ⟨_, hns₁, fun i x v e1 e2 e3 => ?_⟩, fun x a e => ?_, I3.hok.fresh (Nat.le_refl _), fun x a e => I3.freeC x a (sub x a e), fun p hp => absurd (show p ∈ ([] : List (Addr × Obj)) from hp) (by simp), I3.hok.kept old, ?_⟩
    · have hi : ls.length ≤ i := by
        by_cases hi : ls.length ≤ i
        · exact hi
        · rw [List.getElem?_append_left (by simp; omega), List.getElem?_replicate] at e2
          split at e2 <;> cases e2
      rw [List.getElem?_append_right (by simpa using hi), List.length_replicate] at e2
      have e0 : M[i - ls.length]? = some x := by
        have z : (ls ++ M)[i]? = some x := e1
        rw [List.getElem?_append_right hi] at z
        exact z
      have hnl := nl.loc _ x e0
      have hf : scope.names.lookup x = some .free := by
        rcases e3 with e3 | e3 | e3
        · obtain ⟨k', q1, q2⟩ := relabel_inv (show (scope.names.map fun (n, k) => if (k == NameKind.free && X.env.scope.kind == .function && X.env.kindOf n == some .cell) then (n, NameKind.cell) else (n, k)).lookup x = some .local from e3)
          rcases q2 with q2 | ⟨_, q2⟩
          · subst q2; exact absurd q1 hnl
          · cases q2
        · exact rel x _ e3 (.inl rfl)
        · exact rel x _ e3 (.inr rfl)
      have e1' := nl.free _ x e0 hf
      have hk := kin x hf
      obtain ⟨m, hn, hl⟩ := I3.loc
      obtain ⟨u, ru, lk⟩ := hl (i - ls.length) x v e1' e2 (hk.elim (fun z => .inr (.inl z)) fun z => .inr (.inr z))
      refine ⟨u, ru, ?_⟩
      rcases lk with ⟨z, _⟩ | ⟨_, a, ea, hcell⟩
      · rcases hk with hk | hk <;> (rw [hk] at z; cases z)
      · obtain ⟨o, eo, hd⟩ := hcell
        refine .inr ⟨?_, a, has x a hf ea, ⟨o, old a o eo, hd⟩⟩
        rcases e3 with e3 | e3 | e3
        · obtain ⟨k', q1, q2⟩ := relabel_inv (show (scope.names.map fun (n, k) => if (k == NameKind.free && X.env.scope.kind == .function && X.env.kindOf n == some .cell) then (n, NameKind.cell) else (n, k)).lookup x = some .local from e3)
          rcases q2 with q2 | ⟨_, q2⟩
          · subst q2; exact absurd q1 hnl
          · cases q2
        · exact .inl e3
        · exact .inr e3
    · obtain ⟨v, o, eo, hd⟩ := I3.cell x a (sub x a e)
      exact ⟨v, o, old a o eo, hd⟩
    · show (List.replicate ls.length none ++ σ).length = (ls ++ M).length
      rw [List.length_append, List.length_append, List.length_replicate, I3.len, nl.len]
  have st1 : tn 0 h₁ := T.keep 0 _ _ st2 fun b _ o e => old b o (up b o e)
  obtain ⟨hPG, hPT, hPE⟩ := hb HH.objs.size fp { s2 with heap := HH, toks := s2.toks } H3
  obtain ⟨W, ⟨m0, w0⟩, turn⟩ := hW s2.heap.objs.size hfreshD
  rw [hH3] at w0
  have back : ∀ {τ : St} {H' : Hp} {s' : Shared}, Inv (cxComp X ls M scope HH.objs.size fp { s2 with heap := HH, toks := s2.toks } H3) [] τ H' s' → Inv X pins σ H' s' ∧ COff X pins H' HH.objs.size s' := fun {τ H' s'} J => by
    refine ⟨I3.call' (ch := fp) J.os J.base J.hok J.bare fun b hb' => ?_, ?_⟩
    · obtain ⟨_, g1, g2, g3, g4, g5⟩ := f3 b hb'
      exact ⟨g3, g1, g4, g5⟩
    · obtain ⟨m, hn, _⟩ := J.loc
      refine ⟨⟨m, hn⟩, J.free, Ne.symm (Nat.ne_of_lt I3.lt), I3.sz, fun x a e => ?_, fun p hp => Nat.ne_of_lt (Heap.lt_size (I3.pin p hp).1)⟩
      obtain ⟨v, q⟩ := I3.cell x a e
      exact Nat.ne_of_lt q.lt
  have stat : ∀ {H' : Hp}, (∀ b ∈ fp, H' b = none) → ∀ b ∈ fp, FpOk (cxComp X ls M scope HH.objs.size fp { s2 with heap := HH, toks := s2.toks } H3) [] H' b := fun {H'} hn b hb' => by
    obtain ⟨_, g1, g2, g3, g4, g5⟩ := f3 b hb'
    refine ⟨hn b hb', Nat.ne_of_lt (fplt b hb'), fun hs => ?_, .inl hb', fun x a e => g4 x a (sub x a e), fun p hp => absurd (show p ∈ ([] : List (Addr × Obj)) from hp) (by simp)⟩
    rcases List.mem_cons.mp (I3.stkSub b hs) with z | z
    · exact g1 z
    · exact g2 z
  have loop : ∀ s₃ : Shared, s₃ = { s2 with heap := h₁, toks := s2.toks + ([] : List (Str × Value)).length } →
      codeAny (model X.prog X.w) X.A (.compLoop (.ListComp elt [⟨tg, iter, ifs, 0⟩] scope pos) 0 (.ref it) (.ref s2.heap.objs.size) (compEnvC scope (closL X.env scope.names []) HH.objs.size X.env)) (RR (.ref s2.heap.objs.size) HH.objs.size) s₃ := by
    rintro s₃ rfl
    refine compLoop_any (fun n s' => ∃ i τ H', Inv (cxComp X ls M scope HH.objs.size fp { s2 with heap := HH, toks := s2.toks } H3) [] τ H' s' ∧ tn i s'.heap ∧ (∀ b ∈ fp, H' b = none) ∧ W i n τ H') ?_ m0 ⟨0, _, H3, IY, st1, fun b hb' => (f3 b hb').1, w0⟩
    rintro n s3 ⟨i, τ, H', I4, st4, fr4, w4⟩ E'
    rcases turn i n τ H' w4 with ⟨stop, qn⟩ | ⟨go, step⟩
    · refine thn (T.done (cxComp X ls M scope HH.objs.size fp { s2 with heap := HH, toks := s2.toks } H3) rfl rfl rfl hc i [] s3 τ H' E' I4 (stat fr4) st4 stop) fun r s4 ⟨hr, I5⟩ => ?_
      subst hr
      obtain ⟨b1, b2⟩ := back I5
      exact hRR _ _ H' s4 b1 b2 qn
    · refine thn (T.item (cxComp X ls M scope HH.objs.size fp { s2 with heap := HH, toks := s2.toks } H3) rfl rfl rfl hc i [] s3 τ H' E' I4 (stat fr4) st4 go) fun r s4 ⟨u, hr, h4⟩ => ?_
      subst hr
      refine thn h4 fun _ s5 ⟨x, H5, I5, r5, y5, st5, fr5⟩ => ?_
      have I5' := I5.pinned (stat fr5) (T.obj _ _ st5)
      refine wpAny_mono (hPG _ s5 τ H5 x u _ I5' r5 (step x H5 y5)) (fun _ s6 ⟨σ6, H6, I6, q6⟩ => ?_) fun _ _ z => z.elim
      refine wpAny_mono (hPT _ s6 σ6 H6 _ I6 q6) (fun ok s7 ⟨H7, I7, q7⟩ => ?_) fun _ _ z => z.elim
      have again : ∀ {σ8 : St} {H8 : Hp} {s8 : Shared} {m' : Nat}, Inv (cxComp X ls M scope HH.objs.size fp { s2 with heap := HH, toks := s2.toks } H3) ([] ++ pinsAt fp s5.heap) σ8 H8 s8 → m' < n → W (i + 1) m' σ8 H8 →
          ∃ m, m < n ∧ ∃ i τ H', Inv (cxComp X ls M scope HH.objs.size fp { s2 with heap := HH, toks := s2.toks } H3) [] τ H' s8 ∧ tn i s8.heap ∧ (∀ b ∈ fp, H' b = none) ∧ W i m τ H' := fun {σ8 H8 s8 m'} I8 hm w8 => by
        refine ⟨m', hm, i + 1, σ8, H8, I8.unpinned, T.keep _ _ _ st5 fun b hb' o e => (I8.pin (b, o) (List.mem_append_right _ (List.mem_append_right _ (mem_pinsAt hb' e)))).1, fun b hb' => ?_, w8⟩
        obtain ⟨o, e, d⟩ := T.obj _ _ st5 b hb'
        exact (I8.pin (b, o) (List.mem_append_right _ (List.mem_append_right _ (mem_pinsAt hb' e)))).2.1
      cases ok with
      | false =>
        rw [if_neg Bool.false_ne_true] at q7 ⊢
        obtain ⟨m', hm, w7⟩ := q7
        exact again I7 hm w7
      | true =>
        rw [if_pos rfl] at q7 ⊢
        refine wpAny_mono (hPE _ s7 σ6 H7 _ I7 q7) (fun yv s8 ⟨y, H8, I8, r8, ys, m', hm, hD, hz, w8⟩ => ?_) fun _ _ z => z.elim
        refine wpAny_mono (mt_append (X := (cxComp X ls M scope HH.objs.size fp { s2 with heap := HH, toks := s2.toks } H3)) _ s8 σ6 H8 (.ref s2.heap.objs.size) [y] (.ref s2.heap.objs.size) [yv] (fun _ H9 => W (i + 1) m' σ6 H9) I8 rfl (.cons r8 .nil) ⟨_, ys, y, rfl, rfl, hD, hz, w8⟩) (fun _ s9 ⟨_, H9, I9, _, w9⟩ => ?_) fun _ _ z => z.elim
        exact again I9 hm w9
  exact codeAny_compStart_list (loop _ rfl) (T.self _ 0 _ _ _ st1 (loop _ rfl))
theorem closOk (S : CompOk X.env.scope scope) (ok : X.Ok) : closureFor scope X.env = pure (closL X.env scope.names []) :=
  closureFor_closL fun y hy e => ok.has y.1 (S.free y hy e)
theorem pe_comp {wi : TI} (hc : X.calm = true) (S : CompOk X.env.scope scope) (nl : NL X.N M scope) (hi : PI X tg iter wi)
    (hb : ∀ C fp s H, PG (cxComp X ls M scope C fp s H) tg g ∧ PTs (cxComp X ls M scope C fp s H) ifs c ∧ PE (cxComp X ls M scope C fp s H) elt te)
    (hs : ∀ x, foldedSetIterable iter X.env x = pure x := by intro _; rfl) : PE X (.ListComp elt [⟨tg, iter, ifs, 0⟩] scope pos) (tComp ls.length wi g c te) := by
  intro pins s σ H Q I h
  rw [eval_ListComp]
  refine wpAny_comprehension_free (use := none) rfl hs (closOk S I.ok) S.kind S.loc (thn (hi pins s σ H _ I h) fun xv s1 h1 => thn h1 fun itv s2 h2 => ?_)
  obtain ⟨it, fp, tn, J, H2, e, I2, T, st2, f2, hW⟩ := h2
  subst e
  refine comp_core (RR := fun acc C => compPost (model X.prog X.w) X.A X.xe none (EP X pins σ Q) acc C) (Qe := Q) hc S nl hb I2 T st2 f2 hW fun D C H' s' I' o q => ?_
  exact ⟨o.ns.choose, o.ns.choose_spec, fun h' hs' => ⟨.ref D, H', I'.gone o hs', rfl, q⟩⟩
end
def CW (n : Nat) (Pv : Nat → St → Hp → Prop) (i m : Nat) (τ : St) (H : Hp) : Prop := m = n - i ∧ i ≤ n ∧ Pv i τ H
theorem comp_next {n i m : Nat} {Pv : Nat → St → Hp → Prop} {τ : St} {H4 : Hp} {D : Addr} {ys : List V} {y : V} (hm : m = n - i) (hi : i < n) (e1 : H4 D = some (.lst ys)) (e2 : ys.length < sizeLine) (p : Pv (i + 1) τ (upd H4 D (.lst (ys ++ [y])))) :
    ∃ ys m', m' < m ∧ H4 D = some (.lst ys) ∧ ys.length < sizeLine ∧ CW n Pv (i + 1) m' τ (upd H4 D (.lst (ys ++ [y]))) := ⟨ys, n - (i + 1), by omega, e1, e2, rfl, hi, p⟩
theorem comp_skip {n i m : Nat} {Pv : Nat → St → Hp → Prop} {τ : St} {H3 : Hp} (hm : m = n - i) (hi : i < n) (p : Pv (i + 1) τ H3) : ∃ m', m' < m ∧ CW n Pv (i + 1) m' τ H3 := ⟨n - (i + 1), by omega, rfl, hi, p⟩
theorem comp_range {k : Nat} {lo : Int} {n : Nat} {g : TG} {c : TT} {te : TE} {σ : St} {H1 : Hp} {D : Addr} {Q : VK} (Pv : Nat → St → Hp → Prop) (h0 : Pv 0 (List.replicate k none ++ σ) (upd H1 D (.lst [])))
    (hs : ∀ i m τ H, m = n - i → i < n → Pv i τ H → g (.int (lo + i)) τ H fun τ2 H2 => c τ2 H2 fun b H3 => if b = true then te τ2 H3 fun y H4 => ∃ ys m', m' < m ∧ H4 D = some (.lst ys) ∧ ys.length < sizeLine ∧ CW n Pv (i + 1) m' τ2 (upd H4 D (.lst (ys ++ [y]))) else ∃ m', m' < m ∧ CW n Pv (i + 1) m' τ2 H3)
    (hd : ∀ τ H, Pv n τ H → Q (.ref D) H) : CompW k (Itr lo n) g c te σ H1 D Q := by
  refine ⟨CW n Pv, ⟨n, rfl, Nat.zero_le _, h0⟩, ?_⟩
  rintro i m τ H ⟨hm, hi, p⟩
  by_cases hlt : i < n
  · refine .inr ⟨hlt, fun x H' y => ?_⟩
    obtain ⟨e, y⟩ := y
    subst e y
    exact hs i m τ _ hm hlt p
  · have e : i = n := by omega
    subst e
    exact .inl ⟨Nat.le_refl _, hd τ H p⟩
theorem comp_list {K : PySem.W.Frag} {a : Addr} {xs : List V} {k : Nat} {g : TG} {c : TT} {te : TE} {σ : St} {H1 : Hp} {D : Addr} {Q : VK} (Pv : Nat → St → Hp → Prop) (h0 : Pv 0 (List.replicate k none ++ σ) (upd H1 D (.lst [])))
    (hl : ∀ i τ H, i ≤ xs.length → Pv i τ H → SqL K H a xs)
    (hs : ∀ i m x τ H, m = xs.length - i → i < xs.length → xs[i]? = some x → Pv i τ H → g x τ H fun τ2 H2 => c τ2 H2 fun b H3 => if b = true then te τ2 H3 fun y H4 => ∃ ys m', m' < m ∧ H4 D = some (.lst ys) ∧ ys.length < sizeLine ∧ CW xs.length Pv (i + 1) m' τ2 (upd H4 D (.lst (ys ++ [y]))) else ∃ m', m' < m ∧ CW xs.length Pv (i + 1) m' τ2 H3)
    (hd : ∀ τ H, Pv xs.length τ H → Q (.ref D) H) : CompW k (Itl K a) g c te σ H1 D Q := by
  refine ⟨CW xs.length Pv, ⟨xs.length, rfl, Nat.zero_le _, h0⟩, ?_⟩
  rintro i m τ H ⟨hm, hi, p⟩
  have q := hl i τ H hi p
  by_cases hlt : i < xs.length
  · refine .inr ⟨⟨xs, xs[i], q, by simp [hlt]⟩, fun x H' y => ?_⟩
    obtain ⟨e, y⟩ := y
    subst e
    exact hs i m x τ _ hm hlt (y xs q) p
  · have e : i = xs.length := by omega
    subst e
    exact .inl ⟨⟨xs, q, Nat.le_refl _⟩, hd τ H p⟩
theorem tyes_if {τ : St} {H : Hp} {A B : Hp → Prop} (h : A H) : tYes τ H (fun b H3 => if b = true then A H3 else B H3) := by
  show (if true = true then A H else B H)
  rw [if_pos rfl]
  exact h
theorem ifT {c : Bool} {A B : Prop} (h : c = true) (a : A) : if c = true then A else B := by
  rw [if_pos h]
  exact a
theorem ifF {c : Bool} {A B : Prop} (h : c = false) (b : B) : if c = true then A else B := by
  rw [if_neg (by rw [h]; exact Bool.false_ne_true)]
  exact b
theorem bt_int : bootBuiltins "int" = some (.type "int") := by decide +kernel
theorem bt_bool : bootBuiltins "bool" = some (.type "bool") := by decide +kernel
theorem bt_list : bootBuiltins "list" = some (.type "list") := by decide +kernel
theorem bt_tuple : bootBuiltins "tuple" = some (.type "tuple") := by decide +kernel
theorem bt_len : bootBuiltins "len" = some (.builtin "len") := by decide +kernel
theorem bt_abs : bootBuiltins "abs" = some (.builtin "abs") := by decide +kernel
theorem bt_isinstance : bootBuiltins "isinstance" = some (.builtin "isinstance") := by decide +kernel
theorem bt_sum : bootBuiltins "sum" = some (.builtin "sum") := by decide +kernel
theorem bt_sorted : bootBuiltins "sorted" = some (.builtin "sorted") := by decide +kernel
theorem bt_all : bootBuiltins "all" = some (.builtin "all") := by decide +kernel
def nodupB : List Str → Bool
  | [] => true
  | x :: r => (r.all fun y => x != y) && nodupB r
theorem nd_of : ∀ {l : List Str}, nodupB l = true → l.Nodup
  | [], _ => .nil
  | x :: r, h => by
    have h' : ((r.all fun y => x != y) && nodupB r) = true := h
    rw [Bool.and_eq_true, List.all_eq_true] at h'
    refine List.nodup_cons.mpr ⟨fun z => ?_, nd_of h'.2⟩
    have := h'.1 x z
    simp at this
structure Cal (P : Program) (w : World) (K : PySem.W.Frag) (mg : Str → Option Value) (base : Heap) (n : Nat) (x : Str) (ps : List Str) (sp : Sp) (g : Addr) (gd : FuncData) : Prop where
  ok : FnOk P w K mg base CX0 n g gd ps sp
  bi : Binds K gd ps []
  kp : PySem.W.keepIn K (.ref g) = true
  at_ : mg x = some (.ref g)
theorem Cal.up {P : Program} {w : World} {K : PySem.W.Frag} {mg : Str → Option Value} {base : Heap} {n m : Nat} {x : Str} {ps : List Str} {sp : Sp} {g : Addr} {gd : FuncData} (c : Cal P w K mg base n x ps sp g gd) (h : n ≤ m) : Cal P w K mg base m x ps sp g gd := ⟨c.ok.mono h, c.bi, c.kp, c.at_⟩
theorem pe_callC {X : Cx} {n : Nat} {x : Str} {ps : List Str} {sp : Sp} {g : Addr} {gd : FuncData} {p pos : Pos} {e : Expr} {es : List Expr} {t : TA} (c : Cal X.prog X.w X.K X.mg X.base n x ps sp g gd) (hr : Room n X.A) (ha : PA X (e :: es) t) (hg : Gl X x := by rfl)
    (hd : (x == ("__debug__" : Str)) = false := by decide) (he : starEach (e :: es) X.env = (false, eval e X.env) :: starEach es X.env := by rfl) (hpl : (backTo pos (starEach es X.env)).any (·.1) = false := by rfl) :
    PE X (.Call (.Name x p) (e :: es) [] pos) (tCall sp [] E0 t) := pe_call c.ok hr hg c.at_ c.kp c.bi .nil pass0 ha hd he hpl
theorem Same.tup {K : PySem.W.Frag} {H H' : Hp} {a : Addr} {xs : List V} (e : Same H H') (h : SqT K H a xs) : SqT K H' a xs := by
  rcases h with (h | ⟨o, h⟩) | h
  · exact .inl (.inl (e _ _ h))
  · exact .inl (.inr ⟨o, e _ _ h⟩)
  · exact .inr h
theorem same_new {H : Hp} {p : Addr} (h : H p = none) (o : HO) : Same H (upd H p o) := fun b u q => by rw [upd_ne (ne_of_none q h)]; exact q
theorem Same.upd_new {H H' : Hp} {p : Addr} (s : Same H H') (h : H p = none) (o : HO) : Same H (upd H' p o) := fun b u q => by rw [upd_ne (ne_of_none q h)]; exact s b u q
theorem atI_ints {L : List Int} {i : Int} (h0 : 0 ≤ i) (h1 : i < (L.length : Int)) : atI (L.map V.int) i = some (.int (L.getD i.toNat 0)) := by
  have hi : i.toNat < L.length := by omega
  have e : i = ((i.toNat : Nat) : Int) := by omega
  have q : atI (L.map V.int) ((i.toNat : Nat) : Int) = some (.int (L.getD i.toNat 0)) := atI_nat (by rw [List.getElem?_map, List.getElem?_eq_getElem hi, getD_at hi] <;> rfl)
  rw [← e] at q
  exact q
end L2
namespace L2
open PySem PySem.Spec PyProof.Rows
section
variable {X : Cx} {pins : List (Addr × Obj)} {σ : St} {H : Hp} {s : Shared}
theorem FpOk.pin {b : Addr} {o : Obj} (f : FpOk X pins H b) (e : s.heap.get? b = some o) (d : ∀ v, o.data ≠ .cell v) : s.heap.get? b = some o ∧ H b = none ∧ b ≠ X.env.locals ∧ b ∉ X.fs ∧ ∀ v, o.data ≠ .cell v := ⟨e, f.1, f.2.1, f.2.2.1, d⟩
variable {A : Around} {E : Value → Shared → Prop} {P : PySem.Fin → Shared → Prop} {a kS : Addr} {b : Bool} {vs : List Value} {kz : List Int} {keys : Array Value} {e e1 : Nat} {f : Value}
end
end L2
namespace L2
open PySem PySem.Spec PyProof.Rows
section
variable {X : Cx} {pins : List (Addr × Obj)} {σ : St} {H : Hp} {s : Shared} {A : Around} {E : Value → Shared → Prop} {P : PySem.Fin → Shared → Prop} {a : Addr} {vs : List Value} {kz : List Int} {n : Nat} {f : Value}
end
end L2
namespace L2
open PySem PySem.Spec PyProof.Rows
abbrev CodeO (c' : Addr) (qual : Str) : HO := .ext fun h => h.CodeRec (.ref c') qual
section
variable {X : Cx} {pins : List (Addr × Obj)} {σ : St} {H : Hp} {A : Around} {p qual : Str} {M : List Str} {scope : Scope} {params : Arguments} {body : Expr} {pm ctv : Value} {c' f : Addr} {te : TE}
end
end L2
namespace L2
open PySem PySem.Spec PyProof.Rows
def tbN (pos : Pos) (c' : Addr) : Array Value := #[rawInt pos.line, rawInt pos.col, .ref c']
def Hit (P : Addr) (pos : Pos) (qual : Str) (c' : Addr) (H : Hp) : Prop := H P = some (.tbl (tbN pos c')) ∧ H c' = some (CodeO c' qual)
def TbOk (P : Addr) (pos : Pos) (qual : Str) (H : Hp) : Prop := H P = some (.tbl #[]) ∨ ∃ c', Hit P pos qual c' H
def SameT (P : Addr) (H H' : Hp) : Prop := ∀ b o, b ≠ P → H b = some o → H' b = some o
theorem SameT.refl {P : Addr} (H : Hp) : SameT P H H := fun _ _ _ e => e
theorem SameT.trans {P : Addr} {H H1 H2 : Hp} (a : SameT P H H1) (b : SameT P H1 H2) : SameT P H H2 := fun c o n e => b c o n (a c o n e)
theorem SameT.free {P : Addr} {H H' : Hp} (a : SameT P H H') {l : Addr} (h : H' l = none) (hP : ∃ ps, H' P = some (.tbl ps)) : H l = none := by
  cases q : H l with
  | none => rfl
  | some o =>
    by_cases e : l = P
    · obtain ⟨ps, z⟩ := hP
      rw [e, z] at h; cases h
    · rw [a l o e q] at h; cases h
theorem SameT.upd_new {P : Addr} {H H' : Hp} {p : Addr} (s : SameT P H H') (h : H p = none) (o : HO) : SameT P H (upd H' p o) := fun b u n q => by rw [upd_ne (ne_of_none q h)]; exact s b u n q
theorem TbOk.at_ {P : Addr} {pos : Pos} {qual : Str} {H : Hp} (t : TbOk P pos qual H) : ∃ ps, H P = some (.tbl ps) := by
  rcases t with t | ⟨c, t, _⟩
  · exact ⟨_, t⟩
  · exact ⟨_, t⟩
theorem SameT.get {P : Addr} {pos : Pos} {qual : Str} {H H' : Hp} (a : SameT P H H') (t : TbOk P pos qual H) {b : Addr} {o : HO} (e : H b = some o) (n : ∀ ps, o ≠ .tbl ps) : H' b = some o := by
  obtain ⟨ps, z⟩ := t.at_
  exact a b o (ne_of e z (n ps)) e
theorem TbOk.same {P : Addr} {pos : Pos} {qual : Str} {H H' : Hp} (t : TbOk P pos qual H) (s : Same H H') : TbOk P pos qual H' := by
  rcases t with t | ⟨c, t, u⟩
  · exact .inl (s _ _ t)
  · exact .inr ⟨c, s _ _ t, s _ _ u⟩
theorem SameT.lst {K : PySem.W.Frag} {P : Addr} {pos : Pos} {qual : Str} {H H' : Hp} (a : SameT P H H') (t : TbOk P pos qual H) {b : Addr} {xs : List V} (h : SqL K H b xs) : SqL K H' b xs := by
  rcases h with (h | ⟨o, h⟩) | h
  · exact .inl (.inl (a.get t h fun _ z => nomatch z))
  · exact .inl (.inr ⟨o, a.get t h fun _ z => nomatch z⟩)
  · exact .inr h
section
variable {X : Cx} {pins : List (Addr × Obj)} {σ : St} {H : Hp} {s : Shared} {E : Value → Shared → Prop} {c P : Addr} {pos : Pos} {params : Arguments} {body : Expr} {scope : Scope} {Q : Value → Shared → Prop}
end
end L2
namespace L2
open PySem PySem.Spec PyProof.Rows
end L2
namespace L2
open PySem PySem.W
noncomputable def stT (T : BT) (n k : Nat) (os : OsState) : SharedT := ⟨T, n, {}, Array.mk [], boot_drawn, k, os⟩
theorem run_app {tb : String → Option Builtin} {p : Program} {w : World} {m0 : Nat} {ann : Option Value} {env : Env} {q : Pos} {n N : Nat} {s s' : SharedT} {r : Shared} {l rest : List Stmt} {c : Code} {pos p' : Pos}
    (h : segRunT tb p w m0 ann 1 n s (piecesOf l env c pos [topFrame q]) = some (.next, s', c, p')) (k : topRun tb p w m0 ann N s'.abs (restOf rest env c p' [topFrame q]) = some r) : topRun tb p w m0 ann (n + N) s.abs (restOf (l ++ rest) env c pos [topFrame q]) = some r :=
  piece_app (segRun_of h) k
theorem left_run {p q : Program} {loose : List Str} {Xt : Shared → Bool} {α : Type} {Yf : Shared → α} {Ya : World → α} {N : Nat} {Tb Tf : Params → BT} {nb nf ka kf : Nat} {env : Env} {C : Code} {gs : List Stmt} {posA posB qp : Pos} {m0 : Nat} {ann : Option Value} {a b c : Nat}
    (e1 : opening p = plainProg p.main.scope.names) (h6 : Nat.ble 600 N = true) (e2 : ∀ s, fenceModules? p s = some s)
    (size : ∀ w : World, ((boot_heap w.params).isNs mainGlobals && (Array.mk [] : Array GenState).size == 0, (boot_heap w.params).objs.size, (boot_heap w.params).nsMap mainGlobals "__annotations__") = (true, m0, ann))
    (pre : ∀ (w : World) (os : OsState), topGo treeTable p w m0 ann a ⟨boot_heap w.params, Array.mk [], boot_drawn, boot_toks, os⟩ (topStub p) = some ((stT (Tb w.params) nb ka os).abs, ⟨denote treeTable (.body gs env), C, posA, [topFrame qp]⟩))
    (blk : ∀ (w : World) (os : OsState), segRun treeTable p w m0 ann 1 b (stT (Tb w.params) nb ka os).abs (blockOf gs env C posA [topFrame qp]) = some (.next, (stT (Tb w.params) nb ka os).abs, C, posB))
    (run : ∀ (w : World) (os : OsState), topRun treeTable p w m0 ann c (stT (Tb w.params) nb ka os).abs (restOf gs env C posB [topFrame qp]) = some (stT (Tf w.params) nf kf os).abs)
    (le : Nat.ble (a + (b + c)) N = true)
    (looks : ∀ w : World, (fun os => ((staticsOk (importedModules p.main.body) (boot_heap w.params) (absHeap (Tf w.params) nf {}) && namesBound p (absHeap (Tf w.params) nf {}) && gensDone ⟨absHeap (Tf w.params) nf {}, Array.mk [], boot_drawn, kf, os⟩ && laidKept (boot_heap w.params) (absHeap (Tf w.params) nf {})),
        openSeen q loose (importedModules p.main.body) Xt true ⟨absHeap (Tf w.params) nf {}, Array.mk [], boot_drawn, kf, os⟩, Yf ⟨absHeap (Tf w.params) nf {}, Array.mk [], boot_drawn, kf, os⟩)) = fun _ => (true, openGood q loose, Ya w)) : LeftO p q loose Xt Yf Ya N :=
  LeftO.of_pieces (H₁ := fun P => absHeap (Tf P) nf {}) (boot_open e1 h6 e2) size (fun w os => go_top (pre w os) (piece_block (blk w os) (run w os))) le looks
end L2
namespace L2
open PySem PySem.Spec PyProof.Rows
inductive DE (K : PySem.W.Frag) (H : Hp) : Nat → V → V → Bool → Prop
  | int (n : Nat) (i j : Int) : DE K H n (.int i) (.int j) (i == j)
  | bl (n : Nat) (i j : Bool) : DE K H n (.bl i) (.bl j) (i == j)
  | str (n : Nat) (i j : Str) : DE K H n (.str i) (.str j) (i == j)
  | tup {n : Nat} {a b : Addr} {xs ys : List V} (e : Nat → Bool) (ha : SqT K H a xs) (hb : SqT K H b ys) (h : ∀ (j : Nat) x y, xs[j]? = some x → ys[j]? = some y → DE K H n x y (e j)) :
      DE K H (n + 1) (.ref a) (.ref b) ((List.range (min xs.length ys.length)).all e && xs.length == ys.length)
  | lst {n : Nat} {a b : Addr} {xs ys : List V} (e : Nat → Bool) (ha : SqL K H a xs) (hb : SqL K H b ys) (hl : xs.length = ys.length) (h : ∀ (j : Nat) x y, xs[j]? = some x → ys[j]? = some y → DE K H n x y (e j)) :
      DE K H (n + 1) (.ref a) (.ref b) ((List.range xs.length).all e)
  | lstN {n : Nat} {a b : Addr} {xs ys : List V} (ha : SqL K H a xs) (hb : SqL K H b ys) (hl : xs.length ≠ ys.length) : DE K H (n + 1) (.ref a) (.ref b) false
section
variable {X : Cx} {pins : List (Addr × Obj)} {σ : St} {H : Hp} {s : Shared}
theorem DE.self (I : Inv X pins σ H s) {n : Nat} {x y : V} {k : Bool} (d : DE X.K H n x y k) : x = y → k = true := by
  induction d with
  | int n i j => intro e; cases e; simp
  | bl n i j => intro e; cases e; simp
  | str n i j => intro e; cases e; simp
  | @tup n a b xs ys e ha hb h ih =>
    intro z
    cases z
    have q := I.tuple_inj ha hb
    subst q
    rw [Bool.and_eq_true]
    refine ⟨List.all_eq_true.mpr fun j hj => ?_, by simp⟩
    rw [List.mem_range, Nat.min_self] at hj
    exact ih j _ _ (List.getElem?_eq_getElem hj) (List.getElem?_eq_getElem hj) rfl
  | @lst n a b xs ys e ha hb hl h ih =>
    intro z
    cases z
    have q := I.list_inj ha hb
    subst q
    refine List.all_eq_true.mpr fun j hj => ?_
    rw [List.mem_range] at hj
    exact ih j _ _ (List.getElem?_eq_getElem hj) (List.getElem?_eq_getElem hj) rfl
  | @lstN n a b xs ys ha hb hl =>
    intro z
    cases z
    exact absurd (congrArg List.length (I.list_inj ha hb)) hl
theorem vals_at {xs : List V} {its : List Value} (r : Vals xs its) {j : Nat} (hj : j < its.length) : ∃ x, xs[j]? = some x ∧ RelV x its[j] := by
  have hl := r.length
  obtain ⟨u, hu, ru⟩ := r.get (List.getElem?_eq_getElem (l := xs) (i := j) (by omega))
  rw [List.getElem?_eq_getElem hj] at hu
  cases hu
  exact ⟨_, List.getElem?_eq_getElem (by omega), ru⟩
theorem in1_units (A : Around) : A.in1.units = A.units + 1 := rfl
theorem DE.eqAt (I : Inv X pins σ H s) {n : Nat} {x y : V} {k : Bool} (d : DE X.K H n x y k) : ∀ (A : Around) (u v : Value), A.units + n < cLine → RelV x u → RelV y v → PySem.SeqAt.EqAt A s u v k := by
  induction d with
  | int n i j =>
    intro A u v _ ru rv
    obtain ⟨t, rfl⟩ := ru
    obtain ⟨t', rfl⟩ := rv
    exact PySem.SeqAt.EqAt.int_int _ _ _ _
  | bl n i j =>
    intro A u v _ ru rv
    cases (show u = Value.bool i from ru)
    cases (show v = Value.bool j from rv)
    exact PySem.SeqAt.EqAt.bool_bool _ _
  | str n i j =>
    intro A u v _ ru rv
    obtain ⟨t, rfl⟩ := ru
    obtain ⟨t', rfl⟩ := rv
    exact PySem.SeqAt.EqAt.str_str _ _ _ _
  | @tup n a b xs ys e ha hb h ih =>
    intro A u v hu ru rv
    cases (show u = Value.ref a from ru)
    cases (show v = Value.ref b from rv)
    by_cases hab : a = b
    · have q := (DE.tup e ha hb h).self I (by rw [hab])
      rw [q]
      subst hab
      exact PySem.SeqAt.EqAt.same _
    · obtain ⟨its, r1, p1, _⟩ := I.tuple ha
      obtain ⟨its2, r2, p2, _⟩ := I.tuple hb
      refine PySem.SeqAt.EqAt.of_refs hab ?_
      have q := PySem.SeqAt.RcAt.tuples (A := A) (e := e) (show s.heap.IsTuple a its.toArray from p1) (show s.heap.IsTuple b its2.toArray from p2) (by omega) (fun j h1 h2 => by
        obtain ⟨x, ex, rx⟩ := vals_at r1 (j := j) (by simpa using h1)
        obtain ⟨y, ey, ry⟩ := vals_at r2 (j := j) (by simpa using h2)
        rw [List.getElem_toArray, List.getElem_toArray]
        exact ih j x y ex ey A.in1 _ _ (by rw [in1_units]; omega) rx ry)
      rw [List.size_toArray, List.size_toArray, ← r1.length, ← r2.length] at q
      exact q
  | @lst n a b xs ys e ha hb hl h ih =>
    intro A u v hu ru rv
    cases (show u = Value.ref a from ru)
    cases (show v = Value.ref b from rv)
    by_cases hab : a = b
    · have q := (DE.lst e ha hb hl h).self I (by rw [hab])
      rw [q]
      subst hab
      exact PySem.SeqAt.EqAt.same _
    · obtain ⟨its, r1, p1, _⟩ := I.list ha
      obtain ⟨its2, r2, p2, _⟩ := I.list hb
      refine PySem.SeqAt.EqAt.of_refs hab ?_
      have q := PySem.SeqAt.RcAt.lists (A := A) (e := e) p1.isList p2.isList (by rw [List.size_toArray, List.size_toArray, ← r1.length, ← r2.length]; exact hl) (by omega) (fun j h1 h2 => by
        obtain ⟨x, ex, rx⟩ := vals_at r1 (j := j) (by simpa using h1)
        obtain ⟨y, ey, ry⟩ := vals_at r2 (j := j) (by simpa using h2)
        rw [List.getElem_toArray, List.getElem_toArray]
        exact ih j x y ex ey A.in1 _ _ (by rw [in1_units]; omega) rx ry)
      rw [List.size_toArray, ← r1.length] at q
      exact q
  | @lstN n a b xs ys ha hb hl =>
    intro A u v hu ru rv
    cases (show u = Value.ref a from ru)
    cases (show v = Value.ref b from rv)
    have hab : a ≠ b := fun z => by subst z; exact hl (congrArg List.length (I.list_inj ha hb))
    obtain ⟨its, r1, p1, _⟩ := I.list ha
    obtain ⟨its2, r2, p2, _⟩ := I.list hb
    refine PySem.SeqAt.EqAt.of_refs hab (PySem.SeqAt.RcAt.lists_lengths p1.isList p2.isList ?_ (by omega))
    rw [List.size_toArray, List.size_toArray, ← r1.length, ← r2.length]
    simpa using hl
def rEqD (K : PySem.W.Frag) (n : Nat) : R2 := fun x y H Q => ∃ a b k, x = .ref a ∧ y = .ref b ∧ DE K H (n + 1) x y k ∧ Q (.bl k) H
def rNeD (K : PySem.W.Frag) (n : Nat) : R2 := fun x y H Q => ∃ a b k, x = .ref a ∧ y = .ref b ∧ DE K H (n + 1) x y k ∧ Q (.bl (!k)) H
theorem op_eqD {n : Nat} (hu : X.A.units + n + 1 < cLine) : OpR X (compareOp .Eq) (rEqD X.K n) := by
  intro pins s σ H x y v u Q I rx ry h
  obtain ⟨a, b, k, rfl, rfl, d, q⟩ := h
  cases (show v = Value.ref a from rx)
  cases (show u = Value.ref b from ry)
  cases d with
  | @tup n a b xs ys e ha hb h =>
    obtain ⟨its, r1, p1, _⟩ := I.tuple ha
    obtain ⟨its2, r2, p2, _⟩ := I.tuple hb
    refine PySem.SeqAt.eq_tupleAt (e := e) (show s.heap.IsTuple a its.toArray from p1) (show s.heap.IsTuple b its2.toArray from p2) (by omega) (fun j h1 h2 => by
        obtain ⟨x, ex, rx⟩ := vals_at r1 (j := j) (by simpa using h1)
        obtain ⟨y, ey, ry⟩ := vals_at r2 (j := j) (by simpa using h2)
        rw [List.getElem_toArray, List.getElem_toArray]
        exact (h j x y ex ey).eqAt I X.A.in1 _ _ (by rw [in1_units]; omega) rx ry) ?_
    rw [List.size_toArray, List.size_toArray, ← r1.length, ← r2.length]
    exact ⟨.bl _, H, I, rfl, q⟩
  | @lst n a b xs ys e ha hb hl h =>
    obtain ⟨its, r1, p1, _⟩ := I.list ha
    obtain ⟨its2, r2, p2, _⟩ := I.list hb
    refine PySem.SeqAt.eq_listAt (e := e) p1.isList p2.isList (by rw [List.size_toArray, List.size_toArray, ← r1.length, ← r2.length]; exact hl) (by omega) (fun j h1 h2 => by
        obtain ⟨x, ex, rx⟩ := vals_at r1 (j := j) (by simpa using h1)
        obtain ⟨y, ey, ry⟩ := vals_at r2 (j := j) (by simpa using h2)
        rw [List.getElem_toArray, List.getElem_toArray]
        exact (h j x y ex ey).eqAt I X.A.in1 _ _ (by rw [in1_units]; omega) rx ry) ?_
    rw [List.size_toArray, ← r1.length]
    exact ⟨.bl _, H, I, rfl, q⟩
  | @lstN n a b xs ys ha hb hl =>
    obtain ⟨its, r1, p1, _⟩ := I.list ha
    obtain ⟨its2, r2, p2, _⟩ := I.list hb
    exact PySem.SeqAt.eq_list_lengthsAt p1.isList p2.isList (by rw [List.size_toArray, List.size_toArray, ← r1.length, ← r2.length]; simpa using hl) (by omega) ⟨.bl _, H, I, rfl, q⟩
theorem op_neD {n : Nat} (hu : X.A.units + n + 1 < cLine) : OpR X (compareOp .NotEq) (rNeD X.K n) := by
  intro pins s σ H x y v u Q I rx ry h
  obtain ⟨a, b, k, rfl, rfl, d, q⟩ := h
  cases (show v = Value.ref a from rx)
  cases (show u = Value.ref b from ry)
  cases d with
  | @tup n a b xs ys e ha hb h =>
    obtain ⟨its, r1, p1, _⟩ := I.tuple ha
    obtain ⟨its2, r2, p2, _⟩ := I.tuple hb
    refine PySem.SeqAt.RcNeAt.tuples (e := e) (show s.heap.IsTuple a its.toArray from p1) (show s.heap.IsTuple b its2.toArray from p2) (by omega) (fun j h1 h2 => by
        obtain ⟨x, ex, rx⟩ := vals_at r1 (j := j) (by simpa using h1)
        obtain ⟨y, ey, ry⟩ := vals_at r2 (j := j) (by simpa using h2)
        rw [List.getElem_toArray, List.getElem_toArray]
        exact (h j x y ex ey).eqAt I X.A.in1 _ _ (by rw [in1_units]; omega) rx ry) X.prog X.w _ _ ?_
    rw [List.size_toArray, List.size_toArray, ← r1.length, ← r2.length]
    exact ⟨.bl _, H, I, rfl, q⟩
  | @lst n a b xs ys e ha hb hl h =>
    obtain ⟨its, r1, p1, _⟩ := I.list ha
    obtain ⟨its2, r2, p2, _⟩ := I.list hb
    refine PySem.SeqAt.RcNeAt.lists (e := e) p1.isList p2.isList (by rw [List.size_toArray, List.size_toArray, ← r1.length, ← r2.length]; exact hl) (by omega) (fun j h1 h2 => by
        obtain ⟨x, ex, rx⟩ := vals_at r1 (j := j) (by simpa using h1)
        obtain ⟨y, ey, ry⟩ := vals_at r2 (j := j) (by simpa using h2)
        rw [List.getElem_toArray, List.getElem_toArray]
        exact (h j x y ex ey).eqAt I X.A.in1 _ _ (by rw [in1_units]; omega) rx ry) X.prog X.w _ _ ?_
    rw [List.size_toArray, ← r1.length]
    exact ⟨.bl _, H, I, rfl, q⟩
  | @lstN n a b xs ys ha hb hl =>
    obtain ⟨its, r1, p1, _⟩ := I.list ha
    obtain ⟨its2, r2, p2, _⟩ := I.list hb
    exact PySem.SeqAt.RcNeAt.lists_lengths p1.isList p2.isList (by rw [List.size_toArray, List.size_toArray, ← r1.length, ← r2.length]; simpa using hl) (by omega) X.prog X.w _ _ ⟨.bl _, H, I, rfl, q⟩
end
end L2
namespace L2
open PySem PySem.Spec PyProof.Rows
section
variable {X : Cx}
theorem call_sum (hc : X.calm = true) : CallR X (.builtin "sum") (fun xs H Q => ∃ (a : Addr) (ns : List Int), xs = [.ref a] ∧ SqL X.K H a (ns.map V.int) ∧ Q (.int ns.sum) H) := by
  intro pins s σ H xs us Q I r h
  obtain ⟨a, ns, rfl, hS, q⟩ := h
  obtain ⟨u, rfl, ru⟩ := vals1 r
  cases (show u = Value.ref a from ru)
  obtain ⟨its, rv, p, hz⟩ := I.list hS
  have hi := intsAre_of rv
  obtain ⟨zs, e⟩ := (IntsAre.allInts hi).items
  have hl := p.isList
  rw [e] at hl
  refine sum_intListG (I.ok.hd hc) hl fun h' tk t' hk => ⟨.int ns.sum, H, I.kept hk, ⟨t', ?_⟩, q⟩
  have n1 := nums_intItems (xs := zs)
  rw [← e, show its.toArray.toList = its from rfl, IntsAre.numsOf hi] at n1
  rw [preSum_eq, List.take_of_length_le (by simp), ← n1]
section
variable {prog : Program} {w : World} {A : Around} {E : Value → Shared → Prop} {s : Shared} {d it : Addr} {od : Obj} {es : Array DictEntry} {ep i : Nat}
end
theorem bt_reversed : bootBuiltins "reversed" = some (.type "reversed") := by decide +kernel
end
theorem ix_tupK {X : Cx} {K : PySem.W.Frag} (h : X.K = K) : IxR X (rIxT K) := by subst h; exact ix_tup
theorem ix_listK {X : Cx} {K : PySem.W.Frag} (h : X.K = K) : IxR X (rIxL K) := by subst h; exact ix_list
end L2
namespace L2
open PySem PySem.Spec PyProof.Rows
end L2
namespace L2
open PySem PySem.Spec PyProof.Rows
end L2
namespace Fr
theorem gcd_turn (a b : Int) : Int.gcd b (a.fmod b) = Int.gcd a b := by
  rw [Int.fmod_def, Int.gcd_sub_mul_left_right, Int.gcd_comm]
theorem fmod_less {a b : Int} (hb : b ≠ 0) : (a.fmod b).natAbs < b.natAbs := by
  rcases Int.lt_or_gt_of_ne hb with h | h
  · have e : a.fmod b = -((-a).fmod (-b)) := by
      rw [Int.fmod_def, Int.fmod_def, Int.neg_fdiv_neg, Int.neg_mul]
      omega
    have h1 := Int.fmod_nonneg_of_pos (-a) (show (0 : Int) < -b by omega)
    have h2 := Int.fmod_lt_of_pos (-a) (show (0 : Int) < -b by omega)
    omega
  · have h1 := Int.fmod_nonneg_of_pos a h
    have h2 := Int.fmod_lt_of_pos a h
    omega
theorem gcd_abs (a b : Int) : Int.gcd a b = Int.gcd (if a < 0 then -a else a) (if b < 0 then -b else b) := by
  rw [Int.gcd_eq_natAbs_gcd_natAbs, Int.gcd_eq_natAbs_gcd_natAbs]
  congr 1
  · split <;> omega
  · split <;> omega
def dv (t b : Int) : Int := if b < 0 then -(Int.gcd t b : Int) else (Int.gcd t b : Int)
def sh (t b : Int) : Int × Int := (t.fdiv (dv t b), b.fdiv (dv t b))
structure IsFr (t b : Int) : Prop where
  pos : 0 < b
  red : Int.gcd t b = 1
theorem dv_natAbs (t b : Int) : (dv t b).natAbs = Int.gcd t b := by unfold dv; split <;> omega
theorem dv_ne {t b : Int} (hb : b ≠ 0) : dv t b ≠ 0 := by
  have := Int.gcd_pos_of_ne_zero_right t hb
  have e := dv_natAbs t b
  omega
theorem dv_dvd_left (t b : Int) : dv t b ∣ t := by
  have h := Int.gcd_dvd_left t b
  unfold dv
  split
  · exact Int.neg_dvd.mpr h
  · exact h
theorem dv_dvd_right (t b : Int) : dv t b ∣ b := by
  have h := Int.gcd_dvd_right t b
  unfold dv
  split
  · exact Int.neg_dvd.mpr h
  · exact h
theorem sh_fst (t b : Int) : (sh t b).1 * dv t b = t := Int.fdiv_mul_cancel (dv_dvd_left t b)
theorem sh_snd (t b : Int) : (sh t b).2 * dv t b = b := Int.fdiv_mul_cancel (dv_dvd_right t b)
theorem sh_cross (t b : Int) : (sh t b).1 * b = t * (sh t b).2 := by
  have h1 := sh_fst t b
  have h2 := sh_snd t b
  generalize (sh t b).1 = x at *
  generalize (sh t b).2 = y at *
  generalize dv t b = d at *
  rw [← h1, ← h2]
  rw [Int.mul_assoc x d y, Int.mul_comm d y]
theorem sh_pos {t b : Int} (hb : b ≠ 0) : 0 < (sh t b).2 := by
  have h2 := sh_snd t b
  have g := Int.gcd_pos_of_ne_zero_right t hb
  rcases Int.lt_or_gt_of_ne hb with h | h
  · have e : dv t b < 0 := by unfold dv; rw [if_pos h]; omega
    rcases (by omega : 0 < (sh t b).2 ∨ (sh t b).2 ≤ 0) with q | q
    · exact q
    · have := Int.mul_nonneg_of_nonpos_of_nonpos q (Int.le_of_lt e)
      omega
  · have e : 0 < dv t b := by unfold dv; rw [if_neg (by omega)]; omega
    rcases (by omega : 0 < (sh t b).2 ∨ (sh t b).2 ≤ 0) with q | q
    · exact q
    · have := Int.mul_nonpos_of_nonpos_of_nonneg q (Int.le_of_lt e)
      omega
theorem sh_red {t b : Int} (hb : b ≠ 0) : Int.gcd (sh t b).1 (sh t b).2 = 1 := by
  have h := Int.gcd_mul_right (sh t b).1 (dv t b) (sh t b).2
  rw [sh_fst, sh_snd, dv_natAbs] at h
  have g := Int.gcd_pos_of_ne_zero_right t hb
  have : 1 * Int.gcd t b = Int.gcd (sh t b).1 (sh t b).2 * Int.gcd t b := by omega
  exact (Nat.eq_of_mul_eq_mul_right g this).symm
theorem sh_ok {t b : Int} (hb : b ≠ 0) : IsFr (sh t b).1 (sh t b).2 := ⟨sh_pos hb, sh_red hb⟩
theorem le_mul_abs {x d z : Int} (e : x * d = z) (hd : d ≠ 0) : x.natAbs ≤ z.natAbs := by
  rw [← e, Int.natAbs_mul]
  have : 1 ≤ d.natAbs := by omega
  calc x.natAbs = x.natAbs * 1 := by omega
    _ ≤ x.natAbs * d.natAbs := Nat.mul_le_mul_left _ this
theorem sh_le1 {t b : Int} (hb : b ≠ 0) : (sh t b).1.natAbs ≤ t.natAbs := le_mul_abs (sh_fst t b) (dv_ne hb)
theorem sh_le2 {t b : Int} (hb : b ≠ 0) : (sh t b).2.natAbs ≤ b.natAbs := le_mul_abs (sh_snd t b) (dv_ne hb)
theorem cop {a b d : Int} (g : Int.gcd a b = 1) (h : b ∣ a * d) : b ∣ d := by
  have h1 := Int.natAbs_dvd_natAbs.mpr h
  rw [Int.natAbs_mul] at h1
  have h2 : Nat.Coprime b.natAbs a.natAbs := by
    show Nat.gcd b.natAbs a.natAbs = 1
    rw [Nat.gcd_comm]
    exact g
  exact Int.natAbs_dvd_natAbs.mp (h2.dvd_of_dvd_mul_left h1)
theorem unique {a b c d : Int} (p : IsFr a b) (q : IsFr c d) (e : a * d = c * b) : a = c ∧ b = d := by
  have pp := p.pos
  have qp := q.pos
  have h1 : b ∣ d := by
    have : b ∣ a * d := ⟨c, by rw [e, Int.mul_comm]⟩
    exact cop p.red this
  have h2 : d ∣ b := by
    have : d ∣ c * b := ⟨a, by rw [← e, Int.mul_comm]⟩
    exact cop q.red this
  have hbd : b = d := Int.dvd_antisymm (Int.le_of_lt pp) (Int.le_of_lt qp) h1 h2
  subst hbd
  exact ⟨Int.eq_of_mul_eq_mul_right (by omega) e, rfl⟩
end Fr
namespace Tb
structure Rw where
  t : Int
  b : Int
  w : Int
def T (B : Int) (r : Rw) : Int := r.t * (B / r.b)
def mx (x : Int) : Int := if 0 < x then x else 0
def S (B l0 l1 : Int) (rs : List Rw) : Int := (rs.map fun r => r.w * mx (T B r * l1 - l0 * B)).sum
def WT (B : Int) (rs : List Rw) : Int := (rs.map fun r => r.w * T B r).sum
def W (rs : List Rw) : Int := (rs.map (·.w)).sum
structure CM (B : Int) (rs : List Rw) : Prop where
  pos : 0 < B
  dv : ∀ r ∈ rs, 0 < r.b ∧ r.b ∣ B
theorem W_cons (r : Rw) (rs : List Rw) : W (r :: rs) = r.w + W rs := by simp [W]
theorem WT_cons (B : Int) (r : Rw) (rs : List Rw) : WT B (r :: rs) = r.w * T B r + WT B rs := by simp [WT]
theorem cof {B b : Int} (hb : 0 < b) (hB : 0 < B) (h : b ∣ B) : ∃ c, 0 < c ∧ B = b * c ∧ B / b = c := by
  obtain ⟨c, e⟩ := h
  have hc : 0 < c := by
    rcases (by omega : 0 < c ∨ c ≤ 0) with z | z
    · exact z
    · have := Int.mul_nonpos_of_nonneg_of_nonpos (Int.le_of_lt hb) z
      omega
  refine ⟨c, hc, e, ?_⟩
  rw [e, Int.mul_comm, Int.mul_ediv_cancel _ (by omega)]
theorem T_mul {B : Int} {r : Rw} (hb : 0 < r.b) (hB : 0 < B) (h : r.b ∣ B) : T B r * r.b = r.t * B := by
  obtain ⟨c, hc, e, q⟩ := cof hb hB h
  unfold T
  rw [q, e]
  grind
def Le (x y : Rw) : Prop := x.t * y.b ≤ y.t * x.b
theorem T_mono {B : Int} {x y : Rw} (hB : 0 < B) (hx : 0 < x.b) (hy : 0 < y.b) (dx : x.b ∣ B) (dy : y.b ∣ B) (h : Le x y) : T B x ≤ T B y := by
  have e1 := T_mul hx hB dx
  have e2 := T_mul hy hB dy
  have g := Int.mul_le_mul_of_nonneg_left h (Int.le_of_lt hB)
  have k : (x.b * y.b) * T B x ≤ (x.b * y.b) * T B y := by
    have a1 : (x.b * y.b) * T B x = B * (x.t * y.b) := by grind
    have a2 : (x.b * y.b) * T B y = B * (y.t * x.b) := by grind
    rw [a1, a2]
    exact g
  exact Int.le_of_mul_le_mul_left k (Int.mul_pos hx hy)
structure Lp (B P : Int) (rs : List Rw) (i : Nat) (tops ws : Int) : Prop where
  le : i ≤ rs.length
  ew : ws = W (rs.drop (rs.length - i))
  et : tops = WT B (rs.drop (rs.length - i)) - P
  hi : 0 < i → ∀ r ∈ rs.drop (rs.length - i), tops ≤ T B r * ws
  z : P = 0 → i ≤ 1
theorem Lp.start {B P : Int} {rs : List Rw} (e : 0 ≤ P) : Lp B P rs 0 (-P) 0 := by
  refine ⟨Nat.zero_le _, ?_, ?_, fun h => absurd h (by omega), fun _ => by omega⟩
  · simp [W]
  · simp [WT]
structure Tab (B : Int) (rs : List Rw) : Prop where
  cm : CM B rs
  w : ∀ r ∈ rs, 1 ≤ r.w
  so : rs.Pairwise Le
theorem W_pos : ∀ {rs : List Rw}, (∀ r ∈ rs, 1 ≤ r.w) → rs ≠ [] → 0 < W rs
  | [], _, h => absurd rfl h
  | [r], h, _ => by
    have := h r List.mem_cons_self
    simp [W]
    omega
  | r :: s :: rs, h, _ => by
    have := h r List.mem_cons_self
    have q := W_pos (rs := s :: rs) (fun x hx => h x (List.mem_cons_of_mem _ hx)) (by simp)
    rw [W_cons]
    omega
theorem drop_next {rs : List Rw} {i : Nat} (h : i < rs.length) : ∃ r, rs[rs.length - 1 - i]? = some r ∧ rs.drop (rs.length - (i + 1)) = r :: rs.drop (rs.length - i) ∧ r ∈ rs := by
  have hk : rs.length - 1 - i < rs.length := by omega
  refine ⟨rs[rs.length - 1 - i], List.getElem?_eq_getElem hk, ?_, List.getElem_mem hk⟩
  have e1 : rs.length - (i + 1) = rs.length - 1 - i := by omega
  have e2 : rs.length - i = rs.length - 1 - i + 1 := by omega
  rw [e1, e2]
  exact List.drop_eq_getElem_cons hk
theorem Tab.mono {B : Int} {rs : List Rw} (tb : Tab B rs) {x y : Rw} (hx : x ∈ rs) (hy : y ∈ rs) (h : Le x y) : T B x ≤ T B y :=
  T_mono tb.cm.pos (tb.cm.dv x hx).1 (tb.cm.dv y hy).1 (tb.cm.dv x hx).2 (tb.cm.dv y hy).2 h
theorem Lp.ws_pos {B P tops ws : Int} {rs : List Rw} {i : Nat} (tb : Tab B rs) (l : Lp B P rs i tops ws) (h : 0 < i) : 0 < ws := by
  rw [l.ew]
  have := l.le
  refine W_pos (fun r hr => tb.w r (List.mem_of_mem_drop hr)) ?_
  intro e
  have := congrArg List.length e
  simp at this
  omega
theorem Lp.next {B P tops ws : Int} {rs : List Rw} {i : Nat} {r : Rw} (tb : Tab B rs) (hP : 0 ≤ P) (l : Lp B P rs i tops ws) (hi : i < rs.length) (hr : rs[rs.length - 1 - i]? = some r) (go : ¬ (0 < ws ∧ T B r * ws ≤ tops)) :
    Lp B P rs (i + 1) (tops + r.w * T B r) (ws + r.w) := by
  obtain ⟨r', e1, e2, hm⟩ := drop_next hi
  rw [hr] at e1
  cases e1
  have hw := tb.w r hm
  have last : tops ≤ T B r * ws := by
    by_cases h0 : 0 < i
    · have := l.ws_pos tb h0
      omega
    · have z : i = 0 := by omega
      subst z
      have a := l.ew
      have b := l.et
      simp [W] at a
      simp [WT] at b
      rw [a, b]
      omega
  have mine : tops + r.w * T B r ≤ T B r * (ws + r.w) := by
    have : T B r * (ws + r.w) = T B r * ws + r.w * T B r := by grind
    omega
  have wp : 0 < ws + r.w := by
    by_cases h0 : 0 < i
    · have := l.ws_pos tb h0
      omega
    · have z : i = 0 := by omega
      subst z
      have a := l.ew
      simp [W] at a
      omega
  refine ⟨hi, ?_, ?_, fun _ x hx => ?_, fun p0 => ?_⟩
  · rw [e2, W_cons, ← l.ew]; omega
  · rw [e2, WT_cons, l.et]; omega
  · rw [e2] at hx
    rcases List.mem_cons.mp hx with z | z
    · subst z; exact mine
    · have pw : (r :: rs.drop (rs.length - i)).Pairwise Le := by
        rw [← e2]
        exact tb.so.sublist (List.drop_sublist _ _)
      have le := (List.pairwise_cons.mp pw).1 x z
      have tm := tb.mono hm (List.mem_of_mem_drop z) le
      have := Int.mul_le_mul_of_nonneg_right tm (Int.le_of_lt wp)
      omega
  · have k := l.z p0
    rcases (by omega : i = 0 ∨ i = 1) with z | z
    · omega
    · exfalso
      subst z
      apply go
      have wp1 := l.ws_pos tb (by decide)
      refine ⟨wp1, ?_⟩
      obtain ⟨r2, f1, f2, fm⟩ := drop_next (rs := rs) (i := 0) (by omega)
      have f3 : rs.drop (rs.length - 1) = [r2] := by
        have : rs.drop (rs.length - 0) = [] := by simp
        rw [f2, this]
      have a := l.ew
      have b := l.et
      rw [f3] at a b
      simp [W] at a
      simp [WT] at b
      have pw : (r :: rs.drop (rs.length - 1)).Pairwise Le := by
        rw [← e2]
        exact tb.so.sublist (List.drop_sublist _ _)
      have le := (List.pairwise_cons.mp pw).1 r2 (by rw [f3]; exact List.mem_cons_self)
      have tm := tb.mono hm fm le
      have := Int.mul_le_mul_of_nonneg_right tm (Int.le_of_lt wp1)
      rw [b, a] at *
      have e : T B r2 * r2.w = r2.w * T B r2 := Int.mul_comm _ _
      omega
structure Lv (B P l0 l1 : Int) (rs : List Rw) : Prop where
  pos : 0 < l1
  has : S B l0 l1 rs = P * l1
  more : ∀ m0 m1 : Int, m0 * l1 < l0 * m1 → P * m1 < S B m0 m1 rs
theorem Lp.zero {B tops ws : Int} {rs : List Rw} {i : Nat} (tb : Tab B rs) (fr : ∀ r ∈ rs, Fr.IsFr r.t r.b) (l : Lp B 0 rs i tops ws) (h0 : 0 < i) : ∃ r, rs[rs.length - 1]? = some r ∧ (Fr.sh tops (ws * B)) = (r.t, r.b) := by
  have k := l.z rfl
  have z : i = 1 := by omega
  subst z
  have hle := l.le
  obtain ⟨r2, f1, f2, fm⟩ := drop_next (rs := rs) (i := 0) (by omega)
  have f3 : rs.drop (rs.length - 1) = [r2] := by
    have : rs.drop (rs.length - 0) = [] := by simp
    rw [f2, this]
  have a := l.ew
  have b := l.et
  rw [f3] at a b
  simp [W] at a
  simp [WT] at b
  have hw := tb.w r2 fm
  have hB := tb.cm.pos
  have hb := (tb.cm.dv r2 fm).1
  refine ⟨r2, by simpa using f1, ?_⟩
  have ne : ws * B ≠ 0 := Int.ne_of_gt (Int.mul_pos (by omega) hB)
  have cr := Fr.sh_cross tops (ws * B)
  have tm := T_mul hb hB (tb.cm.dv r2 fm).2
  have ok := Fr.sh_ok (t := tops) ne
  have q : (Fr.sh tops (ws * B)).1 * r2.b = r2.t * (Fr.sh tops (ws * B)).2 := by
    generalize (Fr.sh tops (ws * B)).1 = x at *
    generalize (Fr.sh tops (ws * B)).2 = y at *
    rw [a, b] at cr
    have : (r2.w * B) * (x * r2.b) = (r2.w * B) * (r2.t * y) := by grind
    exact Int.eq_of_mul_eq_mul_left (Int.ne_of_gt (Int.mul_pos (by omega) hB)) this
  obtain ⟨u1, u2⟩ := Fr.unique ok (fr r2 fm) q
  exact Prod.ext u1 u2
end Tb
namespace Tb
def Wt (ps : List Rw) (t b : Int) : Int := (ps.map fun r => if r.t = t ∧ r.b = b then r.w else 0).sum
def Has (ps : List Rw) (t b : Int) : Prop := ∃ p ∈ ps, p.t = t ∧ p.b = b
def Lt (x y : Rw) : Prop := x.t * y.b < y.t * x.b
structure IsTab (ps ys : List Rw) : Prop where
  lt : ys.Pairwise Lt
  fr : ∀ y ∈ ys, Fr.IsFr y.t y.b
  has : ∀ t b, Has ys t b ↔ Has ps t b
  d : ∃ d, 0 < d ∧ ∀ y ∈ ys, Wt ps y.t y.b = y.w * d
  one : ∀ e : Int, (∀ y ∈ ys, e ∣ y.w) → e ∣ 1
theorem Wt_nil (t b : Int) : Wt [] t b = 0 := rfl
theorem Wt_cons (r : Rw) (ps : List Rw) (t b : Int) : Wt (r :: ps) t b = (if r.t = t ∧ r.b = b then r.w else 0) + Wt ps t b := by simp [Wt]
theorem Wt_append (ps qs : List Rw) (t b : Int) : Wt (ps ++ qs) t b = Wt ps t b + Wt qs t b := by simp [Wt]
theorem Has_append {ps qs : List Rw} {t b : Int} : Has (ps ++ qs) t b ↔ Has ps t b ∨ Has qs t b := by
  constructor
  · rintro ⟨p, hp, e⟩
    rcases List.mem_append.mp hp with z | z
    · exact .inl ⟨p, z, e⟩
    · exact .inr ⟨p, z, e⟩
  · rintro (⟨p, hp, e⟩ | ⟨p, hp, e⟩)
    · exact ⟨p, List.mem_append_left _ hp, e⟩
    · exact ⟨p, List.mem_append_right _ hp, e⟩
theorem Has_cons {r : Rw} {ps : List Rw} {t b : Int} : Has (r :: ps) t b ↔ (r.t = t ∧ r.b = b) ∨ Has ps t b := by
  constructor
  · rintro ⟨p, hp, e⟩
    rcases List.mem_cons.mp hp with z | z
    · subst z; exact .inl e
    · exact .inr ⟨p, z, e⟩
  · rintro (e | ⟨p, hp, e⟩)
    · exact ⟨r, List.mem_cons_self, e⟩
    · exact ⟨p, List.mem_cons_of_mem _ hp, e⟩
theorem Has_nil {t b : Int} : ¬ Has [] t b := by rintro ⟨p, hp, _⟩; cases hp
theorem Wt_zero : ∀ {ps : List Rw} {t b : Int}, ¬ Has ps t b → Wt ps t b = 0
  | [], _, _, _ => rfl
  | r :: ps, t, b, h => by
    rw [Wt_cons, if_neg fun e => h (Has_cons.mpr (.inl e)), Wt_zero fun e => h (Has_cons.mpr (.inr e))]
    rfl
end Tb
set_option maxHeartbeats 4000000
namespace TD
open PySem L2
open Builtin.Int (intBits)
structure Row where
  p : Addr
  q : Addr
  t : Int
  b : Int
  w : Int
def Row.r (x : Row) : Tb.Rw := ⟨x.t, x.b, x.w⟩
def RowAt (H : Hp) (x : Row) : Prop := H x.p = some (.tup [.ref x.q, .int x.w]) ∧ H x.q = some (.tup [.int x.t, .int x.b])
def refs (xs : List Row) : List V := xs.map fun x => V.ref x.p
structure TabAt (H : Hp) (a : Addr) (xs : List Row) : Prop where
  lst : H a = some (.lst (refs xs))
  rows : ∀ x ∈ xs, RowAt H x
def rws (xs : List Row) : List Tb.Rw := xs.map Row.r
theorem RowAt.same {H H' : Hp} {x : Row} (s : Same H H') (h : RowAt H x) : RowAt H' x := ⟨s _ _ h.1, s _ _ h.2⟩
theorem TabAt.same {H H' : Hp} {a : Addr} {xs : List Row} (s : Same H H') (h : TabAt H a xs) : TabAt H' a xs := ⟨s _ _ h.lst, fun x hx => (h.rows x hx).same s⟩
theorem take_snoc {α : Type} {xs : List α} {i : Nat} {x : α} (h : xs[i]? = some x) : xs.take (i + 1) = xs.take i ++ [x] := by
  rw [List.take_add_one, h]
  rfl
theorem RowAt.over {H : Hp} {a : Addr} {xs zs : List V} {x : Row} (h : RowAt H x) (e : H a = some (.lst xs)) : RowAt (upd H a (.lst zs)) x :=
  ⟨by rw [upd_ne (ne_of h.1 e fun z => nomatch z)]; exact h.1, by rw [upd_ne (ne_of h.2 e fun z => nomatch z)]; exact h.2⟩
theorem sz1 : 1 ≤ sizeLine := Nat.le_of_lt (small1000 (by decide))
theorem sz2 : 2 ≤ sizeLine := Nat.le_of_lt (small1000 (by decide))
theorem mulOk {m n : Nat} {x y : Int} (hx : intBits x ≤ m) (hy : intBits y ≤ n) (h : m + n ≤ 134217728) : CMulB x y := Nat.le_trans (Nat.add_le_add hx hy) h
theorem kit_same {K : PySem.W.Frag} (T : String) : PySem.W.kitOne K (.type T) (.type T) = some true := by
  unfold PySem.W.kitOne
  rw [if_pos (beq_self_eq_true _)]
theorem kit_int_bool {K : PySem.W.Frag} : PySem.W.kitOne K (.type "int") (.type "bool") = some false := by rfl
structure Rs where
  q : Addr
  t : Int
  b : Int
def rrefs (rs : List Rs) : List V := rs.map fun r => V.ref r.q
def RsAt (H : Hp) (r : Rs) : Prop := H r.q = some (.tup [.int r.t, .int r.b])
theorem rrefs_length (rs : List Rs) : (rrefs rs).length = rs.length := List.length_map _
theorem rrefs_at {rs : List Rs} {i : Nat} {v : V} (h : (rrefs rs)[i]? = some v) : ∃ x, rs[i]? = some x ∧ v = .ref x.q := by
  unfold rrefs at h
  rw [List.getElem?_map] at h
  cases e : rs[i]? with
  | none => rw [e] at h; cases h
  | some x => rw [e] at h; cases h; exact ⟨x, rfl, rfl⟩
structure Dk (ps : List Tb.Rw) (kvs : List (List Key × V)) : Prop where
  nd : (kvs.map (·.1)).Nodup
  en : ∀ kv ∈ kvs, ∃ t b, kv = ([.inl t, .inl b], .int (Tb.Wt ps t b)) ∧ Tb.Has ps t b
  all : ∀ t b, Tb.Has ps t b → ([Sum.inl t, Sum.inl b] : List Key) ∈ kvs.map (·.1)
theorem Dk.nil : Dk [] [] := ⟨List.nodup_nil, (fun _ h => nomatch h), fun t b h => absurd h Tb.Has_nil⟩
theorem valV_mem {kvs : List (List Key × V)} {k : List Key} {v : V} (h : valV kvs k = some v) : (k, v) ∈ kvs := by
  unfold valV at h
  cases e : kvs.find? fun kv => decide (kv.1 = k) with
  | none => rw [e] at h; cases h
  | some kv =>
    rw [e] at h
    have h1 : kv.2 = v := Option.some.inj h
    have h2 := List.find?_some e
    have h3 : kv.1 = k := of_decide_eq_true h2
    rw [← h1, ← h3]
    exact List.mem_of_find?_eq_some e
theorem key_inj {t b t' b' : Int} (h : ([Sum.inl t, Sum.inl b] : List Key) = [.inl t', .inl b']) : t = t' ∧ b = b' := by
  injection h with h1 h2
  injection h2 with h2 _
  injection h1 with h1
  injection h2 with h2
  exact ⟨h1, h2⟩
theorem Dk.val {ps : List Tb.Rw} {kvs : List (List Key × V)} (d : Dk ps kvs) {t b : Int} (h : Tb.Has ps t b) : valV kvs [.inl t, .inl b] = some (.int (Tb.Wt ps t b)) := by
  cases e : valV kvs [.inl t, .inl b] with
  | none => exact absurd (d.all t b h) (valV_not e)
  | some v =>
    obtain ⟨t', b', e2, _⟩ := d.en _ (valV_mem e)
    injection e2 with e3 e4
    obtain ⟨rfl, rfl⟩ := key_inj e3
    rw [e4]
theorem Dk.get {ps : List Tb.Rw} {kvs : List (List Key × V)} (d : Dk ps kvs) (t b : Int) : (valV kvs [.inl t, .inl b]).getD (.int 0) = .int (Tb.Wt ps t b) := by
  by_cases h : Tb.Has ps t b
  · rw [d.val h]; rfl
  · cases e : valV kvs [.inl t, .inl b] with
    | none => rw [Tb.Wt_zero h]; rfl
    | some v =>
      obtain ⟨t', b', e2, h2⟩ := d.en _ (valV_mem e)
      injection e2 with e3 e4
      obtain ⟨rfl, rfl⟩ := key_inj e3
      exact absurd h2 h
theorem putK_mem {kvs : List (List Key × V)} {k : List Key} {v : V} {kv : List Key × V} (h : kv ∈ putK kvs k v) : kv = (k, v) ∨ (kv ∈ kvs ∧ kv.1 ≠ k) := by
  unfold putK at h
  split at h
  · obtain ⟨x, hx, e⟩ := List.mem_map.mp h
    split at e
    · rename_i ek
      left
      rw [← e, ek]
    · rename_i ek
      right
      rw [← e]
      exact ⟨hx, ek⟩
  · rename_i na
    rcases List.mem_append.mp h with z | z
    · right
      refine ⟨z, fun ek => na ?_⟩
      exact List.any_eq_true.mpr ⟨kv, z, decide_eq_true ek⟩
    · exact .inl (by simpa using z)
theorem putK_keys {kvs : List (List Key × V)} {k : List Key} {v : V} : (putK kvs k v).map (·.1) = if (kvs.any fun kv => decide (kv.1 = k)) = true then kvs.map (·.1) else kvs.map (·.1) ++ [k] := by
  unfold putK
  split
  · rw [List.map_map]
    refine List.map_congr_left fun x _ => ?_
    show (if x.1 = k then (x.1, v) else x).1 = x.1
    split <;> rfl
  · rw [List.map_append]; rfl
theorem Dk.put {ps : List Tb.Rw} {kvs : List (List Key × V)} (d : Dk ps kvs) (x : Tb.Rw) : Dk (ps ++ [x]) (putK kvs [.inl x.t, .inl x.b] (.int (Tb.Wt ps x.t x.b + x.w))) := by
  have hx : ∀ t b, Tb.Wt [x] t b = if x.t = t ∧ x.b = b then x.w else 0 := fun t b => by rw [Tb.Wt_cons, Tb.Wt_nil, Int.add_zero]
  refine ⟨?_, fun kv hkv => ?_, fun t b h => ?_⟩
  · rw [putK_keys]
    split
    · exact d.nd
    · rename_i na
      refine List.nodup_append.mpr ⟨d.nd, List.nodup_cons.mpr ⟨List.not_mem_nil, List.nodup_nil⟩, fun y hy z hz => ?_⟩
      rw [List.mem_singleton.mp hz]
      rintro rfl
      obtain ⟨kv, hkv, e⟩ := List.mem_map.mp hy
      exact na (List.any_eq_true.mpr ⟨kv, hkv, decide_eq_true e⟩)
  · rcases putK_mem hkv with z | ⟨z, ne⟩
    · refine ⟨x.t, x.b, ?_, Tb.Has_append.mpr (.inr ⟨x, List.mem_cons_self, rfl, rfl⟩)⟩
      rw [z, Tb.Wt_append, hx, if_pos ⟨rfl, rfl⟩]
    · obtain ⟨t, b, e, h⟩ := d.en kv z
      refine ⟨t, b, ?_, Tb.Has_append.mpr (.inl h)⟩
      rw [Tb.Wt_append, hx, if_neg ?_, Int.add_zero]
      · exact e
      · rintro ⟨rfl, rfl⟩
        exact ne (by rw [e])
  · rw [putK_keys]
    have key : ([Sum.inl t, Sum.inl b] : List Key) ∈ kvs.map (·.1) ∨ ([Sum.inl t, Sum.inl b] : List Key) = [.inl x.t, .inl x.b] := by
      rcases Tb.Has_append.mp h with z | ⟨p, hp, e1, e2⟩
      · exact .inl (d.all t b z)
      · right
        rw [List.mem_singleton.mp hp] at e1 e2
        rw [e1, e2]
    split
    · rename_i ya
      rcases key with z | z
      · exact z
      · obtain ⟨kv, hkv, e⟩ := List.any_eq_true.mp ya
        rw [z, ← of_decide_eq_true e]
        exact List.mem_map.mpr ⟨kv, hkv, rfl⟩
    · rcases key with z | z
      · exact List.mem_append_left _ z
      · rw [z]; exact List.mem_append_right _ (.head _)
theorem Dk.ne {ps : List Tb.Rw} {kvs : List (List Key × V)} (d : Dk ps kvs) (h : ps ≠ []) : kvs ≠ [] := by
  cases ps with
  | nil => exact absurd rfl h
  | cons p ps =>
    intro e
    have := d.all p.t p.b (Tb.Has_cons.mpr (.inl ⟨rfl, rfl⟩))
    rw [e] at this
    cases this
end TD
namespace L2
open PySem PySem.Spec PyProof.Rows
end L2
namespace TD
open PySem L2
open Builtin.Int (intBits)
def lcmStep (m n : Int) : Int := m * (n.fdiv ((Int.gcd m n : Nat) : Int))
def lcmL (ns : List Int) : Int := ns.foldl lcmStep 1
theorem lcmStep_ok {m n : Int} (hm : 0 < m) (hn : 0 < n) : 0 < lcmStep m n ∧ m ∣ lcmStep m n ∧ n ∣ lcmStep m n := by
  have hg : 0 < ((Int.gcd m n : Nat) : Int) := by have := Int.gcd_pos_of_ne_zero_right m (Int.ne_of_gt hn); omega
  obtain ⟨c, hc⟩ := Int.gcd_dvd_right m n
  obtain ⟨d, hd⟩ := Int.gcd_dvd_left m n
  have e : n.fdiv ((Int.gcd m n : Nat) : Int) = c := by
    have h := Int.mul_fdiv_cancel_left (a := ((Int.gcd m n : Nat) : Int)) c (by omega)
    rw [← hc] at h
    exact h
  have cp : 0 < c := by
    rcases (by omega : 0 < c ∨ c ≤ 0) with z | z
    · exact z
    · have := Int.mul_nonpos_of_nonneg_of_nonpos (Int.le_of_lt hg) z
      omega
  unfold lcmStep
  rw [e]
  refine ⟨Int.mul_pos hm cp, ⟨c, rfl⟩, ⟨d, ?_⟩⟩
  generalize ((Int.gcd m n : Nat) : Int) = g at *
  rw [hc, hd]
  grind
theorem lcm_fold : ∀ (ns : List Int) (m : Int), 0 < m → (∀ n ∈ ns, 0 < n) → 0 < ns.foldl lcmStep m ∧ m ∣ ns.foldl lcmStep m ∧ ∀ n ∈ ns, n ∣ ns.foldl lcmStep m
  | [], m, hm, _ => ⟨hm, Int.dvd_refl m, fun _ h => nomatch h⟩
  | n :: ns, m, hm, h => by
    obtain ⟨a, b, c⟩ := lcmStep_ok hm (h n List.mem_cons_self)
    obtain ⟨x, y, z⟩ := lcm_fold ns (lcmStep m n) a fun k hk => h k (List.mem_cons_of_mem _ hk)
    refine ⟨x, Int.dvd_trans b y, fun k hk => ?_⟩
    rcases List.mem_cons.mp hk with e | e
    · subst e; exact Int.dvd_trans c y
    · exact z k e
theorem lcmL_ok {ns : List Int} (h : ∀ n ∈ ns, 0 < n) : 0 < lcmL ns ∧ ∀ n ∈ ns, n ∣ lcmL ns := by
  obtain ⟨a, _, c⟩ := lcm_fold ns 1 (by decide) h
  exact ⟨a, c⟩
theorem lcmL_snoc (ns : List Int) (n : Int) : lcmL (ns ++ [n]) = lcmStep (lcmL ns) n := by unfold lcmL; rw [List.foldl_append]; rfl
def spCd : Sp := fun vs H Q _ => ∃ a b : Int, vs = [.int a, .int b] ∧ Q (.int ((Int.gcd a b : Nat) : Int)) H
def spShare : Sp := fun vs H Q _ => ∃ t b : Int, vs = [.int t, .int b] ∧ b ≠ 0 ∧ intBits b ≤ 9000 ∧ ∀ p H', Same H H' → H' p = some (.tup [.int (Fr.sh t b).1, .int (Fr.sh t b).2]) → Q (.ref p) H'
def spLow : Sp := fun vs H Q _ => ∃ t b : Int, vs = [.int t, .int b] ∧ 0 < b ∧ intBits b ≤ 9000 ∧ ∀ p H', Same H H' → H' p = some (.tup [.int (Fr.sh t b).1, .int (Fr.sh t b).2]) → Q (.ref p) H'
structure Sz (a b c d : Int) : Prop where
  a : intBits a ≤ 10000
  b : intBits b ≤ 10000
  c : intBits c ≤ 10000
  d : intBits d ≤ 10000
def spBelow (K : PySem.W.Frag) : Sp := fun vs H Q _ => ∃ p q a b c d, vs = [.ref p, .ref q] ∧ SqT K H p [.int a, .int b] ∧ SqT K H q [.int c, .int d] ∧ Sz a b c d ∧ Q (.bl (decide (a * d < c * b))) H
def cellF (ns : List Int) (k : Int) : Int := if k < (ns.length : Int) then ns.getD k.toNat 0 else 7919 * k + 13
def spCell (K : PySem.W.Frag) : Sp := fun vs H Q _ => ∃ (a : Addr) (ns : List Int) (k : Int), vs = [.ref a, .int k] ∧ SqL K H a (ns.map V.int) ∧ 0 ≤ k ∧ Q (.int (cellF ns k)) H
def spIsWhole : Sp := fun vs H Q _ => ∃ i : Int, vs = [.int i] ∧ Q (.bl true) H
def spMix : Sp := fun vs H Q _ => ∃ c i : Int, vs = [.int c, .int i] ∧ ∀ j, 0 ≤ j → j < 2147483647 → Q (.int j) H
def m300 : Int := 2 ^ 300
def PB (xs : List Row) : Prop := ∀ x ∈ xs, Fr.IsFr x.t x.b ∧ intBits x.t ≤ 300 ∧ intBits x.b ≤ 300 ∧ 1 ≤ x.w ∧ x.w ≤ m300
structure Out (ps : List Tb.Rw) (ys : List Row) : Prop where
  tab : Tb.IsTab ps (rws ys)
  w : ∀ y ∈ ys, 1 ≤ y.w ∧ y.w ≤ Tb.Wt ps y.t y.b
theorem PB.ps {xs : List Row} (h : PB xs) : (∀ p ∈ rws xs, 1 ≤ p.w) ∧ ∀ p ∈ rws xs, Fr.IsFr p.t p.b := by
  refine ⟨fun p hp => ?_, fun p hp => ?_⟩ <;>
  · obtain ⟨x, hx, rfl⟩ := List.mem_map.mp hp
    first | exact (h x hx).2.2.2.1 | exact (h x hx).1
theorem Out.key {ps : List Tb.Rw} {ys : List Row} (o : Out ps ys) {y : Row} (hy : y ∈ ys) : ∃ p ∈ ps, p.t = y.t ∧ p.b = y.b := (o.tab.has y.t y.b).mp ⟨y.r, List.mem_map.mpr ⟨y, hy, rfl⟩, rfl, rfl⟩
theorem Out.ne {ps : List Tb.Rw} {ys : List Row} (o : Out ps ys) (h : ps ≠ []) : ys ≠ [] := by
  rintro rfl
  cases ps with
  | nil => exact h rfl
  | cons p ps => exact Tb.Has_nil ((o.tab.has p.t p.b).mpr (Tb.Has_cons.mpr (.inl ⟨rfl, rfl⟩)))
end TD
namespace L2
open PySem PySem.Spec PyProof.Rows
section
variable {X : Cx}
theorem Inv.turnedLaid {pins : List (Addr × Obj)} {σ : St} {H : Hp} {s : Shared} {h' : Heap} {t' : Nat} {ch : List Addr} {a : Addr} {o : HO} (I : Inv X pins σ H s) (hf : ∀ b ∈ ch, FpOk X pins H b)
    (k : ∀ b u, b ∉ ch → s.heap.get? b = some u → h'.get? b = some u) (hp : s.heap.objs.size ≤ a) (new : ObjOk X.prog X.w (upd H a o) h' a o) : Inv X pins σ (upd H a o) { s with heap := h', toks := t' } := by
  have hn := I.hok.fresh hp
  have nit : ∀ b u, H b = some u → b ∉ ch := fun b u e z => by rw [(hf b z).1] at e; cases e
  refine I.step (g' := s.gens) (d' := s.drawn) (ch := ch) (fun b hb => ?_) (fun b o _ _ hc e _ => k b o hc e) (fun b o _ _ hc e _ => ⟨o.slots, k b o hc e⟩) (fun b u hc e n => ?_) (fun b o hc e => ⟨o, k b o hc e⟩)
    (fun b xs e => by rw [upd_ne (ne_of_none e hn)]; exact e) (fun b o u e => by rw [upd_ne (ne_of_none e hn)]; exact e) (fun b ps e => ⟨#[], by rw [upd_ne (ne_of_none e hn), e]; simp⟩) (fun m hm => ?_) (fun b u e => ?_) I.bare
  · obtain ⟨_, f1, f2, f3, f4, f5⟩ := hf b hb
    exact ⟨f3, f1, f4, f5⟩
  · rw [upd_ne (Nat.ne_of_lt (Nat.lt_of_lt_of_le (Heap.lt_size e) hp))]
    exact n
  · obtain ⟨o, es, ep, ho, r⟩ := hm
    exact ⟨o, es, ep, k _ o (fun z => (hf _ z).2.1 rfl) ho, r⟩
  · by_cases hb : b = a
    · subst hb
      rw [upd_same] at e
      cases e
      exact new
    · rw [upd_ne hb] at e
      refine (I.hok b u e).stay (fun c v hc q => k c v ?_ q) (fun c q => by rw [upd_ne (ne_of_none q hn)]; exact q) fun c xs q => by rw [upd_ne (ne_of_none q hn)]; exact q
      rcases hc with z | z
      · rw [z]; exact nit b u e
      · exact nit c _ z
end
end L2
namespace L2
open PySem PySem.Spec PyProof.Rows
def Itd (hi : Int) (n : Nat) : It := ⟨fun i _ => i < n, fun i H x H' => H' = H ∧ x = .int (hi - i), fun i _ => n ≤ i⟩
theorem turn_rangeD {P : Program} {w : World} {K : PySem.W.Frag} {tg : Expr} (it : Addr) (hi : Int) (n : Nat) : Turn P w K tg (Itd hi n) [it] it (fun i h => IsRangeIter h it (hi + (i : Nat) * (-1)) ((n : Int) - (i : Nat)) (-1)) where
  mem := by simp
  obj := fun i h st b hb => by
    have e : b = it := by simpa using hb
    subst e
    exact ⟨_, st, fun v z => by
      have z' : Data.fields _ = Data.cell v := z
      cases z'⟩
  keep := fun i h h' st k => k it (by simp) _ st
  item := by
    intro X hP hw hK hc i pins s σ H E I hf st hg
    subst hP hw hK
    obtain ⟨f0, f1, f2, f3, f4, f5⟩ := hf it (by simp)
    have W := Walks.range (prog := X.prog) (w := X.w) (I.ok.hd hc) it hi (-1) n
    refine W.item i s _ _ hg st fun v h' tk hv st' kk => ?_
    obtain ⟨t, rfl⟩ := hv
    have I1 : Inv X pins σ H { s with heap := h', toks := tk } := I.turned (fun b o hb e => kk b o (by simpa using hb) e) f0 f1 f3 f4 f5
    refine ⟨_, rfl, go_of (s := { s with heap := h', toks := tk }) (n := "range_iterator") st' rfl rfl (by decide) ⟨.int (hi - i), H, I1, ⟨t, ?_⟩, ⟨rfl, rfl⟩, st', fun b hb => (hf b hb).1⟩⟩
    rw [show hi + (i : Int) * (-1) = hi - (i : Int) by omega]
  done := by
    intro X hP hw hK hc i pins s σ H E I hf st hg
    subst hP hw hK
    obtain ⟨f0, f1, f2, f3, f4, f5⟩ := hf it (by simp)
    exact wpAny_pyNext_range_end (I.ok.hd hc) st (by have : n ≤ i := hg; omega) fun h' eb => ⟨rfl, I.turned (t' := s.toks) (fun b o hb e => eb b o hb e) f0 f1 f3 f4 f5⟩
  self := fun _ _ _ _ _ st h => wpAny_pyIter_rangeiter st h
section
variable {X : Cx} {tg : Expr}
def iRngD (ta : TA) : TI := fun σ H R => ta σ H fun vs H1 => ∃ i j : Int, vs = [.int i, .int j, .int (-1)] ∧ (0 ≤ i ∧ i < 1000000 ∧ 0 ≤ j ∧ j < 1000000) ∧ R (Itd i (i - j).toNat) H1
theorem vals3 {x y z : V} {us : List Value} (r : Vals [x, y, z] us) : ∃ u v w', us = [u, v, w'] ∧ RelV x u ∧ RelV y v ∧ RelV z w' := by
  cases r with
  | cons r1 r => cases r with
    | cons r2 r => cases r with
      | cons r3 r => cases r; exact ⟨_, _, _, rfl, r1, r2, r3⟩
theorem size_down (a b : Int) : Builtin.Range.rangeSize a b (-1) = (((a - b).toNat : Nat) : Int) := by
  unfold Builtin.Range.rangeSize
  rw [if_neg (by decide)]
  split
  · show (a - b - 1) / 1 + 1 = _
    rw [Int.ediv_one]
    omega
  · omega
theorem pi_rangeD {a b c : Expr} {ta : TA} {p pos : Pos} (hg : Gl X "range") (hm : X.mg "range" = none) (ha : PA X [a, b, c] ta) (hs : starEach [a, b, c] X.env = (false, eval a X.env) :: starEach [b, c] X.env := by rfl) (hs2 : (backTo pos (starEach [b, c] X.env)).any (·.1) = false := by rfl) :
    PI X tg (.Call (.Name "range" p) [a, b, c] [] pos) (iRngD ta) := by
  intro pins s σ H R I h
  refine Call_ (ld_blt I hg hm boot_range (PyProof.Rows.callWith_type1 (thn (ha pos pins s σ H _ I h) fun us s1 ⟨vs, H1, I1, r1, q1⟩ => ?_) hs hs2))
  obtain ⟨i, j, e, ⟨i0, i1, j0, j1⟩, q⟩ := q1
  subst e
  obtain ⟨u, v, w', rfl, ⟨t, rfl⟩, ⟨t2, rfl⟩, ⟨t3, rfl⟩⟩ := vals3 r1
  refine call_range_3 (by decide) ?_ (.inl (PyProof.noPylong_of_log2 (by decide)))
  have sm : Builtin.Range.small i j (-1) = true := by
    unfold Builtin.Range.small
    rw [size_down]
    simp [Builtin.Range.rangeFitsLong]
    omega
  refine wpAny_pyIter_range (IsRange.new ..) sm ?_
  have I2 : Inv X pins σ H1 { s1 with heap := s1.heap.push { cls := .type "range", data := .fields #[.int i t, .int j t2, .int (-1) t3] }, toks := s1.toks } := I1.kept fun b o e => Heap.get?_push_of_some _ e
  refine ⟨(s1.heap.push { cls := .type "range", data := .fields #[.int i t, .int j t2, .int (-1) t3] }).objs.size, [(s1.heap.push { cls := .type "range", data := .fields #[.int i t, .int j t2, .int (-1) t3] }).objs.size], _, _, H1, rfl,
    I2.kept (t' := s1.toks) fun b o e => Heap.get?_push_of_some _ e, turn_rangeD _ i (i - j).toNat, ?_, fun b hb => ?_, q⟩
  · show IsRangeIter _ _ (i + ((0 : Nat) : Int) * (-1)) ((((i - j).toNat : Nat) : Int) - ((0 : Nat) : Int)) (-1)
    have e1 : i + ((0 : Nat) : Int) * (-1) = i := by simp
    have e2 : (((i - j).toNat : Nat) : Int) - ((0 : Nat) : Int) = Builtin.Range.rangeSize i j (-1) := by rw [size_down]; omega
    rw [e1, e2]
    exact Heap.get?_push_size _ rfl
  · have e : b = (s1.heap.push { cls := .type "range", data := .fields #[.int i t, .int j t2, .int (-1) t3] }).objs.size := by simpa using hb
    subst e
    exact I2.fpOk (Nat.le_refl _) (I2.hok.fresh (Nat.le_refl _))
end
theorem for_rangeD {hi : Int} {n : Nat} {g : TG} {tb : TS} {D : Ends} {σ : St} {H : Hp} (Pv : Nat → St → Hp → Prop) (h0 : Pv 0 σ H)
    (hs : ∀ i σ H, i < n → Pv i σ H → g (.int (hi - i)) σ H fun σ2 H2 => tb { D with nx := Pv (i + 1), ct := Pv (i + 1), bk := D.nx } σ2 H2) (hd : ∀ σ H, Pv n σ H → D.nx σ H) :
    ∃ W : Nat → Nat → St → Hp → Prop, (∃ m, W 0 m σ H) ∧ ∀ i m σ H, W i m σ H →
      ((Itd hi n).stop i H ∧ D.nx σ H) ∨ ((Itd hi n).go i H ∧ ∃ N : St → Hp → Prop, (∀ σ' H', N σ' H' → ∃ m', m' < m ∧ W (i + 1) m' σ' H') ∧ ∀ x H', (Itd hi n).yld i H x H' → g x σ H' fun σ2 H2 => tb { D with nx := N, ct := N, bk := D.nx } σ2 H2) := by
  refine ⟨fun i m σ H => m = n - i ∧ i ≤ n ∧ Pv i σ H, ⟨n, by simp, Nat.zero_le _, h0⟩, ?_⟩
  rintro i m σ H ⟨rfl, hi', p⟩
  by_cases hlt : i < n
  · refine .inr ⟨hlt, Pv (i + 1), fun σ' H' p' => ⟨n - (i + 1), by omega, rfl, hlt, p'⟩, fun x H' y => ?_⟩
    obtain ⟨e, y⟩ := y
    subst e y
    exact hs i σ _ hlt p
  · have e : i = n := by omega
    subst e
    exact .inl ⟨Nat.le_refl _, hd σ H p⟩
end L2
namespace PySem
namespace F
theorem own_rev_nolen : typeLookup (.type "list_reverseiterator") "__len__" = pure none := by rw [typeLookup_type, builtinLookup_eq_fast]; kernel_rfl
theorem own_rev_hint : typeLookup (.type "list_reverseiterator") "__length_hint__" = pure (some (.builtin "list_reverseiterator.__length_hint__")) := by rw [typeLookup_type, builtinLookup_eq_fast]; kernel_rfl
end F
theorem rev_hint {prog : Program} {w : World} {A : Around} {E : Value → Shared → Prop} {s : Shared} {r : Addr} {Q : Bool → Shared → Prop} (ty : s.TypeIs (.ref r) "list_reverseiterator") (h : Q false s) : wpAny (model prog w) A (Builtin.List.listLengthHint (.ref r)) Q E s := by
  unfold Builtin.List.listLengthHint
  refine wpAny_bind (wpAny_specialOf ty F.own_rev_nolen ?_)
  show wpAny _ A (specialOf (Value.ref r) (Str.ofString "__length_hint__") >>= _) _ _ _
  refine wpAny_bind (wpAny_specialOf ty F.own_rev_hint ?_)
  have sp : splitId "list_reverseiterator.__length_hint__" = some ("list_reverseiterator", "__length_hint__") := by decide +kernel
  generalize he : ("list_reverseiterator.__length_hint__" : String) = e0 at sp
  wp_delta
  rw [sp]
  subst he
  refine wpAny_bind (wpAny_isInstance (b := true) ty (by rw [isSubtype_type]; kernel_rfl) (wpAny_pure h))
theorem rev_walks {prog : Program} {w : World} {A : Around} (hh : A.handled = none) (it l : Addr) (ne : it ≠ l) (xs : Array Value) :
    Walks prog w A it [it, l] [it] xs.size (fun i v => xs[xs.size - 1 - i]? = some v) (fun i h => i ≤ xs.size ∧ h.IsRevIter it l ((xs.size : Int) - 1 - (i : Int)) ∧ h.IsList l xs) where
  sub := fun b hb => by rw [List.mem_singleton.mp hb]; exact .head _
  frame := fun i h h' st k => ⟨st.1, st.2.1.at fun o e => k it (.head _) o e, st.2.2.at fun o e => k l (.tail _ (.head _)) o e⟩
  item := fun i s Q E hi st hQ => by
    have ei : (xs.size : Int) - 1 - (i : Int) = ((xs.size - 1 - i : Nat) : Int) := by omega
    have ej : (xs.size : Int) - 1 - ((i + 1 : Nat) : Int) = ((xs.size - 1 - i : Nat) : Int) - 1 := by omega
    have st1 := st.2.1
    rw [ei] at st1
    have hx : xs[xs.size - 1 - i]? = some xs[xs.size - 1 - i] := Array.getElem?_eq_getElem (by omega)
    refine wpAny_pyNext_rev_item st1 st.2.2 hx fun h' st' sb => ?_
    exact hQ _ h' s.toks hx ⟨hi, by rw [ej]; exact st', st.2.2.at fun o e => (sb.2 l (Ne.symm ne)).trans e⟩ fun b o hb e => (sb.2 b (fun z => hb (by rw [z]; exact .head _))).trans e
  done := fun s Q E st hQ => by
    have ei : (xs.size : Int) - 1 - (xs.size : Int) = -1 := by omega
    have st1 := st.2.1
    rw [ei] at st1
    refine wpAny_pyNext_rev_end hh st1 fun h' eb => ?_
    exact hQ h' s.toks fun b o hb e => eb b o (fun z => hb (by rw [z]; exact .head _)) e
  self := fun i s Q E st hQ => wpAny_pyIter_revIter st.2.1 hQ
theorem list_of_rev {prog : Program} {w : World} {A : Around} {E : Value → Shared → Prop} {s : Shared} {it l : Addr} {xs : Array Value} {Q : Value → Shared → Prop} (hh : A.handled = none) (ne : it ≠ l) (hit : s.heap.IsRevIter it l ((xs.size : Int) - 1)) (hl : s.heap.IsList l xs) (hn : xs.size ≤ sizeLine)
    (hQ : ∀ h' tk acc c, (∀ b o, b ≠ it → s.heap.get? b = some o → h'.get? b = some o) → h'.get? s.heap.objs.size = some { cls := .type "list", dict := none, data := .seq acc c, slots := #[] } → ItemsOf (fun i v => xs[xs.size - 1 - i]? = some v) acc xs.size → Q (.ref s.heap.objs.size) { s with heap := h', toks := tk }) :
    wpAny (model prog w) A (call (.type "list") [.ref it]) Q E s := by
  have ilt : it < s.heap.objs.size := by obtain ⟨o, e, _⟩ := hit; exact Heap.lt_size e
  have llt : l < s.heap.objs.size := by obtain ⟨o, e, _⟩ := hl; exact Heap.lt_size e
  refine callType_codes (Q₁ := fun obj s₁ => obj = .ref s.heap.objs.size ∧ s₁ = { s with heap := s.heap.push { cls := .type "list", data := .seq #[] } }) F.called_list (F.typeCall_list_1 _) F.entry_list_init (code_list_new _ ⟨rfl, rfl⟩) fun obj s₁ z => ?_
  obtain ⟨rfl, rfl⟩ := z
  have hS : (s.heap.push { cls := .type "list", data := .seq #[] }).get? s.heap.objs.size = some { cls := .type "list", data := .seq #[] } := Heap.get?_push_size _ rfl
  refine ⟨⟨_, hS, rfl⟩, F.args_list_init_2 _ _, ?_⟩
  show wpAny _ _ (do let old ← Builtin.List.listItems (.ref s.heap.objs.size); Builtin.List.listUpdate (.ref s.heap.objs.size) (fun _ => #[]); letGo old.toList.reverse; Builtin.List.listExtendWith (.ref s.heap.objs.size) (.ref it) .none) _ _ _
  unfold Builtin.List.listItems
  refine wpAny_bind (wpAny_bind (wpAny_seqItems hS rfl (wpAny_pure ?_)))
  refine wpAny_bind (wpAny_updateSeq hS rfl (wpAny_bind (wpAny_letGo ?_)))
  have hS2 := Heap.get?_update_self (Obj.mapSeq (fun _ => (#[] : Array Value))) hS rfl
  have old : ∀ b o, s.heap.get? b = some o → ((s.heap.push { cls := .type "list", data := .seq #[] }).update s.heap.objs.size (Obj.mapSeq (fun _ => (#[] : Array Value)))).get? b = some o := fun b o e =>
    (Heap.get?_update_other _ _ (Nat.ne_of_gt (Heap.lt_size e))).trans (Heap.get?_push_of_some _ e)
  generalize (s.heap.push { cls := .type "list", data := .seq #[] }).update s.heap.objs.size (Obj.mapSeq (fun _ => (#[] : Array Value))) = h2 at hS2 old ⊢
  have hit2 : h2.IsRevIter it l ((xs.size : Int) - 1 - ((0 : Nat) : Int)) := by
    rw [show (xs.size : Int) - 1 - ((0 : Nat) : Int) = (xs.size : Int) - 1 by omega]
    exact hit.at fun o e => old it o e
  have hl2 : h2.IsList l xs := hl.at fun o e => old l o e
  have ty : ({ s with heap := h2 } : Shared).TypeIs (.ref it) "list_reverseiterator" := hit2.typeIs (s := { s with heap := h2 })
  have Sf : s.heap.objs.size ∉ [it, l] := by
    simp only [List.mem_cons, List.not_mem_nil, or_false, not_or]
    exact ⟨Nat.ne_of_gt ilt, Nat.ne_of_gt llt⟩
  unfold Builtin.List.listExtendWith
  refine wpAny_bind (wpAny_typeOf ty ?_)
  have r1 : Builtin.List.listSameRef (.ref s.heap.objs.size) (.ref it) = false := by simp [Builtin.List.listSameRef, Nat.ne_of_gt ilt]
  rw [if_neg (by rw [r1]; decide)]
  refine wpAny_bind (wpAny_pyIter_revIter (s := { s with heap := h2 }) hit2 ?_)
  refine wpAny_bind (wpAny_holding (rev_hint ty ?_))
  rw [if_neg (by decide)]
  refine wpAny_pure ⟨plainId_quiet F.plain_extend_loop _, codeAny_extend_loopS (rev_walks (A := A.in1.in1) hh it l ne xs).toS hn _ Sf _ xs.size 0 _ _ _ rfl (Nat.zero_le _) ⟨Nat.zero_le _, hit2, hl2⟩ hS2 (ItemsOf.nil _) fun s' acc' c' hm hS' hacc => ?_⟩
  rw [Moved.eq_with hm]
  refine ⟨rfl, hQ s'.heap s'.toks acc' c' (fun b o hb e => hm.heap b o (fun z => ?_) (old b o e)) hS' hacc⟩
  rcases List.mem_cons.mp z with z | z
  · exact absurd (Heap.lt_size e) (by rw [z]; exact Nat.lt_irrefl _)
  · exact hb (List.mem_singleton.mp z)
end PySem
namespace L2
open PySem PySem.Spec PyProof.Rows
section
variable {X : Cx}
def tListRev (K : PySem.W.Frag) (ta : TA) : TE := fun σ H Q => ta σ H fun vs H1 => ∃ a xs, vs = [.ref a] ∧ SqL K H1 a xs ∧ ∀ l, H1 l = none → Q (.ref l) (upd H1 l (.lst xs.reverse))
theorem pe_listRev {a : Expr} {ta : TA} {p p2 pos pos2 : Pos} (hc : X.calm = true) (hg : Gl X "list") (hm : X.mg "list" = none) (hg2 : Gl X "reversed") (hm2 : X.mg "reversed" = none) (ha : PA X [a] ta) (hs : starEach [a] X.env = [(false, eval a X.env)] := by rfl)
    (hs2 : starEach [.Call (.Name "reversed" p2) [a] [] pos2] X.env = [(false, eval (.Call (.Name "reversed" p2) [a] [] pos2) X.env)] := by rfl) :
    PE X (.Call (.Name "list" p) [.Call (.Name "reversed" p2) [a] [] pos2] [] pos) (tListRev X.K ta) := by
  intro pins s σ H Q I h
  refine wpAny_Call_Name_kw (ld_blt I hg hm bt_list ?_)
  refine PyProof.Rows.callWith_type1 ?_ hs2 rfl
  rw [hs2]
  show wpAny _ _ (spliced [(false, eval (.Call (.Name "reversed" p2) [a] [] pos2) X.env)]) _ _ _
  refine Calls.spliced_cons ?_
  refine Call_ (ld_blt I hg2 hm2 bt_reversed (PyProof.Rows.callWith_type1 (thn (ha pos2 pins s σ H _ I h) fun us s1 ⟨vs, H1, I1, r1, q1⟩ => ?_) hs rfl))
  obtain ⟨b, xs, e, hS, q⟩ := q1
  subst e
  obtain ⟨u, rfl, ru⟩ := vals1 r1
  cases (show u = Value.ref b from ru)
  obtain ⟨its, rv, pl, hz⟩ := I1.list hS
  have hlen := rv.length
  refine call_reversed_list pl.isList (Calls.spliced_nil ?_)
  have I2 : Inv X pins σ H1 { s1 with heap := s1.heap.push (revObj b (((its.toArray.size : Nat) : Int) - 1)) } := I1.kept (t' := s1.toks) fun b o e => Heap.get?_push_of_some _ e
  have lt : b < s1.heap.objs.size := by obtain ⟨o, e, _⟩ := pl.isList; exact Heap.lt_size e
  obtain ⟨its2, rv2, pl2, _⟩ := I2.list hS
  have f := I1.fpOk (H' := H1) (b := s1.heap.objs.size) (Nat.le_refl _) (I1.hok.fresh (Nat.le_refl _))
  have hl2 : (s1.heap.push (revObj b (((its.toArray.size : Nat) : Int) - 1))).IsList b its.toArray := pl.isList.push _
  refine list_of_rev (it := s1.heap.objs.size) (l := b) (xs := its.toArray) (I1.ok.hd hc) (Nat.ne_of_gt lt) ⟨_, Heap.get?_push_size _ rfl, rfl, rfl⟩ hl2 (by rw [List.size_toArray]; omega) fun h' tk acc c hk hD hacc => ?_
  have nsz : (s1.heap.push (revObj b (((its.toArray.size : Nat) : Int) - 1))).objs.size = s1.heap.objs.size + 1 := Heap.size_push ..
  have ac : acc.toList = its.reverse := by
    refine List.ext_getElem? fun i => ?_
    rw [Array.getElem?_toList]
    by_cases hi : i < its.length
    · have ha : i < acc.size := by rw [hacc.1, List.size_toArray]; exact hi
      have z := hacc.2 i _ (Array.getElem?_eq_getElem ha)
      rw [Array.getElem?_eq_getElem ha, List.getElem?_reverse hi, ← z, List.size_toArray]
      simp
    · rw [Array.getElem?_eq_none (by rw [hacc.1, List.size_toArray]; omega), List.getElem?_eq_none (by rw [List.length_reverse]; omega)]
  have rr : ∀ {us : List V} {ws : List Value}, Vals us ws → Vals us.reverse ws.reverse := by
    intro us ws r
    induction r with
    | nil => exact .nil
    | cons h t ih => rw [List.reverse_cons, List.reverse_cons]; exact ih.append (.cons h .nil)
  have D0 : H1 (s1.heap.objs.size + 1) = none := I1.hok.fresh (Nat.le_succ _)
  rw [nsz] at hD
  refine ⟨.ref (s1.heap.push (revObj b (((its.toArray.size : Nat) : Int) - 1))).objs.size, upd H1 (s1.heap.push (revObj b (((its.toArray.size : Nat) : Int) - 1))).objs.size (.lst xs.reverse), ?_, rfl, q _ (by rw [nsz]; exact D0)⟩
  refine I2.turnedLaid (t' := tk) (ch := [s1.heap.objs.size]) (fun c hc => by rw [List.mem_singleton.mp hc]; exact f) (fun c o hc e => hk c o (fun z => hc (by rw [z]; exact .head _)) e) (Nat.le_refl _) ⟨by rw [List.length_reverse]; exact hz, its.reverse, c, rr rv, ?_⟩
  rw [nsz, ← ac, Array.toArray_toList]
  exact hD
end
end L2
namespace Rk
abbrev Fc := Int × Int
def hd (l : List Fc) : Fc := match l with | [] => (0, 1) | p :: _ => p
def tk (many place : Int) (p : Fc) : Fc := if p.1 * many > place * p.2 then p else (place, many)
def onStep (many place : Int) (p : Fc) : Fc := Fr.sh ((tk many place p).1 * p.2 + (place - 1) * p.1 * (tk many place p).2) (place * (tk many place p).2 * p.2)
def onR (many : Int) : Nat → List Fc
  | 0 => [(0, 1)]
  | i + 1 => onStep many (many - i) (hd (onR many i)) :: onR many i
def goodP (p : Fc) : Bool := decide (0 < p.2) && decide (p.1.natAbs < 2 ^ 1000) && decide (p.2.natAbs < 2 ^ 1000)
def turns (f : Nat → Fc → Fc) : Nat → List Fc
  | 0 => [(0, 1)]
  | i + 1 => (fun l => f i (hd l) :: l) (turns f i)
theorem onR_turns (many : Int) : ∀ n, onR many n = turns (fun i p => onStep many (many - i) p) n
  | 0 => rfl
  | n + 1 => by
    show onStep many (many - n) (hd (onR many n)) :: onR many n = onStep many (many - n) (hd (turns _ n)) :: turns _ n
    rw [onR_turns many n]
def pl (x y : Fc) : Fc := Fr.sh (x.1 * y.2 + y.1 * x.2) (x.2 * y.2)
def mi (x y : Fc) : Fc := Fr.sh (x.1 * y.2 - y.1 * x.2) (x.2 * y.2)
def ti (x y : Fc) : Fc := Fr.sh (x.1 * y.1) (x.2 * y.2)
def ov (x y : Fc) : Fc := Fr.sh (x.1 * y.2) (x.2 * y.1)
def lt (x y : Fc) : Bool := decide (x.1 * y.2 < y.1 * x.2)
def gr (x y : Fc) : Fc := if lt x y then y else x
def rwStep (many place : Int) (p : Fc) : Fc := pl (ov (gr (Fr.sh place many) p) (place, 1)) (ti p (Fr.sh (place - 1) place))
def fbT (gone : Int) : Nat → List Fc := turns fun i p => pl p (Fr.sh 1 (gone + i))
def fb (many gone : Int) : Fc := if gone = 0 then Fr.sh 1 many else ti (Fr.sh gone many) (hd (fbT gone (many - gone).toNat))
def bgF (many : Int) : Nat → Int × Fc
  | 0 => (0, fb many 0)
  | i + 1 => (fun r f => if lt r.2 f then (1 + (i : Int), f) else r) (bgF many i) (fb many (1 + i))
def chk (m : Nat) : Bool := (fun l => l.all goodP && decide (turns (fun i p => rwStep ((m : Int) + 1) ((m : Int) + 1 - i) p) (m + 1) = l) && (fun r => decide (0 ≤ r.1) && decide (r.1 < (m : Int) + 1) && decide (fb ((m : Int) + 1) r.1 = hd l) && goodP r.2) (bgF ((m : Int) + 1) m)) (turns (fun i p => onStep ((m : Int) + 1) ((m : Int) + 1 - i) p) (m + 1))
theorem chk_all : ∀ m : Fin 60, chk m.val = true := by decide +kernel
theorem turns_mem {f : Nat → Fc → Fc} {p : Fc} : ∀ {i j : Nat}, i ≤ j → p ∈ turns f i → p ∈ turns f j
  | i, 0, h, m => by
    have e : i = 0 := by omega
    subst e
    exact m
  | i, j + 1, h, m => by
    rcases (by omega : i ≤ j ∨ i = j + 1) with z | z
    · exact List.mem_cons_of_mem _ (turns_mem z m)
    · subst z; exact m
theorem turns_hd (f : Nat → Fc → Fc) : ∀ i, hd (turns f i) ∈ turns f i
  | 0 => List.mem_cons_self
  | i + 1 => List.mem_cons_self
theorem turns_len (f : Nat → Fc → Fc) : ∀ i, (turns f i).length = i + 1
  | 0 => rfl
  | i + 1 => by show (turns f i).length + 1 = _; rw [turns_len f i]
structure Gd (p : Fc) : Prop where
  pos : 0 < p.2
  t : p.1.natAbs < 2 ^ 1000
  b : p.2.natAbs < 2 ^ 1000
theorem Gd.of {p : Fc} (h : goodP p = true) : Gd p := by
  unfold goodP at h
  simp only [Bool.and_eq_true, decide_eq_true_eq] at h
  exact ⟨h.1.1, h.1.2, h.2⟩
structure Ck (m : Int) : Prop where
  good : ∀ p ∈ onR m m.toNat, Gd p
  rw : turns (fun i p => rwStep m (m - i) p) m.toNat = onR m m.toNat
  g0 : 0 ≤ (bgF m (m.toNat - 1)).1
  g1 : (bgF m (m.toNat - 1)).1 < m
  best : fb m (bgF m (m.toNat - 1)).1 = hd (onR m m.toNat)
theorem Ck.of {m : Int} (h1 : 1 ≤ m) (h2 : m ≤ 60) : Ck m := by
  obtain ⟨k, hk⟩ : ∃ k : Nat, m = (k : Int) + 1 := ⟨(m - 1).toNat, by omega⟩
  have c := chk_all ⟨k, by omega⟩
  have c : chk k = true := c
  have e1 : m.toNat = k + 1 := by omega
  unfold chk at c
  rw [← hk, ← e1, ← onR_turns] at c
  simp only [Bool.and_eq_true, List.all_eq_true, decide_eq_true_eq] at c
  have e2 : m.toNat - 1 = k := by omega
  refine ⟨fun p hp => Gd.of (c.1.1 p hp), c.1.2, ?_, ?_, ?_⟩
  · rw [e2]; exact c.2.1.1.1
  · rw [e2]; exact c.2.1.1.2
  · rw [e2]; exact c.2.1.2
theorem onR_mem {m : Int} {i : Nat} (hi : i ≤ m.toNat) : hd (onR m i) ∈ onR m m.toNat := by
  rw [onR_turns, onR_turns]
  exact turns_mem hi (turns_hd _ i)
theorem onR_cons (m : Int) (i : Nat) : ∃ l, onR m i = hd (onR m i) :: l := by
  cases i with
  | zero => exact ⟨[], rfl⟩
  | succ i => exact ⟨_, rfl⟩
end Rk
namespace TD
open PySem L2
open Builtin.Int (intBits)
def vals (rs : List Rs) : List Rk.Fc := rs.map fun r => (r.t, r.b)
structure FrsAt (H : Hp) (a : Addr) (rs : List Rs) : Prop where
  lst : H a = some (.lst (rrefs rs))
  at_ : ∀ r ∈ rs, RsAt H r
theorem FrsAt.same {H H' : Hp} {a : Addr} {rs : List Rs} (s : Same H H') (h : FrsAt H a rs) : FrsAt H' a rs := ⟨s _ _ h.lst, fun r hr => s _ _ (h.at_ r hr)⟩
theorem vals_length (rs : List Rs) : (vals rs).length = rs.length := List.length_map _
theorem rrefs_snoc (xs : List Rs) (y : Rs) : rrefs (xs ++ [y]) = rrefs xs ++ [V.ref y.q] := by unfold rrefs; rw [List.map_append]; rfl
theorem FrsAt.push {H : Hp} {D : Addr} {rs : List Rs} {r : Rs} (h : FrsAt H D rs) (hr : RsAt H r) : FrsAt (upd H D (.lst (rrefs rs ++ [.ref r.q]))) D (rs ++ [r]) := by
  have one : ∀ x : Rs, RsAt H x → RsAt (upd H D (.lst (rrefs rs ++ [.ref r.q]))) x := fun x hx => by
    unfold RsAt at hx ⊢
    rw [upd_ne (ne_of hx h.lst fun z => nomatch z)]
    exact hx
  refine ⟨by rw [upd_same, rrefs_snoc], fun x hx => ?_⟩
  rcases List.mem_append.mp hx with z | z
  · exact one x (h.at_ x z)
  · rw [List.mem_singleton.mp z]; exact one r hr
def FcAt (H : Hp) (p : Addr) (f : Rk.Fc) : Prop := H p = some (.tup [.int f.1, .int f.2])
structure SzS (a b c d : Int) : Prop where
  a : intBits a ≤ 4400
  b : intBits b ≤ 4400
  c : intBits c ≤ 4400
  d : intBits d ≤ 4400
def pT (a b c d : Int) : Int := a * d + c * b
def mT (a b c d : Int) : Int := a * d - c * b
def tT (a _b c _d : Int) : Int := a * c
def oT (a _b _c d : Int) : Int := a * d
def pB (_a b _c d : Int) : Int := b * d
def oB (_a b c _d : Int) : Int := b * c
def spFr (K : PySem.W.Frag) (tp bt : Int → Int → Int → Int → Int) : Sp := fun vs H Q _ => ∃ p q a b c d, vs = [.ref p, .ref q] ∧ SqT K H p [.int a, .int b] ∧ SqT K H q [.int c, .int d] ∧ SzS a b c d ∧ bt a b c d ≠ 0 ∧
  ∀ r H', Same H H' → FcAt H' r (Fr.sh (tp a b c d) (bt a b c d)) → Q (.ref r) H'
def spGr (K : PySem.W.Frag) : Sp := fun vs H Q _ => ∃ p q a b c d, vs = [.ref p, .ref q] ∧ SqT K H p [.int a, .int b] ∧ SqT K H q [.int c, .int d] ∧ Sz a b c d ∧ (a * d < c * b → Q (.ref q) H) ∧ (¬ a * d < c * b → Q (.ref p) H)
def spWh : Sp := fun vs H Q _ => ∃ i : Int, vs = [.int i] ∧ ∀ p H', Same H H' → FcAt H' p (i, 1) → Q (.ref p) H'
def spIsW : Sp := fun vs H Q _ => ∃ i lo hi : Int, vs = [.int i, .int lo, .int hi] ∧ lo ≤ i ∧ i ≤ hi ∧ Q (.bl true) H
def In60 (m : Int) : Prop := 1 ≤ m ∧ m ≤ 60
def spNeed : Sp := fun vs H Q _ => ∃ m : Int, vs = [.int m] ∧ In60 m ∧ Q .non H
def spRW : Sp := fun vs H Q _ => ∃ m : Int, vs = [.int m] ∧ In60 m ∧ ∀ r H' rs, Same H H' → H r = none → FrsAt H' r rs → vals rs = Rk.onR m m.toNat → Q (.ref r) H'
def spOn : Sp := fun vs H Q _ => ∃ m : Int, vs = [.int m] ∧ In60 m ∧ ∀ r H' rs, Same H H' → FrsAt H' r rs → vals rs = Rk.onR m m.toNat → Q (.ref r) H'
def spSame : Sp := fun vs H Q _ => ∃ p q f, vs = [.ref p, .ref q] ∧ FcAt H p f ∧ FcAt H q f ∧ Q (.bl true) H
def spLaw (K : PySem.W.Frag) : Sp := fun vs H Q _ => ∃ (a : Addr) (ns : List Int), vs = [.ref a] ∧ SqL K H a (ns.map V.int) ∧ ns.length ≤ 63 ∧ ∀ H', Q (.bl true) H'
theorem b1000 {x : Int} (h : x.natAbs < 2 ^ 1000) : intBits x ≤ 1000 := PySem.intBits_le_iff.mpr h
theorem b64 {x : Int} (h1 : -1000000 ≤ x) (h2 : x ≤ 1000000) : intBits x ≤ 64 := PySem.intBits_le_64 (by omega) (by omega)
theorem sq_fc {K : PySem.W.Frag} {H : Hp} {p : Addr} {f : Rk.Fc} (h : FcAt H p f) : SqT K H p [.int f.1, .int f.2] := SqT.of h
end TD
namespace Rk
def v (p : Fc) : Rat := (p.1 : Rat) / (p.2 : Rat)
theorem cast_ne {b : Int} (h : b ≠ 0) : (b : Rat) ≠ 0 := by exact_mod_cast h
theorem div_eq {a b c d : Int} (hb : b ≠ 0) (hd : d ≠ 0) : (a : Rat) / b = (c : Rat) / d ↔ a * d = c * b := by
  have hb' := cast_ne hb
  have hd' := cast_ne hd
  constructor
  · intro h
    have h' : (a : Rat) * d = c * b := by grind
    exact_mod_cast h'
  · intro h
    have h' : (a : Rat) * d = c * b := by exact_mod_cast h
    grind
theorem v_sh {t b : Int} (hb : b ≠ 0) : v (Fr.sh t b) = (t : Rat) / b :=
  (div_eq (Int.ne_of_gt (Fr.sh_pos hb)) hb).mpr (Fr.sh_cross t b)
theorem v_inj {p q : Fc} (hp : Fr.IsFr p.1 p.2) (hq : Fr.IsFr q.1 q.2) (e : v p = v q) : p = q := by
  obtain ⟨a, b⟩ := Fr.unique hp hq ((div_eq (Int.ne_of_gt hp.pos) (Int.ne_of_gt hq.pos)).mp e)
  exact Prod.ext a b
theorem v_int (i : Int) : v (i, 1) = (i : Rat) := by
  unfold v
  have : ((1 : Int) : Rat) = 1 := by norm_cast
  grind
theorem v_mi {x y : Fc} (hx : x.2 ≠ 0) (hy : y.2 ≠ 0) : v (mi x y) = v x - v y := by
  have hx' := cast_ne hx
  have hy' := cast_ne hy
  unfold mi
  rw [v_sh (Int.mul_ne_zero hx hy)]
  unfold v
  push_cast
  grind
theorem v_ti {x y : Fc} (hx : x.2 ≠ 0) (hy : y.2 ≠ 0) : v (ti x y) = v x * v y := by
  have hx' := cast_ne hx
  have hy' := cast_ne hy
  unfold ti
  rw [v_sh (Int.mul_ne_zero hx hy)]
  unfold v
  push_cast
  grind
theorem v_ov {x y : Fc} (hx : x.2 ≠ 0) (hy : y.1 ≠ 0) (hz : y.2 ≠ 0) : v (ov x y) = v x / v y := by
  have hx' := cast_ne hx
  have hy' := cast_ne hy
  have hz' := cast_ne hz
  unfold ov
  rw [v_sh (Int.mul_ne_zero hx hy)]
  unfold v
  push_cast
  grind
theorem cast_pos {b : Int} (h : 0 < b) : (0 : Rat) < (b : Rat) := by exact_mod_cast h
theorem v_lt {x y : Fc} (hx : 0 < x.2) (hy : 0 < y.2) : v x < v y ↔ x.1 * y.2 < y.1 * x.2 := by
  have hx' := cast_pos hx
  have hy' := cast_pos hy
  have key : v x < v y ↔ (x.1 : Rat) * y.2 < (y.1 : Rat) * x.2 := by
    unfold v
    rw [Rat.div_lt_iff hx']
    have e : (y.1 : Rat) / y.2 * x.2 = (y.1 : Rat) * x.2 / y.2 := by grind
    rw [e, Rat.lt_div_iff hy']
  rw [key]
  constructor
  · intro h; exact_mod_cast h
  · intro h; exact_mod_cast h
end Rk
namespace TD
open PySem L2
open Builtin.Int (intBits)
theorem gyes {i : Nat} {v : V} {τ : St} {H : Hp} {A B : St → Hp → Prop} (h : A (τ.set i (some v)) H) : gName i v τ H (fun τ2 H2 => tYes τ2 H2 (fun b H3 => if b = true then A τ2 H3 else B τ2 H3)) := tyes_if (τ := τ.set i (some v)) (A := A (τ.set i (some v))) (B := B (τ.set i (some v))) h
def totF (fs : List Rk.Fc) : Rk.Fc := Fr.sh ((fs.map fun f => f.1 * (lcmL (fs.map (·.2))).fdiv f.2).sum) (lcmL (fs.map (·.2)))
theorem div_rat {m b : Int} (hb : 0 < b) (h : b ∣ m) : ((m.fdiv b : Int) : Rat) = (m : Rat) / (b : Rat) := by
  obtain ⟨c, rfl⟩ := h
  rw [Int.mul_fdiv_cancel_left c (Int.ne_of_gt hb)]
  have hb' := Rk.cast_ne (Int.ne_of_gt hb)
  push_cast
  grind
theorem tot_sum {m : Int} (hm : 0 < m) : ∀ fs : List Rk.Fc, (∀ f ∈ fs, 0 < f.2 ∧ f.2 ∣ m) → (((fs.map fun f => f.1 * m.fdiv f.2).sum : Int) : Rat) / (m : Rat) = (fs.map Rk.v).sum
  | [], _ => by simp; grind
  | f :: fs, h => by
    have ih := tot_sum hm fs fun g hg => h g (List.mem_cons_of_mem _ hg)
    obtain ⟨a, b⟩ := h f List.mem_cons_self
    simp only [List.map_cons, List.sum_cons]
    rw [← ih]
    have hm' := Rk.cast_ne (Int.ne_of_gt hm)
    have hf' := Rk.cast_ne (Int.ne_of_gt a)
    unfold Rk.v
    push_cast
    rw [div_rat a b]
    grind
theorem lcm_tot {fs : List Rk.Fc} (h : ∀ f ∈ fs, 0 < f.2) : 0 < lcmL (fs.map (·.2)) ∧ ∀ f ∈ fs, f.2 ∣ lcmL (fs.map (·.2)) := by
  obtain ⟨a, b⟩ := lcmL_ok (ns := fs.map (·.2)) fun n hn => by
    obtain ⟨f, hf, rfl⟩ := List.mem_map.mp hn
    exact h f hf
  exact ⟨a, fun f hf => b _ (List.mem_map.mpr ⟨f, hf, rfl⟩)⟩
theorem v_totF {fs : List Rk.Fc} (h : ∀ f ∈ fs, 0 < f.2) : Rk.v (totF fs) = (fs.map Rk.v).sum := by
  obtain ⟨a, b⟩ := lcm_tot h
  unfold totF
  rw [Rk.v_sh (Int.ne_of_gt a)]
  exact tot_sum a fs fun f hf => ⟨h f hf, b f hf⟩
theorem totF_ok {fs : List Rk.Fc} (h : ∀ f ∈ fs, 0 < f.2) : Fr.IsFr (totF fs).1 (totF fs).2 := Fr.sh_ok (Int.ne_of_gt (lcm_tot h).1)
structure TotB (rs : List Rs) : Prop where
  len : rs.length ≤ 1000
  b : ∀ r ∈ rs, 0 < r.b
  t : ∀ r ∈ rs, intBits r.t ≤ 2500
  z : ((rs.map Rs.b).map intBits).sum ≤ 4200
theorem rat_sum_snoc (l : List Rat) (x : Rat) : (l ++ [x]).sum = l.sum + x := by
  induction l with
  | nil => simp; grind
  | cons y l ih => simp only [List.cons_append, List.sum_cons, ih]; grind
end TD
namespace Rk
def afT (many gone : Int) : Nat → List Fc := turns fun i p => Fr.sh (p.1 * many * (gone + i) + gone * p.2) (p.2 * many * (gone + i))
def af (many gone : Int) : Fc := hd (afT many gone (many - gone).toNat)
def due (many gone : Int) : Fc := if gone > 0 then af many gone else (1, many)
def chk1 (m : Nat) : Bool := (List.range (m + 1)).all fun g => (fun d l => decide (Fr.sh d.1 d.2 = fb ((m : Int) + 1) g) && (decide (g = 0) || l.all goodP) && goodP d) (due ((m : Int) + 1) g) (afT ((m : Int) + 1) g ((m : Int) + 1 - g).toNat)
theorem chk1_all : ∀ m : Fin 60, chk1 m.val = true := by decide +kernel
def insAll (n : Nat) (o : List Int) : List (List Int) := (List.range (n + 1)).map fun k => o.take k ++ [(n : Int)] ++ o.drop k
def ordF : Nat → List (List Int)
  | 0 => [[]]
  | n + 1 => (ordF n).flatMap (insAll n)
def fa (ps : List Int) : Nat → Int → List Int → Int
  | _, _, [] => -1
  | i, high, x :: r => if x > high then (if ((i : Int) + 1) ∈ ps then x else fa ps (i + 1) x r) else fa ps (i + 1) high r
def rng (i : Int) (n : Nat) : List Int := (List.range n).map fun (k : Nat) => i + (k : Int)
def plF (many gone : Int) : List Int := if gone = 0 then [1] else rng (gone + 1) (many - gone).toNat
def cnt (many gone : Int) : Nat := ((ordF many.toNat).filter fun o => decide (fa (plF many gone) 0 (-1) o = many - 1)).length
def cn (many gone : Int) : Fc := Fr.sh (cnt many gone) (ordF many.toNat).length
theorem ord_len : ∀ n : Fin 7, decide ((ordF n.val).length ≤ 720) && decide (0 < (ordF n.val).length) && ((ordF n.val).all fun o => decide (o.length = n.val)) = true := by decide +kernel
end Rk
namespace Rk
structure Ca (m g : Int) : Prop where
  eq : Fr.sh (due m g).1 (due m g).2 = fb m g
  gd : Gd (due m g)
  all : g ≠ 0 → ∀ p ∈ afT m g (m - g).toNat, Gd p
theorem Ca.of {m g : Int} (h1 : 1 ≤ m) (h2 : m ≤ 60) (g0 : 0 ≤ g) (g1 : g < m) : Ca m g := by
  obtain ⟨k, hk⟩ : ∃ k : Nat, m = (k : Int) + 1 := ⟨(m - 1).toNat, by omega⟩
  obtain ⟨j, hj⟩ : ∃ j : Nat, g = (j : Int) := ⟨g.toNat, by omega⟩
  have c := chk1_all ⟨k, by omega⟩
  have c : chk1 k = true := c
  unfold chk1 at c
  rw [List.all_eq_true] at c
  have c := c j (List.mem_range.mpr (by omega))
  rw [← hk, ← hj] at c
  simp only [Bool.and_eq_true, Bool.or_eq_true, List.all_eq_true, decide_eq_true_eq] at c
  refine ⟨c.1.1, Gd.of c.2, fun hg p hp => ?_⟩
  rcases c.1.2 with z | z
  · omega
  · exact Gd.of (z p hp)
theorem ord_ok {n : Nat} (h : n ≤ 6) : (ordF n).length ≤ 720 ∧ 0 < (ordF n).length ∧ ∀ o ∈ ordF n, o.length = n := by
  have c := ord_len ⟨n, by omega⟩
  simp only [Bool.and_eq_true, List.all_eq_true, decide_eq_true_eq] at c
  exact ⟨c.1.1, c.1.2, c.2⟩
end Rk
namespace Rk
def rc (ps : List Int) : Nat → Fc
  | 0 => (1, 1)
  | k + 1 => if (1 + (k : Int)) ∈ ps then ti (rc ps k) (Fr.sh (1 + (k : Int) - 1) (1 + (k : Int))) else rc ps k
def wk (m : Int) (k : Nat) : Fc := hd (onR m (m.toNat - k))
def ls (m : Int) (ps : List Int) (k : Nat) : Fc := ov (mi (gr (Fr.sh (1 + (k : Int)) m) (wk m (k + 1))) (if (1 + (k : Int)) ∈ ps then Fr.sh (1 + (k : Int)) m else wk m (k + 1))) (1 + (k : Int), 1)
def shr (m : Int) (ps : List Int) : Fc := ti (Fr.sh 1 m) (TD.totF (ps.map fun p => rc ps (p - 1).toNat))
def smS (m : Int) (s r : Fc) : Fc := Fr.sh (s.1 * m * r.2 + r.1 * s.2) (s.2 * m * r.2)
def smR (r : Fc) (p : Int) : Fc := Fr.sh (r.1 * (p - 1)) (r.2 * p)
def smF (m : Int) : List Int → Fc × Fc → Fc × Fc
  | [], x => x
  | p :: ps, x => smF m ps (smS m x.1 x.2, smR x.2 p)
def cnP (m : Int) (ps : List Int) : Fc := Fr.sh ((((ordF m.toNat).filter fun o => decide (fa ps 0 (-1) o = m - 1)).length : Nat) : Int) (((ordF m.toNat).length : Nat) : Int)
def subs : List Int → List (List Int)
  | [] => [[]]
  | x :: l => (fun s => s ++ s.map (x :: ·)) (subs l)
theorem subs_filter (f : Int → Bool) : ∀ l : List Int, l.filter f ∈ subs l
  | [] => by simp [subs]
  | x :: l => by
    have h := subs_filter f l
    show _ ∈ subs l ++ (subs l).map (x :: ·)
    by_cases e : f x = true
    · rw [List.filter_cons_of_pos e]
      exact List.mem_append_right _ (List.mem_map.mpr ⟨_, h, rfl⟩)
    · rw [List.filter_cons_of_neg e]
      exact List.mem_append_left _ h
theorem cnP_all : ∀ m : Fin 6, ((subs (rng 1 (m.val + 1))).all fun ps => decide (cnP ((m.val : Int) + 1) ps = (smF ((m.val : Int) + 1) ps ((0, 1), (1, 1))).1)) = true := by decide +kernel
structure Pls (m : Int) (ps : List Int) : Prop where
  m1 : 1 ≤ m
  m60 : m ≤ 60
  ris : ps.Pairwise (· < ·)
  lo : ∀ p ∈ ps, 1 ≤ p
  hi : ∀ p ∈ ps, p ≤ m
theorem rng_mem {m : Int} {n : Nat} {p : Int} : p ∈ rng 1 n ↔ 1 ≤ p ∧ p ≤ n := by
  unfold rng
  rw [List.mem_map]
  constructor
  · rintro ⟨k, hk, rfl⟩
    have := List.mem_range.mp hk
    omega
  · intro h
    exact ⟨(p - 1).toNat, List.mem_range.mpr (by omega), by omega⟩
theorem rng_ris (n : Nat) : (rng 1 n).Pairwise (· < ·) := by
  unfold rng
  rw [List.pairwise_map]
  exact List.pairwise_lt_range.imp fun h => by omega
theorem ris_eq : ∀ {l m : List Int}, l.Pairwise (· < ·) → m.Pairwise (· < ·) → (∀ x, x ∈ l ↔ x ∈ m) → l = m
  | [], [], _, _, _ => rfl
  | [], y :: m, _, _, h => absurd ((h y).mpr List.mem_cons_self) (by simp)
  | x :: l, [], _, _, h => absurd ((h x).mp List.mem_cons_self) (by simp)
  | x :: l, y :: m, h1, h2, h => by
    obtain ⟨a1, a2⟩ := List.pairwise_cons.mp h1
    obtain ⟨b1, b2⟩ := List.pairwise_cons.mp h2
    have e : x = y := by
      rcases List.mem_cons.mp ((h x).mp List.mem_cons_self) with e | e
      · exact e
      · rcases List.mem_cons.mp ((h y).mpr List.mem_cons_self) with f | f
        · exact f.symm
        · have := b1 x e; have := a1 y f; omega
    subst e
    rw [ris_eq a2 b2 fun z => ?_]
    constructor
    · intro hz
      rcases List.mem_cons.mp ((h z).mp (List.mem_cons_of_mem _ hz)) with e | e
      · have := a1 z hz; omega
      · exact e
    · intro hz
      rcases List.mem_cons.mp ((h z).mpr (List.mem_cons_of_mem _ hz)) with e | e
      · have := b1 z hz; omega
      · exact e
theorem Pls.cn {m : Int} {ps : List Int} (g : Pls m ps) (h6 : m ≤ 6) : cnP m ps = (smF m ps ((0, 1), (1, 1))).1 := by
  obtain ⟨k, hk⟩ : ∃ k : Nat, m = (k : Int) + 1 := ⟨(m - 1).toNat, by have := g.m1; omega⟩
  have c := cnP_all ⟨k, by omega⟩
  rw [List.all_eq_true] at c
  have e : ps = (rng 1 (k + 1)).filter fun p => decide (p ∈ ps) := ris_eq g.ris ((rng_ris _).filter _) fun x => by
    rw [List.mem_filter, rng_mem (m := m), decide_eq_true_eq]
    exact ⟨fun h => ⟨⟨g.lo x h, by have := g.hi x h; omega⟩, h⟩, fun h => h.2⟩
  have c := c ps (by rw [e]; exact subs_filter _ _)
  rw [← hk] at c
  exact of_decide_eq_true c
end Rk
namespace Rk
open PySem
open Builtin.Int (intBits)
theorem den {x : Fc} (hx : Fr.IsFr x.1 x.2) {T N : Int} (hN : N ≠ 0) (e : v x = (T : Rat) / (N : Rat)) : x.2 ∣ N := by
  have h : x.1 * N = T * x.2 := (div_eq (Int.ne_of_gt hx.pos) hN).mp e
  have d : x.2 ∣ x.1 * N := ⟨T, by rw [h, Int.mul_comm]⟩
  have c : Nat.Coprime x.2.natAbs x.1.natAbs := by
    show Int.gcd x.2 x.1 = 1
    rw [Int.gcd_comm]
    exact hx.red
  have d2 := Int.natAbs_dvd_natAbs.mpr d
  rw [Int.natAbs_mul] at d2
  exact Int.natAbs_dvd_natAbs.mp (c.dvd_of_dvd_mul_left d2)
theorem bits_dvd {x N : Int} {n : Nat} (hN : N ≠ 0) (h : x ∣ N) (b : intBits N ≤ n) : intBits x ≤ n := PySem.intBits_le_of_natAbs (Nat.le_of_dvd (by omega) (Int.natAbs_dvd_natAbs.mpr h)) b
theorem fr11 : Fr.IsFr (1 : Int) 1 := ⟨by decide, by decide⟩
structure Rg (r : Fc) (n : Nat) : Prop where
  fr : Fr.IsFr r.1 r.2
  t : intBits r.1 ≤ n
  b : intBits r.2 ≤ n
theorem bits6 {x : Int} (h0 : 0 ≤ x) (h : x ≤ 60) : intBits x ≤ 6 := PySem.intBits_le_iff.mpr (by rw [show (2 : Nat) ^ 6 = 64 from rfl]; omega)
theorem ti_rg {r s : Fc} {a b : Nat} (hr : Rg r a) (hs : Rg s b) : Rg (ti r s) (a + b) := by
  have hb : r.2 * s.2 ≠ 0 := Int.mul_ne_zero (Int.ne_of_gt hr.fr.pos) (Int.ne_of_gt hs.fr.pos)
  exact ⟨Fr.sh_ok hb, PySem.intBits_le_of_natAbs (Fr.sh_le1 hb) (PySem.intBits_mul_le hr.t hs.t), PySem.intBits_le_of_natAbs (Fr.sh_le2 hb) (PySem.intBits_mul_le hr.b hs.b)⟩
theorem sh_rg {t b : Int} {n : Nat} (hb : b ≠ 0) (h1 : intBits t ≤ n) (h2 : intBits b ≤ n) : Rg (Fr.sh t b) n := ⟨Fr.sh_ok hb, PySem.intBits_le_of_natAbs (Fr.sh_le1 hb) h1, PySem.intBits_le_of_natAbs (Fr.sh_le2 hb) h2⟩
theorem rc_rg (ps : List Int) : ∀ k : Nat, k ≤ 60 → Rg (rc ps k) (1 + 6 * k)
  | 0, _ => ⟨fr11, (by decide : intBits 1 ≤ 1 + 6 * 0), (by decide : intBits 1 ≤ 1 + 6 * 0)⟩
  | k + 1, h => by
    have ih := rc_rg ps k (by omega)
    have s := sh_rg (t := 1 + (k : Int) - 1) (b := 1 + (k : Int)) (n := 6) (by omega) (bits6 (by omega) (by omega)) (bits6 (by omega) (by omega))
    show Rg (if _ then _ else _) _
    split
    · have z := ti_rg ih s
      exact ⟨z.fr, by have := z.t; omega, by have := z.b; omega⟩
    · exact ⟨ih.fr, by have := ih.t; omega, by have := ih.b; omega⟩
theorem rc_z (ps : List Int) {k : Nat} (h : k ≤ 60) : Rg (rc ps k) 361 := by
  have z := rc_rg ps k h
  exact ⟨z.fr, by have := z.t; omega, by have := z.b; omega⟩
def fac : Nat → Int
  | 0 => 1
  | k + 1 => fac k * (1 + (k : Int))
theorem fac_pos : ∀ k, 0 < fac k
  | 0 => by decide
  | k + 1 => Int.mul_pos (fac_pos k) (by omega)
theorem fac_dvd {k : Nat} : ∀ {j : Nat}, k ≤ j → fac k ∣ fac j
  | 0, h => by
    obtain rfl : k = 0 := by omega
    exact Int.dvd_refl _
  | j + 1, h => by
    by_cases e : k = j + 1
    · subst e; exact Int.dvd_refl _
    · exact Int.dvd_trans (fac_dvd (show k ≤ j by omega)) ⟨_, rfl⟩
def Q60 : Int := fac 60
theorem q_pos : 0 < Q60 := fac_pos 60
theorem q_bits : intBits Q60 ≤ 300 := by decide +kernel
theorem sh_dvd {t b : Int} : (Fr.sh t b).2 ∣ b := ⟨Fr.dv t b, (Fr.sh_snd t b).symm⟩
theorem rc_dvd (ps : List Int) : ∀ k : Nat, (rc ps k).2 ∣ fac k
  | 0 => ⟨1, rfl⟩
  | k + 1 => by
    show (if _ then _ else _ : Fc).2 ∣ _
    split
    · exact Int.dvd_trans sh_dvd (Int.mul_dvd_mul (rc_dvd ps k) sh_dvd)
    · exact Int.dvd_trans (rc_dvd ps k) ⟨_, rfl⟩
theorem rc_q (ps : List Int) {k : Nat} (h : k ≤ 60) : ∃ T : Int, v (rc ps k) = (T : Rat) / (Q60 : Rat) := by
  obtain ⟨c, hc⟩ := Int.dvd_trans (rc_dvd ps k) (fac_dvd h)
  have p := (rc_rg ps k h).fr.pos
  have qp := q_pos
  refine ⟨(rc ps k).1 * c, (div_eq (Int.ne_of_gt p) (Int.ne_of_gt qp)).mpr ?_⟩
  show (rc ps k).1 * fac 60 = (rc ps k).1 * c * (rc ps k).2
  rw [hc, Int.mul_assoc, Int.mul_comm (rc ps k).2 c]
def gv (ps : List Int) (p : Int) : Rat := v (rc ps (p - 1).toNat)
def Sv (m : Int) (ps : List Int) (k : Nat) : Rat := ((ps.filter fun p => decide (p ≤ (k : Int))).map (gv ps)).sum / (m : Rat)
theorem sum_step (g : Int → Rat) (k : Nat) : ∀ ps : List Int, ps.Nodup → ((ps.filter fun p => decide (p ≤ ((k + 1 : Nat) : Int))).map g).sum = ((ps.filter fun p => decide (p ≤ (k : Int))).map g).sum + if (1 + (k : Int)) ∈ ps then g (1 + (k : Int)) else 0
  | [], _ => by simp; grind
  | p :: ps, nd => by
    obtain ⟨n1, n2⟩ := List.nodup_cons.mp nd
    have ih := sum_step g k ps n2
    by_cases h1 : p ≤ (k : Int)
    · rw [List.filter_cons_of_pos (by simp; omega), List.filter_cons_of_pos (by simpa using h1), List.map_cons, List.map_cons, List.sum_cons, List.sum_cons, ih]
      have e : ((1 + (k : Int)) ∈ p :: ps) ↔ (1 + (k : Int)) ∈ ps := by
        rw [List.mem_cons]
        exact ⟨fun z => z.elim (fun z => by omega) id, .inr⟩
      simp only [e]
      grind
    · by_cases h2 : p = 1 + (k : Int)
      · subst h2
        rw [List.filter_cons_of_pos (by simp; omega), List.filter_cons_of_neg (by simp; omega), List.map_cons, List.sum_cons, ih, if_neg n1, if_pos List.mem_cons_self]
        grind
      · rw [List.filter_cons_of_neg (by simp; omega), List.filter_cons_of_neg (by simpa using h1), ih]
        have e : ((1 + (k : Int)) ∈ p :: ps) ↔ (1 + (k : Int)) ∈ ps := by
          rw [List.mem_cons]
          exact ⟨fun z => z.elim (fun z => absurd z.symm h2) id, .inr⟩
        simp only [e]
theorem Pls.nd {m : Int} {ps : List Int} (g : Pls m ps) : ps.Nodup := g.ris.imp fun h => by omega
theorem Sv_0 {m : Int} {ps : List Int} (g : Pls m ps) : Sv m ps 0 = 0 := by
  unfold Sv
  have e : ps.filter (fun p => decide (p ≤ ((0 : Nat) : Int))) = [] := List.filter_eq_nil_iff.mpr fun p hp => by have := g.lo p hp; simp; omega
  rw [e]
  simp
  grind
theorem Sv_succ {m : Int} {ps : List Int} (g : Pls m ps) (k : Nat) : Sv m ps (k + 1) = Sv m ps k + if (1 + (k : Int)) ∈ ps then v (rc ps k) / (m : Rat) else 0 := by
  unfold Sv
  rw [sum_step (gv ps) k ps g.nd]
  have e : gv ps (1 + (k : Int)) = v (rc ps k) := by unfold gv; rw [show (1 + (k : Int) - 1).toNat = k by omega]
  rw [e]
  split <;> grind
theorem Sv_all {m : Int} {ps : List Int} (g : Pls m ps) : Sv m ps m.toNat = (ps.map (gv ps)).sum / (m : Rat) := by
  unfold Sv
  rw [List.filter_eq_self.mpr fun p hp => by have := g.hi p hp; have := g.m1; simp; omega]
theorem sum_q {ps : List Int} {ms : List Int} (h : ∀ p ∈ ms, 1 ≤ p ∧ p ≤ 60) : ∃ T : Int, (ms.map (gv ps)).sum = (T : Rat) / (Q60 : Rat) := by
  have qp := cast_ne (Int.ne_of_gt q_pos)
  induction ms with
  | nil => exact ⟨0, by simp; grind⟩
  | cons p ms ih =>
    obtain ⟨T, e⟩ := ih fun x hx => h x (List.mem_cons_of_mem _ hx)
    obtain ⟨h1, h2⟩ := h p List.mem_cons_self
    obtain ⟨U, f⟩ := rc_q ps (k := (p - 1).toNat) (by omega)
    refine ⟨U + T, ?_⟩
    rw [List.map_cons, List.sum_cons, e, show gv ps p = _ from f]
    push_cast
    grind
theorem part_q {m : Int} {ps ms : List Int} (h1 : 1 ≤ m) (h : ∀ p ∈ ms, 1 ≤ p ∧ p ≤ 60) : ∃ T : Int, (ms.map (gv ps)).sum / (m : Rat) = (T : Rat) / ((m * Q60 : Int) : Rat) := by
  obtain ⟨T, e⟩ := sum_q (ps := ps) h
  have qp := cast_ne (Int.ne_of_gt q_pos)
  have mp := cast_ne (show m ≠ 0 by omega)
  refine ⟨T, ?_⟩
  rw [e]
  push_cast
  grind
theorem Sv_q {m : Int} {ps : List Int} (g : Pls m ps) (k : Nat) : ∃ T : Int, Sv m ps k = (T : Rat) / ((m * Q60 : Int) : Rat) :=
  part_q g.m1 fun p hp => by
    have hp := (List.mem_filter.mp hp).1
    have := g.lo p hp; have := g.hi p hp; have := g.m60
    omega
theorem mq_ne {m : Int} (h1 : 1 ≤ m) : m * Q60 ≠ 0 := Int.ne_of_gt (Int.mul_pos (by omega) q_pos)
theorem mq_bits {m : Int} (h1 : 1 ≤ m) (h2 : m ≤ 60) : intBits (m * Q60) ≤ 306 := Nat.le_trans (PySem.intBits_mul_le (bits6 (by omega) h2) q_bits) (by decide)
theorem v_rc (ps : List Int) {k : Nat} (h : k < 60) : v (rc ps (k + 1)) = if (1 + (k : Int)) ∈ ps then v (rc ps k) * (((1 + (k : Int) : Int) : Rat) - 1) / ((1 + (k : Int) : Int) : Rat) else v (rc ps k) := by
  have p := (rc_rg ps k (by omega)).fr.pos
  show v (if _ then _ else _) = _
  split
  · have hs := Fr.sh_pos (t := 1 + (k : Int) - 1) (b := 1 + (k : Int)) (by omega)
    rw [v_ti (Int.ne_of_gt p) (Int.ne_of_gt hs), v_sh (by omega)]
    push_cast
    grind
  · rfl
theorem wk_gd {m : Int} (h1 : 1 ≤ m) (h2 : m ≤ 60) (k : Nat) : Gd (wk m k) := (Ck.of h1 h2).good _ (onR_mem (by omega))
theorem wk_end (m : Int) {k : Nat} (h : m.toNat ≤ k) : wk m k = (0, 1) := by
  unfold wk
  rw [show m.toNat - k = 0 by omega]
  rfl
theorem onR_at (m : Int) : ∀ (n k : Nat), k ≤ n → (onR m n)[k]? = some (hd (onR m (n - k)))
  | 0, k, h => by
    obtain rfl : k = 0 := by omega
    rfl
  | n + 1, 0, h => rfl
  | n + 1, k + 1, h => by
    show (onR m n)[k]? = _
    rw [onR_at m n k (by omega), show n + 1 - (k + 1) = n - k by omega]
def Mx (m : Int) (k : Nat) : Rat := if v (wk m (k + 1)) > ((1 + (k : Int) : Int) : Rat) / (m : Rat) then v (wk m (k + 1)) else ((1 + (k : Int) : Int) : Rat) / (m : Rat)
theorem v_gt {x : Fc} {a b : Int} (hx : 0 < x.2) (hb : 0 < b) : v x > (a : Rat) / (b : Rat) ↔ x.1 * b > a * x.2 := by
  have h := v_lt (x := (a, b)) (y := x) hb hx
  exact h
theorem wk_step {m : Int} (h1 : 1 ≤ m) (h2 : m ≤ 60) {k : Nat} (hk : k < m.toNat) : v (wk m k) = (Mx m k + (((1 + (k : Int) : Int) : Rat) - 1) * v (wk m (k + 1))) / ((1 + (k : Int) : Int) : Rat) := by
  have g := wk_gd h1 h2 (k + 1)
  have e : wk m k = onStep m (1 + (k : Int)) (wk m (k + 1)) := by
    unfold wk
    obtain ⟨i, hi⟩ : ∃ i, m.toNat - k = i + 1 := ⟨m.toNat - k - 1, by omega⟩
    rw [hi, show m.toNat - (k + 1) = i by omega]
    show onStep m (m - i) _ = _
    rw [show m - (i : Int) = 1 + (k : Int) by omega]
  have gp := g.pos
  rw [e]
  unfold onStep Mx
  generalize wk m (k + 1) = x at gp
  have xn := cast_ne (Int.ne_of_gt gp)
  have mn := cast_ne (show m ≠ 0 by omega)
  have kn := cast_ne (show (1 + (k : Int)) ≠ 0 by omega)
  by_cases h : x.1 * m > (1 + (k : Int)) * x.2
  · have t : tk m (1 + (k : Int)) x = x := if_pos h
    rw [if_pos ((v_gt gp (by omega)).mpr h), t, v_sh (Int.mul_ne_zero (Int.mul_ne_zero (by omega) (Int.ne_of_gt gp)) (Int.ne_of_gt gp))]
    unfold v
    generalize (1 + (k : Int)) = K at *
    push_cast
    grind
  · have t : tk m (1 + (k : Int)) x = (1 + (k : Int), m) := if_neg h
    rw [if_neg (fun z => h ((v_gt gp (by omega)).mp z)), t, v_sh (Int.mul_ne_zero (Int.mul_ne_zero (by omega) (by show m ≠ 0; omega)) (Int.ne_of_gt gp))]
    unfold v
    generalize (1 + (k : Int)) = K at *
    push_cast
    grind
end Rk
namespace Rk
open PySem
open Builtin.Int (intBits)
def hadV (m : Int) (ps : List Int) (k : Nat) : Rat := if (1 + (k : Int)) ∈ ps then ((1 + (k : Int) : Int) : Rat) / (m : Rat) else v (wk m (k + 1))
def Lv (m : Int) (ps : List Int) (k : Nat) : Rat := (Mx m k - hadV m ps k) / ((1 + (k : Int) : Int) : Rat)
theorem v_one (i : Int) : v (i, 1) = (i : Rat) := v_int i
theorem v_ls {m : Int} (h1 : 1 ≤ m) (h2 : m ≤ 60) (ps : List Int) (k : Nat) : v (ls m ps k) = Lv m ps k ∧ Fr.IsFr (ls m ps k).1 (ls m ps k).2 := by
  have g := (wk_gd h1 h2 (k + 1)).pos
  have sp := Fr.sh_pos (t := 1 + (k : Int)) (b := m) (by omega)
  have vs : v (Fr.sh (1 + (k : Int)) m) = ((1 + (k : Int) : Int) : Rat) / (m : Rat) := v_sh (by omega)
  have gp : 0 < (gr (Fr.sh (1 + (k : Int)) m) (wk m (k + 1))).2 := by unfold gr; split <;> assumption
  have vg : v (gr (Fr.sh (1 + (k : Int)) m) (wk m (k + 1))) = Mx m k := by
    unfold gr Mx lt
    rw [← vs]
    by_cases h : (Fr.sh (1 + (k : Int)) m).1 * (wk m (k + 1)).2 < (wk m (k + 1)).1 * (Fr.sh (1 + (k : Int)) m).2
    · rw [if_pos (decide_eq_true h), if_pos ((v_lt sp g).mpr h)]
    · rw [if_neg (by simpa using h), if_neg (fun z => h ((v_lt sp g).mp z))]
  have hp : 0 < (if (1 + (k : Int)) ∈ ps then Fr.sh (1 + (k : Int)) m else wk m (k + 1)).2 := by split <;> assumption
  have vh : v (if (1 + (k : Int)) ∈ ps then Fr.sh (1 + (k : Int)) m else wk m (k + 1)) = hadV m ps k := by
    unfold hadV
    split
    · exact vs
    · rfl
  have mp : 0 < (mi (gr (Fr.sh (1 + (k : Int)) m) (wk m (k + 1))) (if (1 + (k : Int)) ∈ ps then Fr.sh (1 + (k : Int)) m else wk m (k + 1))).2 := Fr.sh_pos (Int.mul_ne_zero (Int.ne_of_gt gp) (Int.ne_of_gt hp))
  constructor
  · unfold ls Lv
    rw [v_ov (Int.ne_of_gt mp) (by show 1 + (k : Int) ≠ 0; omega) (by show (1 : Int) ≠ 0; decide), v_mi (Int.ne_of_gt gp) (Int.ne_of_gt hp), vg, vh, v_one]
  · exact Fr.sh_ok (Int.mul_ne_zero (Int.ne_of_gt mp) (by show 1 + (k : Int) ≠ 0; omega))
def lmost (m p : Int) (o : Fc) : Fc := if o.1 * m > p * o.2 then o else (p, m)
def lhad (m p : Int) (o : Fc) (b : Bool) : Fc := if b then (p, m) else o
def lsL (m p : Int) (o : Fc) (b : Bool) : Fc := Fr.sh ((lmost m p o).1 * (lhad m p o b).2 - (lhad m p o b).1 * (lmost m p o).2) ((lmost m p o).2 * (lhad m p o b).2 * p)
theorem sh_nn {t b : Int} (hb : 0 < b) (ht : 0 ≤ t) : 0 ≤ (Fr.sh t b).1 := by
  have c := Fr.sh_cross t b
  have p := Fr.sh_pos (t := t) (b := b) (by omega)
  have h : 0 ≤ (Fr.sh t b).1 * b := by rw [c]; exact Int.mul_nonneg ht (by omega)
  exact Int.le_of_mul_le_mul_right (by rw [Int.zero_mul]; exact h) hb
theorem lm_pos {m p : Int} {o : Fc} (hm : 0 < m) (ho : 0 < o.2) : 0 < (lmost m p o).2 := by unfold lmost; split <;> assumption
theorem lh_pos {m p : Int} {o : Fc} {b : Bool} (hm : 0 < m) (ho : 0 < o.2) : 0 < (lhad m p o b).2 := by unfold lhad; split <;> assumption
theorem lsL_nn {m p : Int} {o : Fc} {b : Bool} (hm : 0 < m) (hp : 0 < p) (ho : 0 < o.2) : 0 ≤ (lsL m p o b).1 := by
  refine sh_nn (Int.mul_pos (Int.mul_pos (lm_pos hm ho) (lh_pos hm ho)) hp) ?_
  unfold lmost lhad
  by_cases h : o.1 * m > p * o.2
  · rw [if_pos h]
    cases b
    · simp
    · show 0 ≤ o.1 * m - p * o.2
      omega
  · rw [if_neg h]
    cases b
    · show 0 ≤ p * o.2 - o.1 * m
      omega
    · simp
theorem ls_law {m : Int} (h1 : 1 ≤ m) (h2 : m ≤ 60) (ps : List Int) (k : Nat) : lsL m (1 + (k : Int)) (wk m (k + 1)) (decide ((1 + (k : Int)) ∈ ps)) = ls m ps k := by
  have g := (wk_gd h1 h2 (k + 1)).pos
  obtain ⟨e, fr⟩ := v_ls h1 h2 ps k
  have a := lm_pos (m := m) (p := 1 + (k : Int)) (by omega) g
  have b := lh_pos (m := m) (p := 1 + (k : Int)) (b := decide ((1 + (k : Int)) ∈ ps)) (by omega) g
  have nz : (lmost m (1 + (k : Int)) (wk m (k + 1))).2 * (lhad m (1 + (k : Int)) (wk m (k + 1)) (decide ((1 + (k : Int)) ∈ ps))).2 * (1 + (k : Int)) ≠ 0 := Int.ne_of_gt (Int.mul_pos (Int.mul_pos a b) (by omega))
  refine v_inj (Fr.sh_ok nz) fr ?_
  rw [e]
  have va : v (lmost m (1 + (k : Int)) (wk m (k + 1))) = Mx m k := by
    unfold lmost Mx
    by_cases h : (wk m (k + 1)).1 * m > (1 + (k : Int)) * (wk m (k + 1)).2
    · rw [if_pos h, if_pos ((v_gt g (by omega)).mpr h)]
    · rw [if_neg h, if_neg (fun z => h ((v_gt g (by omega)).mp z))]
      rfl
  have vb : v (lhad m (1 + (k : Int)) (wk m (k + 1)) (decide ((1 + (k : Int)) ∈ ps))) = hadV m ps k := by
    unfold lhad hadV
    by_cases h : (1 + (k : Int)) ∈ ps
    · rw [if_pos (decide_eq_true h), if_pos h]
      rfl
    · rw [if_neg (by simpa using h), if_neg h]
  unfold lsL Lv
  rw [v_sh nz, ← va, ← vb]
  unfold v
  have a' := cast_ne (Int.ne_of_gt a)
  have b' := cast_ne (Int.ne_of_gt b)
  have kn := cast_ne (show (1 + (k : Int)) ≠ 0 by omega)
  generalize lmost m (1 + (k : Int)) (wk m (k + 1)) = x at a'
  generalize lhad m (1 + (k : Int)) (wk m (k + 1)) (decide ((1 + (k : Int)) ∈ ps)) = y at b'
  generalize (1 + (k : Int)) = K at *
  push_cast
  grind
def Fv (m : Int) (ps : List Int) : Nat → Rat
  | 0 => 0
  | k + 1 => Fv m ps k + v (rc ps k) * v (ls m ps k)
theorem tele {m : Int} {ps : List Int} (g : Pls m ps) : ∀ k : Nat, k ≤ m.toNat → Fv m ps k + Sv m ps k + v (rc ps k) * v (wk m k) = v (wk m 0)
  | 0, _ => by
    have e : v (rc ps 0) = 1 := by show v (1, 1) = 1; rw [v_one]; norm_cast
    rw [Sv_0 g, e]
    show 0 + 0 + 1 * _ = _
    grind
  | k + 1, h => by
    have h1 := g.m1
    have h2 := g.m60
    have ih := tele g k (by omega)
    rw [← ih, wk_step h1 h2 (show k < m.toNat by omega), Sv_succ g, v_rc ps (show k < 60 by omega)]
    show Fv m ps k + v (rc ps k) * v (ls m ps k) + _ + _ = _
    rw [(v_ls h1 h2 ps k).1]
    unfold Lv hadV
    have mn := cast_ne (show m ≠ 0 by omega)
    have kn := cast_ne (show (1 + (k : Int)) ≠ 0 by omega)
    generalize v (rc ps k) = R
    generalize v (wk m (k + 1)) = W
    generalize Mx m k = M
    generalize Fv m ps k = A
    generalize Sv m ps k = B
    by_cases hi : (1 + (k : Int)) ∈ ps
    · simp only [if_pos hi]
      generalize ((1 + (k : Int) : Int) : Rat) = K at kn
      generalize (m : Rat) = N at mn
      grind
    · simp only [if_neg hi]
      generalize ((1 + (k : Int) : Int) : Rat) = K at kn
      grind
def wf (m : Int) (ps : List Int) : Nat → Fc
  | 0 => (0, 1)
  | k + 1 => Fr.sh ((wf m ps k).1 * ((rc ps k).2 * (ls m ps k).2) + (rc ps k).1 * (ls m ps k).1 * (wf m ps k).2) ((wf m ps k).2 * ((rc ps k).2 * (ls m ps k).2))
theorem wf_ok {m : Int} {ps : List Int} (h1 : 1 ≤ m) (h2 : m ≤ 60) : ∀ k : Nat, k ≤ 60 → Fr.IsFr (wf m ps k).1 (wf m ps k).2 ∧ v (wf m ps k) = Fv m ps k
  | 0, _ => ⟨(⟨by decide, by decide⟩ : Fr.IsFr (0 : Int) 1), by show v (0, 1) = 0; rw [v_one]; norm_cast⟩
  | k + 1, h => by
    obtain ⟨f, e⟩ := wf_ok h1 h2 k (by omega)
    have rp := (rc_rg ps k (by omega)).fr.pos
    have lp := (v_ls h1 h2 ps k).2.pos
    have fp := f.pos
    have nz : (wf m ps k).2 * ((rc ps k).2 * (ls m ps k).2) ≠ 0 := Int.ne_of_gt (Int.mul_pos fp (Int.mul_pos rp lp))
    refine ⟨Fr.sh_ok nz, ?_⟩
    show v (Fr.sh _ _) = Fv m ps k + v (rc ps k) * v (ls m ps k)
    rw [v_sh nz, ← e]
    unfold v
    have a := cast_ne (Int.ne_of_gt fp)
    have b := cast_ne (Int.ne_of_gt rp)
    have c := cast_ne (Int.ne_of_gt lp)
    generalize wf m ps k = x at a
    generalize rc ps k = y at b
    generalize ls m ps k = z at c
    push_cast
    grind
theorem wf_dvd {m : Int} {ps : List Int} (g : Pls m ps) {k : Nat} (h : k ≤ m.toNat) : intBits (wf m ps k).2 ≤ 2700 := by
  have h1 := g.m1
  have h2 := g.m60
  obtain ⟨f, e⟩ := wf_ok (ps := ps) h1 h2 k (by omega)
  obtain ⟨T, hT⟩ := Sv_q g k
  have t := tele g k h
  have w0 := wk_gd h1 h2 0
  have w1 := wk_gd h1 h2 k
  have r := rc_z ps (k := k) (by omega)
  have rp := r.fr.pos
  have q := mq_ne h1
  have nz : (wk m 0).2 * (rc ps k).2 * ((wk m k).2 * (m * Q60)) ≠ 0 := Int.mul_ne_zero (Int.mul_ne_zero (Int.ne_of_gt w0.pos) (Int.ne_of_gt rp)) (Int.mul_ne_zero (Int.ne_of_gt w1.pos) q)
  have d : (wf m ps k).2 ∣ (wk m 0).2 * (rc ps k).2 * ((wk m k).2 * (m * Q60)) := by
    refine den (T := (wk m 0).1 * (rc ps k).2 * (wk m k).2 * (m * Q60) - (rc ps k).1 * (wk m k).1 * (wk m 0).2 * (m * Q60) - T * (wk m 0).2 * (rc ps k).2 * (wk m k).2) f nz ?_
    have e2 : v (wf m ps k) = v (wk m 0) - v (rc ps k) * v (wk m k) - (T : Rat) / ((m * Q60 : Int) : Rat) := by
      rw [e, ← t, hT]
      grind
    rw [e2]
    unfold v
    have a := cast_ne (Int.ne_of_gt w0.pos)
    have b := cast_ne (Int.ne_of_gt rp)
    have c := cast_ne (Int.ne_of_gt w1.pos)
    have d := cast_ne q
    generalize wk m 0 = x at a
    generalize rc ps k = y at b
    generalize wk m k = z at c
    generalize m * Q60 = N at d
    push_cast
    grind
  refine bits_dvd nz d (Nat.le_trans (PySem.intBits_mul_le (PySem.intBits_mul_le (m := 1000) (n := 361) (PySem.intBits_le_iff.mpr w0.b) r.b) (PySem.intBits_mul_le (m := 1000) (n := 306) (PySem.intBits_le_iff.mpr w1.b) (mq_bits h1 h2))) (by decide))
end Rk
namespace Rk
open PySem TD
open Builtin.Int (intBits)
theorem rc_const (ps : List Int) {a : Nat} : ∀ {b : Nat}, a ≤ b → (∀ q ∈ ps, ¬ ((a : Int) < q ∧ q ≤ (b : Int))) → rc ps b = rc ps a
  | 0, h, _ => by
    obtain rfl : a = 0 := by omega
    rfl
  | b + 1, h, hn => by
    by_cases e : a = b + 1
    · subst e; rfl
    · have hq : (1 + (b : Int)) ∉ ps := fun z => hn _ z (by omega)
      show (if _ then _ else _) = _
      rw [if_neg hq]
      exact rc_const ps (by omega) fun q hq z => hn q hq (by omega)
theorem v_shr {m : Int} {ps : List Int} (g : Pls m ps) : v (shr m ps) = Sv m ps m.toNat ∧ Fr.IsFr (shr m ps).1 (shr m ps).2 := by
  have h1 := g.m1
  have h2 := g.m60
  have pos : ∀ f ∈ ps.map (fun p => rc ps (p - 1).toNat), 0 < f.2 := fun f hf => by
    obtain ⟨p, hp, rfl⟩ := List.mem_map.mp hf
    exact (rc_z ps (by have := g.hi p hp; omega)).fr.pos
  have tp := (totF_ok pos).pos
  have sp := Fr.sh_pos (t := 1) (b := m) (by omega)
  constructor
  · unfold shr
    rw [v_ti (Int.ne_of_gt sp) (Int.ne_of_gt tp), v_sh (by omega), v_totF pos, Sv_all g, List.map_map]
    have mn := cast_ne (show m ≠ 0 by omega)
    have e : (v ∘ fun p => rc ps (p - 1).toNat) = gv ps := rfl
    rw [e]
    generalize (ps.map (gv ps)).sum = S
    have o : ((1 : Int) : Rat) = 1 := by norm_cast
    rw [o]
    grind
  · exact Fr.sh_ok (Int.mul_ne_zero (Int.ne_of_gt sp) (Int.ne_of_gt tp))
theorem smF_snoc (m : Int) : ∀ (l : List Int) (p : Int) (x : Fc × Fc), smF m (l ++ [p]) x = (smS m (smF m l x).1 (smF m l x).2, smR (smF m l x).2 p)
  | [], p, x => rfl
  | q :: l, p, x => smF_snoc m l p _
def lastP (l : List Int) : Int := l.getLastD 0
structure SmOk (m : Int) (ps : List Int) (j : Nat) (x : Fc × Fc) : Prop where
  r : x.2 = rc ps (lastP (ps.take j)).toNat
  fr : Fr.IsFr x.1.1 x.1.2
  val : v x.1 = ((ps.take j).map (gv ps)).sum / (m : Rat)
  t : intBits x.1.1 ≤ 700 * (j + 1)
  b : intBits x.1.2 ≤ 306
theorem lastP_snoc (l : List Int) (p : Int) : lastP (l ++ [p]) = p := by unfold lastP; rw [List.getLastD_concat]
theorem lastP_mem : ∀ l : List Int, l ≠ [] → lastP l ∈ l := fun l h => by
  have e : lastP l = l.getLast h := by unfold lastP; cases l with
    | nil => exact absurd rfl h
    | cons x l => rw [List.getLastD_cons, List.getLast_eq_getLastD]
  rw [e]
  exact List.getLast_mem h
theorem last_mem {ps : List Int} {j : Nat} : lastP (ps.take j) = 0 ∨ lastP (ps.take j) ∈ ps.take j := by
  by_cases e : ps.take j = []
  · rw [e]; exact .inl rfl
  · exact .inr (lastP_mem _ e)
theorem smR_is {r : Fc} {p : Int} (hr : 0 < r.2) (hp : 1 ≤ p) : smR r p = ti r (Fr.sh (p - 1) p) := by
  have sp := Fr.sh_pos (t := p - 1) (b := p) (by omega)
  have n1 : r.2 * p ≠ 0 := Int.mul_ne_zero (Int.ne_of_gt hr) (by omega)
  have n2 : r.2 * (Fr.sh (p - 1) p).2 ≠ 0 := Int.mul_ne_zero (Int.ne_of_gt hr) (Int.ne_of_gt sp)
  refine v_inj (Fr.sh_ok n1) (Fr.sh_ok n2) ?_
  rw [v_ti (Int.ne_of_gt hr) (Int.ne_of_gt sp), v_sh (by omega)]
  unfold smR
  rw [v_sh n1]
  unfold v
  have a := cast_ne (Int.ne_of_gt hr)
  have b := cast_ne (show p ≠ 0 by omega)
  push_cast
  grind
theorem rc_last {m : Int} {ps : List Int} (g : Pls m ps) {j : Nat} {p : Int} (hp : ps[j]? = some p) : rc ps (p - 1).toNat = rc ps (lastP (ps.take j)).toNat ∧ rc ps p.toNat = ti (rc ps (lastP (ps.take j)).toNat) (Fr.sh (p - 1) p) := by
  have hm := List.mem_of_getElem? hp
  have p1 := g.lo p hm
  obtain ⟨hj, ej⟩ := List.getElem?_eq_some_iff.mp hp
  have lt : ∀ q ∈ ps.take j, q < p := fun q hq => by
    obtain ⟨i, hi, rfl⟩ := List.mem_iff_getElem.mp hq
    rw [List.length_take] at hi
    rw [List.getElem_take, ← ej]
    exact List.pairwise_iff_getElem.mp g.ris i j _ hj (by omega)
  have l0 : 0 ≤ lastP (ps.take j) ∧ lastP (ps.take j) < p := by
    rcases last_mem (ps := ps) (j := j) with e | e
    · omega
    · exact ⟨by have := g.lo _ (List.mem_of_mem_take e); omega, lt _ e⟩
  have key : ∀ q ∈ ps, ¬ (lastP (ps.take j) < q ∧ q < p) := fun q hq ⟨z1, z2⟩ => by
    obtain ⟨i, hi, rfl⟩ := List.mem_iff_getElem.mp hq
    by_cases ij : i < j
    ·
      have hl : lastP (ps.take j) = ps[j - 1]'(by omega) := by
        have e : ps.take j = ps.take (j - 1) ++ [ps[j - 1]'(by omega)] := by
          conv => lhs; rw [show j = (j - 1) + 1 by omega]
          rw [List.take_add_one, List.getElem?_eq_getElem (by omega)]
          rfl
        rw [e, lastP_snoc]
      rw [hl] at z1
      by_cases e : i = j - 1
      · subst e; omega
      · have := List.pairwise_iff_getElem.mp g.ris i (j - 1) hi (by omega) (by omega)
        omega
    · by_cases e : i = j
      · subst e; rw [ej] at z2; omega
      · have := List.pairwise_iff_getElem.mp g.ris j i hj hi (by omega)
        rw [ej] at this
        omega
  have c : rc ps (p - 1).toNat = rc ps (lastP (ps.take j)).toNat := rc_const ps (by omega) fun q hq z => key q hq (by omega)
  refine ⟨c, ?_⟩
  obtain ⟨k, hk⟩ : ∃ k : Nat, p = 1 + (k : Int) := ⟨(p - 1).toNat, by omega⟩
  subst hk
  rw [show (1 + (k : Int)).toNat = k + 1 by omega]
  show (if _ then _ else _) = _
  rw [if_pos hm, ← c, show (1 + (k : Int) - 1).toNat = k by omega]
theorem sm_ok {m : Int} {ps : List Int} (g : Pls m ps) : ∀ j : Nat, j ≤ ps.length → SmOk m ps j (smF m (ps.take j) ((0, 1), (1, 1)))
  | 0, _ => by
    have z : ((0 : Int) : Rat) = 0 := by norm_cast
    refine ⟨rfl, (⟨by decide, by decide⟩ : Fr.IsFr (0 : Int) 1), ?_, (by decide : intBits 0 ≤ 700), (by decide : intBits 1 ≤ 306)⟩
    show v (0, 1) = 0 / _
    rw [v_int, z]
    grind
  | j + 1, h => by
    have h1 := g.m1
    have h2 := g.m60
    have ih := sm_ok g j (by omega)
    have ej : ps[j]? = some ps[j] := List.getElem?_eq_getElem (by omega)
    generalize ps[j] = p at ej
    have hm := List.mem_of_getElem? ej
    have p1 := g.lo p hm
    have p2 := g.hi p hm
    obtain ⟨c1, c2⟩ := rc_last g ej
    have et : ps.take (j + 1) = ps.take j ++ [p] := by rw [List.take_add_one, ej]; rfl
    have lb : (lastP (ps.take j)).toNat ≤ 60 := by
      rcases last_mem (ps := ps) (j := j) with e | e
      · rw [e]; decide
      · have := g.hi _ (List.mem_of_mem_take e); omega
    have rz := rc_z ps lb
    have rp := rz.fr.pos
    rw [et, smF_snoc]
    generalize smF m (ps.take j) ((0, 1), (1, 1)) = x at ih
    have er := ih.r
    have sp := ih.fr.pos
    have nz : x.1.2 * m * x.2.2 ≠ 0 := by rw [er]; exact Int.mul_ne_zero (Int.mul_ne_zero (Int.ne_of_gt sp) (by omega)) (Int.ne_of_gt rp)
    have fr2 : Fr.IsFr (smS m x.1 x.2).1 (smS m x.1 x.2).2 := Fr.sh_ok nz
    have v2 : v (smS m x.1 x.2) = ((ps.take (j + 1)).map (gv ps)).sum / (m : Rat) := by
      rw [et, List.map_append, List.map_cons, List.map_nil, rat_sum_snoc, show gv ps p = v x.2 from by rw [er]; exact congrArg v c1]
      unfold smS
      rw [v_sh nz]
      have e := ih.val
      have a := cast_ne (Int.ne_of_gt sp)
      have b := cast_ne (show x.2.2 ≠ 0 by rw [er]; exact Int.ne_of_gt rp)
      have mn := cast_ne (show m ≠ 0 by omega)
      have e2 : ((ps.take j).map (gv ps)).sum = v x.1 * (m : Rat) := by rw [e]; grind
      rw [e2]
      unfold v
      generalize x.1 = y at a
      generalize x.2 = z at b
      push_cast
      grind
    rw [et] at v2
    refine ⟨?_, fr2, by rw [et]; exact v2, ?_, ?_⟩
    · show smR x.2 p = _
      rw [et, lastP_snoc, c2, ← er]
      exact smR_is (by rw [er]; exact rp) p1
    · have b1 : intBits (x.1.1 * m * x.2.2) ≤ 700 * (j + 1) + 6 + 361 := PySem.intBits_mul_le (PySem.intBits_mul_le ih.t (bits6 (by omega) h2)) (by rw [er]; exact rz.b)
      have b2 : intBits (x.2.1 * x.1.2) ≤ 361 + 306 := PySem.intBits_mul_le (by rw [er]; exact rz.t) ih.b
      exact PySem.intBits_le_of_natAbs (Fr.sh_le1 nz) (Nat.le_trans (PySem.intBits_add_le b1 b2) (by omega))
    · rw [← et] at v2
      obtain ⟨T, hT⟩ := part_q (m := m) (ps := ps) (ms := ps.take (j + 1)) h1 fun q hq => by
        have hq := List.mem_of_mem_take hq
        have := g.lo q hq; have := g.hi q hq
        omega
      rw [hT] at v2
      exact bits_dvd (mq_ne h1) (den fr2 (mq_ne h1) v2) (mq_bits h1 h2)
theorem sm_all {m : Int} {ps : List Int} (g : Pls m ps) : (smF m ps ((0, 1), (1, 1))).1 = shr m ps := by
  have s := sm_ok g ps.length (Nat.le_refl _)
  rw [List.take_length] at s
  obtain ⟨e, f⟩ := v_shr g
  refine v_inj s.fr f ?_
  rw [e, Sv_all g]
  have := s.val
  rw [List.take_length] at this
  exact this
theorem len_le : ∀ {ps : List Int} {a b : Int}, ps.Pairwise (· < ·) → (∀ p ∈ ps, a ≤ p ∧ p ≤ b) → (ps.length : Int) ≤ max 0 (b - a + 1)
  | [], _, _, _, _ => by simp; omega
  | p :: ps, a, b, h, hb => by
    obtain ⟨h1, h2⟩ := List.pairwise_cons.mp h
    have hp := hb p List.mem_cons_self
    have := len_le (a := p + 1) (b := b) h2 fun q hq => ⟨by have := h1 q hq; omega, (hb q (List.mem_cons_of_mem _ hq)).2⟩
    rw [List.length_cons]
    push_cast
    omega
theorem Pls.len {m : Int} {ps : List Int} (g : Pls m ps) : ps.length ≤ 60 := by
  have := len_le (a := 1) (b := m) g.ris fun p hp => ⟨g.lo p hp, g.hi p hp⟩
  have := g.m60
  omega
theorem shr_rg {m : Int} {ps : List Int} (g : Pls m ps) : Fr.IsFr (shr m ps).1 (shr m ps).2 ∧ intBits (shr m ps).1 ≤ 43000 ∧ intBits (shr m ps).2 ≤ 306 := by
  have s := sm_ok g ps.length (Nat.le_refl _)
  rw [List.take_length] at s
  rw [← sm_all g]
  have hl := g.len
  exact ⟨s.fr, Nat.le_trans s.t (by omega), s.b⟩
theorem whole83 {m : Int} {ps : List Int} (g : Pls m ps) : Fr.sh ((wf m ps m.toNat).1 * (shr m ps).2 + (shr m ps).1 * (wf m ps m.toNat).2) ((wf m ps m.toNat).2 * (shr m ps).2) = wk m 0 := by
  have h1 := g.m1
  have h2 := g.m60
  obtain ⟨f, e⟩ := wf_ok (ps := ps) h1 h2 m.toNat (by omega)
  obtain ⟨e2, f2⟩ := v_shr g
  have nz : (wf m ps m.toNat).2 * (shr m ps).2 ≠ 0 := Int.mul_ne_zero (Int.ne_of_gt f.pos) (Int.ne_of_gt f2.pos)
  have fw : Fr.IsFr (wk m 0).1 (wk m 0).2 := by
    unfold wk
    obtain ⟨i, hi⟩ : ∃ i, m.toNat - 0 = i + 1 := ⟨m.toNat - 1, by omega⟩
    rw [hi]
    have gi := (Ck.of h1 h2).good _ (onR_mem (m := m) (i := i) (by omega))
    show Fr.IsFr (onStep m (m - i) (hd (onR m i))).1 (onStep m (m - i) (hd (onR m i))).2
    refine Fr.sh_ok (Int.mul_ne_zero (Int.mul_ne_zero (by omega) ?_) (Int.ne_of_gt gi.pos))
    unfold tk
    split
    · exact Int.ne_of_gt gi.pos
    · show m ≠ 0
      omega
  refine v_inj (Fr.sh_ok nz) fw ?_
  rw [v_sh nz]
  have t := tele g m.toNat (Nat.le_refl _)
  rw [wk_end m (Nat.le_refl _), v_int] at t
  have z : ((0 : Int) : Rat) = 0 := by norm_cast
  rw [z, ← e, ← e2] at t
  rw [← t]
  unfold v
  have a := cast_ne (Int.ne_of_gt f.pos)
  have b := cast_ne (Int.ne_of_gt f2.pos)
  generalize wf m ps m.toNat = x at a
  generalize shr m ps = y at b
  generalize rc ps m.toNat = u
  push_cast
  grind
end Rk
namespace TD
open PySem
theorem lcmStep_sh {m n : Int} (hn : 0 < n) : lcmStep m n = m * (Fr.sh m n).2 := by
  unfold lcmStep Fr.sh Fr.dv
  rw [if_neg (by omega)]
theorem lcmStep_dvd {m n M : Int} (hn : 0 < n) (h1 : m ∣ M) (h2 : n ∣ M) : lcmStep m n ∣ M := by
  rw [lcmStep_sh hn]
  obtain ⟨a, ea⟩ := h1
  obtain ⟨b, eb⟩ := h2
  have d1 := Fr.sh_fst m n
  have d2 := Fr.sh_snd m n
  have dn := Fr.dv_ne (t := m) (Int.ne_of_gt hn)
  have h : (Fr.sh m n).2 ∣ (Fr.sh m n).1 * a := by
    refine ⟨b, Int.eq_of_mul_eq_mul_right dn ?_⟩
    have e1 : (Fr.sh m n).1 * a * Fr.dv m n = ((Fr.sh m n).1 * Fr.dv m n) * a := by grind
    have e2 : (Fr.sh m n).2 * b * Fr.dv m n = ((Fr.sh m n).2 * Fr.dv m n) * b := by grind
    rw [e1, e2, d1, d2, ← ea, ← eb]
  obtain ⟨c, hc⟩ := Fr.cop (Fr.sh_red (t := m) (Int.ne_of_gt hn)) h
  exact ⟨c, by rw [ea, hc]; grind⟩
theorem lcm_fold_dvd : ∀ (ns : List Int) (m M : Int), (∀ n ∈ ns, 0 < n) → m ∣ M → (∀ n ∈ ns, n ∣ M) → ns.foldl lcmStep m ∣ M
  | [], _, _, _, h, _ => h
  | n :: ns, m, M, hp, h, hd => lcm_fold_dvd ns _ M (fun k hk => hp k (List.mem_cons_of_mem _ hk)) (lcmStep_dvd (hp n List.mem_cons_self) h (hd n List.mem_cons_self)) fun k hk => hd k (List.mem_cons_of_mem _ hk)
theorem lcmL_dvd {ns : List Int} {M : Int} (hp : ∀ n ∈ ns, 0 < n) (hd : ∀ n ∈ ns, n ∣ M) : lcmL ns ∣ M := lcm_fold_dvd ns 1 M hp ⟨M, (Int.one_mul _).symm⟩ hd
end TD
namespace Rk
open PySem TD
open Builtin.Int (intBits)
theorem rg_gd {f : Fc} (g : Gd f) : intBits f.1 ≤ 1000 ∧ intBits f.2 ≤ 1000 := ⟨PySem.intBits_le_iff.mpr g.t, PySem.intBits_le_iff.mpr g.b⟩
theorem ls_rg {m : Int} (h1 : 1 ≤ m) (h2 : m ≤ 60) (ps : List Int) {k : Nat} (hk : k < 60) : Rg (ls m ps k) 2010 := by
  have gd := wk_gd h1 h2 (k + 1)
  have g := rg_gd gd
  have s := sh_rg (t := 1 + (k : Int)) (b := m) (n := 6) (by omega) (bits6 (by omega) (by omega)) (bits6 (by omega) h2)
  have x1 : intBits (gr (Fr.sh (1 + (k : Int)) m) (wk m (k + 1))).1 ≤ 1000 ∧ intBits (gr (Fr.sh (1 + (k : Int)) m) (wk m (k + 1))).2 ≤ 1000 ∧ 0 < (gr (Fr.sh (1 + (k : Int)) m) (wk m (k + 1))).2 := by
    unfold gr
    split
    · exact ⟨g.1, g.2, gd.pos⟩
    · exact ⟨Nat.le_trans s.t (by decide), Nat.le_trans s.b (by decide), s.fr.pos⟩
  have y1 : intBits (if (1 + (k : Int)) ∈ ps then Fr.sh (1 + (k : Int)) m else wk m (k + 1)).1 ≤ 1000 ∧ intBits (if (1 + (k : Int)) ∈ ps then Fr.sh (1 + (k : Int)) m else wk m (k + 1)).2 ≤ 1000 ∧ 0 < (if (1 + (k : Int)) ∈ ps then Fr.sh (1 + (k : Int)) m else wk m (k + 1)).2 := by
    split
    · exact ⟨Nat.le_trans s.t (by decide), Nat.le_trans s.b (by decide), s.fr.pos⟩
    · exact ⟨g.1, g.2, gd.pos⟩
  unfold ls
  generalize gr (Fr.sh (1 + (k : Int)) m) (wk m (k + 1)) = x at x1
  generalize (if (1 + (k : Int)) ∈ ps then Fr.sh (1 + (k : Int)) m else wk m (k + 1)) = y at y1
  have n1 : x.2 * y.2 ≠ 0 := Int.mul_ne_zero (Int.ne_of_gt x1.2.2) (Int.ne_of_gt y1.2.2)
  have a1 : intBits (x.1 * y.2 - y.1 * x.2) ≤ 2001 := by
    rw [Int.sub_eq_add_neg, ← Int.neg_mul]
    refine Nat.le_trans (PySem.intBits_add_le (PySem.intBits_mul_le x1.1 y1.2.1) (PySem.intBits_mul_le (m := 1000) (PySem.intBits_le_of_natAbs (y := y.1) (by rw [Int.natAbs_neg]; exact Nat.le_refl _) y1.1) x1.2.1)) (by decide)
  have r1 : Rg (mi x y) 2001 := ⟨Fr.sh_ok n1, PySem.intBits_le_of_natAbs (Fr.sh_le1 n1) a1, PySem.intBits_le_of_natAbs (Fr.sh_le2 n1) (Nat.le_trans (PySem.intBits_mul_le x1.2.1 y1.2.1) (by decide))⟩
  have n2 : (mi x y).2 * (1 + (k : Int)) ≠ 0 := Int.mul_ne_zero (Int.ne_of_gt r1.fr.pos) (by omega)
  exact ⟨Fr.sh_ok n2, PySem.intBits_le_of_natAbs (Fr.sh_le1 n2) (Nat.le_trans (PySem.intBits_mul_le r1.t (show intBits 1 ≤ 1 by decide)) (by decide)), PySem.intBits_le_of_natAbs (Fr.sh_le2 n2) (Nat.le_trans (PySem.intBits_mul_le r1.b (bits6 (x := 1 + (k : Int)) (by omega) (by omega))) (by decide))⟩
theorem wf_t {m : Int} {ps : List Int} (g : Pls m ps) : ∀ k : Nat, k ≤ m.toNat → intBits (wf m ps k).1 ≤ 5200 * (k + 1)
  | 0, _ => (by decide : intBits 0 ≤ 5200)
  | k + 1, h => by
    have h1 := g.m1
    have h2 := g.m60
    have ih := wf_t g k (by omega)
    have b := wf_dvd g (k := k) (by omega)
    have r := rc_z ps (k := k) (by omega)
    have l := ls_rg h1 h2 ps (k := k) (by omega)
    obtain ⟨f, _⟩ := wf_ok (ps := ps) h1 h2 k (by omega)
    have nz : (wf m ps k).2 * ((rc ps k).2 * (ls m ps k).2) ≠ 0 := Int.ne_of_gt (Int.mul_pos f.pos (Int.mul_pos r.fr.pos l.fr.pos))
    refine PySem.intBits_le_of_natAbs (Fr.sh_le1 nz) (Nat.le_trans (PySem.intBits_add_le (PySem.intBits_mul_le ih (PySem.intBits_mul_le r.b l.b)) (PySem.intBits_mul_le (PySem.intBits_mul_le r.t l.t) b)) (by omega))
theorem wf_t60 {m : Int} {ps : List Int} (g : Pls m ps) {k : Nat} (h : k ≤ m.toNat) : intBits (wf m ps k).1 ≤ 320000 := by
  have := wf_t g k h
  have := g.m60
  omega
theorem sum_bits {B : Nat} : ∀ l : List Int, (∀ x ∈ l, intBits x ≤ B) → intBits l.sum ≤ B + l.length
  | [], _ => Nat.le_trans (by decide : intBits 0 ≤ 0) (Nat.zero_le _)
  | x :: l, h => by
    have := PySem.intBits_add_le (h x List.mem_cons_self) (sum_bits l fun y hy => h y (List.mem_cons_of_mem _ hy))
    rw [List.sum_cons, List.length_cons]
    omega
theorem tot_rg {m : Int} {ps : List Int} (g : Pls m ps) : Rg (totF (ps.map fun p => rc ps (p - 1).toNat)) 800 := by
  have h2 := g.m60
  have each : ∀ f ∈ ps.map (fun p => rc ps (p - 1).toNat), Rg f 361 ∧ f.2 ∣ Q60 := fun f hf => by
    obtain ⟨p, hp, rfl⟩ := List.mem_map.mp hf
    have := g.hi p hp
    exact ⟨rc_z ps (by omega), Int.dvd_trans (rc_dvd ps _) (fac_dvd (by omega))⟩
  have pos : ∀ f ∈ ps.map (fun p => rc ps (p - 1).toNat), 0 < f.2 := fun f hf => (each f hf).1.fr.pos
  have hl : (ps.map fun p => rc ps (p - 1).toNat).length ≤ 60 := by rw [List.length_map]; exact g.len
  have fr := totF_ok pos
  generalize ps.map (fun p => rc ps (p - 1).toNat) = fs at each pos hl fr
  obtain ⟨lp, ld⟩ := lcm_tot pos
  have lb : intBits (lcmL (fs.map (·.2))) ≤ 300 := bits_dvd (Int.ne_of_gt q_pos) (lcmL_dvd (fun n hn => by
    obtain ⟨f, hf, rfl⟩ := List.mem_map.mp hn
    exact pos f hf) fun n hn => by
    obtain ⟨f, hf, rfl⟩ := List.mem_map.mp hn
    exact (each f hf).2) q_bits
  refine ⟨fr, ?_, ?_⟩
  · refine PySem.intBits_le_of_natAbs (Fr.sh_le1 (Int.ne_of_gt lp)) (Nat.le_trans (sum_bits (B := 700) _ fun x hx => ?_) (by rw [List.length_map]; omega))
    obtain ⟨f, hf, rfl⟩ := List.mem_map.mp hx
    exact Nat.le_trans (PySem.intBits_mul_le (each f hf).1.t (PySem.intBits_fdiv_le lb)) (by decide)
  · exact PySem.intBits_le_of_natAbs (Fr.sh_le2 (Int.ne_of_gt lp)) (Nat.le_trans lb (by decide))
end Rk
namespace L2
open PySem PySem.Spec PyProof.Rows
section
variable {X : Cx}
def ddI (ns : List Int) : List Int := ns.foldl step_dedup []
theorem firstMet_is (ns : List Int) : firstMet (fun i => ns.getD i 0) ns.length = ddI ns := by
  unfold firstMet ddI
  congr 1
  apply List.ext_getElem
  · simp
  · intro i h1 h2
    simp [h2]
end
end L2
set_option maxHeartbeats 3200000
namespace L2
open PySem PySem.Spec PyProof.Rows
theorem lay_led (t : SetTable) (es : Array (Int × Value)) (h : Int) (x : Value) : (layNew t es h x).2.1.led = t.led := by
  unfold layNew
  split
  · simp only [SetTable.put, SetTable.orStandIn, SetTable.standIn]
    split <;> split <;> rfl
  · rfl
theorem relay_led (t : SetTable) (es : Array (Int × Value)) (m : Nat) : (relayAll t es m).2.1.led = t.led := by
  unfold relayAll
  split
  · rename_i t' order hr
    have e : t'.led = t.led := by
      unfold SetTable.relaid SetTable.laid at hr
      cases hc : SetTable.layClean (SetTable.sizeAbove m - 1) (es.map (·.1)) with
      | none => rw [hc] at hr; cases hr
      | some ow =>
        rw [hc] at hr
        injection hr with hr
        injection hr with h1 h2
        rw [← h1]
    dsimp only
    split
    · exact e
    · rfl
  · rfl
def SetG (P : Program) (w : World) (G : SetTable → Prop) (h : Heap) (a : Addr) (S : Int → Bool) (n : Nat) : Prop :=
  ∃ o es ep t, h.get? a = some o ∧ o.ExactSet ∧ o.data = .set es ep t ∧ ElemsOf (intKind P w) es.toList ∧ (∀ k, S k = true ↔ ∃ e ∈ es.toList, (intKind P w).is k e.2 = true) ∧ es.size < scanBound ∧ t.fits es.size = true ∧ es.size = n ∧ G t
structure KeepT (G : SetTable → Prop) : Prop where
  lay : ∀ t es h x, G t → t.fits es.size = true → G (layNew t es h x).2.1
  rel : ∀ t es m, G t → t.fits es.size = true → G (relayAll t es m).2.1
section
variable {P : Program} {w : World} {A : Around} {E : Value → Shared → Prop} {s : Shared} {G : SetTable → Prop}
theorem storeG {h : Heap} {a : Addr} {o : Obj} {es es' : Array (Int × Value)} {ep : Nat} {t t' : SetTable} {S' : Int → Bool} (ho : h.get? a = some o) (hx : o.ExactSet) (hd : o.data = .set es ep t) (he : ElemsOf (intKind P w) es'.toList)
    (hm : ∀ k, S' k = true ↔ ∃ e ∈ es'.toList, (intKind P w).is k e.2 = true) (hb : es'.size < scanBound) (hf : t'.fits es'.size = true) (g : G t') :
    (h.update a (Obj.putSet es' t')).get? a = some { o with data := .set es' (ep + 1) t' } ∧ SetG P w G (h.update a (Obj.putSet es' t')) a S' es'.size := by
  obtain ⟨e1, _⟩ := SetOf_store (knd := intKind P w) ho hx hd he hm hb hf
  exact ⟨e1, _, es', ep + 1, t', e1, hx, rfl, he, hm, hb, hf, rfl, g⟩
theorem addTailG (KT : KeepT G) {gw : Bool → Sem Unit} (hgw : ∀ (b : Bool) (s1 : Shared) (Q1 : Unit → Shared → Prop), Q1 () s1 → wpAny (model P w) A (gw b) Q1 E s1) {a : Addr} {o : Obj} {es es1 : Array (Int × Value)} {ep : Nat} {t t2 : SetTable} {S' : Int → Bool} {wd : Bool} {R : Option Bool → Shared → Prop}
    (ho : s.heap.get? a = some o) (hx : o.ExactSet) (hd : o.data = .set es ep t) (he : ElemsOf (intKind P w) es1.toList) (hm : ∀ k, S' k = true ↔ ∃ e ∈ es1.toList, (intKind P w).is k e.2 = true) (hb : es1.size < scanBound) (hf : t2.fits es1.size = true) (g : G t2)
    (h : ∀ h', Heap.SameBut a s.heap h' → SetG P w G h' a S' es1.size → R (some true) { s with heap := h' }) :
    wpAny (model P w) A (do
      storeSet a es1 t2
      if (!wd && t2.tooFull) = true then do
        gw (relayAll t2 es1 (SetTable.grown es1.size)).2.2
        storeSet a (relayAll t2 es1 (SetTable.grown es1.size)).1 (relayAll t2 es1 (SetTable.grown es1.size)).2.1
        pure (some true)
      else pure (some true)) R E s := by
  obtain ⟨o1, g1⟩ := storeG (G := G) ho hx hd he hm hb hf g
  refine wpAny_bind (wpAny_storeSet_of ho hd ?_ (fits_of_scanBound hb))
  split
  · have p := relayAll_perm t2 es1 (SetTable.grown es1.size)
    have f := relayAll_fits t2 es1 (SetTable.grown es1.size)
    have r := KT.rel t2 es1 (SetTable.grown es1.size) g hf
    generalize relayAll t2 es1 (SetTable.grown es1.size) = Z at p f r ⊢
    obtain ⟨es2, t3, b2⟩ := Z
    dsimp only at p f r ⊢
    have z : es2.size = es1.size := by rw [← Array.length_toList, p.length_eq, Array.length_toList]
    have m2 : ∀ k, S' k = true ↔ ∃ e ∈ es2.toList, (intKind P w).is k e.2 = true := fun k => by rw [hm k]; exact ⟨fun ⟨e, x, y⟩ => ⟨e, p.mem_iff.mpr x, y⟩, fun ⟨e, x, y⟩ => ⟨e, p.mem_iff.mp x, y⟩⟩
    obtain ⟨_, g2⟩ := storeG (G := G) o1 hx rfl (he.perm p) m2 (by omega) f r
    refine wpAny_bind (hgw _ _ _ (wpAny_bind (wpAny_storeSet_of o1 rfl (wpAny_pure (h _ ?_ (z ▸ g2))) (fits_of_scanBound (by omega)))))
    exact (Heap.SameBut.update s.heap a (Obj.putSet es1 t2)).trans (Heap.SameBut.update _ a _)
  · exact wpAny_pure (h _ (Heap.SameBut.update s.heap a (Obj.putSet es1 t2)) g1)
theorem addG (KT : KeepT G) {a : Addr} {S : Int → Bool} {n : Nat} {k : Int} {tk : Nat} {Q : Bool → Shared → Prop} (hS : SetG P w G s.heap a S n) (hn : n + 1 < scanBound)
    (h : ∀ h', Heap.SameBut a s.heap h' → SetG P w G h' a (fun j => S j || decide (j = k)) (if S k then n else n + 1) → Q (!S k) { s with heap := h' }) :
    wpAny (model P w) A (setAddHashed a (.int k tk) ((intKind P w).hash k)) Q E s := by
  have ky : (intKind P w).is k (.int k tk) = true := intKind_is _ _ _ _
  obtain ⟨o, es, ep, t, ho, hx, hd, he, hm, hb, hf, hz, g⟩ := hS
  unfold setAddHashed setAddHashedIn
  refine wpAny_holding (wpAny_bind (wpAny_setState_of ho hd hf ?_))
  dsimp only
  rw [byScan_of (x := Value.int k tk) rfl hb he]
  simp only [↓reduceIte]
  unfold setAddByScan
  refine wpAny_bind (wpAny_bind (wpAny_rule (wpAny_bind (wpAny_setScan_of ky ho hd hf he ?_))))
  cases hr : List.findIdx? (fun e => (intKind P w).is k e.2) es.toList with
  | some j =>
    obtain ⟨j1, j2, _⟩ := List.findIdx?_eq_some_iff_getElem.mp hr
    have hk : S k = true := (hm k).mpr ⟨_, List.getElem_mem j1, j2⟩
    have q := h s.heap (Heap.SameBut.refl a s.heap) ⟨o, es, ep, t, ho, hx, hd, he, fun k' => by
      rw [Bool.or_eq_true, decide_eq_true_eq, ← hm k']
      exact ⟨fun z => z.elim id fun e => e ▸ hk, .inl⟩, hb, hf, (by rw [hk]; exact hz), g⟩
    rw [hk] at q
    exact wpAny_pure (wpAny_pure q)
  | none =>
    have hk : S k = false := by
      rw [← Bool.not_eq_true, hm k]
      rintro ⟨e, x, y⟩
      have z := List.findIdx?_eq_none_iff.mp hr e x
      rw [y] at z
      cases z
    have p := layNew_perm t es ((intKind P w).hash k) (.int k tk)
    have f := layNew_fits t es ((intKind P w).hash k) (.int k tk)
    have r := KT.lay t es ((intKind P w).hash k) (.int k tk) g hf
    generalize layNew t es ((intKind P w).hash k) (.int k tk) = Z at p f r ⊢
    obtain ⟨es1, t1, wd, gv⟩ := Z
    dsimp only at p f r ⊢
    rw [Array.toList_push] at p
    have z1 : es1.size = n + 1 := by rw [← Array.length_toList, p.length_eq, List.length_append, Array.length_toList, hz]; rfl
    have e1 := (he.push ky (x := .int k tk) rfl).perm p
    have m1 := mem_push_iff ky hm p
    have fin : ∀ h', Heap.SameBut a s.heap h' → SetG P w G h' a (fun j => S j || decide (j = k)) es1.size → Q true { s with heap := h' } := fun h' sb g' => by
      have q := h h' sb
      rw [hk] at q
      exact q (z1 ▸ g')
    have gw : ∀ (b : Bool) (s1 : Shared) (Q1 : Unit → Shared → Prop), Q1 () s1 → wpAny (model P w) A (match b with | true => rule "set.scan.the-table-gave-way" | false => pure ()) Q1 E s1 := fun b s1 Q1 q => by
      cases b
      · exact wpAny_pure q
      · exact wpAny_rule q
    refine wpAny_bind (gw _ _ _ ?_)
    split
    · rw [hashByValue_scannable 8 (x := Value.int k tk) rfl]
      refine wpAny_bind (wpAny_pure ?_)
      exact addTailG KT gw ho hx hd e1 m1 (by omega) f r fun h' sb g' => wpAny_pure (fin h' sb g')
    · refine wpAny_bind (wpAny_pure ?_)
      exact addTailG KT gw ho hx hd e1 m1 (by omega) f r fun h' sb g' => wpAny_pure (fin h' sb g')
theorem loopG (KT : KeepT G) {I : Addr} {fp wr : List Addr} {Gs : Array GenState → Array GenState → Prop} {n : Nat} {Pv : Nat → Value → Prop} {St : Nat → Shared → Prop} {R : Result → Shared → Prop} (W : WalksS P w A.in1 I fp wr Gs n Pv St) {a : Addr} (na : a ∉ fp) {val : Nat → Int}
    (hv : ∀ i v, Pv i v → ∃ t, v = .int (val i) t) (hn : n + 1 < scanBound) : ∀ (d i : Nat) (s : Shared), n - i = d → i ≤ n → St i s → SetG P w G s.heap a (fun j => (firstMet val i).any (· == j)) (firstMet val i).length →
      (∀ s', Moved (a :: wr) Gs s s' → SetG P w G s'.heap a (fun j => (firstMet val n).any (· == j)) (firstMet val n).length → R (.ok (.ret .none)) s') → codeAny (model P w) A (.builtin "set.update.loop" ⟨[.ref a, .ref I], []⟩) R s := by
  have nw : a ∉ wr := fun z => na (W.sub _ z)
  have wk : ∀ {s s' : Shared} {S : Int → Bool} {m : Nat}, Moved wr Gs s s' → SetG P w G s.heap a S m → SetG P w G s'.heap a S m := fun hm ⟨o, es, ep, t, e, r⟩ => ⟨o, es, ep, t, hm.heap a _ nw e, r⟩
  have up : ∀ b ∈ wr, b ∈ a :: wr := fun b hb => List.mem_cons_of_mem _ hb
  intro d
  induction d with
  | zero =>
    intro i s hd hi st g hR
    obtain rfl : i = n := by omega
    refine codeAny_builtin PyProof.Rows.F.entry_set_update_loop ?_
    rw [Around.under_plainId PyProof.Rows.F.plain_set_update_loop _]
    show wpAny _ A.in1 (pyNext (.ref I) >>= _) _ _ s
    exact wpAny_bind (W.done s _ _ st fun s' hm => wpAny_pure (hR s' (hm.mono up) (wk hm g)))
  | succ d ih =>
    intro i s hd hi st g hR
    refine codeAny_builtin PyProof.Rows.F.entry_set_update_loop ?_
    rw [Around.under_plainId PyProof.Rows.F.plain_set_update_loop _]
    show wpAny _ A.in1 (pyNext (.ref I) >>= _) _ _ s
    refine wpAny_bind (W.item i s _ _ (by omega) st fun v s' pv st' hm => ?_)
    obtain ⟨t, rfl⟩ := hv i v pv
    show wpAny _ A.in1 (holding [Value.int (val i) t] (setAdd a (.int (val i) t)) >>= _) _ _ s'
    refine wpAny_bind (wpAny_holding ?_)
    unfold setAdd
    refine wpAny_holding (wpAny_bind ((intKind P w).pyHash (k := val i) (intKind_is _ _ _ _) ?_))
    have hl := firstMet_length_le val i
    have gk := wk hm g
    refine addG (s := { s' with toks := s'.toks + 1 }) KT gk (by omega) fun h' sb g2 => ?_
    have g3 : SetG P w G h' a (fun j => (firstMet val (i + 1)).any (· == j)) (firstMet val (i + 1)).length := by
      have e1 : (fun j => (firstMet val (i + 1)).any (· == j)) = fun j => ((firstMet val i).any (· == j) || decide (j = val i)) := funext fun j => by rw [firstMet_succ, step_any]
      rw [e1, firstMet_succ, step_length]
      exact g2
    refine wpAny_pure ⟨plainId_quiet PyProof.Rows.F.plain_set_update_loop _, ih (i + 1) _ (by omega) (by omega) (W.frame _ s' _ _ st' (Nat.le_succ _) fun b hb o e => ?_) g3 fun s2 hm2 g4 => ?_⟩
    · exact (sb.2 b fun z : b = a => na (z ▸ hb)).trans e
    · exact hR s2 (Moved.trans W.gtrans ((hm.mono up).then_heap (Nat.le_succ _) fun b o hb e => (sb.2 b fun z : b = a => hb (z ▸ List.mem_cons_self)).trans e) hm2) g4
theorem newG (v : Value) {Q : Value → Shared → Prop} (h : Q (.ref s.heap.objs.size) { s with heap := s.heap.push { cls := .type "set", dict := none, data := .set #[] 0 (.fresh 0 0 (!w.params.followText "set-order")) } }) :
    codeAny (model P w) A (.call (.builtin "set.__new__") ⟨[.type "set", v], []⟩) (wants Q E) s := by
  refine codeAny_of_tree ?_
  show wpAny _ A.in1 (do checkBuiltinCall "set.__new__" ⟨[.type "set", v], []⟩; again (.builtin "set.__new__" ⟨[.type "set", v], []⟩)) _ _ s
  refine wpAny_bind (wpAny_of_eq (PySem.F.newCall_set_1 v) (wpAny_pure ⟨plainId_quiet PySem.F.plain_set_new _, codeAny_builtin PySem.F.entry_set_new ?_⟩))
  rw [Around.under_plainId PySem.F.plain_set_new _]
  unfold Builtin.«set.__new__» Builtin.Frozenset.newClass
  have sb := sub_set_self
  cases s
  dsimp only
  wp_walk
  refine wpAny_askSetting (wpAny_pure ?_)
  dsimp only
  simp only [newObj]
  exact wpAny_bind (wpAny_alloc (wpAny_pure (wpAny_pure h)))
theorem call_setG (KT : KeepT G) {l : Addr} {its : Array Value} {ns : List Int} {Q : Value → Shared → Prop} (hh : A.handled = none) (hl : s.heap.IsList l its) (hi : IntsAre its.toList ns) (hb : its.size + 1 < scanBound) (g0 : G (.fresh 0 0 (!w.params.followText "set-order")))
    (h : ∀ (h' : Heap) (tk : Nat), SetG P w G h' s.heap.objs.size (fun j => (firstMet (fun i => ns.getD i 0) its.size).any (· == j)) (firstMet (fun i => ns.getD i 0) its.size).length → (∀ b o, b < s.heap.objs.size → s.heap.get? b = some o → h'.get? b = some o) → Q (.ref s.heap.objs.size) { s with heap := h', toks := tk }) :
    wpAny (model P w) A (call (.type "set") [.ref l]) Q E s := by
  obtain ⟨c0, tl0, hm0⟩ := PySem.F.called_set.mro
  have t1 := PySem.F.called_set.made; have t2 := PySem.F.called_set.sub
  refine wpAny_call (codeAny_of_tree (show wpAny _ _ (callAny (.type "set") _) _ _ _ from ?_))
  refine wpAny_pure ⟨Code.quiet_builtin _ (by decide +kernel), codeAny_builtin PySem.F.entry_type_call ?_⟩
  rw [Around.under_plain (weight_type_call_type "set" [.ref l] []) rfl]
  have t3 := PySem.F.called_set.notType; have t4 := PySem.F.called_set.canCreate
  have t5 := PySem.F.typeCall_set_1 (.ref l); repeat (any_goals (first | assumption | wp_step))
  generalize hO : ({ cls := .type "set", dict := none, data := .set #[] 0 (.fresh 0 0 (!w.params.followText "set-order")) } : Obj) = ob
  refine codeAny_mono (newG (.ref l) (E := E) (Q := fun v s1 => v = .ref s.heap.objs.size ∧ s1 = { s with heap := s.heap.push ob }) (by rw [hO]; exact ⟨rfl, rfl⟩)) fun r s1 hr => ?_
  have hfr : ob.isFreed = false := by rw [← hO]; rfl
  cases r with
  | error e => exact hr
  | ok fl =>
    cases fl with
    | next => exact hr.elim
    | brk => exact hr.elim
    | cont => exact hr.elim
    | ret v =>
      obtain ⟨rfl, rfl⟩ := hr
      have eS : (s.heap.push ob).get? s.heap.objs.size = some ob := Heap.get?_push_size _ hfr
      have tS : Shared.TypeIs { s with heap := s.heap.push ob } (.ref s.heap.objs.size) "set" := ⟨_, eS, by rw [← hO]⟩
      have t6 := PySem.F.called_set.init.lookup
      have t7 := PySem.F.called_set.init.bind (.ref s.heap.objs.size); repeat (any_goals (first | assumption | wp_step))
      refine codeAny_mono (codeAny_call_builtin (R := wants (fun r s2 => r = .none ∧ ∃ h' tk, s2 = { s with heap := h', toks := tk } ∧ SetG P w G h' s.heap.objs.size (fun j => (firstMet (fun i => ns.getD i 0) its.size).any (· == j)) (firstMet (fun i => ns.getD i 0) its.size).length ∧
        (∀ b o, b < s.heap.objs.size → s.heap.get? b = some o → h'.get? b = some o)) E) PySem.F.called_set.init.plain PySem.F.entry_set_init (check_set_init_1 tS ?_)) fun r2 s2 hr2 => ?_
      · subst hO
        obtain ⟨⟨c1, d1, a1, l1⟩, hol, hc1, n1, hd1⟩ := hl
        simp only at hc1 hd1
        subst hc1 hd1
        have hol1 : (s.heap.push { cls := .type "set", dict := none, data := .set #[] 0 (.fresh 0 0 (!w.params.followText "set-order")) }).get? l = some { cls := .type "list", dict := d1, data := .seq its n1, slots := l1 } := Heap.get?_push_of_some _ hol
        have u1 := PySem.F.sub_list_set; have u2 := PySem.F.sub_list_frozenset
        have u3 : (Value.type "list" == Value.type "dict") = false := by decide
        have L1 : (s.heap.push { cls := .type "set", dict := none, data := .set #[] 0 (.fresh 0 0 (!w.params.followText "set-order")) }).IsList l its := ⟨_, hol1, rfl, n1, rfl⟩
        have ll : l < s.heap.objs.size := Heap.lt_size hol
        unfold Builtin.«set.__init__» noKeywords Builtin.Frozenset.updateFrom
        generalize hIt : pyIter = It
        wp_walk
        subst hIt
        refine wpAny_pyIter_list L1 ?_
        refine wpAny_bind (m := runValue _) (wpAny_runValue ?_)
        have sz : (s.heap.push { cls := .type "set", dict := none, data := .set #[] 0 (.fresh 0 0 (!w.params.followText "set-order")) }).objs.size = s.heap.objs.size + 1 := Heap.size_push _ _
        have nI : l ≠ (s.heap.push { cls := .type "set", dict := none, data := .set #[] 0 (.fresh 0 0 (!w.params.followText "set-order")) }).objs.size := by rw [sz]; exact Nat.ne_of_lt (Nat.lt_succ_of_lt ll)
        refine loopG KT ((Walks.list (show A.in1.in1.in1.handled = none by simp [hh]) _ l nI its).toS) (a := s.heap.objs.size) (by rw [sz]; simp only [List.mem_cons, List.not_mem_nil, or_false, not_or]; exact ⟨Nat.ne_of_lt (Nat.lt_succ_self _), Nat.ne_of_gt ll⟩)
          (val := fun i => ns.getD i 0) (fun i v hv => IntsAre.int_at hi i v (by rw [Array.getElem?_toList]; exact hv)) hb (its.size - 0) 0 _ (by omega) (Nat.zero_le _) ⟨⟨_, Heap.get?_push_size _ rfl, rfl, rfl⟩, L1.push _⟩ ?_ ?_
        · refine ⟨_, #[], 0, .fresh 0 0 (!w.params.followText "set-order"), Heap.get?_push_of_some _ eS, ⟨rfl, rfl, rfl⟩, rfl, (fun e he => by simp at he), fun k => ?_, by decide, rfl, rfl, g0⟩
          simp [firstMet]
        · intro s3 hm g3
          obtain ⟨h3, gs3, d3, k3, o3⟩ := s3
          have e1 : gs3 = s.gens := hm.gens
          have e2 : d3 = s.drawn := hm.drawn
          have e3 : o3 = s.os := hm.os
          subst e1 e2 e3
          show wpAny _ _ _ _ _ _
          refine wpAny_pure (show wpAny _ _ (ret Value.none) _ _ _ from wpAny_pure ⟨rfl, h3, k3, rfl, g3, fun b o hb e => ?_⟩)
          exact hm.heap b o (by simp only [List.mem_cons, List.not_mem_nil, or_false, not_or]; exact ⟨Nat.ne_of_lt hb, by rw [sz]; exact Nat.ne_of_lt (Nat.lt_succ_of_lt hb)⟩) (Heap.get?_push_of_some _ (Heap.get?_push_of_some _ e))
      · cases r2 with
        | error e => exact hr2
        | ok fl2 =>
          cases fl2 with
          | next => exact hr2.elim
          | brk => exact hr2.elim
          | cont => exact hr2.elim
          | ret r =>
            obtain ⟨rfl, h2, k2, rfl, g2, kp⟩ := hr2; repeat (any_goals (first | assumption | wp_step))
            exact h _ _ g2 kp
end
end L2
namespace L2
open PySem PySem.Spec PyProof.Rows
section
variable {X : Cx}
end
end L2
namespace L2
open PySem PySem.Spec PyProof.Rows
theorem slot_sit_next : Slot "set_iterator" "__next__" "set_iterator.__next__" :=
  .of (owner := "set_iterator") (n := "__next__") (by rw [typeLookup_type, builtinLookup_eq_fast]; kernel_rfl) (by decide +kernel) (by decide +kernel) (by decide +kernel) (by first | exact .inl (by decide +kernel) | exact .inr (by decide +kernel)) (by rw [isSubtype_type]; kernel_rfl)
theorem entry_sit_next : entryFor table "set_iterator.__next__" = some Builtin.«set_iterator.__next__» := entryFor_of_tree (by kernel_rfl)
theorem args_sit_next (v : Value) : argsOk "set_iterator.__next__" ⟨[v], []⟩ := by unfold argsOk; kernel_rfl
theorem slot_sit_iter : Slot "set_iterator" "__iter__" "set_iterator.__iter__" :=
  .of (owner := "set_iterator") (n := "__iter__") (by rw [typeLookup_type, builtinLookup_eq_fast]; kernel_rfl) (by decide +kernel) (by decide +kernel) (by decide +kernel) (by first | exact .inl (by decide +kernel) | exact .inr (by decide +kernel)) (by rw [isSubtype_type]; kernel_rfl)
theorem entry_sit_iter : entryFor table "set_iterator.__iter__" = some Builtin.«dict_keyiterator.__iter__» := entryFor_alias (id' := "dict_keyiterator.__iter__") (by kernel_rfl) rfl (by decide +kernel) (by kernel_rfl)
theorem args_sit_iter (v : Value) : argsOk "set_iterator.__iter__" ⟨[v], []⟩ := by unfold argsOk; kernel_rfl
theorem entry_set_iter' : entryFor table "set.__iter__" = some Builtin.«frozenset.__iter__» := entryFor_alias (id' := "frozenset.__iter__") (by kernel_rfl) rfl (by decide +kernel) (by kernel_rfl)
def SIt (h : Heap) (it a : Addr) (slot i n ep : Nat) : Prop := ∃ o, h.get? it = some o ∧ o.cls = .type "set_iterator" ∧ o.data = .fields #[.int slot 0, .int i 0, .ref a, .int n 0, .int ep 0]
theorem SIt.typeIs {s : Shared} {it a : Addr} {slot i n ep : Nat} (h : SIt s.heap it a slot i n ep) : s.TypeIs (.ref it) "set_iterator" := let ⟨o, e, c, _⟩ := h; ⟨o, e, c⟩
section
variable {P : Program} {w : World} {A : Around} {E : Value → Shared → Prop} {s : Shared} {a it : Addr} {o : Obj} {e : Int × Value} {ep : Nat} {t : SetTable}
theorem hint_set {r : Addr} (hT : s.TypeIs (.ref r) "set") {Q : Bool → Shared → Prop} (h : Q false s) : wpAny (model P w) A (Builtin.List.listLengthHint (.ref r)) Q E s := by
  unfold Builtin.List.listLengthHint
  refine wpAny_bind (wpAny_specialOf hT F.slot_set_len.lookup ?_)
  generalize hid : ("set.__len__" : String) = id0
  wp_delta
  rw [show splitId id0 = some ("set", "__len__") from by subst hid; decide +kernel]
  subst hid
  refine wpAny_bind (wpAny_isInstance (T := "set") (b := true) hT (by rw [isSubtype_type]; kernel_rfl) ?_)
  refine wpAny_ite_split (fun z => absurd z (by decide)) (fun _ => wpAny_ite_split (fun _ => wpAny_bind (wpAny_typeOf hT (wpAny_pure h))) (fun z => absurd (by decide +kernel) z))
end
theorem isInt_shape {k : Int} {v : Value} (h : Value.isInt k v = true) : ∃ tk, v = .int k tk := by
  unfold Value.isInt at h
  split at h
  · rename_i i tk
    obtain rfl : i = k := by simpa using h
    exact ⟨tk, rfl⟩
  · cases h
section
variable {X : Cx}
end
end L2
namespace L2
open PySem PySem.Spec PyProof.Rows
theorem bt_set1 : bootBuiltins "set" = some (.type "set") := by decide +kernel
end L2
namespace L2
open PySem PySem.Spec PyProof.Rows
def Ris (xs : Array Nat) : Prop := xs.toList.Pairwise (· < ·)
theorem Ris.lt {xs : Array Nat} (h : Ris xs) {i j : Nat} (hij : i < j) (hj : j < xs.size) : xs[i]'(by omega) < xs[j] := by
  have := List.pairwise_iff_getElem.mp h i j (by simpa using (by omega : i < xs.size)) (by simpa using hj) hij
  simpa using this
theorem below_go {xs : Array Nat} (h : Ris xs) (j : Nat) : ∀ (fuel lo hi : Nat), lo ≤ hi → hi ≤ xs.size → hi - lo ≤ fuel → (∀ i (hi : i < xs.size), i < lo → xs[i] < j) → (∀ i (hx : i < xs.size), hi ≤ i → j ≤ xs[i]) →
    SetTable.below.go xs j fuel lo hi ≤ xs.size ∧ (∀ i (hx : i < xs.size), i < SetTable.below.go xs j fuel lo hi → xs[i] < j) ∧ ∀ i (hx : i < xs.size), SetTable.below.go xs j fuel lo hi ≤ i → j ≤ xs[i]
  | 0, lo, hi, h1, h2, h3, a, b => by
    have e : SetTable.below.go xs j 0 lo hi = lo := by unfold SetTable.below.go; rfl
    rw [e]
    exact ⟨by omega, a, fun i hx z => b i hx (by omega)⟩
  | fuel + 1, lo, hi, h1, h2, h3, a, b => by
    by_cases hl : lo < hi
    · have hm : (lo + hi) / 2 < xs.size := by omega
      have e : SetTable.below.go xs j (fuel + 1) lo hi = if xs[(lo + hi) / 2] < j then SetTable.below.go xs j fuel ((lo + hi) / 2 + 1) hi else SetTable.below.go xs j fuel lo ((lo + hi) / 2) := by
        conv => lhs; unfold SetTable.below.go
        rw [if_pos hl]
        simp [Array.getD, hm]
      rw [e]
      by_cases hc : xs[(lo + hi) / 2] < j
      · rw [if_pos hc]
        refine below_go h j fuel _ _ (by omega) h2 (by omega) (fun i hx z => ?_) b
        by_cases z2 : i = (lo + hi) / 2
        · subst z2; exact hc
        · exact Nat.lt_trans (h.lt (by omega) hm) hc
      · rw [if_neg hc]
        refine below_go h j fuel _ _ (by omega) (by omega) (by omega) a fun i hx z => ?_
        by_cases z2 : i = (lo + hi) / 2
        · subst z2; omega
        · exact Nat.le_of_lt (Nat.lt_of_le_of_lt (by omega : j ≤ xs[(lo + hi) / 2]) (h.lt (by omega) hx))
    · have e : SetTable.below.go xs j (fuel + 1) lo hi = lo := by unfold SetTable.below.go; rw [if_neg hl]
      rw [e]
      exact ⟨by omega, a, fun i hx z => b i hx (by omega)⟩
theorem below_ok {xs : Array Nat} (h : Ris xs) (j : Nat) : SetTable.below xs j ≤ xs.size ∧ (∀ i (hx : i < xs.size), i < SetTable.below xs j → xs[i] < j) ∧ ∀ i (hx : i < xs.size), SetTable.below xs j ≤ i → j ≤ xs[i] :=
  below_go h j xs.size 0 xs.size (Nat.zero_le _) (Nat.le_refl _) (by omega) (fun _ _ z => by omega) fun i hx z => by omega
theorem below_at {xs : Array Nat} (h : Ris xs) {i : Nat} (hi : i < xs.size) : SetTable.below xs (xs[i] + 1) = i + 1 := by
  obtain ⟨a, b, c⟩ := below_ok h (xs[i] + 1)
  have h1 : ¬ SetTable.below xs (xs[i] + 1) ≤ i := fun z => by have := c i hi z; omega
  by_cases h2 : i + 1 < SetTable.below xs (xs[i] + 1)
  · have := b (i + 1) (by omega) h2
    have := h.lt (show i < i + 1 by omega) (by omega : i + 1 < xs.size)
    omega
  · omega
theorem below_zero {xs : Array Nat} (h : Ris xs) : SetTable.below xs 0 = 0 := by
  obtain ⟨a, b, c⟩ := below_ok h 0
  by_cases z : 0 < SetTable.below xs 0
  · have := b 0 (by omega) z
    omega
  · omega
theorem ris_insert {xs : Array Nat} (h : Ris xs) {j : Nat} (hn : xs[SetTable.below xs j]? ≠ some j) : Ris (SetTable.insertAt xs (SetTable.below xs j) j) := by
  obtain ⟨a, b, c⟩ := below_ok h j
  unfold Ris
  rw [SetTable.toList_insertAt]
  generalize SetTable.below xs j = p at a b c hn
  have gt : ∀ i (hx : i < xs.size), p ≤ i → j < xs[i] := fun i hx z => by
    have := c i hx z
    by_cases e : xs[i] = j
    · exfalso
      by_cases ip : i = p
      · subst ip
        exact hn (by rw [Array.getElem?_eq_getElem hx, e])
      · have := c p (by omega) (Nat.le_refl _)
        have := h.lt (show p < i by omega) hx
        omega
    · omega
  refine List.pairwise_append.mpr ⟨List.Pairwise.sublist (List.take_sublist _ _) h, List.pairwise_cons.mpr ⟨fun y hy => ?_, List.Pairwise.sublist (List.drop_sublist _ _) h⟩, fun x hx y hy => ?_⟩
  · obtain ⟨i, hi, rfl⟩ := List.mem_iff_getElem.mp hy
    rw [List.getElem_drop]
    have hs : p + i < xs.size := by rw [List.length_drop, Array.length_toList] at hi; omega
    have := gt (p + i) hs (by omega)
    simpa using this
  · obtain ⟨i, hi, rfl⟩ := List.mem_iff_getElem.mp hx
    rw [List.getElem_take]
    have hi2 : i < p ∧ i < xs.size := by rw [List.length_take, Array.length_toList] at hi; omega
    have lt1 : xs[i]'hi2.2 < j := b i hi2.2 hi2.1
    rcases List.mem_cons.mp hy with e | e
    · subst e; simpa using lt1
    · obtain ⟨k, hk, rfl⟩ := List.mem_iff_getElem.mp e
      rw [List.getElem_drop]
      have hs : p + k < xs.size := by rw [List.length_drop, Array.length_toList] at hk; omega
      have := gt (p + k) hs (by omega)
      have : xs[i]'hi2.2 < xs[p + k] := by omega
      simpa using this
theorem ris_range (n : Nat) : Ris (Array.range n) := by
  unfold Ris
  rw [Array.toList_range]
  exact List.pairwise_lt_range
def Free (t : SetTable) (j : Nat) : Prop := t.place[SetTable.below t.place j]? ≠ some j
theorem slot_free {t : SetTable} {j : Nat} (h : t.slot j = .empty ∨ t.slot j = .dummy) : Free t j := by
  intro z
  unfold SetTable.slot at h
  simp only [z, beq_self_eq_true, if_true] at h
  rcases h with h | h <;> cases h
theorem probe_free {t : SetTable} {f : Nat → Int} {h : Int} : ∀ (fuel : Nat) (p : SetTable.Probe) (j : Nat) (d : Option Nat), (∀ x, p.dummy = some x → Free t x) → SetTable.probe.go t f h fuel p = some (.empty j d) → Free t (d.getD j)
  | 0, p, j, d, _, e => by unfold SetTable.probe.go at e; cases e
  | fuel + 1, p, j, d, hp, e => by
    unfold SetTable.probe.go at e
    split at e
    · rename_i hs
      injection e with e
      injection e with e1 e2
      subst e1 e2
      cases hd : p.dummy with
      | none => exact slot_free (.inl hs)
      | some x => exact hp x hd
    · rename_i hs
      refine probe_free fuel _ j d (fun x hx => ?_) e
      have : (t.advance { p with dummy := some p.j }).dummy = some p.j := by unfold SetTable.advance; split <;> rfl
      rw [this] at hx
      cases hx
      exact slot_free (.inr hs)
    · split at e
      · injection e with e; cases e
      · refine probe_free fuel _ j d (fun x hx => ?_) e
        have : (t.advance p).dummy = p.dummy := by unfold SetTable.advance; split <;> rfl
        rw [this] at hx
        exact hp x hx
theorem freeSlot_free {t : SetTable} {h : Int} {s : Nat} {wd : Bool} (e : t.freeSlot h = some (s, wd)) : Free t s := by
  unfold SetTable.freeSlot at e
  split at e
  · rename_i j d hp
    injection e with e
    injection e with e1 e2
    subst e1
    exact probe_free _ _ _ _ (fun x hx => by unfold SetTable.probeStart at hx; cases hx) hp
  · cases e
theorem lay_ris {t : SetTable} (es : Array (Int × Value)) (h : Int) (x : Value) (hr : Ris t.place) : Ris (layNew t es h x).2.1.place := by
  unfold layNew
  split
  · rename_i s wd hs
    have z := ris_insert hr (freeSlot_free hs)
    dsimp only [SetTable.put, SetTable.orStandIn]
    split <;> split <;> first | exact z | exact ris_range _
  · exact ris_range _
theorem laid_ris {mask fg mv : Nat} {led pl : Bool} {hs : Array Int} {t' : SetTable} {o : Array Nat} (e : SetTable.laid mask fg mv led pl hs = some (t', o)) : Ris t'.place := by
  unfold SetTable.laid at e
  cases hc : SetTable.layClean mask hs with
  | none => rw [hc] at e; cases e
  | some ow =>
    rw [hc] at e
    injection e with e
    injection e with e1 e2
    rw [← e1]
    unfold Ris
    show ((List.filterMap _ _).map _).Pairwise _
    rw [List.pairwise_map, List.pairwise_filterMap]
    refine List.pairwise_lt_range.imp fun {a b} hab c hc d hd => ?_
    cases h1 : ow.getD a none with
    | none => rw [h1] at hc; cases hc
    | some u =>
      cases h2 : ow.getD b none with
      | none => rw [h2] at hd; cases hd
      | some v =>
        rw [h1] at hc
        rw [h2] at hd
        cases hc
        cases hd
        exact hab
theorem relay_ris {t : SetTable} (es : Array (Int × Value)) (m : Nat) (hr : Ris t.place) : Ris (relayAll t es m).2.1.place := by
  unfold relayAll
  split
  · rename_i t' order he
    dsimp only
    split
    · exact laid_ris he
    · exact ris_range _
  · exact ris_range _
def Gld (w : World) (t : SetTable) : Prop := t.led = (!w.params.followText "set-order") ∧ Ris t.place
theorem keep_gld (w : World) : KeepT (Gld w) := ⟨fun t es h x g _ => ⟨(lay_led t es h x).trans g.1, lay_ris es h x g.2⟩, fun t es m g _ => ⟨(relay_led t es m).trans g.1, relay_ris es m g.2⟩⟩
end L2
namespace L2
open PySem PySem.Spec PyProof.Rows
theorem erase_perm {α : Type} : ∀ (l : List α) (i : Nat) (h : i < l.length), (l[i] :: l.eraseIdx i).Perm l
  | [], i, h => by simp at h
  | x :: l, 0, h => List.Perm.refl _
  | x :: l, i + 1, h => (List.Perm.swap x (l[i]'(by simpa using h)) (l.eraseIdx i)).trans ((erase_perm l i (by simpa using h)).cons x)
theorem pick_go {α : Type} (f : Nat → Nat) : ∀ (n k : Nat) (left : List α) (out : Array α), left.length = n → (pickOrder.go f n k left out).toList.Perm (out.toList ++ left)
  | 0, k, left, out, h => by
    obtain rfl := List.eq_nil_of_length_eq_zero h
    unfold pickOrder.go
    simp
  | n + 1, k, left, out, h => by
    have hl : f k % left.length < left.length := Nat.mod_lt _ (by omega)
    unfold pickOrder.go
    rw [List.getElem?_eq_getElem hl]
    dsimp only
    refine (pick_go f n (k + 1) _ _ (by rw [List.length_eraseIdx_of_lt hl]; omega)).trans ?_
    rw [Array.toList_push, List.append_assoc]
    exact List.Perm.append_left _ (erase_perm _ _ hl)
theorem pick_perm {α : Type} (f : Nat → Nat) (xs : Array α) : (pickOrder f xs).toList.Perm xs.toList := by
  have := pick_go f xs.size 0 xs.toList #[] (by simp)
  simpa [pickOrder] using this
section
variable {P : Program} {w : World} {A : Around} {E : Value → Shared → Prop} {s : Shared} {a it T : Addr} {o : Obj} {es : Array (Int × Value)} {ep : Nat} {t : SetTable}
theorem wp_choose {src : Source} {n : Nat} {Q : Nat → Shared → Prop} (hn : n ≠ 0) (h : ∀ i d', i < n → Q i { s with drawn := d' }) : wpAny (model P w) A (choose src n) Q E s := fun _ _ _ => ⟨hn, h _ _ (Nat.mod_lt _ (by omega))⟩
theorem draw_wp {α : Type} : ∀ (n : Nat) (xs : List α) (s : Shared) (Q : List α → Shared → Prop), xs.length = n → (∀ ys d', ys.Perm xs → Q ys { s with drawn := d' }) → wpAny (model P w) A (drawOrder n xs) Q E s
  | 0, xs, s, Q, h, q => by
    obtain rfl := List.eq_nil_of_length_eq_zero h
    unfold drawOrder
    exact wpAny_pure (q [] s.drawn (List.Perm.refl _))
  | n + 1, [], s, Q, h, q => by simp at h
  | n + 1, x :: xs, s, Q, h, q => by
    unfold drawOrder
    refine wpAny_bind (wp_choose (by simp) fun i d' hi => ?_)
    rw [List.getElem?_eq_getElem hi]
    refine wpAny_bind (draw_wp n ((x :: xs).eraseIdx i) _ _ (by rw [List.length_eraseIdx_of_lt hi]; omega) fun ys d2 p => ?_)
    exact wpAny_pure (q _ d2 ((p.cons _).trans (erase_perm _ _ hi)))
def SItv (h : Heap) (it a : Addr) (fst : Value) (i n ep : Nat) : Prop := ∃ o, h.get? it = some o ∧ o.cls = .type "set_iterator" ∧ o.data = .fields #[fst, .int i 0, .ref a, .int n 0, .int ep 0]
theorem SItv.typeIs {fst : Value} {i n : Nat} (h : SItv s.heap it a fst i n ep) : s.TypeIs (.ref it) "set_iterator" := let ⟨o, e, c, _⟩ := h; ⟨o, e, c⟩
inductive Kd (w : World) (es : Array (Int × Value)) (ep : Nat) (t : SetTable) (a T : Addr) (vals : List Value) (h : Heap) : Value → Nat → Prop
  | text {i : Nat} (hw : w.params.followText "set-order" = true) (e : vals = (pickOrder (w.params.setOrder a ep) es).toList.map (·.2)) : Kd w es ep t a T vals h (.int 0 0) i
  | place {slot i : Nat} (hw : ¬ w.params.followText "set-order" = true) (hp : ¬ (!t.plain && decide (es.size > 1)) = true) (e : vals = es.toList.map (·.2)) (hs : SetTable.below t.place slot = i) : Kd w es ep t a T vals h (.int slot 0) i
  | draw {i : Nat} {os : List Nat} (hT : h.get? T = some { cls := .type "tuple", data := .seq (os.map fun (i : Nat) => rawInt (i : Int)).toArray }) (ho : ∀ j ∈ os, j < es.size) (e : vals = os.map fun j => (es.getD j (0, .none)).2) : Kd w es ep t a T vals h (.ref T) i
theorem next_int {vals : List Value} {slot i : Nat} {h0 : Heap} (ho : s.heap.get? a = some o) (hd : o.data = .set es ep t) (hf : t.fits es.size = true) (g : Gld w t) (k : Kd w es ep t a T vals h0 (.int slot 0) i) (hi : i ≤ es.size) {Q : Option (Value × Nat) → Shared → Prop}
    (h : ∀ nx : Nat, (∀ h1, i < es.size → Kd w es ep t a T vals h1 (.int nx 0) (i + 1)) → Q ((vals[i]?).map fun v => (v, nx)) s) : wpAny (model P w) A (setNext a slot i ep) Q E s := by
  unfold setNext setsByText
  refine wpAny_bind (wpAny_setState_of ho hd hf ?_)
  dsimp only
  refine wpAny_bind (wpAny_bind (wpAny_askSetting (wpAny_pure ?_)))
  cases k with
  | text hw e =>
    refine wpAny_ite_split (fun _ => ?_) (fun z => absurd hw z)
    rw [if_neg (by simp)]
    unfold setWalk setsByText
    refine wpAny_bind (wpAny_bind (wpAny_setState_of ho hd hf ?_))
    refine wpAny_bind (wpAny_bind (wpAny_askSetting (wpAny_pure ?_)))
    refine wpAny_ite_split (fun _ => ?_) (fun z => absurd hw z)
    refine wpAny_bind (wpAny_askSetting (wpAny_pure (wpAny_pure ?_)))
    have q := h 0 fun h1 _ => .text hw e
    rw [e, List.getElem?_map, Array.getElem?_toList] at q
    rw [Option.map_map] at q
    exact q
  | place hw hp e hs =>
    refine wpAny_ite_split (fun z => absurd z hw) (fun _ => ?_)
    refine wpAny_ite_split (fun z => absurd z hp) (fun _ => ?_)
    have hl1 : t.led = true := by rw [g.1]; simpa using hw
    refine wpAny_bind (wpAny_ite_split (fun z => absurd (show (!t.led && !es.isEmpty) = true from z) (by rw [hl1]; simp)) (fun _ => wpAny_pure ?_))
    have hz : t.place.size = es.size := by
      simp only [SetTable.fits, Bool.and_eq_true, beq_iff_eq] at hf
      exact hf.1
    rw [hs]
    refine wpAny_pure ?_
    by_cases hlt : i < es.size
    · have q := h (t.place[i]'(by omega) + 1) fun h1 _ => .place hw hp e (below_at g.2 (by omega))
      rw [e, List.getElem?_map, Array.getElem?_toList, Array.getElem?_eq_getElem hlt] at q
      rw [Array.getElem?_eq_getElem hlt, Array.getElem?_eq_getElem (show i < t.place.size by omega)]
      exact q
    · have q := h 0 fun h1 z => absurd z hlt
      rw [e, List.getElem?_map, Array.getElem?_toList, Array.getElem?_eq_none (by omega)] at q
      rw [Array.getElem?_eq_none (show es.size ≤ i by omega)]
      exact q
theorem sitv_item {vals : List Value} {fst : Value} {i : Nat} {v : Value} (hit : SItv s.heap it a fst i es.size ep) (hTi : T ≠ it) (ho : s.heap.get? a = some o) (hd : o.data = .set es ep t) (hf : t.fits es.size = true) (g : Gld w t) (k : Kd w es ep t a T vals s.heap fst i) (hi : i < es.size) (hv : vals[i]? = some v) {Q : Option Value → Shared → Prop}
    (hQ : ∀ h' f', SItv h' it a f' (i + 1) es.size ep → Kd w es ep t a T vals h' f' (i + 1) → Heap.SameBut it s.heap h' → Q (some v) { s with heap := h' }) : wpAny (model P w) A (pyNext (.ref it)) Q E s := by
  obtain ⟨oi, hoi, hci, hdi⟩ := id hit
  unfold pyNext
  refine wpAny_bind (wpAny_attempt (wpAny_callSpecial?_slot (name := Str.ofString "__next__") hit.typeIs slot_sit_next (wpAny_call_entry slot_sit_next hit.typeIs entry_sit_next ?_ (args_sit_next _))))
  unfold Builtin.«set_iterator.__next__»
  refine wpAny_bind (m := slotArgs "__next__" 0 _) (wpAny_pure ?_)
  refine wpAny_bind (wpAny_fieldsOf hoi hdi ?_)
  show wpAny _ _ (setEntries a >>= _) _ _ s
  refine wpAny_bind (wpAny_setEntries_of ho hd hf ?_)
  refine wpAny_ite_split (fun z => absurd z (by simp)) (fun _ => ?_)
  have int : ∀ {slot : Nat} {E' : Value → Shared → Prop}, fst = .int slot 0 → wpAny (model P w) A.in1 (do
      match ← setNext a slot i ep with
      | some (x, next) =>
        setField (.ref it) 0 (rawInt next)
        setField (.ref it) 1 (rawInt ((i : Int) + 1))
        ret x
      | none => do setField (.ref it) 2 .none; raiseNew (← newExc (.type "StopIteration") [])) (fun fin s' => ∃ v, fin = .done (.ret v) ∧ Q (some v) s') E' s := fun {slot} {E'} e => by
    subst e
    refine wpAny_bind (next_int ho hd hf g k (by omega) fun nx kn => ?_)
    rw [hv]
    show wpAny _ _ (setField (.ref it) 0 (rawInt nx) >>= _) _ _ s
    refine wpAny_bind (wpAny_setField hoi hdi (by simp) ?_)
    have g1 : (s.heap.update it (Obj.mapFields (·.setIfInBounds 0 (rawInt nx)))).get? it = some (Obj.mapFields (·.setIfInBounds 0 (rawInt nx)) oi) := Heap.get?_update_self _ hoi (Obj.isFreed_of_fields (Obj.data_mapFields hdi _))
    have d1 := Obj.data_mapFields hdi (·.setIfInBounds 0 (rawInt nx))
    refine wpAny_bind (wpAny_setField g1 d1 (by simp) ?_)
    refine wpAny_pure ⟨_, rfl, hQ _ (.int nx 0) ⟨_, Heap.get?_update_self _ g1 (Obj.isFreed_of_fields (Obj.data_mapFields d1 _)), (Obj.cls_mapFields ..).trans ((Obj.cls_mapFields ..).trans hci), ?_⟩ (kn _ hi) ((Heap.SameBut.update ..).trans (Heap.SameBut.update ..))⟩
    rw [Obj.data_mapFields d1]
    simp [rawInt]
  cases k with
  | text hw e =>
    refine wpAny_mono (int (slot := 0) rfl) (fun fin s' h => ?_) fun _ _ h => h
    obtain ⟨u, e1, e2⟩ := h
    exact ⟨u, e1, wpAny_pure e2⟩
  | @place slot _ hw hp e hs =>
    refine wpAny_mono (int (slot := slot) rfl) (fun fin s' h => ?_) fun _ _ h => h
    obtain ⟨u, e1, e2⟩ := h
    exact ⟨u, e1, wpAny_pure e2⟩
  | @draw _ os hT hos e =>
    show wpAny _ _ (seqItems? (.ref T) >>= _) _ _ s
    refine wpAny_bind (wpAny_seqItems hT rfl ?_)
    have hio : i < os.length := by
      have := (List.getElem?_eq_some_iff.mp hv).1
      rw [e, List.length_map] at this
      exact this
    have hj := hos os[i] (List.getElem_mem hio)
    have ev : v = (es[os[i]]'hj).2 := by
      rw [e, List.getElem?_map, List.getElem?_eq_getElem hio] at hv
      have := (Option.some.inj hv).symm
      rw [this]
      simp [Array.getD, hj]
    have ep1 : (os.map fun (i : Nat) => rawInt (i : Int)).toArray[((i : Int)).toNat]? = some (rawInt (os[i] : Int)) := by
      show (os.map fun (i : Nat) => rawInt (i : Int)).toArray[i]? = _
      rw [List.getElem?_toArray, List.getElem?_map, List.getElem?_eq_getElem hio]
      rfl
    dsimp only
    rw [ep1]
    show wpAny _ _ (setNextDrawn a os[i] ep >>= _) _ _ s
    unfold setNextDrawn
    refine wpAny_bind (wpAny_bind (wpAny_setState_of ho hd hf ?_))
    refine wpAny_ite_split (fun z => absurd z (by simp)) (fun _ => ?_)
    rw [Array.getElem?_eq_getElem hj]
    refine wpAny_pure ?_
    refine wpAny_bind (wpAny_setField hoi hdi (by simp) ?_)
    refine wpAny_pure ⟨_, rfl, wpAny_pure ?_⟩
    show Q (some (es[os[i]]'hj).2) _
    rw [← ev]
    refine hQ _ (.ref T) ⟨_, Heap.get?_update_self _ hoi (Obj.isFreed_of_fields (Obj.data_mapFields hdi _)), (Obj.cls_mapFields ..).trans hci, ?_⟩ (.draw ?_ hos e) (Heap.SameBut.update ..)
    · rw [Obj.data_mapFields hdi]
      simp [rawInt]
    · exact (Heap.get?_update_other _ _ (Ne.symm hTi)).trans hT
theorem sitv_end {vals : List Value} {fst : Value} (hh : A.handled = none) (hit : SItv s.heap it a fst es.size es.size ep) (ho : s.heap.get? a = some o) (hd : o.data = .set es ep t) (hf : t.fits es.size = true) (g : Gld w t) (k : Kd w es ep t a T vals s.heap fst es.size) (hv : vals.length = es.size) {Q : Option Value → Shared → Prop}
    (hQ : ∀ h', Heap.ExtBut it s.heap h' → Q none { s with heap := h' }) : wpAny (model P w) A (pyNext (.ref it)) Q E s := by
  obtain ⟨oi, hoi, hci, hdi⟩ := id hit
  have fin : ∀ {h1 : Heap} {Q1 : Fin → Shared → Prop} {E1 : Value → Shared → Prop}, Heap.SameBut it s.heap h1 → (∀ e s', wpAny (model P w) A (do if ← isInstance e (.type "StopIteration") then pure none else throw e) Q E s' → E1 e s') →
      wpAny (model P w) A.in1 (do raiseNew (← newExc (.type "StopIteration") [])) Q1 E1 { s with heap := h1 } := fun {h1 Q1 E1} sb hE => by
    apply wpAny_bind
    simp only [newExc, newTuple]
    refine wpAny_bind (wpAny_newObj_type (wpAny_bind (m := firstArgMember _ _) (wpAny_of_eq (a := Value.none) (by first | rfl | (simp only [firstArgMember]; rfl)) (wpAny_newObj_type ?_ (by size_fits)))) (by size_fits))
    simp only [raiseNew]
    refine wpAny_bind (wpAny_handled ?_)
    rw [show A.in1.handled = Option.none from hh]
    refine wpAny_bind (wpAny_pure (wpAny_throw (hE _ _ ?_)))
    apply wpAny_bind
    refine wpAny_isInstance (T := "StopIteration") (b := true) ⟨_, Heap.get?_push_size _ rfl, rfl⟩ isSubtype_stop ?_
    exact wpAny_pure (hQ _ ((sb.extBut.push _).push _))
  unfold pyNext
  refine wpAny_bind (wpAny_attempt (wpAny_callSpecial?_slot (name := Str.ofString "__next__") hit.typeIs slot_sit_next (wpAny_call_entry slot_sit_next hit.typeIs entry_sit_next ?_ (args_sit_next _))))
  unfold Builtin.«set_iterator.__next__»
  refine wpAny_bind (m := slotArgs "__next__" 0 _) (wpAny_pure ?_)
  refine wpAny_bind (wpAny_fieldsOf hoi hdi ?_)
  show wpAny _ _ (setEntries a >>= _) _ _ s
  refine wpAny_bind (wpAny_setEntries_of ho hd hf ?_)
  refine wpAny_ite_split (fun z => absurd z (by simp)) (fun _ => ?_)
  have hn : vals[es.size]? = none := List.getElem?_eq_none (by omega)
  cases k with
  | text hw e =>
    show wpAny _ _ (setNext a 0 es.size ep >>= _) _ _ s
    refine wpAny_bind (next_int (slot := 0) (T := T) (h0 := s.heap) ho hd hf g (.text hw e) (Nat.le_refl _) fun nx _ => ?_)
    rw [hn]
    show wpAny _ _ (setField (.ref it) 2 .none >>= _) _ _ s
    refine wpAny_bind (wpAny_setField hoi hdi (by simp) ?_)
    exact fin (Heap.SameBut.update ..) fun e s' h => h
  | @place slot _ hw hp e hs =>
    show wpAny _ _ (setNext a slot es.size ep >>= _) _ _ s
    refine wpAny_bind (next_int (slot := slot) (T := T) (h0 := s.heap) ho hd hf g (.place hw hp e hs) (Nat.le_refl _) fun nx _ => ?_)
    rw [hn]
    show wpAny _ _ (setField (.ref it) 2 .none >>= _) _ _ s
    refine wpAny_bind (wpAny_setField hoi hdi (by simp) ?_)
    exact fin (Heap.SameBut.update ..) fun e s' h => h
  | @draw _ os hT hos e =>
    show wpAny _ _ (seqItems? (.ref T) >>= _) _ _ s
    refine wpAny_bind (wpAny_seqItems hT rfl ?_)
    have hlo : os.length = es.size := by rw [e, List.length_map] at hv; exact hv
    have ep1 : (os.map fun (i : Nat) => rawInt (i : Int)).toArray[((es.size : Int)).toNat]? = none := by
      show (os.map fun (i : Nat) => rawInt (i : Int)).toArray[es.size]? = _
      rw [List.getElem?_toArray]
      exact List.getElem?_eq_none (by rw [List.length_map]; omega)
    dsimp only
    rw [ep1]
    show wpAny _ _ (setField (.ref it) 0 (rawInt 0) >>= _) _ _ s
    refine wpAny_bind (wpAny_setField hoi hdi (by simp) ?_)
    have g1 : (s.heap.update it (Obj.mapFields (·.setIfInBounds 0 (rawInt 0)))).get? it = some (Obj.mapFields (·.setIfInBounds 0 (rawInt 0)) oi) := Heap.get?_update_self _ hoi (Obj.isFreed_of_fields (Obj.data_mapFields hdi _))
    refine wpAny_bind (wpAny_setField g1 (Obj.data_mapFields hdi _) (by simp) ?_)
    exact fin ((Heap.SameBut.update ..).trans (Heap.SameBut.update ..)) fun e s' h => h
theorem sitv_self {fst : Value} {i n : Nat} (hit : SItv s.heap it a fst i n ep) {Q : Value → Shared → Prop} (h : Q (.ref it) s) : wpAny (model P w) A (pyIter (.ref it)) Q E s := by
  refine wpAny_pyIter_slot hit.typeIs slot_sit_iter (wpAny_call_entry slot_sit_iter hit.typeIs entry_sit_iter ?_ (args_sit_iter _))
  show wpAny _ _ (ret (.ref it)) _ _ s
  exact wpAny_pure ⟨_, rfl, "set_iterator", _, hit.typeIs, slot_sit_next.lookup, h⟩
theorem setv_iter (ho : s.heap.get? a = some o) (hx : o.ExactSet) (hd : o.data = .set es ep t) (hf : t.fits es.size = true) (g : Gld w t) (hz : es.size ≤ sizeLine) {Q : Value → Shared → Prop}
    (h : ∀ (it T : Addr) (vals : List Value) (fst : Value) (h' : Heap) (d' : Drawn), s.heap.objs.size ≤ it → T ≠ it → (T = a ∨ s.heap.objs.size ≤ T) → vals.Perm (es.toList.map (·.2)) → (∀ b o, s.heap.get? b = some o → h'.get? b = some o) → SItv h' it a fst 0 es.size ep → Kd w es ep t a T vals h' fst 0 → Q (.ref it) { s with heap := h', drawn := d' }) :
    wpAny (model P w) A (pyIter (.ref a)) Q E s := by
  have ty : s.TypeIs (.ref a) "set" := ⟨o, ho, hx.1⟩
  have ha := Heap.lt_size ho
  refine wpAny_pyIter_slot ty F.slot_set_iter (wpAny_call_entry F.slot_set_iter ty entry_set_iter' ?_ (F.args_set_iter_1 _))
  unfold Builtin.«frozenset.__iter__»
  refine wpAny_bind (m := Builtin.Frozenset.slot0 "__iter__" _) (wpAny_pure ?_)
  unfold Builtin.Frozenset.sizeOf
  refine wpAny_bind (wpAny_bind (wpAny_setEntries_of ho hd hf (wpAny_pure ?_)))
  unfold setDrawn setsByText
  refine wpAny_bind (wpAny_bind (wpAny_setState_of ho hd hf ?_))
  refine wpAny_bind (wpAny_bind (wpAny_askSetting (wpAny_pure ?_)))
  refine wpAny_pure ?_
  refine wpAny_ite_split (fun z => ?_) (fun z => ?_)
  · refine wpAny_bind (draw_wp es.size (List.range es.size) s _ (by simp) fun os d' p => ?_)
    have hlo : os.length = es.size := by rw [p.length_eq, List.length_range]
    refine wpAny_bind (wpAny_newTuple ?_ (by rw [List.length_map]; omega))
    have ho2 : (s.heap.push { cls := .type "tuple", data := .seq (os.map fun (i : Nat) => rawInt (i : Int)).toArray }).get? a = some o := Heap.get?_push_of_some _ ho
    refine wpAny_bind (wpAny_setEpoch_of ho2 hd hf ?_)
    refine wpAny_bind (wpAny_newObj_type (wpAny_pure ⟨_, rfl, "set_iterator", _, ⟨_, Heap.get?_push_size _ rfl, rfl⟩, slot_sit_next.lookup, ?_⟩))
    refine h _ s.heap.objs.size (os.map fun j => (es.getD j (0, .none)).2) (.ref s.heap.objs.size) _ d' (by rw [Heap.size_push]; exact Nat.le_succ _) (by rw [Heap.size_push]; exact Nat.ne_of_lt (Nat.lt_succ_self _)) (.inr (Nat.le_refl _)) ?_ (fun b u e => Heap.get?_push_of_some _ (Heap.get?_push_of_some _ e)) ⟨_, Heap.get?_push_size _ rfl, rfl, rfl⟩ (.draw (Heap.get?_push_of_some _ (Heap.get?_push_size _ rfl)) (fun j hj => List.mem_range.mp (p.mem_iff.mp hj)) rfl)
    refine (p.map _).trans ?_
    have e : (List.range es.size).map (fun j => (es.getD j (0, .none)).2) = es.toList.map (·.2) := by
      apply List.ext_getElem
      · simp
      · intro i h1 h2
        simp at h1
        simp [Array.getD, h1]
    rw [e]
  · refine wpAny_bind (wpAny_pure ?_)
    refine wpAny_bind (wpAny_setEpoch_of ho hd hf ?_)
    refine wpAny_bind (wpAny_newObj_type (wpAny_pure ⟨_, rfl, "set_iterator", _, ⟨_, Heap.get?_push_size _ rfl, rfl⟩, slot_sit_next.lookup, ?_⟩))
    have fin : ∀ vals : List Value, vals.Perm (es.toList.map (·.2)) → (∀ h', Kd w es ep t a a vals h' (.int 0 0) 0) → Q (.ref s.heap.objs.size) { s with heap := s.heap.push { cls := .type "set_iterator", data := .fields #[.int 0 0, .int 0 0, .ref a, .int es.size 0, .int ep 0] } } := fun vals p k =>
      h _ a vals (.int 0 0) _ s.drawn (Nat.le_refl _) (Nat.ne_of_lt ha) (.inl rfl) p (fun b u e => Heap.get?_push_of_some _ e) ⟨_, Heap.get?_push_size _ rfl, rfl, rfl⟩ (k _)
    by_cases hw : w.params.followText "set-order" = true
    · exact fin _ ((pick_perm (w.params.setOrder a ep) es).map _) fun h' => .text hw rfl
    · refine fin _ (List.Perm.refl _) fun h' => .place hw (fun y => z ?_) rfl (below_zero g.2)
      have hw2 : (!w.params.followText "set-order") = true := by simpa using hw
      exact (Bool.and_eq_true _ _).mpr ⟨hw2, y⟩
theorem setv_walk {vals : List Value} (hh : A.handled = none) (hne : it ≠ a) (hTi : T ≠ it) (hd : o.data = .set es ep t) (hf : t.fits es.size = true) (g : Gld w t) (hl : vals.length = es.size) :
    Walks P w A it [it, a, T] [it] es.size (fun i v => vals[i]? = some v) (fun i h => ∃ fst, SItv h it a fst i es.size ep ∧ Kd w es ep t a T vals h fst i ∧ h.get? a = some o) where
  sub := fun b hb => by rw [List.mem_singleton.mp hb]; exact .head _
  frame := fun i h h' st k => by
    obtain ⟨fst, ⟨oi, e1, c1, d1⟩, kd, e2⟩ := st
    refine ⟨fst, ⟨oi, k it (.head _) _ e1, c1, d1⟩, ?_, k a (.tail _ (.head _)) _ e2⟩
    cases kd with
    | text hw e => exact .text hw e
    | place hw hp e hs => exact .place hw hp e hs
    | draw hT hos e => exact .draw (k T (.tail _ (.tail _ (.head _))) _ hT) hos e
  item := fun i s Q E hi st hQ => by
    obtain ⟨fst, si, kd, e2⟩ := st
    have hv := List.getElem?_eq_getElem (show i < vals.length by omega)
    refine sitv_item si hTi e2 hd hf g kd hi hv fun h' f' si' kd' sb => ?_
    exact hQ _ h' s.toks hv ⟨f', si', kd', (sb.2 a (Ne.symm hne)).trans e2⟩ fun b o hb e => (sb.2 b (fun z => hb (by rw [z]; exact .head _))).trans e
  done := fun s Q E st hQ => by
    obtain ⟨fst, si, kd, e2⟩ := st
    refine sitv_end hh si e2 hd hf g kd hl fun h' eb => ?_
    exact hQ h' s.toks fun b o hb e => eb b o (fun z => hb (by rw [z]; exact .head _)) e
  self := fun i s Q E st hQ => let ⟨_, si, _, _⟩ := st; sitv_self si hQ
theorem setv_collect {R : List Value → Shared → Prop} (hh : A.handled = none) (ho : s.heap.get? a = some o) (hx : o.ExactSet) (hd : o.data = .set es ep t) (hf : t.fits es.size = true) (g : Gld w t) (hz : es.size ≤ sizeLine)
    (h : ∀ (h' : Heap) (tk : Nat) (d' : Drawn) (acc : List Value), (∀ b o, s.heap.get? b = some o → h'.get? b = some o) → acc.Perm (es.toList.map (·.2)) → R acc { s with heap := h', toks := tk, drawn := d' }) : wpAny (model P w) A (collect (.ref a)) R E s := by
  have ha := Heap.lt_size ho
  unfold collect
  refine wpAny_bind (wpAny_runValue (codeAny_builtin entry_proto_collect' ?_))
  rw [Around.under_plainId PySem.F.plain_proto_collect _]
  show wpAny _ A.in1 (newList [] >>= fun l => again (.builtin "list.__iadd__" ⟨[l, .ref a], []⟩)) _ _ s
  refine wpAny_bind (wpAny_newObj_type (wpAny_pure ⟨plainId_quiet PySem.F.plain_list_iadd _, codeAny_builtin entry_list_iadd' ?_⟩))
  rw [Around.under_plainId PySem.F.plain_list_iadd _]
  have e0 : (s.heap.push { cls := .type "list", data := .seq ([] : List Value).toArray }).get? s.heap.objs.size = some { cls := .type "list", data := .seq #[] } := Heap.get?_push_size _ rfl
  have e1 : (s.heap.push { cls := .type "list", data := .seq ([] : List Value).toArray }).get? a = some o := Heap.get?_push_of_some _ ho
  generalize hH : s.heap.push { cls := .type "list", data := .seq ([] : List Value).toArray } = h1 at e0 e1
  have z1 : h1.objs.size = s.heap.objs.size + 1 := by rw [← hH]; exact Heap.size_push _ _
  have k1 : ∀ b u, s.heap.get? b = some u → h1.get? b = some u := fun b u e => by rw [← hH]; exact Heap.get?_push_of_some _ e
  show wpAny _ A.in1 (Builtin.List.listExtendWith (.ref s.heap.objs.size) (.ref a) (.ref s.heap.objs.size)) _ _ { s with heap := h1 }
  unfold Builtin.List.listExtendWith
  refine wpAny_bind (wpAny_typeOf (T := "set") ⟨o, e1, hx.1⟩ ?_)
  have n1 : Builtin.List.listSameRef (.ref s.heap.objs.size) (.ref a) = false := by simp [Builtin.List.listSameRef]; exact Nat.ne_of_gt ha
  have n2 : (Value.type "set" == Value.type "list") = false := by decide
  have n3 : (Value.type "set" == Value.type "tuple") = false := by decide
  simp only [n1, n2, n3, Bool.or_false, Bool.false_eq_true, if_false]
  refine wpAny_bind (setv_iter e1 hx hd hf g hz fun it T vals fst h2 d' hit hTi hT p k2 si kd => ?_)
  have e2 := k2 _ _ e0
  have ea := k2 _ _ e1
  have z2 : s.heap.objs.size < h1.objs.size := by rw [z1]; exact Nat.lt_succ_self _
  have ni : s.heap.objs.size ≠ it := Nat.ne_of_lt (Nat.lt_of_lt_of_le z2 hit)
  have na : s.heap.objs.size ≠ a := Nat.ne_of_gt ha
  have nT : s.heap.objs.size ≠ T := by
    rcases hT with e | e
    · rw [e]; exact na
    · exact Nat.ne_of_lt (Nat.lt_of_lt_of_le z2 e)
  have nS : s.heap.objs.size ∉ [it, a, T] := by
    simp only [List.mem_cons, List.not_mem_nil, or_false, not_or]
    exact ⟨ni, na, nT⟩
  have hl : vals.length = es.size := by rw [p.length_eq, List.length_map, Array.length_toList]
  refine wpAny_bind (wpAny_holding (hint_set ⟨o, ea, hx.1⟩ ?_))
  have nia : it ≠ a := fun z => by rw [z] at hit; exact absurd (Nat.lt_of_lt_of_le (Nat.lt_trans ha z2) hit) (Nat.lt_irrefl _)
  have W := (setv_walk (P := P) (A := A.in1) (show A.in1.handled = none by simp [hh]) nia hTi hd hf g hl)
  refine wpAny_ite_split (fun _ => ?_) (fun z => absurd (by decide) z)
  refine wpAny_bind (wpAny_rule (wpAny_bind (show wpAny _ _ (updateSeq s.heap.objs.size (·.push .none) >>= fun _ => updateSeq s.heap.objs.size (·.pop)) _ _ _ from ?_)))
  refine wpAny_bind (wpAny_updateSeq e2 rfl ?_)
  have e3 := Heap.get?_update_self (Obj.mapSeq (·.push Value.none)) e2 rfl
  refine wpAny_updateSeq (hz := by seq_fits) e3 rfl ?_
  have e4 := Heap.get?_update_self (Obj.mapSeq (·.pop)) e3 rfl
  have kb : ∀ b u, b ≠ s.heap.objs.size → h2.get? b = some u → ((h2.update s.heap.objs.size (Obj.mapSeq (·.push Value.none))).update s.heap.objs.size (Obj.mapSeq (·.pop))).get? b = some u := fun b u n e =>
    (Heap.get?_update_other _ _ (Ne.symm n)).trans ((Heap.get?_update_other _ _ (Ne.symm n)).trans e)
  refine wpAny_pure ⟨plainId_quiet PySem.F.plain_extend_loop _, ?_⟩
  refine codeAny_extend_loopS W.toS hz s.heap.objs.size nS _ es.size 0 _ #[] ?c rfl (Nat.zero_le _) ?st ?e4 (ItemsOf.nil _) fun s' acc c hm hS hacc => ?fin
  case st => exact W.frame 0 _ _ ⟨fst, si, kd, ea⟩ fun b hb u e => kb b u (fun z => nS (z ▸ hb)) e
  case e4 => exact e4
  case fin =>
  obtain ⟨h3, gs3, d3, k3, o3⟩ := s'
  have f1 : gs3 = s.gens := hm.gens
  have f2 : d3 = d' := hm.drawn
  have f3 : o3 = s.os := hm.os
  subst f1 f2 f3
  show wpAny _ A (load s.heap.objs.size >>= _) _ _ _
  refine wpAny_bind (wpAny_load hS (wpAny_pure (h h3 k3 d3 acc.toList (fun b u e => ?_) ?_)))
  · have hb := Heap.lt_size e
    refine hm.heap b u ?_ (kb b u (Nat.ne_of_lt hb) (k2 _ _ (k1 b u e)))
    simp only [List.mem_cons, List.not_mem_nil, or_false, not_or]
    exact ⟨Nat.ne_of_lt hb, Nat.ne_of_lt (Nat.lt_of_lt_of_le (Nat.lt_trans hb z2) hit)⟩
  · have e : acc.toList = vals := by
      apply List.ext_getElem
      · rw [Array.length_toList, hacc.1, hl]
      · intro i x1 x2
        have hia : i < acc.size := by simpa using x1
        have this : vals[i]? = some acc[i] := hacc.2 i acc[i] (Array.getElem?_eq_getElem hia)
        rw [List.getElem?_eq_getElem x2] at this
        simpa using (Option.some.inj this).symm
    rw [e]
    exact p
end
section
variable {X : Cx}
theorem ints_map : ∀ l : List Value, (∀ v ∈ l, ∃ n t, v = Value.int n t) → IntsAre l (l.map numOf)
  | [], _ => .nil
  | v :: l, h => by
    obtain ⟨n, t, rfl⟩ := h v List.mem_cons_self
    exact .cons n t (ints_map l fun u hu => h u (List.mem_cons_of_mem _ hu))
theorem ints_each : ∀ {l : List Value} {ns : List Int}, IntsAre l ns → ∀ v ∈ l, ∃ n t, v = Value.int n t
  | _, _, .nil, _, h => nomatch h
  | _, _, .cons n t r, v, h => by
    rcases List.mem_cons.mp h with e | e
    · exact ⟨n, t, e⟩
    · exact ints_each r v e
def SetN (w : World) (a : Addr) (ns : List Int) (h : Heap) : Prop := ∃ o es ep t, h.get? a = some o ∧ o.ExactSet ∧ o.data = .set es ep t ∧ t.fits es.size = true ∧ Gld w t ∧ es.size < scanBound ∧ ∃ ms, IntsAre (es.toList.map (·.2)) ms ∧ ms.Perm ns
theorem Inv.drawn {pins : List (Addr × Obj)} {σ : St} {H : Hp} {s : Shared} (I : Inv X pins σ H s) {h' : Heap} {tk : Nat} {d' : Drawn} (k : ∀ b o, s.heap.get? b = some o → h'.get? b = some o) : Inv X pins σ H { s with heap := h', toks := tk, drawn := d' } := by
  have J : Inv X pins σ H { s with heap := h', toks := tk } := I.kept (t' := tk) k
  exact J.step (s := { s with heap := h', toks := tk }) (h' := h') (g' := s.gens) (t' := tk) (d' := d') (ch := []) (fun _ z => nomatch z) (fun _ _ _ _ _ e _ => e) (fun b o _ _ _ e _ => ⟨o.slots, e⟩) (fun _ _ _ _ n => n) (fun _ o _ e => ⟨o, e⟩) (fun _ _ e => e) (fun _ _ _ e => e) (fun _ ps e => ⟨#[], by simpa using e⟩) (fun _ n => n) J.hok J.bare
theorem call_sortedN (hc : X.calm = true) : CallR X (.builtin "sorted") (fun xs H Q => ∃ (r : Addr) (ns : List Int), xs = [.ref r] ∧ H r = some (.ext (SetN X.w r ns)) ∧ ns.length < 64 ∧ ∀ (l : Addr) (ms : List Int), H l = none → ms.Perm ns → ms.Pairwise (· ≤ ·) → Q (.ref l) (upd H l (.lst (ms.map V.int)))) := by
  intro pins s σ H xs us Q I r h
  obtain ⟨a, ns, rfl, hS, h64, q⟩ := h
  obtain ⟨u, rfl, ru⟩ := vals1 r
  cases (show u = Value.ref a from ru)
  obtain ⟨⟨o, es, ep, t, e, ex, hd, hf, g, hb, ms, im, pm⟩, _, _⟩ := (show ObjOk X.prog X.w H s.heap a (.ext (SetN X.w a ns)) from I.hok a _ hS)
  have hme : es.toList.length = ns.length := by
    have h1 := im.length
    rw [List.length_map] at h1
    rw [h1, pm.length_eq]
  have hz : es.size ≤ sizeLine := by rw [← Array.length_toList, hme, sizeLine_eq]; omega
  refine Calls.call_function_entry kind_sorted plain_sorted entry_sorted (args_sorted1 _) ?_
  unfold Builtin.«sorted»
  refine wpAny_bind (m := checkCount "sorted" 1 1 _) (wpAny_pure ?_)
  refine wpAny_bind (setv_collect (by first | exact I.ok.hd hc | (rw [show X.A.in1.handled = X.A.handled from rfl]; exact I.ok.hd hc)) e ex hd hf g hz fun h' tk d' acc hk pa => ?_)
  obtain ⟨ks, ia, pk⟩ : ∃ ks, IntsAre acc ks ∧ ks.Perm ms := by
    refine ⟨acc.map numOf, ints_map acc fun v hv => ints_each im v (pa.mem_iff.mp hv), ?_⟩
    rw [← im.nums]
    exact pa.map _
  have hla : acc.length = ns.length := by rw [ia.length, pk.length_eq, pm.length_eq]
  refine wpAny_bind (wpAny_newList ?_ (by rw [hla, sizeLine_eq]; omega))
  have hoL : (h'.push (seqObj "list" acc.toArray 0)).get? h'.objs.size = some (seqObj "list" acc.toArray 0) := Heap.get?_push_size _ rfl
  refine wpAny_bind (wpAny_holding (wpAny_call_entry slot_list_sort ⟨_, hoL, rfl⟩ entry_list_sort (list_sort_tree hoL ia (by omega) fun out ns' a1 a2 a3 => ⟨_, rfl, ?_⟩) (args_list_sort _)))
  refine wpAny_pure ⟨_, rfl, ?_⟩
  have I1 : Inv X pins σ H { s with heap := h', toks := tk, drawn := d' } := I.drawn hk
  have fr : H h'.objs.size = none := I1.hok.fresh (Nat.le_refl _)
  obtain ⟨ep2, eo⟩ := sortedHeap_at (out := out) hoL
  have pp : ns'.Perm ns := a2.trans (pk.trans pm)
  refine ⟨.ref h'.objs.size, upd H h'.objs.size (.lst (ns'.map V.int)), I1.laid (t' := tk) (fun b u q => ?_) (Nat.le_refl _) ⟨by rw [List.length_map, pp.length_eq, sizeLine_eq]; omega, out.toList, ep2, vals_ints a1, by rw [Array.toArray_toList]; exact eo⟩, rfl, q _ _ fr pp a3⟩
  rw [sortedHeap_old (Nat.ne_of_lt (Heap.lt_size q)) (by rw [Heap.size_push]; exact Nat.lt_succ_of_lt (Heap.lt_size q))]
  exact Heap.get?_push_of_some _ q
theorem perm_of_sub {α : Type} [DecidableEq α] : ∀ {l m : List α}, l.Nodup → (∀ x ∈ l, x ∈ m) → m.length ≤ l.length → m.Perm l
  | [], m, _, _, h => by
    obtain rfl := List.eq_nil_of_length_eq_zero (show m.length = 0 by simpa using h)
    exact List.Perm.refl _
  | x :: l, m, nd, sub, h => by
    have hx := sub x List.mem_cons_self
    obtain ⟨n1, n2⟩ := List.nodup_cons.mp nd
    have hm := List.length_erase_of_mem hx
    have pos : 0 < m.length := List.length_pos_of_mem hx
    refine (List.perm_cons_erase hx).trans ((perm_of_sub n2 (fun y hy => ?_) (by rw [hm]; rw [List.length_cons] at h; omega)).cons x)
    have ne : y ≠ x := fun e => n1 (by rw [← e]; exact hy)
    exact (List.mem_erase_of_ne ne).mpr (sub y (List.mem_cons_of_mem _ hy))
theorem dd_nodup : ∀ (ns acc : List Int), (acc ++ ns).Nodup → ns.foldl step_dedup acc = acc ++ ns
  | [], acc, _ => by simp
  | n :: ns, acc, h => by
    have hn : acc.any (· == n) = false := by
      rw [List.any_eq_false]
      intro x hx z
      have e : x = n := by simpa using z
      subst e
      exact (List.nodup_append.mp h).2.2 x hx x List.mem_cons_self rfl
    have e : step_dedup acc n = acc ++ [n] := by unfold step_dedup; rw [hn]; simp
    rw [List.foldl_cons, e, dd_nodup ns (acc ++ [n]) (by rw [List.append_assoc]; exact h), List.append_assoc]
    rfl
theorem setN_of {P : Program} {w : World} {h : Heap} {a : Addr} {ns : List Int} (nd : ns.Nodup) (x : SetG P w (Gld w) h a (fun j => ns.any (· == j)) ns.length) : SetN w a ns h := by
  obtain ⟨o, es, ep, t, e1, ex, hd, he, hm, hb, hf, hz, hl⟩ := x
  have each : ∀ v ∈ es.toList.map (·.2), ∃ n t, v = Value.int n t := fun v hv => by
    obtain ⟨e, he2, rfl⟩ := List.mem_map.mp hv
    obtain ⟨⟨k, hk, _⟩, _⟩ := he e he2
    obtain ⟨tk, hv⟩ := isInt_shape hk
    exact ⟨k, tk, hv⟩
  refine ⟨o, es, ep, t, e1, ex, hd, hf, hl, hb, _, ints_map _ each, perm_of_sub nd (fun k hk => ?_) (by simp; omega)⟩
  obtain ⟨e, h1, h2⟩ := (hm k).mp (List.any_eq_true.mpr ⟨k, hk, by simp⟩)
  obtain ⟨tk, hv⟩ := isInt_shape h2
  exact List.mem_map.mpr ⟨e.2, List.mem_map.mpr ⟨e, h1, rfl⟩, by rw [hv]; rfl⟩
theorem call_setN (hc : X.calm = true) : CallR X (.type "set") (fun xs H Q => ∃ (a : Addr) (ns : List Int), xs = [.ref a] ∧ SqL X.K H a (ns.map V.int) ∧ ns.length + 1 < scanBound ∧ ns.Nodup ∧ ∀ r, H r = none → Q (.ref r) (upd H r (.ext (SetN X.w r ns)))) := by
  intro pins s σ H xs us Q I r h
  obtain ⟨a, ns, rfl, hS, hb, nd, q⟩ := h
  obtain ⟨u, rfl, ru⟩ := vals1 r
  cases (show u = Value.ref a from ru)
  obtain ⟨its, rv, p, hz⟩ := I.list hS
  have hi : IntsAre its ns := intsAre_of rv
  have hl : its.toArray.size = ns.length := by
    have h := rv.length
    rw [List.length_map] at h
    simpa using h.symm
  refine call_setG (keep_gld X.w) (I.ok.hd hc) p.isList hi (by rw [hl]; exact hb) ⟨rfl, by unfold Ris SetTable.fresh; exact .nil⟩ fun h' tk hG kp => ?_
  rw [hl, firstMet_is, show ddI ns = ns from (dd_nodup ns [] (by simpa using nd)).trans (by simp)] at hG
  have one : SetN X.w s.heap.objs.size ns h' := setN_of nd hG
  have hk2 : ∃ o, h'.get? s.heap.objs.size = some o := let ⟨o, _, _, _, e, _⟩ := one; ⟨o, e⟩
  refine ⟨.ref s.heap.objs.size, _, I.laid (t' := tk) (fun b o e => kp b o (Heap.lt_size e) e) (Nat.le_refl _) (show ObjOk X.prog X.w _ h' _ (.ext _) from ⟨one, hk2, fun h1 h2 x k => let ⟨o, a1, a2, a3, e, r⟩ := x; ⟨o, a1, a2, a3, k o e, r⟩⟩), rfl, q _ (I.hok.fresh (Nat.le_refl _))⟩
theorem call_setNK {K : PySem.W.Frag} {w : World} (hK : X.K = K) (hw : X.w = w) (hc : X.calm = true) : CallR X (.type "set") (fun xs H Q => ∃ (a : Addr) (ns : List Int), xs = [.ref a] ∧ SqL K H a (ns.map V.int) ∧ ns.length + 1 < scanBound ∧ ns.Nodup ∧ ∀ r, H r = none → Q (.ref r) (upd H r (.ext (SetN w r ns)))) := by subst hK; subst hw; exact call_setN hc
theorem call_sortedNK {w : World} (hw : X.w = w) (hc : X.calm = true) : CallR X (.builtin "sorted") (fun xs H Q => ∃ (r : Addr) (ns : List Int), xs = [.ref r] ∧ H r = some (.ext (SetN w r ns)) ∧ ns.length < 64 ∧ ∀ (l : Addr) (ms : List Int), H l = none → ms.Perm ns → ms.Pairwise (· ≤ ·) → Q (.ref l) (upd H l (.lst (ms.map V.int)))) := by subst hw; exact call_sortedN hc
end
end L2
namespace L2
open PySem PySem.Spec PyProof.Rows
section
variable {X : Cx}
def rngL (i : Int) (n : Nat) : List Int := (List.range n).map fun (k : Nat) => i + (k : Int)
def tListRng (ta : TA) : TE := fun σ H Q => ta σ H fun vs H1 => ∃ i j : Int, vs = [.int i, .int j] ∧ (0 ≤ i ∧ i ≤ 1000000 ∧ 0 ≤ j ∧ j ≤ 1000000) ∧ ∀ l, H1 l = none → Q (.ref l) (upd H1 l (.lst ((rngL i (j - i).toNat).map V.int)))
theorem pe_listRng {a b : Expr} {ta : TA} {p p2 pos pos2 : Pos} (hc : X.calm = true) (hg : Gl X "list") (hm : X.mg "list" = none) (hg2 : Gl X "range") (hm2 : X.mg "range" = none) (ha : PA X [a, b] ta)
    (hs : starEach [a, b] X.env = (false, eval a X.env) :: starEach [b] X.env := by rfl) (hpl : (backTo pos2 (starEach [b] X.env)).any (·.1) = false := by rfl)
    (hs2 : starEach [.Call (.Name "range" p2) [a, b] [] pos2] X.env = [(false, eval (.Call (.Name "range" p2) [a, b] [] pos2) X.env)] := by rfl) :
    PE X (.Call (.Name "list" p) [.Call (.Name "range" p2) [a, b] [] pos2] [] pos) (tListRng ta) := by
  intro pins s σ H Q I h
  refine wpAny_Call_Name_kw (ld_blt I hg hm bt_list ?_)
  refine PyProof.Rows.callWith_type1 ?_ hs2 rfl
  rw [hs2]
  show wpAny _ _ (spliced [(false, eval (.Call (.Name "range" p2) [a, b] [] pos2) X.env)]) _ _ _
  refine Calls.spliced_cons ?_
  refine Call_ (ld_blt I hg2 hm2 boot_range (PyProof.Rows.callWith_type1 (thn (ha pos2 pins s σ H _ I h) fun us s1 ⟨vs, H1, I1, r1, q1⟩ => ?_) hs hpl))
  obtain ⟨i, j, e, ⟨i0, i1, j0, j1⟩, q⟩ := q1
  subst e
  obtain ⟨u, w', rfl, ⟨t, rfl⟩, ⟨t2, rfl⟩⟩ := vals2 r1
  refine call_range_2 (Calls.spliced_nil ?_)
  have sz : Builtin.Range.rangeSize i j 1 = (((j - i).toNat : Nat) : Int) := by rw [rangeSize_one]; split <;> omega
  refine call_list_range (I1.ok.hd hc) (IsRange.new ..) (small_one (by omega) (by omega) (by omega) (by omega)) sz (by omega) fun h' tk acc c hk hD hacc => ?_
  have I2 : ∀ (ob : Obj), Inv X pins σ H1 { s1 with heap := s1.heap.push ob } := fun ob => I1.kept (t' := s1.toks) fun b o e => Heap.get?_push_of_some _ e
  have vv : Vals ((rngL i (j - i).toNat).map V.int) acc.toList := by
    have gen : ∀ (n : Nat) (k : Int) (ws : List Value), ws.length = n → (∀ (x : Nat) v, ws[x]? = some v → ∃ t, v = Value.int (k + (x : Int)) t) → Vals ((rngL k n).map V.int) ws := by
      intro n
      induction n with
      | zero =>
        intro k ws hl _
        have e : ws = [] := List.length_eq_zero_iff.mp hl
        rw [e]
        show Vals [] []
        exact .nil
      | succ n ih =>
        intro k ws hl hw
        cases ws with
        | nil => simp at hl
        | cons v ws =>
          have e : rngL k (n + 1) = k :: rngL (k + 1) n := by
            unfold rngL
            rw [List.range_succ_eq_map, List.map_cons, List.map_map]
            have e0 : k + ((0 : Nat) : Int) = k := by omega
            rw [e0]
            congr 1
            refine List.map_congr_left fun x _ => ?_
            show k + ((x + 1 : Nat) : Int) = k + 1 + (x : Int)
            omega
          rw [e]
          obtain ⟨t0, h0⟩ := hw 0 v rfl
          refine .cons ⟨t0, by rw [h0]; congr 1; omega⟩ (ih (k + 1) ws (by simpa using hl) fun x w' hx => ?_)
          obtain ⟨t1, h1⟩ := hw (x + 1) w' (by simpa using hx)
          exact ⟨t1, by rw [h1]; congr 1; omega⟩
    refine gen _ i _ (by rw [Array.length_toList]; exact hacc.1) fun x v hx => ?_
    obtain ⟨t0, h0⟩ := hacc.2 x v (by rw [← Array.getElem?_toList]; exact hx)
    exact ⟨t0, by rw [h0, Int.mul_one]⟩
  refine ⟨.ref _, upd H1 _ (.lst ((rngL i (j - i).toNat).map V.int)), (I2 _).laid (t' := tk) hk (Nat.le_refl _) ⟨?_, acc.toList, c, vv, ?_⟩, rfl, q _ (I1.hok.fresh ?_)⟩
  · unfold rngL
    rw [List.length_map, List.length_map, List.length_range, sizeLine_eq]
    omega
  · rw [Array.toArray_toList]
    exact hD
  · exact Nat.le_of_lt (by rw [Heap.size_push]; exact Nat.lt_succ_self _)
end
end L2
namespace TD
open PySem L2
open Builtin.Int (intBits)
structure Od where
  a : Addr
  o : List Int
def orefs (os : List Od) : List V := os.map fun x => V.ref x.a
structure OrdAt (H : Hp) (r : Addr) (os : List Od) : Prop where
  lst : H r = some (.lst (orefs os))
  at_ : ∀ x ∈ os, H x.a = some (.lst (x.o.map V.int))
theorem OrdAt.same {H H' : Hp} {r : Addr} {os : List Od} (s : Same H H') (h : OrdAt H r os) : OrdAt H' r os := ⟨s _ _ h.lst, fun x hx => s _ _ (h.at_ x hx)⟩
theorem orefs_length (os : List Od) : (orefs os).length = os.length := List.length_map _
theorem orefs_snoc (xs : List Od) (y : Od) : orefs (xs ++ [y]) = orefs xs ++ [V.ref y.a] := by unfold orefs; rw [List.map_append]; rfl
theorem orefs_at {os : List Od} {i : Nat} {v : V} (h : (orefs os)[i]? = some v) : ∃ x, os[i]? = some x ∧ v = .ref x.a := by
  unfold orefs at h
  rw [List.getElem?_map] at h
  cases e : os[i]? with
  | none => rw [e] at h; cases h
  | some x => rw [e] at h; cases h; exact ⟨x, rfl, rfl⟩
def spOrd : Sp := fun vs H Q _ => ∃ m : Int, vs = [.int m] ∧ 1 ≤ m ∧ m ≤ 6 ∧ ∀ r H' os, Same H H' → OrdAt H' r os → os.map Od.o = Rk.ordF m.toNat → Q (.ref r) H'
def spFA : Sp := fun vs H Q _ => ∃ (a b : Addr) (o ps : List Int), vs = [.ref a, .ref b] ∧ H a = some (.lst (o.map V.int)) ∧ H b = some (.lst (ps.map V.int)) ∧ o.length ≤ 100 ∧ Q (.int (Rk.fa ps 0 (-1) o)) H
theorem eq_int1 (p i : Int) : eqV (.int p) (.int i) = decide (i = p) := by
  have e : eqV (.int p) (.int i) = decide (p = i) := by first | rfl | simp [eqV]
  rw [e]
  by_cases h : i = p
  · subst h; rfl
  · rw [decide_eq_false h, decide_eq_false fun z => h z.symm]
theorem in_ints (i : Int) : ∀ ps : List Int, inV (.int i) (ps.map V.int) = decide (i ∈ ps)
  | [] => rfl
  | p :: ps => by
    have e : inV (V.int i) ((p :: ps).map V.int) = (eqV (V.int p) (V.int i) || inV (V.int i) (ps.map V.int)) := rfl
    rw [e, in_ints i ps, eq_int1]
    by_cases h : i = p
    · subst h
      simp
    · simp [h]
theorem flat_ints (ps : List Int) : (ps.map V.int).all flatV = true := by
  rw [List.all_eq_true]
  intro v hv
  obtain ⟨i, _, rfl⟩ := List.mem_map.mp hv
  rfl
theorem cut_lo (o : List Int) {k : Nat} (h : k ≤ o.length) : cutV (o.map V.int) none (some (k : Int)) = (o.take k).map V.int := by
  unfold cutV
  rw [HT.sIx_nat, HT.sIx_none, List.length_map, List.drop_zero, Nat.sub_zero, Nat.min_eq_left h, List.map_take]
theorem cut_hi (o : List Int) {k : Nat} (h : k ≤ o.length) : cutV (o.map V.int) (some (k : Int)) none = (o.drop k).map V.int := by
  unfold cutV
  rw [HT.sIx_nat, HT.sIx_none, List.length_map, Nat.min_eq_left h, List.map_drop]
  exact List.take_of_length_le (by rw [List.length_drop, List.length_map]; omega)
def spCMN (K : PySem.W.Frag) : Sp := fun vs H Q _ => ∃ (a : Addr) (ns : List Int) (N : Int), vs = [.ref a] ∧ SqL K H a (ns.map V.int) ∧ (∀ n ∈ ns, 0 < n) ∧ (∀ n ∈ ns, n ∣ N) ∧ 0 < N ∧ intBits N ≤ 4200 ∧ Q (.int (lcmL ns)) H
structure TotN (rs : List Rs) (N : Int) : Prop where
  len : rs.length ≤ 1000
  b : ∀ r ∈ rs, 0 < r.b
  t : ∀ r ∈ rs, intBits r.t ≤ 2500
  d : ∀ r ∈ rs, r.b ∣ N
  pos : 0 < N
  z : intBits N ≤ 4200
def spTotN : Sp := fun vs H Q _ => ∃ (a : Addr) (rs : List Rs) (N : Int), vs = [.ref a] ∧ FrsAt H a rs ∧ TotN rs N ∧ ∀ p H', Same H H' → FcAt H' p (totF (vals rs)) → Q (.ref p) H'
def spPlG : Sp := fun vs H Q _ => ∃ (b : Addr) (m : Int) (ps : List Int), vs = [.ref b, .int m] ∧ H b = some (.lst (ps.map V.int)) ∧ Rk.Pls m ps ∧ ∀ H', Same H H' → Q (.bl true) H'
def spNPG : Sp := fun vs H Q _ => ∃ (b : Addr) (m : Int) (ps : List Int), vs = [.int m, .ref b] ∧ H b = some (.lst (ps.map V.int)) ∧ Rk.Pls m ps ∧ ∀ H', Same H H' → Q .non H'
def spRP : Sp := fun vs H Q _ => ∃ (b : Addr) (m : Int) (ps : List Int), vs = [.int m, .ref b] ∧ H b = some (.lst (ps.map V.int)) ∧ Rk.Pls m ps ∧ ∀ r H' rs, Same H H' → FrsAt H' r rs → vals rs = (List.range m.toNat).map (Rk.rc ps) → Q (.ref r) H'
def spSB : Sp := fun vs H Q _ => ∃ (b : Addr) (m : Int) (ps : List Int), vs = [.int m, .ref b] ∧ H b = some (.lst (ps.map V.int)) ∧ Rk.Pls m ps ∧ ∀ p H', Same H H' → FcAt H' p (Rk.shr m ps) → Q (.ref p) H'
structure Rw3 where
  q : Addr
  a : Addr
  b : Addr
def r3refs (xs : List Rw3) : List V := xs.map fun x => V.ref x.q
structure R3At (H : Hp) (r : Addr) (m : Int) (ps : List Int) (xs : List Rw3) : Prop where
  lst : H r = some (.lst (r3refs xs))
  at_ : ∀ (i : Nat) x, xs[i]? = some x → H x.q = some (.tup [.ref x.a, .ref x.b]) ∧ FcAt H x.a (Rk.rc ps i) ∧ FcAt H x.b (Rk.ls m ps i)
theorem R3At.same {H H' : Hp} {r : Addr} {m : Int} {ps : List Int} {xs : List Rw3} (s : Same H H') (h : R3At H r m ps xs) : R3At H' r m ps xs := ⟨s _ _ h.lst, fun i x hx => let ⟨a, b, c⟩ := h.at_ i x hx; ⟨s _ _ a, s _ _ b, s _ _ c⟩⟩
theorem r3_length (xs : List Rw3) : (r3refs xs).length = xs.length := List.length_map _
def spRL : Sp := fun vs H Q _ => ∃ (b : Addr) (m : Int) (ps : List Int), vs = [.int m, .ref b] ∧ H b = some (.lst (ps.map V.int)) ∧ Rk.Pls m ps ∧ ∀ r H' xs, Same H H' → H r = none → R3At H' r m ps xs → xs.length = m.toNat → Q (.ref r) H'
def spCntP : Sp := fun vs H Q _ => ∃ (m : Int) (b : Addr) (ps : List Int), vs = [.int m, .ref b] ∧ 1 ≤ m ∧ m ≤ 6 ∧ H b = some (.lst (ps.map V.int)) ∧ ∀ p H', Same H H' → FcAt H' p (Rk.cnP m ps) → Q (.ref p) H'
def spSmd : Sp := fun vs H Q _ => ∃ (b : Addr) (m : Int) (ps : List Int), vs = [.int m, .ref b] ∧ H b = some (.lst (ps.map V.int)) ∧ Rk.Pls m ps ∧ ∀ p H', Same H H' → FcAt H' p (Rk.shr m ps) → Q (.ref p) H'
def spPlL (K : PySem.W.Frag) : Sp := fun vs H Q _ => ∃ (a : Addr) (ns : List Int) (m : Int), vs = [.ref a, .int m] ∧ SqL K H a (ns.map V.int) ∧ In60 m ∧ ∀ l H' ps, Same H H' → H' l = some (.lst (ps.map V.int)) → Rk.Pls m ps → Q (.ref l) H'
def spLoss : Sp := fun vs H Q _ => ∃ (m p : Int) (o : Addr) (f : Rk.Fc) (b : Bool), vs = [.int m, .int p, .ref o, .bl b] ∧ In60 m ∧ 1 ≤ p ∧ p ≤ 60 ∧ FcAt H o f ∧ Rk.Gd f ∧ ∀ r H', Same H H' → FcAt H' r (Rk.lsL m p f b) → Q (.ref r) H'
def spWkd : Sp := fun vs H Q _ => ∃ (b t o : Addr) (m : Int) (ps : List Int) (xs : List Rw3) (rs : List Rs), vs = [.int m, .ref b, .ref t, .ref o] ∧ H b = some (.lst (ps.map V.int)) ∧ Rk.Pls m ps ∧ R3At H t m ps xs ∧ xs.length = m.toNat ∧ FrsAt H o rs ∧ vals rs = Rk.onR m m.toNat ∧ ∀ p H', Same H H' → FcAt H' p (Rk.wf m ps m.toNat) → Q (.ref p) H'
end TD
namespace L2
open PySem PySem.Spec PyProof.Rows
theorem range_all (bs : List Bool) : (List.range bs.length).all (fun i => bs.getD i false) = bs.all id := by
  rw [Bool.eq_iff_iff]
  simp only [List.all_eq_true, List.mem_range]
  constructor
  · intro h b hb
    obtain ⟨i, hi, e⟩ := List.mem_iff_getElem.mp hb
    have q := h i hi
    rw [getD_at hi, e] at q
    exact q
  · intro h i hi
    rw [getD_at hi]
    exact h _ (List.getElem_mem hi)
section
variable {X : Cx} {K : PySem.W.Frag}
theorem bls_at {us : List Value} {bs : List Bool} (h : Vals (bs.map V.bl) us) {i : Nat} {v : Value} (e : us[i]? = some v) : v = .bool (bs.getD i false) := by
  have hl := h.length
  rw [List.length_map] at hl
  have hi : i < us.length := (List.getElem?_eq_some_iff.mp e).1
  have e2 : (bs.map V.bl)[i]? = some (.bl (bs.getD i false)) := by
    rw [List.getElem?_map, List.getElem?_eq_getElem (by omega), getD_at (by omega)]
    rfl
  obtain ⟨u, hu, r⟩ := h.get e2
  rw [e] at hu
  cases hu
  exact r
theorem call_allL (hK : X.K = K) (hc : X.calm = true) : CallR X (.builtin "all") (fun xs H Q => ∃ (a : Addr) (bs : List Bool), xs = [.ref a] ∧ SqL K H a (bs.map V.bl) ∧ Q (.bl (bs.all id)) H) := by
  subst hK
  intro pins s σ H xs us Q I r h
  obtain ⟨a, bs, rfl, hS, q⟩ := h
  obtain ⟨u, rfl, ru⟩ := vals1 r
  cases (show u = Value.ref a from ru)
  obtain ⟨its, rv, pl, hz⟩ := I.list hS
  have lt : a < s.heap.objs.size := by obtain ⟨o, e, _⟩ := pl.isList; exact Heap.lt_size e
  have hl := rv.length
  rw [List.length_map] at hl
  refine call_all_walk (wpAny_pyIter_list pl.isList ⟨s.heap.objs.size, _, _, _, _, _, fun i => bs.getD i false, rfl, Walks.list (A := X.A.in1) (I.ok.hd hc) s.heap.objs.size a (Nat.ne_of_lt lt) its.toArray, ⟨⟨_, Heap.get?_push_size _ rfl, rfl, rfl⟩, pl.isList.push _⟩, ?_, fun h' tk hk => ?_⟩)
  · intro i v s' Q' E' hv hQ
    have e := bls_at rv (i := i) (v := v) (by simpa using hv)
    rw [e]
    exact wpAny_truthy_bool hQ
  · refine ⟨.bl (bs.all id), H, I.kept (t' := tk) fun b o e => hk b o (fun z => ?_) (Heap.get?_push_of_some _ e), ?_, q⟩
    · rw [List.mem_singleton.mp z] at e
      exact absurd (Heap.lt_size e) (Nat.lt_irrefl _)
    · show Value.bool _ = Value.bool _
      rw [List.size_toArray, ← hl, range_all]
end
end L2
set_option maxHeartbeats 4000000
namespace K83
open PySem L2 TD
def top (i : Nat) : Stmt := PySem.Challenge.pw_lidprice_k83_whole_any_places.main.body.getD i (.Pass ⟨0, 0, 0, 0⟩)
theorem sc_is_whole : FnScope ["thing", "least", "most"] ["thing", "least", "most"] (defScope (top 4)) := ⟨rfl, rfl, rfl, by decide +kernel, rfl, by decide +kernel, by decide +kernel⟩
theorem sc_common_divisor : FnScope ["one", "other", "rest"] ["one", "other"] (defScope (top 5)) := ⟨rfl, rfl, rfl, by decide +kernel, rfl, by decide +kernel, by decide +kernel⟩
theorem sc_common_multiple : FnScope ["numbers", "multiple", "number"] ["numbers"] (defScope (top 6)) := ⟨rfl, rfl, rfl, by decide +kernel, rfl, by decide +kernel, by decide +kernel⟩
theorem sc_share : FnScope ["top", "bottom", "divisor"] ["top", "bottom"] (defScope (top 7)) := ⟨rfl, rfl, rfl, by decide +kernel, rfl, by decide +kernel, by decide +kernel⟩
theorem sc_whole : FnScope ["number"] ["number"] (defScope (top 8)) := ⟨rfl, rfl, rfl, by decide +kernel, rfl, by decide +kernel, by decide +kernel⟩
theorem sc_plus : FnScope ["one", "other"] ["one", "other"] (defScope (top 9)) := ⟨rfl, rfl, rfl, by decide +kernel, rfl, by decide +kernel, by decide +kernel⟩
theorem sc_minus : FnScope ["one", "other"] ["one", "other"] (defScope (top 10)) := ⟨rfl, rfl, rfl, by decide +kernel, rfl, by decide +kernel, by decide +kernel⟩
theorem sc_total : FnScope ["fractions", "bottom"] ["fractions"] (defScope (top 11)) := ⟨rfl, rfl, rfl, by decide +kernel, rfl, by decide +kernel, by decide +kernel⟩
theorem sc_times : FnScope ["one", "other"] ["one", "other"] (defScope (top 12)) := ⟨rfl, rfl, rfl, by decide +kernel, rfl, by decide +kernel, by decide +kernel⟩
theorem sc_over : FnScope ["one", "other"] ["one", "other"] (defScope (top 13)) := ⟨rfl, rfl, rfl, by decide +kernel, rfl, by decide +kernel, by decide +kernel⟩
theorem sc_below : FnScope ["one", "other"] ["one", "other"] (defScope (top 14)) := ⟨rfl, rfl, rfl, by decide +kernel, rfl, by decide +kernel, by decide +kernel⟩
theorem sc_greater : FnScope ["one", "other"] ["one", "other"] (defScope (top 15)) := ⟨rfl, rfl, rfl, by decide +kernel, rfl, by decide +kernel, by decide +kernel⟩
theorem sc_need_many : FnScope ["many"] ["many"] (defScope (top 18)) := ⟨rfl, rfl, rfl, by decide +kernel, rfl, by decide +kernel, by decide +kernel⟩
theorem sc_is_places : FnScope ["places", "many"] ["places", "many"] (defScope (top 19)) := ⟨rfl, rfl, rfl, by decide +kernel, rfl, by decide +kernel, by decide +kernel⟩
theorem sc_need_places : FnScope ["many", "places"] ["many", "places"] (defScope (top 20)) := ⟨rfl, rfl, rfl, by decide +kernel, rfl, by decide +kernel, by decide +kernel⟩
theorem sc_rank_worths : FnScope ["many", "found", "place", "later", "here"] ["many"] (defScope (top 21)) := ⟨rfl, rfl, rfl, by decide +kernel, rfl, by decide +kernel, by decide +kernel⟩
theorem sc_reached_places : FnScope ["many", "places", "reached", "found", "place"] ["many", "places"] (defScope (top 22)) := ⟨rfl, rfl, rfl, by decide +kernel, rfl, by decide +kernel, by decide +kernel⟩
theorem sc_share_by : FnScope ["many", "places", "reached"] ["many", "places"] (defScope (top 23)) := ⟨rfl, rfl, rfl, by decide +kernel, rfl, by decide +kernel, by decide +kernel⟩
theorem sc_rank_losses : FnScope ["many", "places", "worths", "reached", "found", "place", "taken", "later", "lack"] ["many", "places"] (defScope (top 24)) := ⟨rfl, rfl, rfl, by decide +kernel, rfl, by decide +kernel, by decide +kernel⟩
theorem sc__law_cell : FnScope ["_law_script", "_law_k"] ["_law_script", "_law_k"] (defScope (top 26)) := ⟨rfl, rfl, rfl, by decide +kernel, rfl, by decide +kernel, by decide +kernel⟩
theorem sc__law_mix : FnScope ["_law_cell_here", "_law_k", "_law_number"] ["_law_cell_here", "_law_k"] (defScope (top 27)) := ⟨rfl, rfl, rfl, by decide +kernel, rfl, by decide +kernel, by decide +kernel⟩
theorem sc__law_common : FnScope ["_law_one", "_law_other", "_law_rest"] ["_law_one", "_law_other"] (defScope (top 28)) := ⟨rfl, rfl, rfl, by decide +kernel, rfl, by decide +kernel, by decide +kernel⟩
theorem sc__law_whole : FnScope ["_law_found"] ["_law_found"] (defScope (top 29)) := ⟨rfl, rfl, rfl, by decide +kernel, rfl, by decide +kernel, by decide +kernel⟩
theorem sc__law_lowest : FnScope ["_law_top", "_law_bottom", "_law_by"] ["_law_top", "_law_bottom"] (defScope (top 30)) := ⟨rfl, rfl, rfl, by decide +kernel, rfl, by decide +kernel, by decide +kernel⟩
theorem sc__law_same : FnScope ["_law_found", "_law_due"] ["_law_found", "_law_due"] (defScope (top 31)) := ⟨rfl, rfl, rfl, by decide +kernel, rfl, by decide +kernel, by decide +kernel⟩
theorem sc__law_orders : FnScope ["_law_many", "_law_orders_here", "_law_number", "_law_more", "_law_order", "_law_at"] ["_law_many"] (defScope (top 32)) := ⟨rfl, rfl, rfl, by decide +kernel, rfl, by decide +kernel, by decide +kernel⟩
theorem sc__law_first_at : FnScope ["_law_order", "_law_places_here", "_law_high", "_law_at"] ["_law_order", "_law_places_here"] (defScope (top 33)) := ⟨rfl, rfl, rfl, by decide +kernel, rfl, by decide +kernel, by decide +kernel⟩
theorem sc__law_counted : FnScope ["_law_many", "_law_places_here", "_law_orders_here", "_law_good"] ["_law_many", "_law_places_here"] (defScope (top 34)) := ⟨rfl, rfl, rfl, by decide +kernel, rfl, by decide +kernel, by decide +kernel⟩
theorem sc__law_summed : FnScope ["_law_many", "_law_places_here", "_law_top", "_law_bottom", "_law_reached", "_law_place"] ["_law_many", "_law_places_here"] (defScope (top 35)) := ⟨rfl, rfl, rfl, by decide +kernel, rfl, by decide +kernel, by decide +kernel⟩
theorem sc__law_on : FnScope ["_law_many", "_law_found", "_law_place", "_law_top", "_law_bottom", "_law_taken", "_law_whole_top"] ["_law_many"] (defScope (top 36)) := ⟨rfl, rfl, rfl, by decide +kernel, rfl, by decide +kernel, by decide +kernel⟩
theorem sc__law_places : FnScope ["_law_script", "_law_many", "_law_cell_here", "_law_number"] ["_law_script", "_law_many"] (defScope (top 37)) := ⟨rfl, rfl, rfl, by decide +kernel, rfl, by decide +kernel, by decide +kernel⟩
theorem sc__law_loss : FnScope ["_law_many", "_law_place", "_law_on_here", "_law_taken", "_law_here", "_law_most", "_law_had"] ["_law_many", "_law_place", "_law_on_here", "_law_taken"] (defScope (top 38)) := ⟨rfl, rfl, rfl, by decide +kernel, rfl, by decide +kernel, by decide +kernel⟩
theorem sc__law_walked : FnScope ["_law_many", "_law_places_here", "_law_told", "_law_on_here", "_law_found", "_law_reached", "_law_place", "_law_row", "_law_due", "_law_top", "_law_bottom"] ["_law_many", "_law_places_here", "_law_told", "_law_on_here"] (defScope (top 39)) := ⟨rfl, rfl, rfl, by decide +kernel, rfl, by decide +kernel, by decide +kernel⟩
theorem sc_law : FnScope ["_law_script", "_law_cell_here", "_law_many", "_law_places_here", "_law_handed", "_law_found", "_law_told", "_law_on_here", "_law_lost_by", "_law_top"] ["_law_script"] (defScope (top 40)) := ⟨rfl, rfl, rfl, by decide +kernel, rfl, by decide +kernel, by decide +kernel⟩
end K83
namespace K83
open PySem L2 TD
open Builtin.Int (intBits)
section
variable {P : Program} {w : World} {K : PySem.W.Frag} {mg : Str → Option Value} {base : Heap}
theorem ok_common_divisor {n : Nat} {f : Addr} {fd : FuncData} (F : Fun K "common_divisor" "common_divisor" (top 5) f fd) (z_abs : mg "abs" = none) : FnOk P w K mg base CX0 (n + 1) f fd ["one", "other"] spCd := by
  refine F.ok sc_common_divisor (fun vs H Q E h => ?_) (fun cdv A outer s H vs Q E hr h => ?_)
  · obtain ⟨a, b, rfl, _⟩ := h
    rfl
  obtain ⟨a, b, rfl, q⟩ := h
  have nd := sc_common_divisor.nd
  refine ⟨_, (pss_cons (ps_while PassesOwn.never (pt_cmpR op_ne (pv 1) pe_int (nomark _)) (pss_cons (ps_set (i := 2) nd rfl (Or.inl rfl) (pe_op op_modN (pv 0) (pv 1))) (pss_cons (ps_set (i := 0) nd rfl (Or.inl rfl) (pv 1)) (pss_one (ps_set (i := 1) nd rfl (Or.inl rfl) (pv 2)))))) (pss_one (ps_ret (pe_callB call_abs rfl z_abs bt_abs (pa_cons (pv 0) pa_nil))))), ?_⟩
  refine while_by (fun σ H' => ∃ x y r, σ = [some (.int x), some (.int y), r] ∧ Int.gcd x y = Int.gcd a b ∧ H' = H) (fun σ _ => match σ with | [_, some (.int y), _] => y.natAbs | _ => 0) ⟨a, b, none, rfl, rfl, rfl⟩ (fun σ H' ⟨x, y, r, e, hg, eH⟩ => ?_) (fun σ H Q Q' hQ ⟨v, e, hs, k, ek, q⟩ => ⟨v, e, hs, k, ek, hQ _ _ q⟩)
  subst e eH
  refine ⟨_, rfl, rfl, _, rfl, ?_⟩
  by_cases hy : y = 0
  · subst hy
    refine ifF (by simp) ?_
    refine ⟨_, rfl, _, rfl, ?_⟩
    have e : (if x < 0 then -x else x) = ((Int.gcd a b : Nat) : Int) := by
      rw [← hg, Int.gcd_zero]
      split <;> omega
    rw [e]
    exact q
  · refine ifT (by simp [hy]) ?_
    refine ⟨_, rfl, _, rfl, x, y, rfl, rfl, hy, ?_⟩
    refine ⟨_, rfl, ?_⟩
    refine ⟨_, rfl, ?_⟩
    exact ⟨⟨y, x.fmod y, _, rfl, (Fr.gcd_turn x y).trans hg, rfl⟩, Fr.fmod_less hy⟩
theorem ok__law_common {n : Nat} {f : Addr} {fd : FuncData} (F : Fun K "_law_common" "_law_common" (top 28) f fd) (z_abs : mg "abs" = none) : FnOk P w K mg base CX0 (n + 1) f fd ["_law_one", "_law_other"] spCd := by
  refine F.ok sc__law_common (fun vs H Q E h => ?_) (fun cdv A outer s H vs Q E hr h => ?_)
  · obtain ⟨a, b, rfl, _⟩ := h
    rfl
  obtain ⟨a, b, rfl, q⟩ := h
  have nd := sc__law_common.nd
  refine ⟨_, (pss_cons (ps_set (i := 0) nd rfl (Or.inl rfl) (pe_callB call_abs rfl z_abs bt_abs (pa_cons (pv 0) pa_nil))) (pss_cons (ps_set (i := 1) nd rfl (Or.inl rfl) (pe_callB call_abs rfl z_abs bt_abs (pa_cons (pv 1) pa_nil))) (pss_cons (ps_while PassesOwn.never (pt_cmpR op_gt (pv 1) pe_int (nomark _)) (pss_cons (ps_set (i := 2) nd rfl (Or.inl rfl) (pe_op op_modN (pv 0) (pv 1))) (pss_cons (ps_set (i := 0) nd rfl (Or.inl rfl) (pv 1)) (pss_one (ps_set (i := 1) nd rfl (Or.inl rfl) (pv 2)))))) (pss_one (ps_ret (pv 0)))))), ?_⟩
  refine ⟨_, rfl, _, rfl, ?_⟩
  refine ⟨_, rfl, _, rfl, ?_⟩
  have h0 : Int.gcd (if a < 0 then -a else a) (if b < 0 then -b else b) = Int.gcd a b := (Fr.gcd_abs a b).symm
  have h1 : 0 ≤ (if a < 0 then -a else a) := by split <;> omega
  have h2 : 0 ≤ (if b < 0 then -b else b) := by split <;> omega
  refine while_by (fun σ H' => ∃ x y r, σ = [some (.int x), some (.int y), r] ∧ Int.gcd x y = Int.gcd a b ∧ 0 ≤ x ∧ 0 ≤ y ∧ H' = H) (fun σ _ => match σ with | [_, some (.int y), _] => y.natAbs | _ => 0) ⟨_, _, none, rfl, h0, h1, h2, rfl⟩ (fun σ H' ⟨x, y, r, e, hg, x0, y0, eH⟩ => ?_) (fun σ H Q Q' hQ ⟨v, e, i, j, e1, e2, k, ek, q⟩ => ⟨v, e, i, j, e1, e2, k, ek, hQ _ _ q⟩)
  subst e eH
  refine ⟨_, rfl, _, _, rfl, rfl, _, rfl, ?_⟩
  by_cases hy : 0 < y
  · refine ifT (decide_eq_true hy) ?_
    refine ⟨_, rfl, _, rfl, x, y, rfl, rfl, Int.ne_of_gt hy, ?_⟩
    refine ⟨_, rfl, ?_⟩
    refine ⟨_, rfl, ?_⟩
    exact ⟨⟨y, x.fmod y, _, rfl, (Fr.gcd_turn x y).trans hg, y0, Int.fmod_nonneg_of_pos x hy, rfl⟩, Fr.fmod_less (Int.ne_of_gt hy)⟩
  · refine ifF (decide_eq_false hy) ?_
    have e : y = 0 := by omega
    subst e
    refine ⟨_, rfl, ?_⟩
    have e : x = ((Int.gcd a b : Nat) : Int) := by
      rw [← hg, Int.gcd_zero]
      omega
    rw [← e] at q
    exact q
theorem ok_share {n : Nat} {f : Addr} {fd : FuncData} (F : Fun K "share" "share" (top 7) f fd) {g_common_divisor : Addr} {gd_common_divisor : FuncData} (c_common_divisor : Cal P w K mg base n "common_divisor" ["one", "other"] spCd g_common_divisor gd_common_divisor) : FnOk P w K mg base CX0 (n + 1) f fd ["top", "bottom"] spShare := by
  refine F.ok sc_share (fun vs H Q E h => ?_) (fun cdv A outer s H vs Q E hr h => ?_)
  · obtain ⟨t, b, rfl, _⟩ := h
    rfl
  obtain ⟨t, b, rfl, hb, hz, q⟩ := h
  have nd := sc_share.nd
  refine ⟨_, (pss_cons (ps_set (i := 2) nd rfl (Or.inl rfl) (pe_callC c_common_divisor hr (pa_cons (pv 0) (pa_cons (pv 1) pa_nil)))) (pss_cons (ps_if (pt_cmpR op_lt (pv 1) pe_int (nomark _)) (pss_one (ps_set (i := 2) nd rfl (Or.inl rfl) (pe_un un_neg (pv 2)))) pss_nil) (pss_one (ps_ret (pe_tup (pa_cons (pe_op op_fdivB (pv 0) (pv 2)) (pa_cons (pe_op op_fdivB (pv 1) (pv 2)) pa_nil))))))), ?_⟩
  have hdz : intBits (Fr.dv t b) ≤ 9000 := PySem.intBits_le_of_natAbs (by rw [Fr.dv_natAbs]; exact Int.gcd_le_natAbs_right t hb) hz
  have hdn := Fr.dv_ne (t := t) hb
  refine ⟨_, rfl, _, rfl, t, b, rfl, ?_⟩
  refine ⟨_, rfl, _, _, rfl, rfl, _, rfl, ?_⟩
  refine ite2 (fun c => ?_) (fun c => ?_)
  · have e : -((Int.gcd t b : Nat) : Int) = Fr.dv t b := by unfold Fr.dv; rw [if_pos (of_decide_eq_true c)]
    unfold Fr.sh at q
    rw [← e] at q hdz hdn
    refine ⟨_, rfl, _, rfl, ?_⟩
    refine ⟨_, rfl, _, rfl, _, _, rfl, rfl, ⟨hdn, hdz⟩, _, rfl, _, rfl, _, _, rfl, rfl, ⟨hdn, hdz⟩, sz2, fun p hp => ?_⟩
    exact q p _ (same_new hp _) upd_same
  · have e : ((Int.gcd t b : Nat) : Int) = Fr.dv t b := by unfold Fr.dv; rw [if_neg (of_decide_eq_false (Bool.eq_false_iff.mpr c))]
    unfold Fr.sh at q
    rw [← e] at q hdz hdn
    refine ⟨_, rfl, _, rfl, _, _, rfl, rfl, ⟨hdn, hdz⟩, _, rfl, _, rfl, _, _, rfl, rfl, ⟨hdn, hdz⟩, sz2, fun p hp => ?_⟩
    exact q p _ (same_new hp _) upd_same
theorem ok__law_lowest {n : Nat} {f : Addr} {fd : FuncData} (F : Fun K "_law_lowest" "_law_lowest" (top 30) f fd) {g__law_common : Addr} {gd__law_common : FuncData} (c__law_common : Cal P w K mg base n "_law_common" ["_law_one", "_law_other"] spCd g__law_common gd__law_common) : FnOk P w K mg base CX0 (n + 1) f fd ["_law_top", "_law_bottom"] spLow := by
  refine F.ok sc__law_lowest (fun vs H Q E h => ?_) (fun cdv A outer s H vs Q E hr h => ?_)
  · obtain ⟨t, b, rfl, _⟩ := h
    rfl
  obtain ⟨t, b, rfl, hb, hz, q⟩ := h
  have nd := sc__law_lowest.nd
  refine ⟨_, (pss_cons (ps_set (i := 2) nd rfl (Or.inl rfl) (pe_callC c__law_common hr (pa_cons (pv 0) (pa_cons (pv 1) pa_nil)))) (pss_one (ps_ret (pe_tup (pa_cons (pe_op op_fdivB (pv 0) (pv 2)) (pa_cons (pe_op op_fdivB (pv 1) (pv 2)) pa_nil)))))), ?_⟩
  have hb0 : b ≠ 0 := Int.ne_of_gt hb
  have hdz : intBits (Fr.dv t b) ≤ 9000 := PySem.intBits_le_of_natAbs (by rw [Fr.dv_natAbs]; exact Int.gcd_le_natAbs_right t hb0) hz
  have hdn := Fr.dv_ne (t := t) hb0
  refine ⟨_, rfl, _, rfl, t, b, rfl, ?_⟩
  have e : ((Int.gcd t b : Nat) : Int) = Fr.dv t b := by unfold Fr.dv; rw [if_neg (by omega)]
  unfold Fr.sh at q
  rw [← e] at q hdz hdn
  refine ⟨_, rfl, _, rfl, _, _, rfl, rfl, ⟨hdn, hdz⟩, _, rfl, _, rfl, _, _, rfl, rfl, ⟨hdn, hdz⟩, sz2, fun p hp => ?_⟩
  exact q p _ (same_new hp _) upd_same
theorem ok_below {n : Nat} {f : Addr} {fd : FuncData} (F : Fun K "below" "below" (top 14) f fd) : FnOk P w K mg base CX0 (n + 1) f fd ["one", "other"] (spBelow K) := by
  refine F.ok sc_below (fun vs H Q E h => ?_) (fun cdv A outer s H vs Q E hr h => ?_)
  · obtain ⟨p, q, a, b, c, d, rfl, _⟩ := h
    rfl
  obtain ⟨p, q, a, b, c, d, rfl, hp, hq, z, k⟩ := h
  have nd := sc_below.nd
  refine ⟨_, (pss_one (ps_ret (pe_cmpR op_lt (pe_op op_mulB (pe_ix ix_tup (pv 0) pe_int (fun _ _ => rfl)) (pe_ix ix_tup (pv 1) pe_int (fun _ _ => rfl))) (pe_op op_mulB (pe_ix ix_tup (pv 1) pe_int (fun _ _ => rfl)) (pe_ix ix_tup (pv 0) pe_int (fun _ _ => rfl))) (nomark _)))), ?_⟩
  exact ⟨_, rfl, p, _, _, _, rfl, rfl, hp, rfl, _, rfl, q, _, _, _, rfl, rfl, hq, rfl, _, _, rfl, rfl, mulOk z.a z.d (by decide), _, rfl, q, _, _, _, rfl, rfl, hq, rfl, _, rfl, p, _, _, _, rfl, rfl, hp, rfl, _, _, rfl, rfl, mulOk z.c z.b (by decide), _, _, rfl, rfl, k⟩
theorem ok__law_cell {n : Nat} {f : Addr} {fd : FuncData} (F : Fun K "_law_cell" "_law_cell" (top 26) f fd) (z_len : mg "len" = none) : FnOk P w K mg base CX0 (n + 1) f fd ["_law_script", "_law_k"] (spCell K) := by
  refine F.ok sc__law_cell (fun vs H Q E h => ?_) (fun cdv A outer s H vs Q E hr h => ?_)
  · obtain ⟨a, ns, k, rfl, _⟩ := h
    rfl
  obtain ⟨a, ns, k, rfl, hS, h0, q⟩ := h
  have nd := sc__law_cell.nd
  refine ⟨_, (pss_cons (ps_if (pt_cmpR op_lt (pv 1) (pe_callB call_len_seq rfl z_len bt_len (pa_cons (pv 0) pa_nil)) (nomark _)) (pss_one (ps_ret (pe_ix ix_list (pv 0) (pv 1) (fun _ _ => rfl)))) pss_nil) (pss_one (ps_ret (pe_op op_add (pe_op op_mul pe_int (pv 1)) pe_int)))), ?_⟩
  have hl : (ns.map V.int).length = ns.length := List.length_map _
  refine ⟨_, rfl, _, rfl, a, _, rfl, .inl hS, _, _, rfl, rfl, _, rfl, ?_⟩
  refine ite2 (fun c => ?_) (fun c => ?_)
  · have c' : k < (((ns.map V.int).length : Nat) : Int) := of_decide_eq_true c
    rw [hl] at c'
    refine ⟨_, rfl, _, rfl, a, _, _, _, rfl, rfl, hS, atI_ints h0 c', ?_⟩
    unfold cellF at q
    rw [if_pos c'] at q
    exact q
  · have c' : ¬ k < (((ns.map V.int).length : Nat) : Int) := of_decide_eq_false (Bool.eq_false_iff.mpr c)
    rw [hl] at c'
    unfold cellF at q
    rw [if_neg c'] at q
    exact ⟨_, rfl, _, _, rfl, rfl, .inl ⟨by decide, by decide⟩, _, _, rfl, rfl, q⟩
theorem ok__law_whole {n : Nat} {f : Addr} {fd : FuncData} (F : Fun K "_law_whole" "_law_whole" (top 29) f fd) (z_isinstance : mg "isinstance" = none) (z_bool : mg "bool" = none) (z_int : mg "int" = none) : FnOk P w K mg base CX0 (n + 1) f fd ["_law_found"] spIsWhole := by
  refine F.ok sc__law_whole (fun vs H Q E h => ?_) (fun cdv A outer s H vs Q E hr h => ?_)
  · obtain ⟨i, rfl, _⟩ := h
    rfl
  obtain ⟨i, rfl, q⟩ := h
  have nd := sc__law_whole.nd
  refine ⟨_, (pss_one (ps_ret (pe_and (pe_callB (call_isinst (T := "int")) rfl z_isinstance bt_isinstance (pa_cons (pv 0) (pa_cons (pe_bltn (v := .ty "int") rfl z_int bt_int rfl) pa_nil))) (pe_one (pe_not (pe_callB (call_isinst (T := "bool")) rfl z_isinstance bt_isinstance (pa_cons (pv 0) (pa_cons (pe_bltn (v := .ty "bool") rfl z_bool bt_bool rfl) pa_nil)))))))), ?_⟩
  refine ⟨_, rfl, _, _, _, rfl, .int i, kit_same _, _, rfl, ?_⟩
  refine iteT ?_
  refine ⟨_, rfl, _, _, _, rfl, .int i, kit_int_bool, _, rfl, ?_⟩
  exact q
theorem ok__law_mix {n : Nat} {f : Addr} {fd : FuncData} (F : Fun K "_law_mix" "_law_mix" (top 27) f fd) : FnOk P w K mg base CX0 (n + 1) f fd ["_law_cell_here", "_law_k"] spMix := by
  refine F.ok sc__law_mix (fun vs H Q E h => ?_) (fun cdv A outer s H vs Q E hr h => ?_)
  · obtain ⟨c, i, rfl, _⟩ := h
    rfl
  obtain ⟨c, i, rfl, q⟩ := h
  have nd := sc__law_mix.nd
  refine ⟨_, (pss_cons (ps_set (i := 2) nd rfl (Or.inl rfl) (pe_op op_mod (pe_op op_add (pe_op op_add (pe_op op_mulB (pe_op op_mod (pv 0) pe_int) pe_int) (pe_op op_mul pe_int (pv 1))) pe_int) pe_int)) (pss_cons (ps_set (i := 2) nd rfl (Or.inl rfl) (pe_op op_mod (pe_op op_mulB (pv 2) (pv 2)) pe_int)) (pss_one (ps_ret (pe_op op_mod (pe_op op_mulB (pv 2) (pe_op op_add (pv 2) pe_int)) pe_int))))), ?_⟩
  have b1 : ∀ x : Int, 0 ≤ x → x < 2147483648 → intBits x ≤ 64 := fun x h1 h2 => PySem.intBits_le_64 (by omega) (by omega)
  have m1 := Int.emod_nonneg c (show (2147483647 : Int) ≠ 0 by decide)
  have m2 := Int.emod_lt_of_pos c (show (0 : Int) < 2147483647 by decide)
  refine ⟨_, rfl, _, _, rfl, rfl, (by show (0 : Int) < 2147483647; decide), _, _, rfl, rfl, mulOk (b1 _ m1 (by omega)) (b1 48271 (by decide) (by decide)) (by decide), _, rfl, _, _, rfl, rfl, .inl ⟨by decide, by decide⟩, _, _, rfl, rfl, _, _, rfl, rfl, _, _, rfl, rfl, (by show (0 : Int) < 2147483647; decide), ?_⟩
  have n1 := Int.emod_nonneg (c % 2147483647 * 48271 + 7919 * i + 1) (show (2147483647 : Int) ≠ 0 by decide)
  have n2 := Int.emod_lt_of_pos (c % 2147483647 * 48271 + 7919 * i + 1) (show (0 : Int) < 2147483647 by decide)
  have nb := b1 _ n1 (Int.lt_trans n2 (by decide))
  refine ⟨_, rfl, _, rfl, _, _, rfl, rfl, mulOk nb nb (by decide), _, _, rfl, rfl, (by show (0 : Int) < 2147483629; decide), ?_⟩
  have k1 := Int.emod_nonneg ((c % 2147483647 * 48271 + 7919 * i + 1) % 2147483647 * ((c % 2147483647 * 48271 + 7919 * i + 1) % 2147483647)) (show (2147483629 : Int) ≠ 0 by decide)
  have k2 := Int.emod_lt_of_pos ((c % 2147483647 * 48271 + 7919 * i + 1) % 2147483647 * ((c % 2147483647 * 48271 + 7919 * i + 1) % 2147483647)) (show (0 : Int) < 2147483629 by decide)
  have kb := b1 _ k1 (Int.lt_trans k2 (by decide))
  have kc := b1 _ (Int.add_nonneg k1 (show (0 : Int) ≤ 13 by decide)) (Int.lt_of_lt_of_le (Int.add_lt_add_right k2 13) (by decide))
  refine ⟨_, rfl, _, rfl, _, _, rfl, rfl, _, _, rfl, rfl, mulOk kb kc (by decide), _, _, rfl, rfl, (by show (0 : Int) < 2147483647; decide), ?_⟩
  exact q _ (Int.emod_nonneg _ (by decide)) (Int.emod_lt_of_pos _ (by decide))
theorem ok_whole {n : Nat} {f : Addr} {fd : FuncData} (F : Fun K "whole" "whole" (top 8) f fd) : FnOk P w K mg base CX0 (n + 1) f fd ["number"] spWh := by
  refine F.ok sc_whole (fun vs H Q E h => ?_) (fun cdv A outer s H vs Q E hr h => ?_)
  · obtain ⟨t, rfl, _⟩ := h
    rfl
  obtain ⟨t, rfl, q⟩ := h
  have nd := sc_whole.nd
  refine ⟨_, (pss_one (ps_ret (pe_tup (pa_cons (pv 0) (pa_cons pe_int pa_nil))))), ?_⟩
  refine ⟨_, rfl, sz2, fun p hp => ?_⟩
  exact q p _ (same_new hp _) upd_same
theorem ok_plus {n : Nat} {f : Addr} {fd : FuncData} (F : Fun K "plus" "plus" (top 9) f fd) {g_share : Addr} {gd_share : FuncData} (c_share : Cal P w K mg base n "share" ["top", "bottom"] spShare g_share gd_share) : FnOk P w K mg base CX0 (n + 1) f fd ["one", "other"] (spFr K pT pB) := by
  refine F.ok sc_plus (fun vs H Q E h => ?_) (fun cdv A outer s H vs Q E hr h => ?_)
  · obtain ⟨p, q, a, b, c, d, rfl, _⟩ := h
    rfl
  obtain ⟨p, q, a, b, c, d, rfl, hp, hq, z, hb, k⟩ := h
  have nd := sc_plus.nd
  refine ⟨_, (pss_one (ps_ret (pe_callC c_share hr (pa_cons (pe_op op_add (pe_op op_mulB (pe_ix ix_tup (pv 0) pe_int (fun _ _ => rfl)) (pe_ix ix_tup (pv 1) pe_int (fun _ _ => rfl))) (pe_op op_mulB (pe_ix ix_tup (pv 1) pe_int (fun _ _ => rfl)) (pe_ix ix_tup (pv 0) pe_int (fun _ _ => rfl)))) (pa_cons (pe_op op_mulB (pe_ix ix_tup (pv 0) pe_int (fun _ _ => rfl)) (pe_ix ix_tup (pv 1) pe_int (fun _ _ => rfl))) pa_nil))))), ?_⟩
  refine ⟨_, rfl, p, _, _, _, rfl, rfl, hp, rfl, _, rfl, q, _, _, _, rfl, rfl, hq, rfl, _, _, rfl, rfl, mulOk z.a z.d (by decide), _, rfl, q, _, _, _, rfl, rfl, hq, rfl, _, rfl, p, _, _, _, rfl, rfl, hp, rfl, _, _, rfl, rfl, mulOk z.c z.b (by decide), _, _, rfl, rfl, _, rfl, p, _, _, _, rfl, rfl, hp, rfl, _, rfl, q, _, _, _, rfl, rfl, hq, rfl, _, _, rfl, rfl, mulOk z.b z.d (by decide), _, _, rfl, hb, Nat.le_trans (PySem.intBits_mul_le z.b z.d) (by decide), k⟩
theorem ok_minus {n : Nat} {f : Addr} {fd : FuncData} (F : Fun K "minus" "minus" (top 10) f fd) {g_share : Addr} {gd_share : FuncData} (c_share : Cal P w K mg base n "share" ["top", "bottom"] spShare g_share gd_share) : FnOk P w K mg base CX0 (n + 1) f fd ["one", "other"] (spFr K mT pB) := by
  refine F.ok sc_minus (fun vs H Q E h => ?_) (fun cdv A outer s H vs Q E hr h => ?_)
  · obtain ⟨p, q, a, b, c, d, rfl, _⟩ := h
    rfl
  obtain ⟨p, q, a, b, c, d, rfl, hp, hq, z, hb, k⟩ := h
  have nd := sc_minus.nd
  refine ⟨_, (pss_one (ps_ret (pe_callC c_share hr (pa_cons (pe_op op_sub (pe_op op_mulB (pe_ix ix_tup (pv 0) pe_int (fun _ _ => rfl)) (pe_ix ix_tup (pv 1) pe_int (fun _ _ => rfl))) (pe_op op_mulB (pe_ix ix_tup (pv 1) pe_int (fun _ _ => rfl)) (pe_ix ix_tup (pv 0) pe_int (fun _ _ => rfl)))) (pa_cons (pe_op op_mulB (pe_ix ix_tup (pv 0) pe_int (fun _ _ => rfl)) (pe_ix ix_tup (pv 1) pe_int (fun _ _ => rfl))) pa_nil))))), ?_⟩
  refine ⟨_, rfl, p, _, _, _, rfl, rfl, hp, rfl, _, rfl, q, _, _, _, rfl, rfl, hq, rfl, _, _, rfl, rfl, mulOk z.a z.d (by decide), _, rfl, q, _, _, _, rfl, rfl, hq, rfl, _, rfl, p, _, _, _, rfl, rfl, hp, rfl, _, _, rfl, rfl, mulOk z.c z.b (by decide), _, _, rfl, rfl, _, rfl, p, _, _, _, rfl, rfl, hp, rfl, _, rfl, q, _, _, _, rfl, rfl, hq, rfl, _, _, rfl, rfl, mulOk z.b z.d (by decide), _, _, rfl, hb, Nat.le_trans (PySem.intBits_mul_le z.b z.d) (by decide), k⟩
theorem ok_times {n : Nat} {f : Addr} {fd : FuncData} (F : Fun K "times" "times" (top 12) f fd) {g_share : Addr} {gd_share : FuncData} (c_share : Cal P w K mg base n "share" ["top", "bottom"] spShare g_share gd_share) : FnOk P w K mg base CX0 (n + 1) f fd ["one", "other"] (spFr K tT pB) := by
  refine F.ok sc_times (fun vs H Q E h => ?_) (fun cdv A outer s H vs Q E hr h => ?_)
  · obtain ⟨p, q, a, b, c, d, rfl, _⟩ := h
    rfl
  obtain ⟨p, q, a, b, c, d, rfl, hp, hq, z, hb, k⟩ := h
  have nd := sc_times.nd
  refine ⟨_, (pss_one (ps_ret (pe_callC c_share hr (pa_cons (pe_op op_mulB (pe_ix ix_tup (pv 0) pe_int (fun _ _ => rfl)) (pe_ix ix_tup (pv 1) pe_int (fun _ _ => rfl))) (pa_cons (pe_op op_mulB (pe_ix ix_tup (pv 0) pe_int (fun _ _ => rfl)) (pe_ix ix_tup (pv 1) pe_int (fun _ _ => rfl))) pa_nil))))), ?_⟩
  refine ⟨_, rfl, p, _, _, _, rfl, rfl, hp, rfl, _, rfl, q, _, _, _, rfl, rfl, hq, rfl, _, _, rfl, rfl, mulOk z.a z.c (by decide), _, rfl, p, _, _, _, rfl, rfl, hp, rfl, _, rfl, q, _, _, _, rfl, rfl, hq, rfl, _, _, rfl, rfl, mulOk z.b z.d (by decide), _, _, rfl, hb, Nat.le_trans (PySem.intBits_mul_le z.b z.d) (by decide), k⟩
theorem ok_over {n : Nat} {f : Addr} {fd : FuncData} (F : Fun K "over" "over" (top 13) f fd) {g_share : Addr} {gd_share : FuncData} (c_share : Cal P w K mg base n "share" ["top", "bottom"] spShare g_share gd_share) : FnOk P w K mg base CX0 (n + 1) f fd ["one", "other"] (spFr K oT oB) := by
  refine F.ok sc_over (fun vs H Q E h => ?_) (fun cdv A outer s H vs Q E hr h => ?_)
  · obtain ⟨p, q, a, b, c, d, rfl, _⟩ := h
    rfl
  obtain ⟨p, q, a, b, c, d, rfl, hp, hq, z, hb, k⟩ := h
  have nd := sc_over.nd
  refine ⟨_, (pss_one (ps_ret (pe_callC c_share hr (pa_cons (pe_op op_mulB (pe_ix ix_tup (pv 0) pe_int (fun _ _ => rfl)) (pe_ix ix_tup (pv 1) pe_int (fun _ _ => rfl))) (pa_cons (pe_op op_mulB (pe_ix ix_tup (pv 0) pe_int (fun _ _ => rfl)) (pe_ix ix_tup (pv 1) pe_int (fun _ _ => rfl))) pa_nil))))), ?_⟩
  refine ⟨_, rfl, p, _, _, _, rfl, rfl, hp, rfl, _, rfl, q, _, _, _, rfl, rfl, hq, rfl, _, _, rfl, rfl, mulOk z.a z.d (by decide), _, rfl, p, _, _, _, rfl, rfl, hp, rfl, _, rfl, q, _, _, _, rfl, rfl, hq, rfl, _, _, rfl, rfl, mulOk z.b z.c (by decide), _, _, rfl, hb, Nat.le_trans (PySem.intBits_mul_le z.b z.c) (by decide), k⟩
theorem ok_greater {n : Nat} {f : Addr} {fd : FuncData} (F : Fun K "greater" "greater" (top 15) f fd) {g_below : Addr} {gd_below : FuncData} (c_below : Cal P w K mg base n "below" ["one", "other"] (spBelow K) g_below gd_below) : FnOk P w K mg base CX0 (n + 1) f fd ["one", "other"] (spGr K) := by
  refine F.ok sc_greater (fun vs H Q E h => ?_) (fun cdv A outer s H vs Q E hr h => ?_)
  · obtain ⟨p, q, a, b, c, d, rfl, _⟩ := h
    rfl
  obtain ⟨p, q, a, b, c, d, rfl, hp, hq, z, k1, k2⟩ := h
  have nd := sc_greater.nd
  refine ⟨_, (pss_one (ps_ret (pe_ifExp (pt_val (pe_callC c_below hr (pa_cons (pv 0) (pa_cons (pv 1) pa_nil)))) (pv 1) (pv 0)))), ?_⟩
  refine ⟨_, rfl, _, rfl, p, q, a, b, c, d, rfl, hp, hq, z, _, rfl, ?_⟩
  exact ite2 (fun e => ⟨_, rfl, k1 (of_decide_eq_true e)⟩) (fun e => ⟨_, rfl, k2 (of_decide_eq_false (Bool.eq_false_iff.mpr e))⟩)
theorem ok_is_whole {n : Nat} {f : Addr} {fd : FuncData} (F : Fun K "is_whole" "is_whole" (top 4) f fd) (z_isinstance : mg "isinstance" = none) (z_bool : mg "bool" = none) (z_int : mg "int" = none) : FnOk P w K mg base CX0 (n + 1) f fd ["thing", "least", "most"] spIsW := by
  refine F.ok sc_is_whole (fun vs H Q E h => ?_) (fun cdv A outer s H vs Q E hr h => ?_)
  · obtain ⟨i, lo, hi, rfl, _⟩ := h
    rfl
  obtain ⟨i, lo, hi, rfl, h1, h2, q⟩ := h
  have nd := sc_is_whole.nd
  refine ⟨_, (pss_one (ps_ret (pe_and (pe_callB (call_isinst (T := "int")) rfl z_isinstance bt_isinstance (pa_cons (pv 0) (pa_cons (pe_bltn (v := .ty "int") rfl z_int bt_int rfl) pa_nil))) (pe_and (pe_not (pe_callB (call_isinst (T := "bool")) rfl z_isinstance bt_isinstance (pa_cons (pv 0) (pa_cons (pe_bltn (v := .ty "bool") rfl z_bool bt_bool rfl) pa_nil)))) (pe_one (pe_chain op_le op_le (pv 1) (pv 0) (pv 2))))))), ?_⟩
  refine ⟨_, rfl, _, _, _, rfl, .int i, kit_same _, _, rfl, ?_⟩
  refine iteT ?_
  refine ⟨_, rfl, _, _, _, rfl, .int i, kit_int_bool, _, rfl, ?_⟩
  refine ⟨_, rfl, ?_⟩
  refine iteT ?_
  refine ⟨_, rfl, _, rfl, _, _, rfl, rfl, _, rfl, ?_⟩
  refine ifT (decide_eq_true h1) ?_
  refine ⟨_, rfl, _, _, rfl, rfl, ?_⟩
  show Q (.bl (decide (i ≤ hi))) H
  rw [decide_eq_true h2]
  exact q
theorem ok_need_many {n : Nat} {f : Addr} {fd : FuncData} (F : Fun K "need_many" "need_many" (top 18) f fd) {g_is_whole : Addr} {gd_is_whole : FuncData} (c_is_whole : Cal P w K mg base n "is_whole" ["thing", "least", "most"] spIsW g_is_whole gd_is_whole) {u_MOST_RANKS : Value} (g_MOST_RANKS : mg "MOST_RANKS" = some u_MOST_RANKS) (r_MOST_RANKS : RelV (.int 60) u_MOST_RANKS) : FnOk P w K mg base CX0 (n + 1) f fd ["many"] spNeed := by
  refine F.ok sc_need_many (fun vs H Q E h => ?_) (fun cdv A outer s H vs Q E hr h => ?_)
  · obtain ⟨m, rfl, _⟩ := h
    rfl
  obtain ⟨m, rfl, h, q⟩ := h
  have nd := sc_need_many.nd
  refine ⟨_, (pss_one (ps_if (pt_not (pt_val (pe_callC c_is_whole hr (pa_cons (pv 0) (pa_cons pe_int (pa_cons (pe_glob (v := .int 60) rfl g_MOST_RANKS r_MOST_RANKS) pa_nil)))))) (pss_one ps_never) pss_nil)), ?_⟩
  refine ⟨_, rfl, m, 1, 60, rfl, h.1, h.2, _, rfl, ?_⟩
  refine iteF ?_
  exact q
theorem ok_common_multiple {n : Nat} {f : Addr} {fd : FuncData} (F : Fun K "common_multiple" "common_multiple" (top 6) f fd) {g_common_divisor : Addr} {gd_common_divisor : FuncData} (c_common_divisor : Cal P w K mg base n "common_divisor" ["one", "other"] spCd g_common_divisor gd_common_divisor) : FnOk P w K mg base CX0 (n + 1) f fd ["numbers"] (spCMN K) := by
  refine F.ok sc_common_multiple (fun vs H Q E h => ?_) (fun cdv A outer s H vs Q E hr h => ?_)
  · obtain ⟨a, ns, N, rfl, _⟩ := h
    rfl
  obtain ⟨a, ns, N, rfl, hS, hp, hd, N0, hz, q⟩ := h
  have nd := sc_common_multiple.nd
  refine ⟨_, (pss_cons (ps_set (i := 1) nd rfl (Or.inl rfl) pe_int) (pss_cons (ps_for PassesOwn.never rfl (pi_list (pv 0)) (pg_name (i := 2) nd rfl (Or.inl rfl)) (pss_one (ps_set (i := 1) nd rfl (Or.inl rfl) (pe_op op_mulB (pv 1) (pe_op op_fdivB (pv 2) (pe_callC c_common_divisor hr (pa_cons (pv 1) (pa_cons (pv 2) pa_nil)))))))) (pss_one (ps_ret (pv 1))))), ?_⟩
  have hl : (ns.map V.int).length = ns.length := List.length_map _
  refine ⟨_, rfl, a, rfl, ⟨_, hS⟩, ?_⟩
  refine for_list (xs := ns.map V.int) (fun i σ H' => ∃ r, σ = [some (.ref a), some (.int (lcmL (ns.take i))), r] ∧ H' = H) ⟨none, rfl, rfl⟩ (fun i σ H' _ ⟨r, _, e⟩ => by subst e; exact hS) ?turn ?done
  case turn =>
    rintro i x σ H' hx ⟨r, rfl, rfl⟩
    rw [List.getElem?_map] at hx
    cases e : ns[i]? with
    | none => rw [e] at hx; cases hx
    | some n =>
      rw [e] at hx
      cases hx
      have hm := List.mem_of_getElem? e
      have hn := hp n hm
      have nz : intBits n ≤ 4200 := Rk.bits_dvd (Int.ne_of_gt N0) (hd n hm) hz
      have gz : intBits ((Int.gcd (lcmL (ns.take i)) n : Nat) : Int) ≤ 9000 := Nat.le_trans (PySem.intBits_le_of_natAbs (y := n) (by have := Int.gcd_le_natAbs_right (lcmL (ns.take i)) (Int.ne_of_gt hn); omega) (Nat.le_refl _)) (by omega)
      have gn : ((Int.gcd (lcmL (ns.take i)) n : Nat) : Int) ≠ 0 := by have := Int.gcd_pos_of_ne_zero_right (lcmL (ns.take i)) (Int.ne_of_gt hn); omega
      have lz : intBits (lcmL (ns.take i)) ≤ 4200 := Rk.bits_dvd (Int.ne_of_gt N0) (lcmL_dvd (fun x hx => hp x (List.mem_of_mem_take hx)) fun x hx => hd x (List.mem_of_mem_take hx)) hz
      refine ⟨_, rfl, _, rfl, _, rfl, _, rfl, _, _, rfl, _, _, rfl, rfl, ⟨gn, gz⟩, _, _, rfl, rfl, mulOk (m := 4201) (n := 4200) (by omega) (Nat.le_trans (PySem.intBits_fdiv_le (Nat.le_refl _)) (by omega)) (by decide), ?_⟩
      refine ⟨some (V.int n), ?_, rfl⟩
      rw [List.take_add_one, e]
      show _ = [some (V.ref a), some (V.int (lcmL (ns.take i ++ [n]))), some (V.int n)]
      rw [lcmL_snoc]
      rfl
  case done =>
    rintro σ H' ⟨r, rfl, rfl⟩
    refine ⟨_, rfl, ?_⟩
    rw [hl, List.take_length]
    exact q
theorem ok_total {n : Nat} {f : Addr} {fd : FuncData} (F : Fun K "total" "total" (top 11) f fd) {g_share : Addr} {gd_share : FuncData} (c_share : Cal P w K mg base n "share" ["top", "bottom"] spShare g_share gd_share) {g_common_multiple : Addr} {gd_common_multiple : FuncData} (c_common_multiple : Cal P w K mg base n "common_multiple" ["numbers"] (spCMN K) g_common_multiple gd_common_multiple) (z_sum : mg "sum" = none) : FnOk P w K mg base CX0 (n + 1) f fd ["fractions"] spTotN := by
  refine F.ok sc_total (fun vs H Q E h => ?_) (fun cdv A outer s H vs Q E hr h => ?_)
  · obtain ⟨a, rs, N, rfl, _⟩ := h
    rfl
  obtain ⟨a, rs, N, rfl, hF, tb, q⟩ := h
  have nd := sc_total.nd
  refine ⟨_, (pss_cons (ps_set (i := 1) nd rfl (Or.inr rfl) (pe_callC c_common_multiple hr (pa_cons (pe_comp (ls := ["fraction"]) (M := ["fractions", "bottom"]) rfl (CompOk.of (by rfl)) (NL.of (by rfl)) (pi_list (pv 0)) (fun _ _ _ _ => ⟨(pg_name (i := 0) (nd_of (by rfl)) rfl (Or.inl rfl)), pts_nil, (pe_ix (ix_tupK (K := K) rfl) (pv 0) pe_int (fun _ _ => rfl))⟩)) pa_nil))) (pss_one (ps_ret (pe_callC c_share hr (pa_cons (pe_callB (call_sum rfl) rfl z_sum bt_sum (pa_cons (pe_comp (ls := ["fraction"]) (M := ["fractions", "bottom"]) rfl (CompOk.of (by rfl)) (NL.of (by rfl)) (pi_list (pv 0)) (fun _ _ _ _ => ⟨(pg_name (i := 0) (nd_of (by rfl)) rfl (Or.inl rfl)), pts_nil, (pe_op op_mulB (pe_ix (ix_tupK (K := K) rfl) (pv 0) pe_int (fun _ _ => rfl)) (pe_op op_fdivB (pv 2) (pe_ix (ix_tupK (K := K) rfl) (pv 0) pe_int (fun _ _ => rfl))))⟩)) pa_nil)) (pa_cons (pv 1) pa_nil)))))), ?_⟩
  have hlr := rrefs_length rs
  have hlen := tb.len
  have eb : (vals rs).map (·.2) = rs.map Rs.b := by unfold vals; rw [List.map_map]; rfl
  have bpos : ∀ n ∈ rs.map Rs.b, 0 < n := fun n hn => by
    obtain ⟨x, hx, rfl⟩ := List.mem_map.mp hn
    exact tb.b x hx
  obtain ⟨lp, ld⟩ := lcmL_ok bpos
  have bd : ∀ n ∈ rs.map Rs.b, n ∣ N := fun n hn => by
    obtain ⟨x, hx, rfl⟩ := List.mem_map.mp hn
    exact tb.d x hx
  have N0 := tb.pos
  have lz : intBits (lcmL (rs.map Rs.b)) ≤ 4200 := Rk.bits_dvd (Int.ne_of_gt N0) (lcmL_dvd bpos bd) tb.z
  refine ⟨_, rfl, a, rfl, ⟨_, SqL.of hF.lst⟩, fun D hD => ?_⟩
  refine comp_list (xs := rrefs rs) (fun i τ H' => ∃ v0, τ = [v0, some (.ref a), none] ∧ Same H H' ∧ H' D = some (.lst ((rs.take i).map fun x => V.int x.b))) ⟨none, rfl, same_new hD _, upd_same⟩ ?keep ?turn ?done
  case keep =>
    rintro i τ H' hi ⟨v0, rfl, hs, _⟩
    exact SqL.of (hF.same hs).lst
  case turn =>
    rintro i m v τ H' hm hi hv ⟨v0, rfl, hs, hD'⟩
    obtain ⟨x, hx, rfl⟩ := rrefs_at hv
    have hr := (hF.same hs).at_ x (List.mem_of_getElem? hx)
    refine gyes ?_
    refine ⟨_, rfl, x.q, _, _, _, rfl, rfl, SqT.of hr, rfl, ?_⟩
    refine comp_next hm hi hD' (by rw [List.length_map]; exact small1000 (Nat.le_trans (List.length_take_le _ _) (by omega))) ⟨_, rfl, hs.upd_new hD _, ?_⟩
    rw [upd_same, take_snoc hx, List.map_append]
    rfl
  case done =>
  rintro τ H1 ⟨v0, rfl, s1, hD1⟩
  rw [hlr, List.take_length] at hD1
  refine ⟨D, rs.map Rs.b, N, rfl, SqL.of (by rw [hD1, List.map_map]; rfl), bpos, bd, N0, tb.z, ?_⟩
  have hF1 := hF.same s1
  refine ⟨_, rfl, a, rfl, ⟨_, SqL.of hF1.lst⟩, fun E2 hE => ?_⟩
  refine comp_list (xs := rrefs rs) (fun i τ H' => ∃ v0, τ = [v0, some (.ref a), some (.int (lcmL (rs.map Rs.b)))] ∧ Same H1 H' ∧ H' E2 = some (.lst ((rs.take i).map fun x => V.int (x.t * (lcmL (rs.map Rs.b)).fdiv x.b)))) ⟨none, rfl, same_new hE _, upd_same⟩ ?keep2 ?turn2 ?done2
  case keep2 =>
    rintro i τ H' hi ⟨v0, rfl, hs, _⟩
    exact SqL.of (hF1.same hs).lst
  case turn2 =>
    rintro i m v τ H' hm hi hv ⟨v0, rfl, hs, hD'⟩
    obtain ⟨x, hx, rfl⟩ := rrefs_at hv
    have hmem := List.mem_of_getElem? hx
    have hr := (hF1.same hs).at_ x hmem
    have xb := tb.b x hmem
    have xt := tb.t x hmem
    have xz : intBits x.b ≤ 4200 := Rk.bits_dvd (Int.ne_of_gt N0) (tb.d x hmem) tb.z
    refine gyes ?_
    refine ⟨_, rfl, x.q, _, _, _, rfl, rfl, SqT.of hr, rfl, _, rfl, _, rfl, x.q, _, _, _, rfl, rfl, SqT.of hr, rfl, _, _, rfl, rfl, ⟨Int.ne_of_gt xb, by omega⟩, _, _, rfl, rfl, mulOk (m := 2500) (n := 4201) xt (PySem.intBits_fdiv_le (Nat.le_trans lz (by omega))) (by decide), ?_⟩
    refine comp_next hm hi hD' (by rw [List.length_map]; exact small1000 (Nat.le_trans (List.length_take_le _ _) (by omega))) ⟨_, rfl, hs.upd_new hE _, ?_⟩
    rw [upd_same, take_snoc hx, List.map_append]
    rfl
  case done2 =>
  rintro τ H2 ⟨v0, rfl, s2, hE2⟩
  rw [hlr, List.take_length] at hE2
  refine ⟨E2, rs.map fun x => x.t * (lcmL (rs.map Rs.b)).fdiv x.b, rfl, SqL.of (by rw [hE2, List.map_map]; rfl), ?_⟩
  have zz : intBits (lcmL (rs.map Rs.b)) ≤ 4201 := Nat.le_trans lz (by omega)
  refine ⟨_, rfl, ?_⟩
  refine ⟨_, _, rfl, Int.ne_of_gt lp, Nat.le_trans zz (by decide), fun p H' s' hp => ?_⟩
  refine q p H' ((s1.trans s2).trans s') ?_
  have e : totF (vals rs) = Fr.sh ((rs.map fun x => x.t * (lcmL (rs.map Rs.b)).fdiv x.b).sum) (lcmL (rs.map Rs.b)) := by
    unfold totF
    rw [eb]
    unfold vals
    rw [List.map_map]
    rfl
  rw [e]
  exact hp
theorem ok__law_same {n : Nat} {f : Addr} {fd : FuncData} (F : Fun K "_law_same" "_law_same" (top 31) f fd) {g__law_whole : Addr} {gd__law_whole : FuncData} (c__law_whole : Cal P w K mg base n "_law_whole" ["_law_found"] spIsWhole g__law_whole gd__law_whole) (z_len : mg "len" = none) (z_isinstance : mg "isinstance" = none) (z_tuple : mg "tuple" = none) : FnOk P w K mg base CX0 (n + 1) f fd ["_law_found", "_law_due"] spSame := by
  refine F.ok sc__law_same (fun vs H Q E h => ?_) (fun cdv A outer s H vs Q E hr h => ?_)
  · obtain ⟨p, q, f, rfl, _⟩ := h
    rfl
  obtain ⟨p, q, f, rfl, hp, hq, k⟩ := h
  have nd := sc__law_same.nd
  have hu0 := Room.units0 hr
  refine ⟨_, (pss_cons (ps_if (PW.pt (pw_or (pt_not (pt_val (pe_callB (call_isinst (T := "tuple")) rfl z_isinstance bt_isinstance (pa_cons (pv 0) (pa_cons (pe_bltn (v := .ty "tuple") rfl z_tuple bt_tuple rfl) pa_nil))))) (pw_or (pt_cmpR op_ne (pe_callB call_len_seq rfl z_len bt_len (pa_cons (pv 0) pa_nil)) pe_int (nomark _)) (pw_or (pt_not (pt_val (pe_callC c__law_whole hr (pa_cons (pe_ix ix_tup (pv 0) pe_int (fun _ _ => rfl)) pa_nil)))) (pw_or1 (pt_not (pt_val (pe_callC c__law_whole hr (pa_cons (pe_ix ix_tup (pv 0) pe_int (fun _ _ => rfl)) pa_nil))))))))) (pss_one (ps_ret pe_bl)) pss_nil) (pss_one (ps_ret (pe_cmpR (op_eqT hu0) (pv 0) (pv 1) (nomark _))))), ?_⟩
  refine ⟨_, rfl, _, _, _, rfl, .tup hp, kit_same _, _, rfl, ?_⟩
  refine iteF ?_
  refine ⟨_, rfl, p, _, rfl, .inr (SqT.of hp), rfl, _, rfl, ?_⟩
  refine iteF ?_
  refine ⟨_, rfl, p, _, _, _, rfl, rfl, SqT.of hp, rfl, _, rfl, _, rfl, ?_⟩
  refine iteF ?_
  refine ⟨_, rfl, p, _, _, _, rfl, rfl, SqT.of hp, rfl, _, rfl, _, rfl, ?_⟩
  refine iteF ?_
  refine ⟨_, rfl, _, rfl, p, q, [f.1, f.2], [f.1, f.2], rfl, rfl, SqT.of hp, SqT.of hq, ?_⟩
  rw [decide_eq_true rfl]
  exact k
theorem ok__law_on {n : Nat} {f : Addr} {fd : FuncData} (F : Fun K "_law_on" "_law_on" (top 36) f fd) {g__law_lowest : Addr} {gd__law_lowest : FuncData} (c__law_lowest : Cal P w K mg base n "_law_lowest" ["_law_top", "_law_bottom"] spLow g__law_lowest gd__law_lowest) (z_list : mg "list" = none) (z_reversed : mg "reversed" = none) (z_range : mg "range" = none) : FnOk P w K mg base CX0 (n + 1) f fd ["_law_many"] spOn := by
  refine F.ok sc__law_on (fun vs H Q E h => ?_) (fun cdv A outer s H vs Q E hr h => ?_)
  · obtain ⟨m, rfl, _⟩ := h
    rfl
  obtain ⟨m, rfl, hm, q⟩ := h
  have nd := sc__law_on.nd
  refine ⟨_, (pss_cons (ps_set (i := 1) nd rfl (Or.inl rfl) (pe_lst (pa_cons (pe_tup (pa_cons pe_int (pa_cons pe_int pa_nil))) pa_nil))) (pss_cons (ps_for PassesOwn.never rfl (pi_rangeD rfl z_range (pa_cons (pv 0) (pa_cons pe_int (pa_cons (pe_un un_neg pe_int) pa_nil)))) (pg_name (i := 2) nd rfl (Or.inl rfl)) (pss_cons (ps_asg (pe_ix ix_list (pv 1) (pe_un un_neg pe_int) (fun _ _ => rfl)) (pg_tup rfl (pgs_cons (pg_name (i := 3) nd rfl (Or.inl rfl)) (pgs_cons (pg_name (i := 4) nd rfl (Or.inl rfl)) pgs_nil)))) (pss_cons (ps_set (i := 5) nd rfl (Or.inl rfl) (pe_tup (pa_cons (pv 2) (pa_cons (pv 0) pa_nil)))) (pss_cons (ps_if (pt_cmpR op_gt (pe_op op_mulB (pv 3) (pv 0)) (pe_op op_mulB (pv 2) (pv 4)) (nomark _)) (pss_one (ps_set (i := 5) nd rfl (Or.inl rfl) (pe_tup (pa_cons (pv 3) (pa_cons (pv 4) pa_nil))))) pss_nil) (pss_cons (ps_set (i := 6) nd rfl (Or.inl rfl) (pe_op op_add (pe_op op_mulB (pe_ix ix_tup (pv 5) pe_int (fun _ _ => rfl)) (pv 4)) (pe_op op_mulB (pe_op op_mulB (pe_op op_sub (pv 2) pe_int) (pv 3)) (pe_ix ix_tup (pv 5) pe_int (fun _ _ => rfl))))) (pss_one (ps_expr (pe_bm PySem.F.plainAttrs_list PySem.F.slot_list_append PySem.F.type_list_append mt_append (pv 1) (pa_cons (pe_callC c__law_lowest hr (pa_cons (pv 6) (pa_cons (pe_op op_mulB (pe_op op_mulB (pv 2) (pe_ix ix_tup (pv 5) pe_int (fun _ _ => rfl))) (pv 4)) pa_nil))) pa_nil))))))))) (pss_one (ps_ret (pe_listRev rfl rfl z_list rfl z_reversed (pa_cons (pv 1) pa_nil)))))), ?_⟩
  have ck := Rk.Ck.of hm.1 hm.2
  have m1 := hm.1
  have m2 := hm.2
  refine ⟨sz2, fun p0 hp0 => ⟨sz1, fun D hD => ?_⟩⟩
  have n0 := same_new hp0 (.tup [V.int 0, V.int 1])
  have n1 := same_new hD (.lst [V.ref p0])
  have hDn : H D = none := n0.free hD
  refine ⟨_, rfl, _, rfl, m, 0, rfl, ⟨by omega, by omega, by omega, by omega⟩, ?_⟩
  refine for_rangeD (n := (m - 0).toNat) (fun i σ H' => ∃ rs v2 v3 v4 v5 v6, σ = [some (.int m), some (.ref D), v2, v3, v4, v5, v6] ∧ Same H H' ∧ FrsAt H' D rs ∧ vals rs = (Rk.onR m i).reverse) ⟨[⟨p0, 0, 1⟩], none, none, none, none, none, rfl, n0.trans n1, ⟨upd_same, fun r hr => by rw [List.mem_singleton.mp hr]; exact n1 _ _ upd_same⟩, rfl⟩ ?turn ?done
  case turn =>
    rintro i σ H' hi ⟨rs, v2, v3, v4, v5, v6, rfl, hs, hF, ev⟩
    have hi60 : i < m.toNat := by omega
    obtain ⟨l, el⟩ := Rk.onR_cons m i
    have lenr : rs.length = i + 1 := by
      have h := congrArg List.length ev
      rw [vals_length, List.length_reverse, Rk.onR_turns, Rk.turns_len] at h
      exact h
    obtain ⟨rs0, x, rfl⟩ : ∃ rs0 x, rs = rs0 ++ [x] := ⟨rs.dropLast, rs.getLast (by intro z; rw [z] at lenr; simp at lenr), (List.dropLast_concat_getLast _).symm⟩
    have ehd : (x.t, x.b) = Rk.hd (Rk.onR m i) := by
      have h := ev
      rw [el, List.reverse_cons] at h
      unfold vals at h
      rw [List.map_append] at h
      have h2 := (List.append_inj_right' h rfl)
      have h3 : [(x.t, x.b)] = [Rk.hd (Rk.onR m i)] := h2
      injection h3
    have gd := ck.good _ (Rk.onR_mem (Nat.le_of_lt hi60))
    rw [← ehd] at gd
    have xp : 0 < x.b := gd.pos
    have xt : intBits x.t ≤ 1000 := b1000 gd.t
    have xb : intBits x.b ≤ 1000 := b1000 gd.b
    have hx : FcAt H' x.q (x.t, x.b) := hF.at_ x (List.mem_append_right _ (.head _))
    refine ⟨_, rfl, _, rfl, D, _, _, _, rfl, rfl, SqL.of hF.lst, (by rw [rrefs_snoc]; exact atI_last _ _), x.q, _, rfl, SqT.of hx, rfl, _, _, rfl, _, _, rfl, rfl, ?_⟩
    refine ⟨_, rfl, _, rfl, sz2, fun p1 hp1 => ?_⟩
    have s1 := same_new hp1 (.tup [V.int (m - (i : Int)), V.int m])
    refine ⟨_, rfl, _, rfl, _, _, rfl, rfl, mulOk (m := 1000) (n := 64) xt (b64 (by omega) (by omega)) (by decide), _, rfl, _, rfl, _, _, rfl, rfl, mulOk (m := 64) (n := 1000) (b64 (by omega) (by omega)) xb (by decide), _, _, rfl, rfl, _, rfl, ?_⟩
    by_cases hgt : (m - (i : Int)) * x.b < x.t * m
    · refine ifT (decide_eq_true hgt) ?_
      refine ⟨_, rfl, _, rfl, sz2, fun p2 hp2 => ?_⟩
      have s2 := same_new hp2 (.tup [V.int x.t, V.int x.b])
      have hsP := hs.trans (s1.trans s2)
      have hF2 := hF.same (s1.trans s2)
      have hP : FcAt (upd (upd H' p1 (.tup [V.int (m - (i : Int)), V.int m])) p2 (.tup [V.int x.t, V.int x.b])) p2 (x.t, x.b) := upd_same
      have etk : Rk.tk m (m - (i : Int)) (x.t, x.b) = (x.t, x.b) := if_pos hgt
      have tb1 : intBits x.t ≤ 1064 := Nat.le_trans xt (by decide)
      have tb2 : intBits x.b ≤ 1064 := Nat.le_trans xb (by decide)
      refine ⟨_, rfl, p2, _, _, _, rfl, rfl, SqT.of hP, rfl, _, rfl, _, _, rfl, rfl, mulOk (m := 1064) (n := 1000) tb1 xb (by decide), _, rfl, _, _, rfl, rfl, _, rfl, _, _, rfl, rfl, mulOk (m := 64) (n := 1000) (b64 (x := m - (i : Int) - 1) (by omega) (by omega)) xt (by decide), _, rfl, p2, _, _, _, rfl, rfl, SqT.of hP, rfl, _, _, rfl, rfl, mulOk (m := 1064) (n := 1064) (PySem.intBits_mul_le (b64 (x := m - (i : Int) - 1) (by omega) (by omega)) xt) tb2 (by decide), _, _, rfl, rfl, ?_⟩
      refine ⟨_, rfl, .inl ⟨rfl, _, SqL.of hF2.lst⟩, _, rfl, _, rfl, _, rfl, p2, _, _, _, rfl, rfl, SqT.of hP, rfl, _, _, rfl, rfl, mulOk (m := 64) (n := 1064) (b64 (x := m - (i : Int)) (by omega) (by omega)) tb2 (by decide), _, rfl, _, _, rfl, rfl, mulOk (m := 1128) (n := 1000) (PySem.intBits_mul_le (b64 (x := m - (i : Int)) (by omega) (by omega)) tb2) xb (by decide), _, _, rfl, Int.mul_pos (Int.mul_pos (by omega) xp) xp, Nat.le_trans (PySem.intBits_mul_le (PySem.intBits_mul_le (b64 (x := m - (i : Int)) (by omega) (by omega)) tb2) xb) (by decide), fun p3 H3 s3 hp3 => ?_⟩
      have hF3 := hF2.same s3
      refine ⟨D, rrefs (rs0 ++ [x]), .ref p3, rfl, rfl, hF3.lst, by rw [rrefs_length]; exact small1000 (by omega), ?_⟩
      refine ⟨(rs0 ++ [x]) ++ [⟨p3, (Rk.onStep m (m - (i : Int)) (x.t, x.b)).1, (Rk.onStep m (m - (i : Int)) (x.t, x.b)).2⟩], _, _, _, _, _, rfl, (hsP.trans s3).upd_new hDn _, FrsAt.push (r := ⟨p3, _, _⟩) hF3 ?_, ?_⟩
      · unfold Rk.onStep
        rw [etk]
        exact hp3
      · show vals ((rs0 ++ [x]) ++ [_]) = (Rk.onStep m (m - (i : Int)) (Rk.hd (Rk.onR m i)) :: Rk.onR m i).reverse
        rw [List.reverse_cons, ← ev, ← ehd]
        unfold vals
        rw [List.map_append]
        rfl
    · refine ifF (decide_eq_false hgt) ?_
      have hsP := hs.trans s1
      have hF2 := hF.same s1
      have hP : FcAt (upd H' p1 (.tup [V.int (m - (i : Int)), V.int m])) p1 (m - (i : Int), m) := upd_same
      have etk : Rk.tk m (m - (i : Int)) (x.t, x.b) = (m - (i : Int), m) := if_neg hgt
      have tb1 : intBits (m - (i : Int)) ≤ 1064 := Nat.le_trans (b64 (by omega) (by omega)) (by decide)
      have tb2 : intBits m ≤ 1064 := Nat.le_trans (b64 (by omega) (by omega)) (by decide)
      refine ⟨_, rfl, p1, _, _, _, rfl, rfl, SqT.of hP, rfl, _, rfl, _, _, rfl, rfl, mulOk (m := 1064) (n := 1000) tb1 xb (by decide), _, rfl, _, _, rfl, rfl, _, rfl, _, _, rfl, rfl, mulOk (m := 64) (n := 1000) (b64 (x := m - (i : Int) - 1) (by omega) (by omega)) xt (by decide), _, rfl, p1, _, _, _, rfl, rfl, SqT.of hP, rfl, _, _, rfl, rfl, mulOk (m := 1064) (n := 1064) (PySem.intBits_mul_le (b64 (x := m - (i : Int) - 1) (by omega) (by omega)) xt) tb2 (by decide), _, _, rfl, rfl, ?_⟩
      refine ⟨_, rfl, .inl ⟨rfl, _, SqL.of hF2.lst⟩, _, rfl, _, rfl, _, rfl, p1, _, _, _, rfl, rfl, SqT.of hP, rfl, _, _, rfl, rfl, mulOk (m := 64) (n := 1064) (b64 (x := m - (i : Int)) (by omega) (by omega)) tb2 (by decide), _, rfl, _, _, rfl, rfl, mulOk (m := 1128) (n := 1000) (PySem.intBits_mul_le (b64 (x := m - (i : Int)) (by omega) (by omega)) tb2) xb (by decide), _, _, rfl, Int.mul_pos (Int.mul_pos (by omega) (show (0 : Int) < m by omega)) xp, Nat.le_trans (PySem.intBits_mul_le (PySem.intBits_mul_le (b64 (x := m - (i : Int)) (by omega) (by omega)) tb2) xb) (by decide), fun p3 H3 s3 hp3 => ?_⟩
      have hF3 := hF2.same s3
      refine ⟨D, rrefs (rs0 ++ [x]), .ref p3, rfl, rfl, hF3.lst, by rw [rrefs_length]; exact small1000 (by omega), ?_⟩
      refine ⟨(rs0 ++ [x]) ++ [⟨p3, (Rk.onStep m (m - (i : Int)) (x.t, x.b)).1, (Rk.onStep m (m - (i : Int)) (x.t, x.b)).2⟩], _, _, _, _, _, rfl, (hsP.trans s3).upd_new hDn _, FrsAt.push (r := ⟨p3, _, _⟩) hF3 ?_, ?_⟩
      · unfold Rk.onStep
        rw [etk]
        exact hp3
      · show vals ((rs0 ++ [x]) ++ [_]) = (Rk.onStep m (m - (i : Int)) (Rk.hd (Rk.onR m i)) :: Rk.onR m i).reverse
        rw [List.reverse_cons, ← ev, ← ehd]
        unfold vals
        rw [List.map_append]
        rfl
  case done =>
    rintro σ H' ⟨rs, v2, v3, v4, v5, v6, rfl, hs, hF, ev⟩
    refine ⟨_, rfl, D, _, rfl, SqL.of hF.lst, fun l hl => ?_⟩
    have nl := same_new hl (.lst (rrefs rs).reverse)
    have er : (rrefs rs).reverse = rrefs rs.reverse := by unfold rrefs; rw [List.map_reverse]
    refine q l _ rs.reverse (hs.trans nl) ⟨by rw [upd_same, er], fun r hr => nl _ _ (hF.at_ r (List.mem_reverse.mp hr))⟩ ?_
    have e0 : (m - 0).toNat = m.toNat := by omega
    rw [e0] at ev
    unfold vals at ev ⊢
    rw [List.map_reverse, ev, List.reverse_reverse]
theorem ok__law_first_at {n : Nat} {f : Addr} {fd : FuncData} (F : Fun K "_law_first_at" "_law_first_at" (top 33) f fd) (z_range : mg "range" = none) (z_len : mg "len" = none) : FnOk P w K mg base CX0 (n + 1) f fd ["_law_order", "_law_places_here"] spFA := by
  refine F.ok sc__law_first_at (fun vs H Q E h => ?_) (fun cdv A outer s H vs Q E hr h => ?_)
  · obtain ⟨a, b, o, ps, rfl, _⟩ := h
    rfl
  obtain ⟨a, b, o, ps, rfl, ha, hb, ho, q⟩ := h
  have nd := sc__law_first_at.nd
  refine ⟨_, (pss_cons (ps_set (i := 2) nd rfl (Or.inl rfl) (pe_un un_neg pe_int)) (pss_cons (ps_for PassesOwn.never rfl (pi_range1 rfl z_range (pa_cons (pe_callB call_len_seq rfl z_len bt_len (pa_cons (pv 0) pa_nil)) pa_nil)) (pg_name (i := 3) nd rfl (Or.inl rfl)) (pss_one (ps_if (pt_cmpR op_gt (pe_ix ix_list (pv 0) (pv 3) (fun _ _ => rfl)) (pv 2) (nomark _)) (pss_cons (ps_set (i := 2) nd rfl (Or.inl rfl) (pe_ix ix_list (pv 0) (pv 3) (fun _ _ => rfl))) (pss_one (ps_if (pt_cmpR op_in_seq (pe_op op_add (pv 3) pe_int) (pv 1) rfl) (pss_one (ps_ret (pe_ix ix_list (pv 0) (pv 3) (fun _ _ => rfl)))) pss_nil))) pss_nil))) (pss_one (ps_ret (pe_un un_neg pe_int))))), ?_⟩
  have hlo : (o.map V.int).length = o.length := List.length_map _
  refine ⟨_, rfl, ?_⟩
  refine ⟨_, rfl, a, _, rfl, .inl (SqL.of ha), ((o.map V.int).length : Int), rfl, by omega, by omega, ?_⟩
  refine for_range (n := (((o.map V.int).length : Nat) : Int).toNat) (fun i σ H' => ∃ hi v3, σ = [some (.ref a), some (.ref b), some (.int hi), v3] ∧ H' = H ∧ Rk.fa ps 0 (-1) o = Rk.fa ps i hi (o.drop i)) ⟨-1, none, rfl, rfl, rfl⟩ ?turn ?done
  case turn =>
    rintro i σ H' hi ⟨hg, v3, rfl, rfl, ef⟩
    have hi2 : i < o.length := by omega
    have ei : o[i]? = some o[i] := List.getElem?_eq_getElem hi2
    have ed : o.drop i = o[i] :: o.drop (i + 1) := List.drop_eq_getElem_cons hi2
    generalize o[i] = x at ei ed
    have hat : atI (o.map V.int) (0 + (i : Int)) = some (.int x) := by
      rw [Int.zero_add]
      exact atI_nat (by rw [List.getElem?_map, ei]; rfl)
    rw [ed] at ef
    refine ⟨_, rfl, _, rfl, a, _, _, _, rfl, rfl, SqL.of ha, hat, _, rfl, _, _, rfl, rfl, _, rfl, ?_⟩
    by_cases hx : hg < x
    · refine ifT (decide_eq_true hx) ?_
      refine ⟨_, rfl, _, rfl, a, _, _, _, rfl, rfl, SqL.of ha, hat, ?_⟩
      have e1 : Rk.fa ps i hg (x :: o.drop (i + 1)) = if ((i : Int) + 1) ∈ ps then x else Rk.fa ps (i + 1) x (o.drop (i + 1)) := if_pos hx
      rw [e1] at ef
      refine ⟨_, rfl, _, _, rfl, rfl, _, rfl, b, _, rfl, .inl (SqL.of hb), rfl, flat_ints ps, _, rfl, ?_⟩
      have e2 : (0 + (i : Int)) + 1 = (i : Int) + 1 := by omega
      by_cases hin : ((i : Int) + 1) ∈ ps
      · refine ifT (by show (if false = true then _ else inV (V.int (0 + (i : Int) + 1)) (ps.map V.int)) = true; rw [if_neg Bool.false_ne_true, e2, in_ints]; exact decide_eq_true hin) ?_
        rw [if_pos hin] at ef
        refine ⟨_, rfl, _, rfl, a, _, _, _, rfl, rfl, SqL.of ha, hat, ?_⟩
        rw [← ef]
        exact q
      · refine ifF (by show (if false = true then _ else inV (V.int (0 + (i : Int) + 1)) (ps.map V.int)) = false; rw [if_neg Bool.false_ne_true, e2, in_ints]; exact decide_eq_false hin) ?_
        rw [if_neg hin] at ef
        exact ⟨_, _, rfl, rfl, ef⟩
    · refine ifF (decide_eq_false hx) ?_
      have e1 : Rk.fa ps i hg (x :: o.drop (i + 1)) = Rk.fa ps (i + 1) hg (o.drop (i + 1)) := if_neg hx
      rw [e1] at ef
      exact ⟨_, _, rfl, rfl, ef⟩
  case done =>
    rintro σ H' ⟨hg, v3, rfl, rfl, ef⟩
    have en : (((o.map V.int).length : Nat) : Int).toNat = o.length := by omega
    rw [en, List.drop_length] at ef
    have ef : Rk.fa ps 0 (-1) o = -1 := ef
    rw [ef] at q
    exact ⟨_, rfl, q⟩
theorem flat_len (n : Nat) (l : List (List Int)) : (l.flatMap (Rk.insAll n)).length = l.length * (n + 1) := by
  induction l with
  | nil => simp
  | cons o l ih =>
    rw [List.flatMap_cons, List.length_append, ih, List.length_cons, Nat.succ_mul]
    have e : (Rk.insAll n o).length = n + 1 := by unfold Rk.insAll; rw [List.length_map, List.length_range]
    omega
theorem ok__law_orders {n : Nat} {f : Addr} {fd : FuncData} (F : Fun K "_law_orders" "_law_orders" (top 32) f fd) (z_range : mg "range" = none) : FnOk P w K mg base CX0 (n + 1) f fd ["_law_many"] spOrd := by
  refine F.ok sc__law_orders (fun vs H Q E h => ?_) (fun cdv A outer s H vs Q E hr h => ?_)
  · obtain ⟨m, rfl, _⟩ := h
    rfl
  obtain ⟨m, rfl, m1, m2, q⟩ := h
  have nd := sc__law_orders.nd
  refine ⟨_, (pss_cons (ps_set (i := 1) nd rfl (Or.inl rfl) (pe_lst (pa_cons (pe_lst pa_nil) pa_nil))) (pss_cons (ps_for PassesOwn.never rfl (pi_range1 rfl z_range (pa_cons (pv 0) pa_nil)) (pg_name (i := 2) nd rfl (Or.inl rfl)) (pss_cons (ps_set (i := 3) nd rfl (Or.inl rfl) (pe_lst pa_nil)) (pss_cons (ps_for PassesOwn.never rfl (pi_list (pv 1)) (pg_name (i := 4) nd rfl (Or.inl rfl)) (pss_one (ps_for PassesOwn.never rfl (pi_range1 rfl z_range (pa_cons (pe_op op_add (pv 2) pe_int) pa_nil)) (pg_name (i := 5) nd rfl (Or.inl rfl)) (pss_one (ps_expr (pe_bm PySem.F.plainAttrs_list PySem.F.slot_list_append PySem.F.type_list_append mt_append (pv 3) (pa_cons (pe_op op_cat (pe_op op_cat (pe_slice sl_list (pv 4) po_none (po_some (pv 5))) (pe_lst (pa_cons (pv 2) pa_nil))) (pe_slice sl_list (pv 4) (po_some (pv 5)) po_none)) pa_nil))))))) (pss_one (ps_set (i := 1) nd rfl (Or.inl rfl) (pv 3)))))) (pss_one (ps_ret (pv 1))))), ?_⟩
  refine ⟨Nat.zero_le _, fun l0 hl0 => ⟨sz1, fun D0 hD0 => ?_⟩⟩
  have n0 := same_new hl0 (.lst [])
  have n1 := same_new hD0 (.lst [V.ref l0])
  refine ⟨_, rfl, m, rfl, by omega, by omega, ?_⟩
  refine for_range (n := m.toNat) (fun i σ H' => ∃ D os v2 v3 v4 v5, σ = [some (.int m), some (.ref D), v2, v3, v4, v5] ∧ Same H H' ∧ OrdAt H' D os ∧ os.map Od.o = Rk.ordF i) ⟨D0, [⟨l0, []⟩], none, none, none, none, rfl, n0.trans n1, ⟨upd_same, fun x hx => by rw [List.mem_singleton.mp hx]; exact n1 _ _ upd_same⟩, rfl⟩ ?turn ?done
  case turn =>
    rintro i σ H' hi ⟨D, os, v2, v3, v4, v5, rfl, hs, hO, eo⟩
    have oln : os.length = (Rk.ordF i).length := by rw [← eo, List.length_map]
    have ok1 := Rk.ord_ok (n := i + 1) (by omega)
    have ok0 := Rk.ord_ok (n := i) (by omega)
    have fl : ((Rk.ordF i).flatMap (Rk.insAll i)).length = os.length * (i + 1) := by rw [flat_len, oln]
    have fl2 : os.length * (i + 1) ≤ 720 := by rw [← fl]; exact ok1.1
    refine ⟨Nat.zero_le _, fun R hR => ?_⟩
    have nR := same_new hR (.lst [])
    refine ⟨_, rfl, D, rfl, ⟨_, SqL.of (hO.same nR).lst⟩, ?_⟩
    refine for_list (xs := orefs os) (fun j σ H'' => ∃ ms v4 v5, σ = [some (.int m), some (.ref D), some (.int (0 + (i : Int))), some (.ref R), v4, v5] ∧ Same H' H'' ∧ OrdAt H'' R ms ∧ (∀ x ∈ ms, x.a ≠ R) ∧ ms.map Od.o = ((os.take j).map Od.o).flatMap (Rk.insAll i)) ⟨[], v4, v5, rfl, nR, ⟨upd_same, fun _ h => nomatch h⟩, (fun _ h => nomatch h), rfl⟩ ?keep2 ?turn2 ?done2
    case keep2 =>
      rintro j σ H'' hj ⟨ms, v4, v5, rfl, hs2, _⟩
      exact SqL.of (hO.same hs2).lst
    case turn2 =>
      rintro j v σ H'' hv ⟨ms, v4, v5, rfl, hs2, hM, mne, em⟩
      obtain ⟨x, hx, rfl⟩ := orefs_at hv
      have hxm := List.mem_of_getElem? hx
      have hj := (List.getElem?_eq_some_iff.mp hx).1
      have xl : x.o.length = i := by
        refine ok0.2.2 _ ?_
        rw [← eo]
        exact List.mem_map.mpr ⟨x, hxm, rfl⟩
      have jb : j * (i + 1) + (i + 1) ≤ os.length * (i + 1) := by
        rw [← Nat.succ_mul]
        exact Nat.mul_le_mul_right _ hj
      have ml0 : ms.length = j * (i + 1) := by
        have h := congrArg List.length em
        rw [List.length_map, flat_len, List.length_map, List.length_take, Nat.min_eq_left (Nat.le_of_lt hj)] at h
        exact h
      refine ⟨_, rfl, _, _, rfl, rfl, (0 + (i : Int)) + 1, rfl, by omega, by omega, ?_⟩
      refine for_range (n := ((0 + (i : Int)) + 1).toNat) (fun k σ H3 => ∃ ms v5, σ = [some (.int m), some (.ref D), some (.int (0 + (i : Int))), some (.ref R), some (.ref x.a), v5] ∧ Same H' H3 ∧ OrdAt H3 R ms ∧ (∀ x ∈ ms, x.a ≠ R) ∧ ms.map Od.o = ((os.take j).map Od.o).flatMap (Rk.insAll i) ++ (List.range k).map fun k => x.o.take k ++ [(i : Int)] ++ x.o.drop k) ⟨ms, v5, rfl, hs2, hM, mne, by rw [em]; simp⟩ ?turn3 ?done3
      case turn3 =>
        rintro kk σ H3 hk ⟨ms, v5, rfl, hs3, hM3, mne3, em3⟩
        have ml : ms.length = j * (i + 1) + kk := by
          have h := congrArg List.length em3
          rw [List.length_map, List.length_append, flat_len, List.length_map, List.length_take, Nat.min_eq_left (Nat.le_of_lt hj), List.length_map, List.length_range] at h
          exact h
        have hxo : H3 x.a = some (.lst (x.o.map V.int)) := hs3 _ _ (hO.at_ x hxm)
        have kz : (0 : Int) + (kk : Int) = ((kk : Nat) : Int) := by omega
        refine ⟨_, rfl, .inl ⟨rfl, _, SqL.of hM3.lst⟩, _, rfl, _, rfl, _, rfl, x.a, _, rfl, SqL.of hxo, fun p1 hp1 => ?_⟩
        rw [kz, cut_lo x.o (show kk ≤ x.o.length by omega)]
        have a1 := same_new hp1 (.lst ((x.o.take kk).map V.int))
        refine ⟨_, rfl, sz1, fun p2 hp2 => ?_⟩
        have a2 := same_new hp2 (.lst [V.int (0 + (i : Int))])
        refine ⟨p1, p2, _, _, rfl, rfl, a2 _ _ upd_same, upd_same, (by rw [List.length_map, List.length_take]; exact Nat.le_of_lt (small1000 (by simp; omega))), fun p3 hp3 => ?_⟩
        have a3 := same_new hp3 (.lst ((x.o.take kk).map V.int ++ [V.int (0 + (i : Int))]))
        have hx3 := a3 _ _ (a2 _ _ (a1 _ _ hxo))
        refine ⟨_, rfl, _, rfl, _, rfl, x.a, _, rfl, SqL.of hx3, fun p4 hp4 => ?_⟩
        rw [cut_hi x.o (show kk ≤ x.o.length by omega)]
        have a4 := same_new hp4 (.lst ((x.o.drop kk).map V.int))
        refine ⟨p3, p4, _, _, rfl, rfl, a4 _ _ upd_same, upd_same, (by rw [List.length_append, List.length_map, List.length_take, List.length_map, List.length_drop]; exact Nat.le_of_lt (small1000 (by simp; omega))), fun p5 hp5 => ?_⟩
        have a5 := same_new hp5 (.lst ((x.o.take kk).map V.int ++ [V.int (0 + (i : Int))] ++ (x.o.drop kk).map V.int))
        have s15 := ((((a1.trans a2).trans a3).trans a4).trans a5)
        have hM5 := hM3.same s15
        have ne5 : p5 ≠ R := fun z => by
          have h := a4 _ _ (a3 _ _ (a2 _ _ (a1 _ _ hM3.lst)))
          rw [← z, hp5] at h
          cases h
        refine ⟨R, orefs ms, .ref p5, rfl, rfl, hM5.lst, by rw [orefs_length]; exact small1000 (by omega), ?_⟩
        refine ⟨ms ++ [⟨p5, x.o.take kk ++ [(i : Int)] ++ x.o.drop kk⟩], _, rfl, (hs3.trans s15).upd_new hR _, ⟨by rw [upd_same, orefs_snoc], fun y hy => ?_⟩, fun y hy => ?_, ?_⟩
        · rcases List.mem_append.mp hy with z | z
          · rw [upd_ne (mne3 y z)]
            exact hM5.at_ y z
          · rw [List.mem_singleton.mp z, upd_ne ne5]
            show upd _ p5 _ p5 = _
            rw [upd_same, List.map_append, List.map_append, Int.zero_add]
            rfl
        · rcases List.mem_append.mp hy with z | z
          · exact mne3 y z
          · rw [List.mem_singleton.mp z]
            exact ne5
        · rw [List.map_append, em3, List.range_succ, List.map_append, List.append_assoc]
          rfl
      case done3 =>
        rintro σ H3 ⟨ms, v5, rfl, hs3, hM3, mne3, em3⟩
        refine ⟨ms, _, _, rfl, hs3, hM3, mne3, ?_⟩
        have en : ((0 : Int) + (i : Int) + 1).toNat = i + 1 := by omega
        rw [en] at em3
        rw [em3, take_snoc hx, List.map_append, List.flatMap_append]
        congr 1
        show _ = Rk.insAll i x.o ++ []
        rw [List.append_nil]
        rfl
    case done2 =>
      rintro σ H'' ⟨ms, v4, v5, rfl, hs2, hM, mne, em⟩
      rw [orefs_length, List.take_length, eo] at em
      exact ⟨_, rfl, R, ms, _, _, _, _, rfl, hs.trans hs2, hM, em⟩
  case done =>
    rintro σ H' ⟨D, os, v2, v3, v4, v5, rfl, hs, hO, eo⟩
    exact ⟨_, rfl, q D H' os hs hO eo⟩
theorem ok__law_counted {n : Nat} {f : Addr} {fd : FuncData} (F : Fun K "_law_counted" "_law_counted" (top 34) f fd) {g__law_lowest : Addr} {gd__law_lowest : FuncData} (c__law_lowest : Cal P w K mg base n "_law_lowest" ["_law_top", "_law_bottom"] spLow g__law_lowest gd__law_lowest) {g__law_first_at : Addr} {gd__law_first_at : FuncData} (c__law_first_at : Cal P w K mg base n "_law_first_at" ["_law_order", "_law_places_here"] spFA g__law_first_at gd__law_first_at) {g__law_orders : Addr} {gd__law_orders : FuncData} (c__law_orders : Cal P w K mg base n "_law_orders" ["_law_many"] spOrd g__law_orders gd__law_orders) (z_len : mg "len" = none) : FnOk P w K mg base CX0 (n + 1) f fd ["_law_many", "_law_places_here"] spCntP := by
  refine F.ok sc__law_counted (fun vs H Q E h => ?_) (fun cdv A outer s H vs Q E hr h => ?_)
  · obtain ⟨m, b, ps, rfl, _⟩ := h
    rfl
  obtain ⟨m, b, ps, rfl, m1, m2, hb, q⟩ := h
  have nd := sc__law_counted.nd
  refine ⟨_, (pss_cons (ps_set (i := 2) nd rfl (Or.inl rfl) (pe_callC c__law_orders hr (pa_cons (pv 0) pa_nil))) (pss_cons (ps_set (i := 3) nd rfl (Or.inl rfl) (pe_callB call_len_seq rfl z_len bt_len (pa_cons (pe_comp (ls := ["_law_order"]) (M := ["_law_many", "_law_places_here", "_law_orders_here", "_law_good"]) rfl (CompOk.of (by rfl)) (NL.of (by rfl)) (pi_list (pv 2)) (fun _ _ _ _ => ⟨(pg_name (i := 0) (nd_of (by rfl)) rfl (Or.inl rfl)), (pts_one (pt_cmpR op_eq (pe_callC c__law_first_at hr (pa_cons (pv 0) (pa_cons (pv 2) pa_nil))) (pe_op op_sub (pv 1) pe_int) (nomark _))), (pv 0)⟩)) pa_nil))) (pss_one (ps_ret (pe_callC c__law_lowest hr (pa_cons (pv 3) (pa_cons (pe_callB call_len_seq rfl z_len bt_len (pa_cons (pv 2) pa_nil)) pa_nil))))))), ?_⟩
  refine ⟨_, rfl, m, rfl, m1, m2, fun r H1 os s1 hO eo => ?_⟩
  have ok := Rk.ord_ok (n := m.toNat) (by omega)
  have oln : os.length = (Rk.ordF m.toNat).length := by rw [← eo, List.length_map]
  have hb1 := s1 _ _ hb
  refine ⟨_, rfl, r, rfl, ⟨_, SqL.of hO.lst⟩, fun Dc hDc => ?_⟩
  refine comp_list (xs := orefs os) (fun i τ H' => ∃ v0 ys, τ = [v0, some (.int m), some (.ref b), some (.ref r), none] ∧ Same H1 H' ∧ H' Dc = some (.lst ys) ∧ ys.length = (((os.take i).map Od.o).filter fun o => decide (Rk.fa ps 0 (-1) o = m - 1)).length) ⟨none, [], rfl, same_new hDc _, upd_same, rfl⟩ ?keep ?turn ?done
  case keep =>
    rintro i τ H' hi ⟨v0, ys, rfl, hs, _⟩
    exact SqL.of (hO.same hs).lst
  case turn =>
    rintro i mm v τ H' hm hi hv ⟨v0, ys, rfl, hs, hD, yl⟩
    obtain ⟨x, hx, rfl⟩ := orefs_at hv
    have hxm := List.mem_of_getElem? hx
    have xl : x.o.length = m.toNat := by
      refine ok.2.2 _ ?_
      rw [← eo]
      exact List.mem_map.mpr ⟨x, hxm, rfl⟩
    have yb : ys.length ≤ 1000 := by
      rw [yl]
      refine Nat.le_trans (List.length_filter_le _ _) ?_
      rw [List.length_map, List.length_take]
      omega
    unfold gName
    refine ⟨_, rfl, _, rfl, x.a, b, x.o, ps, rfl, (hO.same hs).at_ x hxm, hs _ _ hb1, by omega, _, rfl, _, _, rfl, rfl, rfl, _, rfl, ?_⟩
    by_cases hc : Rk.fa ps 0 (-1) x.o = m - 1
    · refine ifT (by show decide (V.int (Rk.fa ps 0 (-1) x.o) = V.int (m - 1)) = true; rw [hc]; exact decide_eq_true rfl) ?_
      refine ⟨_, rfl, ?_⟩
      refine comp_next hm hi hD (small1000 yb) ⟨_, _, rfl, hs.upd_new hDc _, upd_same, ?_⟩
      rw [List.length_append, yl, take_snoc hx, List.map_append, List.filter_append, List.length_append]
      congr 1
      show 1 = ([x.o].filter _).length
      rw [List.filter_cons, if_pos (decide_eq_true hc)]
      rfl
    · refine ifF (by show decide (V.int (Rk.fa ps 0 (-1) x.o) = V.int (m - 1)) = false; exact decide_eq_false fun z => hc (by injection z)) ?_
      refine comp_skip hm hi ⟨_, ys, rfl, hs, hD, ?_⟩
      rw [yl, take_snoc hx, List.map_append, List.filter_append, List.length_append]
      show _ = _ + ([x.o].filter _).length
      rw [List.filter_cons, if_neg (by rw [decide_eq_false hc]; exact Bool.false_ne_true)]
      rfl
  case done =>
  rintro τ H2 ⟨v0, ys, rfl, s2, hD, yl⟩
  rw [orefs_length, List.take_length, eo] at yl
  have hO2 := hO.same s2
  refine ⟨Dc, _, rfl, .inl (SqL.of hD), ?_⟩
  refine ⟨_, rfl, _, rfl, r, _, rfl, .inl (SqL.of hO2.lst), _, _, rfl, ?_, ?_, fun p H3 s3 hp => q p H3 ((s1.trans s2).trans s3) ?_⟩
  · rw [orefs_length, oln]
    have := ok.2.1
    omega
  · rw [orefs_length, oln]
    have := ok.1
    exact Nat.le_trans (b64 (by omega) (by omega)) (by decide)
  · unfold Rk.cnP
    rw [yl, orefs_length, oln] at hp
    exact hp
theorem sh_bits {t b : Int} {x y : Nat} (hb : b ≠ 0) (h1 : intBits t ≤ x) (h2 : intBits b ≤ y) : intBits (Fr.sh t b).1 ≤ x ∧ intBits (Fr.sh t b).2 ≤ y :=
  ⟨PySem.intBits_le_of_natAbs (Fr.sh_le1 hb) h1, PySem.intBits_le_of_natAbs (Fr.sh_le2 hb) h2⟩
structure Fz (f : Rk.Fc) : Prop where
  pos : 0 < f.2
  t : intBits f.1 ≤ 2200
  b : intBits f.2 ≤ 2200
theorem Fz.sh {t b : Int} (hb : b ≠ 0) (h1 : intBits t ≤ 2200) (h2 : intBits b ≤ 2200) : Fz (Fr.sh t b) := ⟨Fr.sh_pos hb, (sh_bits hb h1 h2).1, (sh_bits hb h1 h2).2⟩
theorem Fz.gd {f : Rk.Fc} (g : Rk.Gd f) : Fz f := ⟨g.pos, Nat.le_trans (b1000 g.t) (by decide), Nat.le_trans (b1000 g.b) (by decide)⟩
theorem Fz.szs {f g : Rk.Fc} (h : Fz f) (k : Fz g) : SzS f.1 f.2 g.1 g.2 := ⟨Nat.le_trans h.t (by decide), Nat.le_trans h.b (by decide), Nat.le_trans k.t (by decide), Nat.le_trans k.b (by decide)⟩
theorem Fz.sz {f g : Rk.Fc} (h : Fz f) (k : Fz g) : Sz f.1 f.2 g.1 g.2 := ⟨Nat.le_trans h.t (by decide), Nat.le_trans h.b (by decide), Nat.le_trans k.t (by decide), Nat.le_trans k.b (by decide)⟩
theorem ne_mul {x y : Int} (hx : 0 < x) (hy : 0 < y) : x * y ≠ 0 := Int.ne_of_gt (Int.mul_pos hx hy)
theorem small_sh {t b : Int} (h1 : -1000000 ≤ t) (h2 : t ≤ 1000000) (h3 : 0 < b) (h4 : b ≤ 1000000) : Fz (Fr.sh t b) ∧ intBits (Fr.sh t b).1 ≤ 64 ∧ intBits (Fr.sh t b).2 ≤ 64 := by
  have z := sh_bits (t := t) (b := b) (by omega) (b64 h1 h2) (b64 (by omega) h4)
  exact ⟨⟨Fr.sh_pos (by omega), Nat.le_trans z.1 (by decide), Nat.le_trans z.2 (by decide)⟩, z⟩
theorem rw_good {m : Int} (hm : In60 m) {i : Nat} (hi : i ≤ m.toNat) : Fz (Rk.hd (Rk.turns (fun i p => Rk.rwStep m (m - i) p) i)) := by
  have ck := Rk.Ck.of hm.1 hm.2
  have h := Rk.turns_mem hi (Rk.turns_hd (fun i p => Rk.rwStep m (m - i) p) i)
  rw [ck.rw] at h
  exact Fz.gd (ck.good _ h)
theorem ok_rank_worths {n : Nat} {f : Addr} {fd : FuncData} (F : Fun K "rank_worths" "rank_worths" (top 21) f fd) {g_plus : Addr} {gd_plus : FuncData} (c_plus : Cal P w K mg base n "plus" ["one", "other"] (spFr K pT pB) g_plus gd_plus) {g_times : Addr} {gd_times : FuncData} (c_times : Cal P w K mg base n "times" ["one", "other"] (spFr K tT pB) g_times gd_times) {g_share : Addr} {gd_share : FuncData} (c_share : Cal P w K mg base n "share" ["top", "bottom"] spShare g_share gd_share) {g_over : Addr} {gd_over : FuncData} (c_over : Cal P w K mg base n "over" ["one", "other"] (spFr K oT oB) g_over gd_over) {g_whole : Addr} {gd_whole : FuncData} (c_whole : Cal P w K mg base n "whole" ["number"] spWh g_whole gd_whole) {g_greater : Addr} {gd_greater : FuncData} (c_greater : Cal P w K mg base n "greater" ["one", "other"] (spGr K) g_greater gd_greater) {g_need_many : Addr} {gd_need_many : FuncData} (c_need_many : Cal P w K mg base n "need_many" ["many"] spNeed g_need_many gd_need_many) (z_range : mg "range" = none) : FnOk P w K mg base CX0 (n + 1) f fd ["many"] spRW := by
  refine F.ok sc_rank_worths (fun vs H Q E h => ?_) (fun cdv A outer s H vs Q E hr h => ?_)
  · obtain ⟨m, rfl, _⟩ := h
    rfl
  obtain ⟨m, rfl, hm, q⟩ := h
  have nd := sc_rank_worths.nd
  refine ⟨_, (pss_cons (ps_expr (pe_callC c_need_many hr (pa_cons (pv 0) pa_nil))) (pss_cons (ps_set (i := 1) nd rfl (Or.inl rfl) (pe_lst (pa_cons (pe_callC c_whole hr (pa_cons pe_int pa_nil)) pa_nil))) (pss_cons (ps_for PassesOwn.never rfl (pi_rangeD rfl z_range (pa_cons (pv 0) (pa_cons pe_int (pa_cons (pe_un un_neg pe_int) pa_nil)))) (pg_name (i := 2) nd rfl (Or.inl rfl)) (pss_cons (ps_set (i := 3) nd rfl (Or.inl rfl) (pe_ix ix_list (pv 1) pe_int (fun _ _ => rfl))) (pss_cons (ps_set (i := 4) nd rfl (Or.inl rfl) (pe_callC c_over hr (pa_cons (pe_callC c_greater hr (pa_cons (pe_callC c_share hr (pa_cons (pv 2) (pa_cons (pv 0) pa_nil))) (pa_cons (pv 3) pa_nil))) (pa_cons (pe_callC c_whole hr (pa_cons (pv 2) pa_nil)) pa_nil)))) (pss_one (ps_set (i := 1) nd rfl (Or.inl rfl) (pe_op op_cat (pe_lst (pa_cons (pe_callC c_plus hr (pa_cons (pv 4) (pa_cons (pe_callC c_times hr (pa_cons (pv 3) (pa_cons (pe_callC c_share hr (pa_cons (pe_op op_sub (pv 2) pe_int) (pa_cons (pv 2) pa_nil))) pa_nil))) pa_nil))) pa_nil)) (pv 1))))))) (pss_one (ps_ret (pv 1)))))), ?_⟩
  obtain ⟨m1, m2⟩ := id hm
  have ck := Rk.Ck.of hm.1 hm.2
  refine ⟨_, rfl, m, rfl, hm, ?_⟩
  refine ⟨0, rfl, fun p0 H1 s1 h0 => ⟨sz1, fun D hD => ?_⟩⟩
  have n1 := same_new hD (.lst [V.ref p0])
  have hDn : H D = none := s1.free hD
  refine ⟨_, rfl, _, rfl, m, 0, rfl, ⟨by omega, by omega, by omega, by omega⟩, ?_⟩
  refine for_rangeD (n := (m - 0).toNat) (fun i σ H' => ∃ D rs v2 v3 v4, σ = [some (.int m), some (.ref D), v2, v3, v4] ∧ H D = none ∧ Same H H' ∧ FrsAt H' D rs ∧ vals rs = Rk.turns (fun i p => Rk.rwStep m (m - i) p) i) ⟨D, [⟨p0, 0, 1⟩], none, none, none, rfl, hDn, s1.trans n1, ⟨upd_same, fun r hr => by rw [List.mem_singleton.mp hr]; exact n1 _ _ h0⟩, rfl⟩ ?turn ?done
  case turn =>
    rintro i σ H' hi ⟨D, rs, v2, v3, v4, rfl, hDn, hs, hF, ev⟩
    have lenr : rs.length = i + 1 := by
      have h := congrArg List.length ev
      rw [vals_length, Rk.turns_len] at h
      exact h
    obtain ⟨x, rt, rfl⟩ : ∃ x rt, rs = x :: rt := by
      cases rs with
      | nil => simp at lenr
      | cons x rt => exact ⟨x, rt, rfl⟩
    have ehd : (x.t, x.b) = Rk.hd (Rk.turns (fun i p => Rk.rwStep m (m - i) p) i) := by rw [← ev]; rfl
    have fz := rw_good hm (i := i) (by omega)
    rw [← ehd] at fz
    have gd : Rk.Gd (x.t, x.b) := by
      have h := Rk.turns_mem (show i ≤ m.toNat by omega) (Rk.turns_hd (fun i p => Rk.rwStep m (m - i) p) i)
      rw [ck.rw, ← ehd] at h
      exact ck.good _ h
    have wz : Fz (m - (i : Int), (1 : Int)) := ⟨show (0 : Int) < 1 by decide, Nat.le_trans (b64 (x := m - (i : Int)) (by omega) (by omega)) (by decide), show intBits 1 ≤ 2200 by decide⟩
    have oz : Fz ((1 : Int), (1 : Int)) := ⟨by decide, by decide, by decide⟩
    have hx : FcAt H' x.q (x.t, x.b) := hF.at_ x List.mem_cons_self
    refine ⟨_, rfl, D, _, _, _, rfl, rfl, SqL.of hF.lst, atI_nat (j := 0) rfl, ?_⟩
    have sm := small_sh (t := m - (i : Int)) (b := m) (by omega) (by omega) (by omega) (by omega)
    refine ⟨_, rfl, _, rfl, m - (i : Int), m, rfl, by omega, Nat.le_trans (b64 (by omega) (by omega)) (by decide), fun p1 H1 s1 hp1 => ?_⟩
    have hx1 : FcAt H1 x.q (x.t, x.b) := s1 _ _ hx
    have gz : Fz (Rk.gr (Fr.sh (m - (i : Int)) m) (x.t, x.b)) ∧ intBits (Rk.gr (Fr.sh (m - (i : Int)) m) (x.t, x.b)).1 ≤ 1000 ∧ intBits (Rk.gr (Fr.sh (m - (i : Int)) m) (x.t, x.b)).2 ≤ 1000 := by
      unfold Rk.gr
      split
      · exact ⟨fz, b1000 gd.t, b1000 gd.b⟩
      · exact ⟨sm.1, Nat.le_trans sm.2.1 (by decide), Nat.le_trans sm.2.2 (by decide)⟩
    refine ⟨_, rfl, p1, x.q, _, _, _, _, rfl, sq_fc hp1, sq_fc hx1, sm.1.sz fz, fun hl => ?_, fun hl => ?_⟩
    · have eg : Rk.gr (Fr.sh (m - (i : Int)) m) (x.t, x.b) = (x.t, x.b) := if_pos (show Rk.lt (Fr.sh (m - (i : Int)) m) (x.t, x.b) = true from decide_eq_true hl)
      rw [eg] at gz
      refine ⟨_, rfl, m - (i : Int), rfl, fun p2 H2 s2 hp2 => ?_⟩
      refine ⟨x.q, p2, _, _, _, _, rfl, sq_fc (s2 _ _ hx1), sq_fc hp2, gz.1.szs wz, ne_mul gz.1.pos (show (0 : Int) < m - (i : Int) by omega), fun p3 H3 s3 hp3 => ?_⟩
      have z3 : Fz (Rk.ov (x.t, x.b) (m - (i : Int), 1)) ∧ intBits (Rk.ov (x.t, x.b) (m - (i : Int), 1)).1 ≤ 1064 ∧ intBits (Rk.ov (x.t, x.b) (m - (i : Int), 1)).2 ≤ 1064 := by
        have hb : (x.t, x.b).2 * (m - (i : Int)) ≠ 0 := ne_mul gz.1.pos (by omega)
        have z := sh_bits (t := (x.t, x.b).1 * 1) (b := (x.t, x.b).2 * (m - (i : Int))) hb (PySem.intBits_mul_le gz.2.1 (b64 (by decide) (by decide))) (PySem.intBits_mul_le gz.2.2 (b64 (by omega) (by omega)))
        exact ⟨⟨Fr.sh_pos hb, Nat.le_trans z.1 (by decide), Nat.le_trans z.2 (by decide)⟩, z⟩
      have s13 := (s1.trans s2).trans s3
      have sp := small_sh (t := m - (i : Int) - 1) (b := m - (i : Int)) (by omega) (by omega) (by omega) (by omega)
      refine ⟨_, rfl, _, rfl, _, rfl, _, _, rfl, rfl, _, rfl, m - (i : Int) - 1, m - (i : Int), rfl, by omega, Nat.le_trans (b64 (by omega) (by omega)) (by decide), fun p5 H5 s5 hp5 => ?_⟩
      have s15 := s13.trans s5
      refine ⟨x.q, p5, _, _, _, _, rfl, sq_fc (s15 _ _ hx), sq_fc hp5, fz.szs sp.1, ne_mul fz.pos sp.1.pos, fun p7 H7 s7 hp7 => ?_⟩
      have z7 : Fz (Rk.ti (x.t, x.b) (Fr.sh (m - (i : Int) - 1) (m - (i : Int)))) := Fz.sh (ne_mul fz.pos sp.1.pos) (Nat.le_trans (PySem.intBits_mul_le (b1000 gd.t) sp.2.1) (by decide)) (Nat.le_trans (PySem.intBits_mul_le (b1000 gd.b) sp.2.2) (by decide))
      have s37 := s5.trans s7
      refine ⟨p3, p7, _, _, _, _, rfl, sq_fc (s37 _ _ hp3), sq_fc hp7, z3.1.szs z7, ne_mul z3.1.pos z7.pos, fun p8 H8 s8 hp8 => ?_⟩
      refine ⟨sz1, fun L1 hL1 => ?_⟩
      have nL := same_new hL1 (.lst [V.ref p8])
      have s18 := (s13.trans s37).trans (s8.trans nL)
      have hF8 := hF.same s18
      refine ⟨_, rfl, L1, D, _, _, rfl, rfl, upd_same, hF8.lst, by rw [rrefs_length]; exact Nat.le_of_lt (small1000 (by show 1 + _ ≤ _; omega)), fun L2 hL2 => ?_⟩
      have nL2 := same_new hL2 (.lst ([V.ref p8] ++ rrefs (x :: rt)))
      have sE := hs.trans (s18.trans nL2)
      refine ⟨L2, ⟨p8, (Rk.rwStep m (m - (i : Int)) (x.t, x.b)).1, (Rk.rwStep m (m - (i : Int)) (x.t, x.b)).2⟩ :: x :: rt, _, _, _, rfl, (hs.trans s18).free hL2, sE, ⟨upd_same, fun r hr => ?_⟩, ?_⟩
      · rcases List.mem_cons.mp hr with z | z
        · rw [z]
          refine nL2 _ _ (nL _ _ ?_)
          unfold Rk.rwStep
          rw [eg]
          exact hp8
        · exact nL2 _ _ (hF8.at_ r z)
      · show (_ :: vals (x :: rt)) = Rk.rwStep m (m - (i : Int)) (Rk.hd (Rk.turns (fun i p => Rk.rwStep m (m - i) p) i)) :: Rk.turns (fun i p => Rk.rwStep m (m - i) p) i
        rw [← ehd, ← ev]
    · have eg : Rk.gr (Fr.sh (m - (i : Int)) m) (x.t, x.b) = Fr.sh (m - (i : Int)) m := if_neg (show ¬ Rk.lt (Fr.sh (m - (i : Int)) m) (x.t, x.b) = true by unfold Rk.lt; rw [decide_eq_false hl]; exact Bool.false_ne_true)
      rw [eg] at gz
      refine ⟨_, rfl, m - (i : Int), rfl, fun p2 H2 s2 hp2 => ?_⟩
      refine ⟨p1, p2, _, _, _, _, rfl, sq_fc (s2 _ _ hp1), sq_fc hp2, gz.1.szs wz, ne_mul gz.1.pos (show (0 : Int) < m - (i : Int) by omega), fun p3 H3 s3 hp3 => ?_⟩
      have z3 : Fz (Rk.ov (Fr.sh (m - (i : Int)) m) (m - (i : Int), 1)) ∧ intBits (Rk.ov (Fr.sh (m - (i : Int)) m) (m - (i : Int), 1)).1 ≤ 1064 ∧ intBits (Rk.ov (Fr.sh (m - (i : Int)) m) (m - (i : Int), 1)).2 ≤ 1064 := by
        have hb : (Fr.sh (m - (i : Int)) m).2 * (m - (i : Int)) ≠ 0 := ne_mul gz.1.pos (by omega)
        have z := sh_bits (t := (Fr.sh (m - (i : Int)) m).1 * 1) (b := (Fr.sh (m - (i : Int)) m).2 * (m - (i : Int))) hb (PySem.intBits_mul_le gz.2.1 (b64 (by decide) (by decide))) (PySem.intBits_mul_le gz.2.2 (b64 (by omega) (by omega)))
        exact ⟨⟨Fr.sh_pos hb, Nat.le_trans z.1 (by decide), Nat.le_trans z.2 (by decide)⟩, z⟩
      have s13 := (s1.trans s2).trans s3
      have sp := small_sh (t := m - (i : Int) - 1) (b := m - (i : Int)) (by omega) (by omega) (by omega) (by omega)
      refine ⟨_, rfl, _, rfl, _, rfl, _, _, rfl, rfl, _, rfl, m - (i : Int) - 1, m - (i : Int), rfl, by omega, Nat.le_trans (b64 (by omega) (by omega)) (by decide), fun p5 H5 s5 hp5 => ?_⟩
      have s15 := s13.trans s5
      refine ⟨x.q, p5, _, _, _, _, rfl, sq_fc (s15 _ _ hx), sq_fc hp5, fz.szs sp.1, ne_mul fz.pos sp.1.pos, fun p7 H7 s7 hp7 => ?_⟩
      have z7 : Fz (Rk.ti (x.t, x.b) (Fr.sh (m - (i : Int) - 1) (m - (i : Int)))) := Fz.sh (ne_mul fz.pos sp.1.pos) (Nat.le_trans (PySem.intBits_mul_le (b1000 gd.t) sp.2.1) (by decide)) (Nat.le_trans (PySem.intBits_mul_le (b1000 gd.b) sp.2.2) (by decide))
      have s37 := s5.trans s7
      refine ⟨p3, p7, _, _, _, _, rfl, sq_fc (s37 _ _ hp3), sq_fc hp7, z3.1.szs z7, ne_mul z3.1.pos z7.pos, fun p8 H8 s8 hp8 => ?_⟩
      refine ⟨sz1, fun L1 hL1 => ?_⟩
      have nL := same_new hL1 (.lst [V.ref p8])
      have s18 := (s13.trans s37).trans (s8.trans nL)
      have hF8 := hF.same s18
      refine ⟨_, rfl, L1, D, _, _, rfl, rfl, upd_same, hF8.lst, by rw [rrefs_length]; exact Nat.le_of_lt (small1000 (by show 1 + _ ≤ _; omega)), fun L2 hL2 => ?_⟩
      have nL2 := same_new hL2 (.lst ([V.ref p8] ++ rrefs (x :: rt)))
      have sE := hs.trans (s18.trans nL2)
      refine ⟨L2, ⟨p8, (Rk.rwStep m (m - (i : Int)) (x.t, x.b)).1, (Rk.rwStep m (m - (i : Int)) (x.t, x.b)).2⟩ :: x :: rt, _, _, _, rfl, (hs.trans s18).free hL2, sE, ⟨upd_same, fun r hr => ?_⟩, ?_⟩
      · rcases List.mem_cons.mp hr with z | z
        · rw [z]
          refine nL2 _ _ (nL _ _ ?_)
          unfold Rk.rwStep
          rw [eg]
          exact hp8
        · exact nL2 _ _ (hF8.at_ r z)
      · show (_ :: vals (x :: rt)) = Rk.rwStep m (m - (i : Int)) (Rk.hd (Rk.turns (fun i p => Rk.rwStep m (m - i) p) i)) :: Rk.turns (fun i p => Rk.rwStep m (m - i) p) i
        rw [← ehd, ← ev]
  case done =>
    rintro σ H' ⟨D, rs, v2, v3, v4, rfl, hDn, hs, hF, ev⟩
    have e0 : (m - 0).toNat = m.toNat := by omega
    rw [e0, ck.rw] at ev
    exact ⟨_, rfl, q D H' rs hs hDn hF ev⟩
theorem ints_eq {H : Hp} {a b : Addr} {ns : List Int} (h1 : H a = some (.lst (ns.map V.int))) (h2 : H b = some (.lst (ns.map V.int))) : DE K H 1 (.ref a) (.ref b) true := by
  have d := DE.lst (K := K) (n := 0) (fun _ => true) (SqL.of h1) (SqL.of h2) rfl (fun j x y hx hy => by
    rw [hx] at hy
    cases hy
    rw [List.getElem?_map] at hx
    cases e : ns[j]? with
    | none => rw [e] at hx; cases hx
    | some c =>
      rw [e] at hx
      cases hx
      have h := DE.int (K := K) (H := H) 0 c c
      rw [beq_self_eq_true] at h
      exact h)
  have e : (List.range (ns.map V.int).length).all (fun _ => true) = true := by simp
  rw [e] at d
  exact d
theorem all_rep (n : Nat) : (List.replicate n true).all id = true := by simp
theorem sort_is {ms ps : List Int} (pm : ms.Perm ps) (so : ms.Pairwise (· ≤ ·)) (hr : ps.Pairwise (· < ·)) : ms = ps := by
  have nd : ms.Nodup := pm.nodup_iff.mpr (hr.imp fun h => by omega)
  exact Rk.ris_eq ((List.Pairwise.and so nd).imp fun h => by omega) hr fun x => pm.mem_iff
theorem SzS.rg {f g : Rk.Fc} {n : Nat} (hf : Rk.Rg f n) (hg : Rk.Rg g n) (h : n ≤ 4400) : SzS f.1 f.2 g.1 g.2 := ⟨Nat.le_trans hf.t h, Nat.le_trans hf.b h, Nat.le_trans hg.t h, Nat.le_trans hg.b h⟩
theorem Rg.up {f : Rk.Fc} {n m : Nat} (h : Rk.Rg f n) (hm : n ≤ m) : Rk.Rg f m := ⟨h.fr, Nat.le_trans h.t hm, Nat.le_trans h.b hm⟩
theorem b64s {x : Int} (h0 : 0 ≤ x) (h1 : x ≤ 100) : intBits x ≤ 64 := b64 (by omega) (by omega)
theorem ok_is_places {n : Nat} {f : Addr} {fd : FuncData} (F : Fun K "is_places" "is_places" (top 19) f fd) {g_is_whole : Addr} {gd_is_whole : FuncData} (c_is_whole : Cal P w K mg base n "is_whole" ["thing", "least", "most"] spIsW g_is_whole gd_is_whole) (z_all : mg "all" = none) (z_isinstance : mg "isinstance" = none) (z_list : mg "list" = none) (z_set : mg "set" = none) (z_sorted : mg "sorted" = none) : FnOk P w K mg base CX0 (n + 1) f fd ["places", "many"] spPlG := by
  refine F.ok sc_is_places (fun vs H Q E h => ?_) (fun cdv A outer s H vs Q E hr h => ?_)
  · obtain ⟨b, m, ps, rfl, _⟩ := h
    rfl
  obtain ⟨b, m, ps, rfl, hb, g, q⟩ := h
  have nd := sc_is_places.nd
  have hu1 : _ + 0 + 1 < cLine := Nat.lt_of_le_of_lt (Nat.add_le_add_left (by decide : 1 ≤ 64) _) (Room.units hr)
  refine ⟨_, (pss_cons (ps_if (PW.pt (pw_or (pt_not (pt_val (pe_callB (call_isinst (T := "list")) rfl z_isinstance bt_isinstance (pa_cons (pv 0) (pa_cons (pe_bltn (v := .ty "list") rfl z_list bt_list rfl) pa_nil))))) (pw_or1 (pt_not (pt_val (pe_callB (call_allL rfl rfl) rfl z_all bt_all (pa_cons (pe_comp (ls := ["place"]) (M := ["places", "many"]) rfl (CompOk.of (by rfl)) (NL.of (by rfl)) (pi_list (pv 0)) (fun _ _ _ _ => ⟨(pg_name (i := 0) (nd_of (by rfl)) rfl (Or.inl rfl)), pts_nil, (pe_callC c_is_whole hr (pa_cons (pv 0) (pa_cons pe_int (pa_cons (pv 2) pa_nil))))⟩)) pa_nil))))))) (pss_one (ps_ret pe_bl)) pss_nil) (pss_one (ps_ret (pe_cmpR (op_eqD (n := 0) hu1) (pv 0) (pe_callB (call_sortedNK (w := w) rfl rfl) rfl z_sorted bt_sorted (pa_cons (pe_callTy (call_setNK (K := K) (w := w) rfl rfl rfl) rfl z_set bt_set1 (pa_cons (pv 0) pa_nil)) pa_nil)) (nomark _))))), ?_⟩
  have hlen := g.len
  refine ⟨_, rfl, _, _, _, rfl, .lst hb, kit_same _, _, rfl, ?_⟩
  refine iteF ?_
  refine ⟨_, rfl, b, rfl, ⟨_, SqL.of hb⟩, fun D hD => ?_⟩
  refine comp_list (xs := ps.map V.int) (fun i τ H' => ∃ v0, τ = [v0, some (.ref b), some (.int m)] ∧ Same H H' ∧ H' D = some (.lst ((List.replicate i true).map V.bl))) ⟨none, rfl, same_new hD _, upd_same⟩ ?keep ?turn ?done
  case keep =>
    rintro i τ H' hi ⟨v0, rfl, hs, _⟩
    exact SqL.of (hs _ _ hb)
  case turn =>
    rintro i mm v τ H' hm hi hv ⟨v0, rfl, hs, hD'⟩
    rw [List.getElem?_map] at hv
    cases e : ps[i]? with
    | none => rw [e] at hv; cases hv
    | some p =>
      rw [e] at hv
      cases hv
      have hp := List.mem_of_getElem? e
      have hil := (List.getElem?_eq_some_iff.mp e).1
      refine gyes ?_
      refine ⟨_, rfl, _, rfl, p, 1, m, rfl, g.lo p hp, g.hi p hp, ?_⟩
      refine comp_next hm hi hD' (by rw [List.length_map, List.length_replicate]; exact small1000 (by omega)) ⟨_, rfl, hs.upd_new hD _, ?_⟩
      rw [upd_same, List.replicate_succ', List.map_append]
      rfl
  case done =>
    rintro τ H' ⟨v0, rfl, hs, hD'⟩
    refine ⟨D, List.replicate (ps.map V.int).length true, rfl, SqL.of hD', _, rfl, ?_⟩
    rw [all_rep]
    refine iteF ?_
    refine ⟨_, rfl, _, rfl, b, ps, rfl, SqL.of (hs _ _ hb), by have : PySem.scanBound = 4096 := rfl; omega, g.nd, fun r hr => ?_⟩
    have s1 := same_new hr (.ext (SetN w r ps))
    refine ⟨r, ps, rfl, upd_same, by omega, fun l ms hl pm so => ?_⟩
    obtain rfl := sort_is pm so g.ris
    have s2 := same_new hl (.lst (ms.map V.int))
    exact ⟨b, l, true, rfl, rfl, ints_eq ((hs.trans (s1.trans s2)) _ _ hb) upd_same, q _ (hs.trans (s1.trans s2))⟩
theorem ok_need_places {n : Nat} {f : Addr} {fd : FuncData} (F : Fun K "need_places" "need_places" (top 20) f fd) {g_is_places : Addr} {gd_is_places : FuncData} (c_is_places : Cal P w K mg base n "is_places" ["places", "many"] spPlG g_is_places gd_is_places) {g_need_many : Addr} {gd_need_many : FuncData} (c_need_many : Cal P w K mg base n "need_many" ["many"] spNeed g_need_many gd_need_many) : FnOk P w K mg base CX0 (n + 1) f fd ["many", "places"] spNPG := by
  refine F.ok sc_need_places (fun vs H Q E h => ?_) (fun cdv A outer s H vs Q E hr h => ?_)
  · obtain ⟨b, m, ps, rfl, _⟩ := h
    rfl
  obtain ⟨b, m, ps, rfl, hb, g, q⟩ := h
  have nd := sc_need_places.nd
  refine ⟨_, (pss_cons (ps_expr (pe_callC c_need_many hr (pa_cons (pv 0) pa_nil))) (pss_one (ps_if (pt_not (pt_val (pe_callC c_is_places hr (pa_cons (pv 1) (pa_cons (pv 0) pa_nil))))) (pss_one ps_never) pss_nil))), ?_⟩
  refine ⟨_, rfl, m, rfl, ⟨g.m1, g.m60⟩, ?_⟩
  refine ⟨_, rfl, _, rfl, b, m, ps, rfl, hb, g, fun H1 s1 => ?_⟩
  refine ⟨_, rfl, ?_⟩
  exact iteF (q H1 s1)
theorem ok_reached_places {n : Nat} {f : Addr} {fd : FuncData} (F : Fun K "reached_places" "reached_places" (top 22) f fd) {g_times : Addr} {gd_times : FuncData} (c_times : Cal P w K mg base n "times" ["one", "other"] (spFr K tT pB) g_times gd_times) {g_share : Addr} {gd_share : FuncData} (c_share : Cal P w K mg base n "share" ["top", "bottom"] spShare g_share gd_share) {g_whole : Addr} {gd_whole : FuncData} (c_whole : Cal P w K mg base n "whole" ["number"] spWh g_whole gd_whole) (z_range : mg "range" = none) : FnOk P w K mg base CX0 (n + 1) f fd ["many", "places"] spRP := by
  refine F.ok sc_reached_places (fun vs H Q E h => ?_) (fun cdv A outer s H vs Q E hr h => ?_)
  · obtain ⟨b, m, ps, rfl, _⟩ := h
    rfl
  obtain ⟨b, m, ps, rfl, hb, g, q⟩ := h
  have nd := sc_reached_places.nd
  refine ⟨_, (pss_cons (ps_set (i := 2) nd rfl (Or.inl rfl) (pe_callC c_whole hr (pa_cons pe_int pa_nil))) (pss_cons (ps_set (i := 3) nd rfl (Or.inl rfl) (pe_lst pa_nil)) (pss_cons (ps_for PassesOwn.never rfl (pi_range2 rfl z_range (pa_cons pe_int (pa_cons (pe_op op_add (pv 0) pe_int) pa_nil))) (pg_name (i := 4) nd rfl (Or.inl rfl)) (pss_cons (ps_expr (pe_bm PySem.F.plainAttrs_list PySem.F.slot_list_append PySem.F.type_list_append mt_append (pv 3) (pa_cons (pv 2) pa_nil))) (pss_one (ps_if (pt_cmpR op_in_seq (pv 4) (pv 1) rfl) (pss_one (ps_set (i := 2) nd rfl (Or.inl rfl) (pe_callC c_times hr (pa_cons (pv 2) (pa_cons (pe_callC c_share hr (pa_cons (pe_op op_sub (pv 4) pe_int) (pa_cons (pv 4) pa_nil))) pa_nil))))) pss_nil)))) (pss_one (ps_ret (pv 3)))))), ?_⟩
  have m1 := g.m1
  have m2 := g.m60
  refine ⟨1, rfl, fun p0 H1 s1 h0 => ?_⟩
  refine ⟨Nat.zero_le _, fun D hD => ?_⟩
  have n1 := same_new hD (.lst [])
  have hDn : H D = none := s1.free hD
  refine ⟨_, rfl, _, _, rfl, rfl, 1, m + 1, rfl, ⟨by omega, by omega, by omega, by omega⟩, ?_⟩
  refine for_range (n := (m + 1 - 1).toNat) (fun i σ H' => ∃ p rs v4, σ = [some (.int m), some (.ref b), some (.ref p), some (.ref D), v4] ∧ Same H H' ∧ FcAt H' p (Rk.rc ps i) ∧ FrsAt H' D rs ∧ vals rs = (List.range i).map (Rk.rc ps)) ⟨p0, [], none, rfl, s1.trans n1, n1 _ _ h0, ⟨upd_same, fun _ h => nomatch h⟩, rfl⟩ ?turn ?done
  case turn =>
    rintro i σ H' hi ⟨p, rs, v4, rfl, hs, hp, hF, ev⟩
    have lenr : rs.length = i := by
      have h := congrArg List.length ev
      rw [vals_length, List.length_map, List.length_range] at h
      exact h
    refine ⟨_, rfl, .inl ⟨rfl, _, SqL.of hF.lst⟩, _, rfl, D, rrefs rs, .ref p, rfl, rfl, hF.lst, by rw [rrefs_length]; exact small1000 (by omega), ?_⟩
    have hF2 := FrsAt.push (r := ⟨p, _, _⟩) hF hp
    have hs2 := hs.upd_new hDn (.lst (rrefs rs ++ [V.ref p]))
    have hp2 : FcAt (upd H' D (.lst (rrefs rs ++ [V.ref p]))) p (Rk.rc ps i) := hF2.at_ ⟨p, _, _⟩ (List.mem_append_right _ (.head _))
    have ev2 : vals (rs ++ [⟨p, (Rk.rc ps i).1, (Rk.rc ps i).2⟩]) = (List.range (i + 1)).map (Rk.rc ps) := by
      unfold vals
      rw [List.map_append, List.range_succ, List.map_append]
      show vals rs ++ _ = _
      rw [ev]
      rfl
    generalize upd H' D (.lst (rrefs rs ++ [V.ref p])) = H2 at hF2 hs2 hp2 ⊢
    have rz := Rk.rc_z ps (k := i) (by omega)
    refine ⟨_, rfl, _, rfl, b, _, rfl, .inl (SqL.of (hs2 _ _ hb)), rfl, flat_ints ps, _, rfl, ?_⟩
    by_cases hin : (1 + (i : Int)) ∈ ps
    · refine ifT (by show (if false = true then _ else inV (V.int (1 + (i : Int))) (ps.map V.int)) = true; rw [if_neg Bool.false_ne_true, in_ints]; exact decide_eq_true hin) ?_
      refine ⟨_, rfl, _, rfl, _, _, rfl, rfl, _, rfl, 1 + (i : Int) - 1, 1 + (i : Int), rfl, by omega, Nat.le_trans (b64s (by omega) (by omega)) (by decide), fun p1 H3 s3 hp1 => ?_⟩
      have sz := Rk.sh_rg (t := 1 + (i : Int) - 1) (b := 1 + (i : Int)) (n := 6) (by omega) (Rk.bits6 (by omega) (by omega)) (Rk.bits6 (by omega) (by omega))
      refine ⟨p, p1, _, _, _, _, rfl, sq_fc (s3 _ _ hp2), sq_fc hp1, SzS.rg rz (Rg.up sz (by decide)) (by decide), Int.mul_ne_zero (Int.ne_of_gt rz.fr.pos) (Int.ne_of_gt sz.fr.pos), fun p2 H4 s4 hp4 => ?_⟩
      have e : Rk.rc ps (i + 1) = Rk.ti (Rk.rc ps i) (Fr.sh (1 + (i : Int) - 1) (1 + (i : Int))) := if_pos hin
      exact ⟨p2, _, _, rfl, hs2.trans (s3.trans s4), by rw [e]; exact hp4, hF2.same (s3.trans s4), ev2⟩
    · refine ifF (by show (if false = true then _ else inV (V.int (1 + (i : Int))) (ps.map V.int)) = false; rw [if_neg Bool.false_ne_true, in_ints]; exact decide_eq_false hin) ?_
      have e : Rk.rc ps (i + 1) = Rk.rc ps i := if_neg hin
      exact ⟨p, _, _, rfl, hs2, by rw [e]; exact hp2, hF2, ev2⟩
  case done =>
    rintro σ H' ⟨p, rs, v4, rfl, hs, hp, hF, ev⟩
    rw [show (m + 1 - 1).toNat = m.toNat by omega] at ev
    exact ⟨_, rfl, q D H' rs hs hF ev⟩
theorem vals_at {rs : List Rs} {l : List Rk.Fc} (ev : vals rs = l) {i : Nat} {f : Rk.Fc} (h : l[i]? = some f) : ∃ x, rs[i]? = some x ∧ (x.t, x.b) = f := by
  rw [← ev] at h
  unfold vals at h
  rw [List.getElem?_map] at h
  cases e : rs[i]? with
  | none => rw [e] at h; cases h
  | some x => rw [e] at h; cases h; exact ⟨x, rfl, rfl⟩
theorem rrefs_get {rs : List Rs} {i : Nat} {x : Rs} (h : rs[i]? = some x) : (rrefs rs)[i]? = some (V.ref x.q) := by unfold rrefs; rw [List.getElem?_map, h]; rfl
theorem range_at {f : Nat → Rk.Fc} {n i : Nat} (h : i < n) : ((List.range n).map f)[i]? = some (f i) := by rw [List.getElem?_map, List.getElem?_range h]; rfl
theorem frs_get {H : Hp} {a : Addr} {rs : List Rs} {l : List Rk.Fc} (h : FrsAt H a rs) (ev : vals rs = l) {i : Nat} {f : Rk.Fc} (hi : l[i]? = some f) : ∃ x : Rs, atI (rrefs rs) (i : Int) = some (.ref x.q) ∧ FcAt H x.q f := by
  obtain ⟨x, hx, e⟩ := vals_at ev hi
  refine ⟨x, atI_nat (rrefs_get hx), ?_⟩
  have := h.at_ x (List.mem_of_getElem? hx)
  rw [← e]
  exact this
theorem ok_share_by {n : Nat} {f : Addr} {fd : FuncData} (F : Fun K "share_by" "share_by" (top 23) f fd) {g_times : Addr} {gd_times : FuncData} (c_times : Cal P w K mg base n "times" ["one", "other"] (spFr K tT pB) g_times gd_times) {g_total : Addr} {gd_total : FuncData} (c_total : Cal P w K mg base n "total" ["fractions"] spTotN g_total gd_total) {g_share : Addr} {gd_share : FuncData} (c_share : Cal P w K mg base n "share" ["top", "bottom"] spShare g_share gd_share) {g_reached_places : Addr} {gd_reached_places : FuncData} (c_reached_places : Cal P w K mg base n "reached_places" ["many", "places"] spRP g_reached_places gd_reached_places) {g_need_places : Addr} {gd_need_places : FuncData} (c_need_places : Cal P w K mg base n "need_places" ["many", "places"] spNPG g_need_places gd_need_places) : FnOk P w K mg base CX0 (n + 1) f fd ["many", "places"] spSB := by
  refine F.ok sc_share_by (fun vs H Q E h => ?_) (fun cdv A outer s H vs Q E hr h => ?_)
  · obtain ⟨b, m, ps, rfl, _⟩ := h
    rfl
  obtain ⟨b, m, ps, rfl, hb, g, q⟩ := h
  have nd := sc_share_by.nd
  refine ⟨_, (pss_cons (ps_expr (pe_callC c_need_places hr (pa_cons (pv 0) (pa_cons (pv 1) pa_nil)))) (pss_cons (ps_set (i := 2) nd rfl (Or.inr rfl) (pe_callC c_reached_places hr (pa_cons (pv 0) (pa_cons (pv 1) pa_nil)))) (pss_one (ps_ret (pe_callC c_times hr (pa_cons (pe_callC c_share hr (pa_cons pe_int (pa_cons (pv 0) pa_nil))) (pa_cons (pe_callC c_total hr (pa_cons (pe_comp (ls := ["place"]) (M := ["many", "places", "reached"]) rfl (CompOk.of (by rfl)) (NL.of (by rfl)) (pi_list (pv 1)) (fun _ _ _ _ => ⟨(pg_name (i := 0) (nd_of (by rfl)) rfl (Or.inl rfl)), pts_nil, (pe_ix (ix_listK (K := K) rfl) (pv 3) (pe_op op_sub (pv 0) pe_int) (fun _ _ => rfl))⟩)) pa_nil)) pa_nil))))))), ?_⟩
  have m1 := g.m1
  have m2 := g.m60
  have hlen := g.len
  refine ⟨_, rfl, _, rfl, b, m, ps, rfl, hb, g, fun H1 s1 => ?_⟩
  refine ⟨_, rfl, _, rfl, b, m, ps, rfl, s1 _ _ hb, g, fun r H2 rs s2 hF ev => ?_⟩
  refine ⟨_, rfl, 1, m, rfl, by omega, Nat.le_trans (b64s (by omega) (by omega)) (by decide), fun p1 H3 s3 hp1 => ?_⟩
  have hb3 := s3 _ _ (s2 _ _ (s1 _ _ hb))
  have hF3 := hF.same s3
  refine ⟨_, rfl, b, rfl, ⟨_, SqL.of hb3⟩, fun D hD => ?_⟩
  refine comp_list (xs := ps.map V.int) (fun i τ H' => ∃ v0 ts, τ = [v0, some (.int m), some (.ref b), some (.ref r)] ∧ Same H3 H' ∧ FrsAt H' D ts ∧ vals ts = (ps.take i).map fun p => Rk.rc ps (p - 1).toNat) ⟨none, [], rfl, same_new hD _, ⟨upd_same, fun _ h => nomatch h⟩, rfl⟩ ?keep ?turn ?done
  case keep =>
    rintro i τ H' hi ⟨v0, ts, rfl, hs, _⟩
    exact SqL.of (hs _ _ hb3)
  case turn =>
    rintro i mm v τ H' hm hi hv ⟨v0, ts, rfl, hs, hT, et⟩
    rw [List.getElem?_map] at hv
    cases e : ps[i]? with
    | none => rw [e] at hv; cases hv
    | some p =>
      rw [e] at hv
      cases hv
      have hp := List.mem_of_getElem? e
      have p1' := g.lo p hp
      have p2' := g.hi p hp
      have hil := (List.getElem?_eq_some_iff.mp e).1
      have lent : ts.length = i := by
        have h := congrArg List.length et
        rw [vals_length, List.length_map, List.length_take] at h
        omega
      obtain ⟨x, hat, hx⟩ := frs_get (hF3.same hs) ev (i := (p - 1).toNat) (range_at (by omega))
      rw [show (((p - 1).toNat : Nat) : Int) = p - 1 by omega] at hat
      refine gyes ?_
      refine ⟨_, rfl, _, rfl, _, _, rfl, rfl, r, _, _, _, rfl, rfl, SqL.of (hF3.same hs).lst, hat, ?_⟩
      refine comp_next hm hi hT.lst (by rw [rrefs_length]; exact small1000 (by omega)) ⟨_, ts ++ [⟨x.q, (Rk.rc ps (p - 1).toNat).1, (Rk.rc ps (p - 1).toNat).2⟩], rfl, hs.upd_new hD _, FrsAt.push (r := ⟨x.q, (Rk.rc ps (p - 1).toNat).1, (Rk.rc ps (p - 1).toNat).2⟩) hT hx, ?_⟩
      unfold vals
      rw [List.map_append, take_snoc e, List.map_append]
      show vals ts ++ _ = _
      rw [et]
      rfl
  case done =>
    rintro τ H' ⟨v0, ts, rfl, hs, hT, et⟩
    rw [List.length_map, List.take_length] at et
    have each : ∀ x ∈ ts, Rk.Rg (x.t, x.b) 361 ∧ x.b ∣ Rk.Q60 := fun x hx => by
      have h : (x.t, x.b) ∈ vals ts := List.mem_map.mpr ⟨x, hx, rfl⟩
      rw [et] at h
      obtain ⟨p, hp, e⟩ := List.mem_map.mp h
      have := g.hi p hp
      have d := Int.dvd_trans (Rk.rc_dvd ps (p - 1).toNat) (Rk.fac_dvd (j := 60) (by omega))
      have z := Rk.rc_z ps (k := (p - 1).toNat) (by omega)
      rw [e] at d z
      exact ⟨z, d⟩
    have lent : ts.length = ps.length := by
      have h := congrArg List.length et
      rw [vals_length, List.length_map] at h
      exact h
    refine ⟨D, ts, Rk.Q60, rfl, hT, ⟨by omega, fun x hx => (each x hx).1.fr.pos, fun x hx => Nat.le_trans (each x hx).1.t (by decide), fun x hx => (each x hx).2, Rk.q_pos, Nat.le_trans Rk.q_bits (by decide)⟩, fun p2 H4 s4 hp2 => ?_⟩
    rw [et] at hp2
    have tz := Rk.tot_rg g
    have sz := Rk.sh_rg (t := 1) (b := m) (n := 6) (by omega) (by decide) (Rk.bits6 (by omega) (by omega))
    refine ⟨p1, p2, _, _, _, _, rfl, sq_fc ((hs.trans s4) _ _ hp1), sq_fc hp2, SzS.rg (Rg.up sz (by decide)) tz (by decide), Int.mul_ne_zero (Int.ne_of_gt sz.fr.pos) (Int.ne_of_gt tz.fr.pos), fun p3 H5 s5 hp3 => ?_⟩
    exact q p3 H5 (s1.trans (s2.trans (s3.trans (hs.trans (s4.trans s5))))) hp3
theorem gr_lt {H : Hp} {q : Addr} {f h : Rk.Fc} (hq : FcAt H q h) (z : f.1 * h.2 < h.1 * f.2) : FcAt H q (Rk.gr f h) := by
  have e : Rk.gr f h = h := if_pos (show Rk.lt f h = true from decide_eq_true z)
  rw [e]
  exact hq
theorem gr_ge {H : Hp} {p : Addr} {f h : Rk.Fc} (hp : FcAt H p f) (z : ¬ f.1 * h.2 < h.1 * f.2) : FcAt H p (Rk.gr f h) := by
  have e : Rk.gr f h = f := if_neg (show ¬ Rk.lt f h = true by unfold Rk.lt; rw [decide_eq_false z]; exact Bool.false_ne_true)
  rw [e]
  exact hp
theorem r3_snoc (xs : List Rw3) (y : Rw3) : r3refs (xs ++ [y]) = r3refs xs ++ [V.ref y.q] := by unfold r3refs; rw [List.map_append]; rfl
theorem r3_get {xs : List Rw3} {i : Nat} {x : Rw3} (h : xs[i]? = some x) : (r3refs xs)[i]? = some (V.ref x.q) := by unfold r3refs; rw [List.getElem?_map, h]; rfl
theorem R3At.push {H : Hp} {D : Addr} {m : Int} {ps : List Int} {xs : List Rw3} {y : Rw3} (h : R3At H D m ps xs) (hq : H y.q = some (.tup [.ref y.a, .ref y.b])) (ha : FcAt H y.a (Rk.rc ps xs.length)) (hb : FcAt H y.b (Rk.ls m ps xs.length)) : R3At (upd H D (.lst (r3refs xs ++ [.ref y.q]))) D m ps (xs ++ [y]) := by
  have u : ∀ {a : Addr} {zs : List V}, H a = some (.tup zs) → upd H D (.lst (r3refs xs ++ [.ref y.q])) a = some (.tup zs) := fun {a zs} e => by rw [upd_ne (ne_of e h.lst fun z => nomatch z)]; exact e
  refine ⟨by rw [upd_same, r3_snoc], fun i x hx => ?_⟩
  by_cases hi : i < xs.length
  · rw [List.getElem?_append_left hi] at hx
    obtain ⟨a, b, c⟩ := h.at_ i x hx
    exact ⟨u a, u b, u c⟩
  · by_cases e : i = xs.length
    · subst e
      rw [List.getElem?_append_right (Nat.le_refl _), Nat.sub_self] at hx
      cases hx
      exact ⟨u hq, u ha, u hb⟩
    · rw [List.getElem?_eq_none (by rw [List.length_append]; show xs.length + 1 ≤ i; omega)] at hx
      cases hx
theorem mi_sz {x y : Rk.Fc} {k : Int} (hx : intBits x.1 ≤ 1000 ∧ intBits x.2 ≤ 1000 ∧ 0 < x.2) (hy : intBits y.1 ≤ 1000 ∧ intBits y.2 ≤ 1000 ∧ 0 < y.2) (hk : intBits k ≤ 64) : SzS (Rk.mi x y).1 (Rk.mi x y).2 k 1 := by
  have nz : x.2 * y.2 ≠ 0 := Int.mul_ne_zero (Int.ne_of_gt hx.2.2) (Int.ne_of_gt hy.2.2)
  exact ⟨PySem.intBits_le_of_natAbs (Fr.sh_le1 nz) (Nat.le_trans (PySem.intBits_sub_le (PySem.intBits_mul_le hx.1 hy.2.1) (PySem.intBits_mul_le hy.1 hx.2.1)) (by decide)), PySem.intBits_le_of_natAbs (Fr.sh_le2 nz) (Nat.le_trans (PySem.intBits_mul_le hx.2.1 hy.2.1) (by decide)), Nat.le_trans hk (by decide), by decide⟩
theorem ok_rank_losses {n : Nat} {f : Addr} {fd : FuncData} (F : Fun K "rank_losses" "rank_losses" (top 24) f fd) {g_over : Addr} {gd_over : FuncData} (c_over : Cal P w K mg base n "over" ["one", "other"] (spFr K oT oB) g_over gd_over) {g_whole : Addr} {gd_whole : FuncData} (c_whole : Cal P w K mg base n "whole" ["number"] spWh g_whole gd_whole) {g_minus : Addr} {gd_minus : FuncData} (c_minus : Cal P w K mg base n "minus" ["one", "other"] (spFr K mT pB) g_minus gd_minus) {g_greater : Addr} {gd_greater : FuncData} (c_greater : Cal P w K mg base n "greater" ["one", "other"] (spGr K) g_greater gd_greater) {g_share : Addr} {gd_share : FuncData} (c_share : Cal P w K mg base n "share" ["top", "bottom"] spShare g_share gd_share) {g_reached_places : Addr} {gd_reached_places : FuncData} (c_reached_places : Cal P w K mg base n "reached_places" ["many", "places"] spRP g_reached_places gd_reached_places) {g_rank_worths : Addr} {gd_rank_worths : FuncData} (c_rank_worths : Cal P w K mg base n "rank_worths" ["many"] spRW g_rank_worths gd_rank_worths) {g_need_places : Addr} {gd_need_places : FuncData} (c_need_places : Cal P w K mg base n "need_places" ["many", "places"] spNPG g_need_places gd_need_places) (z_range : mg "range" = none) : FnOk P w K mg base CX0 (n + 1) f fd ["many", "places"] spRL := by
  refine F.ok sc_rank_losses (fun vs H Q E h => ?_) (fun cdv A outer s H vs Q E hr h => ?_)
  · obtain ⟨b, m, ps, rfl, _⟩ := h
    rfl
  obtain ⟨b, m, ps, rfl, hb, g, q⟩ := h
  have nd := sc_rank_losses.nd
  refine ⟨_, (pss_cons (ps_expr (pe_callC c_need_places hr (pa_cons (pv 0) (pa_cons (pv 1) pa_nil)))) (pss_cons (ps_set (i := 2) nd rfl (Or.inl rfl) (pe_callC c_rank_worths hr (pa_cons (pv 0) pa_nil))) (pss_cons (ps_set (i := 3) nd rfl (Or.inl rfl) (pe_callC c_reached_places hr (pa_cons (pv 0) (pa_cons (pv 1) pa_nil)))) (pss_cons (ps_set (i := 4) nd rfl (Or.inl rfl) (pe_lst pa_nil)) (pss_cons (ps_for PassesOwn.never rfl (pi_range2 rfl z_range (pa_cons pe_int (pa_cons (pe_op op_add (pv 0) pe_int) pa_nil))) (pg_name (i := 5) nd rfl (Or.inl rfl)) (pss_cons (ps_set (i := 6) nd rfl (Or.inl rfl) (pe_callC c_share hr (pa_cons (pv 5) (pa_cons (pv 0) pa_nil)))) (pss_cons (ps_set (i := 7) nd rfl (Or.inl rfl) (pe_ix ix_list (pv 2) (pv 5) (fun _ _ => rfl))) (pss_cons (ps_set (i := 8) nd rfl (Or.inl rfl) (pe_callC c_minus hr (pa_cons (pe_callC c_greater hr (pa_cons (pv 6) (pa_cons (pv 7) pa_nil))) (pa_cons (pe_ifExp (pt_cmpR op_in_seq (pv 5) (pv 1) rfl) (pv 6) (pv 7)) pa_nil)))) (pss_one (ps_expr (pe_bm PySem.F.plainAttrs_list PySem.F.slot_list_append PySem.F.type_list_append mt_append (pv 4) (pa_cons (pe_tup (pa_cons (pe_ix ix_list (pv 3) (pe_op op_sub (pv 5) pe_int) (fun _ _ => rfl)) (pa_cons (pe_callC c_over hr (pa_cons (pv 8) (pa_cons (pe_callC c_whole hr (pa_cons (pv 5) pa_nil)) pa_nil))) pa_nil))) pa_nil)))))))) (pss_one (ps_ret (pv 4)))))))), ?_⟩
  have m1 := g.m1
  have m2 := g.m60
  have hm : In60 m := ⟨m1, m2⟩
  refine ⟨_, rfl, _, rfl, b, m, ps, rfl, hb, g, fun H1 s1 => ?_⟩
  refine ⟨_, rfl, m, rfl, hm, fun rw H2 ws s2 _ hW ew => ?_⟩
  refine ⟨_, rfl, _, rfl, b, m, ps, rfl, s2 _ _ (s1 _ _ hb), g, fun rr H3 rs s3 hR er => ?_⟩
  refine ⟨Nat.zero_le _, fun D hD => ?_⟩
  have nD := same_new hD (.lst [])
  have hb3 := s3 _ _ (s2 _ _ (s1 _ _ hb))
  have hW3 := hW.same s3
  have hDn : H D = none := (s1.trans (s2.trans s3)).free hD
  refine ⟨_, rfl, _, _, rfl, rfl, 1, m + 1, rfl, ⟨by omega, by omega, by omega, by omega⟩, ?_⟩
  generalize hHD : upd H3 D (.lst []) = HD at nD ⊢
  have hX0 : R3At HD D m ps [] := ⟨by rw [← hHD]; exact upd_same, fun i x hx => by simp at hx⟩
  have s0D : ∀ {H' : Hp}, Same HD H' → Same H H' := fun hs => (s1.trans (s2.trans s3)).trans (nD.trans hs)
  refine for_range (n := (m + 1 - 1).toNat) (fun i σ H' => ∃ xs v5 v6 v7 v8, σ = [some (.int m), some (.ref b), some (.ref rw), some (.ref rr), some (.ref D), v5, v6, v7, v8] ∧ Same H3 H' ∧ R3At H' D m ps xs ∧ xs.length = i) ⟨[], none, none, none, none, rfl, nD, hX0, rfl⟩ ?turn ?done
  case turn =>
    rintro i σ H' hi ⟨xs, v5, v6, v7, v8, rfl, hs, hX, xl⟩
    have nD : Same H3 H3 := Same.refl _
    have hDD : H3 D = none := hD
    refine ⟨_, rfl, _, rfl, 1 + (i : Int), m, rfl, by omega, Nat.le_trans (b64s (by omega) (by omega)) (by decide), fun p1 H4 s4 hp1 => ?_⟩
    have hb4 := s4 _ _ (hs _ _ hb3)
    have hW4 := (hW3.same hs).same s4
    obtain ⟨x, hat, hx⟩ := frs_get hW4 ew (i := i + 1) (Rk.onR_at m m.toNat (i + 1) (by omega))
    have hx : FcAt H4 x.q (Rk.wk m (i + 1)) := hx
    rw [show (((i + 1 : Nat) : Int)) = 1 + (i : Int) by omega] at hat
    have gd := Rk.wk_gd m1 m2 (i + 1)
    have wz : intBits (Rk.wk m (i + 1)).1 ≤ 1000 ∧ intBits (Rk.wk m (i + 1)).2 ≤ 1000 ∧ 0 < (Rk.wk m (i + 1)).2 := ⟨(Rk.rg_gd gd).1, (Rk.rg_gd gd).2, gd.pos⟩
    have sr := Rk.sh_rg (t := 1 + (i : Int)) (b := m) (n := 6) (by omega) (Rk.bits6 (by omega) (by omega)) (Rk.bits6 (by omega) (by omega))
    have tz : intBits (Fr.sh (1 + (i : Int)) m).1 ≤ 1000 ∧ intBits (Fr.sh (1 + (i : Int)) m).2 ≤ 1000 ∧ 0 < (Fr.sh (1 + (i : Int)) m).2 := ⟨Nat.le_trans sr.t (by decide), Nat.le_trans sr.b (by decide), sr.fr.pos⟩
    have gz : intBits (Rk.gr (Fr.sh (1 + (i : Int)) m) (Rk.wk m (i + 1))).1 ≤ 1000 ∧ intBits (Rk.gr (Fr.sh (1 + (i : Int)) m) (Rk.wk m (i + 1))).2 ≤ 1000 ∧ 0 < (Rk.gr (Fr.sh (1 + (i : Int)) m) (Rk.wk m (i + 1))).2 := by
      unfold Rk.gr
      split <;> assumption
    refine ⟨_, rfl, _, rfl, rw, _, _, _, rfl, rfl, SqL.of hW4.lst, hat, ?_⟩
    refine ⟨_, rfl, _, rfl, p1, x.q, _, _, _, _, rfl, sq_fc hp1, sq_fc hx, ⟨Nat.le_trans tz.1 (by decide), Nat.le_trans tz.2.1 (by decide), Nat.le_trans wz.1 (by decide), Nat.le_trans wz.2.1 (by decide)⟩, fun hl => ?_, fun hl => ?_⟩
    · have hg4 := gr_lt hx hl
      refine ⟨_, rfl, _, rfl, b, _, rfl, .inl (SqL.of hb4), rfl, flat_ints ps, _, rfl, ?_⟩
      by_cases hin : (1 + (i : Int)) ∈ ps
      · refine ifT (by show (if false = true then _ else inV (V.int (1 + (i : Int))) (ps.map V.int)) = true; rw [if_neg Bool.false_ne_true, in_ints]; exact decide_eq_true hin) ?_
        refine ⟨_, rfl, ?_⟩
        refine ⟨x.q, p1, _, _, _, _, rfl, sq_fc hg4, sq_fc hp1, ⟨Nat.le_trans gz.1 (by decide), Nat.le_trans gz.2.1 (by decide), Nat.le_trans tz.1 (by decide), Nat.le_trans tz.2.1 (by decide)⟩, Int.mul_ne_zero (Int.ne_of_gt gz.2.2) (Int.ne_of_gt tz.2.2), fun p3 H5 s5 hp3 => ?_⟩
        have hX5 := hX.same (s4.trans s5)
        have hR5 := (hR.same (nD.trans hs)).same (s4.trans s5)
        obtain ⟨y, haty, hy⟩ := frs_get hR5 er (i := i) (range_at (by omega))
        rw [show ((i : Nat) : Int) = 1 + (i : Int) - 1 by omega] at haty
        refine ⟨_, rfl, .inl ⟨rfl, _, SqL.of hX5.lst⟩, _, rfl, _, rfl, _, _, rfl, rfl, rr, _, _, _, rfl, rfl, SqL.of hR5.lst, haty, _, rfl, _, rfl, 1 + (i : Int), rfl, fun p4 H6 s6 hp4 => ?_⟩
        have lk : FcAt H6 p3 (Rk.mi (Rk.gr (Fr.sh (1 + (i : Int)) m) (Rk.wk m (i + 1))) (Fr.sh (1 + (i : Int)) m)) := s6 _ _ hp3
        have nz2 : 0 < (Rk.mi (Rk.gr (Fr.sh (1 + (i : Int)) m) (Rk.wk m (i + 1))) (Fr.sh (1 + (i : Int)) m)).2 := Fr.sh_pos (Int.mul_ne_zero (Int.ne_of_gt gz.2.2) (Int.ne_of_gt tz.2.2))
        refine ⟨p3, p4, _, _, _, _, rfl, sq_fc lk, sq_fc hp4, mi_sz gz tz (b64s (by omega) (by omega)), Int.mul_ne_zero (Int.ne_of_gt nz2) (by show 1 + (i : Int) ≠ 0; omega), fun p5 H7 s7 hp5 => ?_⟩
        refine ⟨sz2, fun tt htt => ?_⟩
        have nt := same_new htt (.tup [V.ref y.q, V.ref p5])
        have hX8 := hX5.same ((s6.trans s7).trans nt)
        refine ⟨D, r3refs xs, .ref tt, rfl, rfl, hX8.lst, by rw [r3_length]; exact small1000 (by omega), ?_⟩
        have el : Rk.ls m ps i = Rk.ov (Rk.mi (Rk.gr (Fr.sh (1 + (i : Int)) m) (Rk.wk m (i + 1))) (Fr.sh (1 + (i : Int)) m)) (1 + (i : Int), 1) := by unfold Rk.ls; rw [if_pos hin]
        refine ⟨xs ++ [⟨tt, y.q, p5⟩], _, _, _, _, rfl, (hs.trans (s4.trans (s5.trans ((s6.trans s7).trans nt)))).upd_new hDD _, R3At.push (y := ⟨tt, y.q, p5⟩) hX8 upd_same ?_ ?_, by rw [List.length_append, xl]; rfl⟩
        · rw [xl]
          exact ((s6.trans s7).trans nt) _ _ hy
        · rw [xl, el]
          exact nt _ _ hp5
      · refine ifF (by show (if false = true then _ else inV (V.int (1 + (i : Int))) (ps.map V.int)) = false; rw [if_neg Bool.false_ne_true, in_ints]; exact decide_eq_false hin) ?_
        refine ⟨_, rfl, ?_⟩
        refine ⟨x.q, x.q, _, _, _, _, rfl, sq_fc hg4, sq_fc hx, ⟨Nat.le_trans gz.1 (by decide), Nat.le_trans gz.2.1 (by decide), Nat.le_trans wz.1 (by decide), Nat.le_trans wz.2.1 (by decide)⟩, Int.mul_ne_zero (Int.ne_of_gt gz.2.2) (Int.ne_of_gt wz.2.2), fun p3 H5 s5 hp3 => ?_⟩
        have hX5 := hX.same (s4.trans s5)
        have hR5 := (hR.same (nD.trans hs)).same (s4.trans s5)
        obtain ⟨y, haty, hy⟩ := frs_get hR5 er (i := i) (range_at (by omega))
        rw [show ((i : Nat) : Int) = 1 + (i : Int) - 1 by omega] at haty
        refine ⟨_, rfl, .inl ⟨rfl, _, SqL.of hX5.lst⟩, _, rfl, _, rfl, _, _, rfl, rfl, rr, _, _, _, rfl, rfl, SqL.of hR5.lst, haty, _, rfl, _, rfl, 1 + (i : Int), rfl, fun p4 H6 s6 hp4 => ?_⟩
        have lk : FcAt H6 p3 (Rk.mi (Rk.gr (Fr.sh (1 + (i : Int)) m) (Rk.wk m (i + 1))) (Rk.wk m (i + 1))) := s6 _ _ hp3
        have nz2 : 0 < (Rk.mi (Rk.gr (Fr.sh (1 + (i : Int)) m) (Rk.wk m (i + 1))) (Rk.wk m (i + 1))).2 := Fr.sh_pos (Int.mul_ne_zero (Int.ne_of_gt gz.2.2) (Int.ne_of_gt wz.2.2))
        refine ⟨p3, p4, _, _, _, _, rfl, sq_fc lk, sq_fc hp4, mi_sz gz wz (b64s (by omega) (by omega)), Int.mul_ne_zero (Int.ne_of_gt nz2) (by show 1 + (i : Int) ≠ 0; omega), fun p5 H7 s7 hp5 => ?_⟩
        refine ⟨sz2, fun tt htt => ?_⟩
        have nt := same_new htt (.tup [V.ref y.q, V.ref p5])
        have hX8 := hX5.same ((s6.trans s7).trans nt)
        refine ⟨D, r3refs xs, .ref tt, rfl, rfl, hX8.lst, by rw [r3_length]; exact small1000 (by omega), ?_⟩
        have el : Rk.ls m ps i = Rk.ov (Rk.mi (Rk.gr (Fr.sh (1 + (i : Int)) m) (Rk.wk m (i + 1))) (Rk.wk m (i + 1))) (1 + (i : Int), 1) := by unfold Rk.ls; rw [if_neg hin]
        refine ⟨xs ++ [⟨tt, y.q, p5⟩], _, _, _, _, rfl, (hs.trans (s4.trans (s5.trans ((s6.trans s7).trans nt)))).upd_new hDD _, R3At.push (y := ⟨tt, y.q, p5⟩) hX8 upd_same ?_ ?_, by rw [List.length_append, xl]; rfl⟩
        · rw [xl]
          exact ((s6.trans s7).trans nt) _ _ hy
        · rw [xl, el]
          exact nt _ _ hp5
    · have hg4 := gr_ge hp1 hl
      refine ⟨_, rfl, _, rfl, b, _, rfl, .inl (SqL.of hb4), rfl, flat_ints ps, _, rfl, ?_⟩
      by_cases hin : (1 + (i : Int)) ∈ ps
      · refine ifT (by show (if false = true then _ else inV (V.int (1 + (i : Int))) (ps.map V.int)) = true; rw [if_neg Bool.false_ne_true, in_ints]; exact decide_eq_true hin) ?_
        refine ⟨_, rfl, ?_⟩
        refine ⟨p1, p1, _, _, _, _, rfl, sq_fc hg4, sq_fc hp1, ⟨Nat.le_trans gz.1 (by decide), Nat.le_trans gz.2.1 (by decide), Nat.le_trans tz.1 (by decide), Nat.le_trans tz.2.1 (by decide)⟩, Int.mul_ne_zero (Int.ne_of_gt gz.2.2) (Int.ne_of_gt tz.2.2), fun p3 H5 s5 hp3 => ?_⟩
        have hX5 := hX.same (s4.trans s5)
        have hR5 := (hR.same (nD.trans hs)).same (s4.trans s5)
        obtain ⟨y, haty, hy⟩ := frs_get hR5 er (i := i) (range_at (by omega))
        rw [show ((i : Nat) : Int) = 1 + (i : Int) - 1 by omega] at haty
        refine ⟨_, rfl, .inl ⟨rfl, _, SqL.of hX5.lst⟩, _, rfl, _, rfl, _, _, rfl, rfl, rr, _, _, _, rfl, rfl, SqL.of hR5.lst, haty, _, rfl, _, rfl, 1 + (i : Int), rfl, fun p4 H6 s6 hp4 => ?_⟩
        have lk : FcAt H6 p3 (Rk.mi (Rk.gr (Fr.sh (1 + (i : Int)) m) (Rk.wk m (i + 1))) (Fr.sh (1 + (i : Int)) m)) := s6 _ _ hp3
        have nz2 : 0 < (Rk.mi (Rk.gr (Fr.sh (1 + (i : Int)) m) (Rk.wk m (i + 1))) (Fr.sh (1 + (i : Int)) m)).2 := Fr.sh_pos (Int.mul_ne_zero (Int.ne_of_gt gz.2.2) (Int.ne_of_gt tz.2.2))
        refine ⟨p3, p4, _, _, _, _, rfl, sq_fc lk, sq_fc hp4, mi_sz gz tz (b64s (by omega) (by omega)), Int.mul_ne_zero (Int.ne_of_gt nz2) (by show 1 + (i : Int) ≠ 0; omega), fun p5 H7 s7 hp5 => ?_⟩
        refine ⟨sz2, fun tt htt => ?_⟩
        have nt := same_new htt (.tup [V.ref y.q, V.ref p5])
        have hX8 := hX5.same ((s6.trans s7).trans nt)
        refine ⟨D, r3refs xs, .ref tt, rfl, rfl, hX8.lst, by rw [r3_length]; exact small1000 (by omega), ?_⟩
        have el : Rk.ls m ps i = Rk.ov (Rk.mi (Rk.gr (Fr.sh (1 + (i : Int)) m) (Rk.wk m (i + 1))) (Fr.sh (1 + (i : Int)) m)) (1 + (i : Int), 1) := by unfold Rk.ls; rw [if_pos hin]
        refine ⟨xs ++ [⟨tt, y.q, p5⟩], _, _, _, _, rfl, (hs.trans (s4.trans (s5.trans ((s6.trans s7).trans nt)))).upd_new hDD _, R3At.push (y := ⟨tt, y.q, p5⟩) hX8 upd_same ?_ ?_, by rw [List.length_append, xl]; rfl⟩
        · rw [xl]
          exact ((s6.trans s7).trans nt) _ _ hy
        · rw [xl, el]
          exact nt _ _ hp5
      · refine ifF (by show (if false = true then _ else inV (V.int (1 + (i : Int))) (ps.map V.int)) = false; rw [if_neg Bool.false_ne_true, in_ints]; exact decide_eq_false hin) ?_
        refine ⟨_, rfl, ?_⟩
        refine ⟨p1, x.q, _, _, _, _, rfl, sq_fc hg4, sq_fc hx, ⟨Nat.le_trans gz.1 (by decide), Nat.le_trans gz.2.1 (by decide), Nat.le_trans wz.1 (by decide), Nat.le_trans wz.2.1 (by decide)⟩, Int.mul_ne_zero (Int.ne_of_gt gz.2.2) (Int.ne_of_gt wz.2.2), fun p3 H5 s5 hp3 => ?_⟩
        have hX5 := hX.same (s4.trans s5)
        have hR5 := (hR.same (nD.trans hs)).same (s4.trans s5)
        obtain ⟨y, haty, hy⟩ := frs_get hR5 er (i := i) (range_at (by omega))
        rw [show ((i : Nat) : Int) = 1 + (i : Int) - 1 by omega] at haty
        refine ⟨_, rfl, .inl ⟨rfl, _, SqL.of hX5.lst⟩, _, rfl, _, rfl, _, _, rfl, rfl, rr, _, _, _, rfl, rfl, SqL.of hR5.lst, haty, _, rfl, _, rfl, 1 + (i : Int), rfl, fun p4 H6 s6 hp4 => ?_⟩
        have lk : FcAt H6 p3 (Rk.mi (Rk.gr (Fr.sh (1 + (i : Int)) m) (Rk.wk m (i + 1))) (Rk.wk m (i + 1))) := s6 _ _ hp3
        have nz2 : 0 < (Rk.mi (Rk.gr (Fr.sh (1 + (i : Int)) m) (Rk.wk m (i + 1))) (Rk.wk m (i + 1))).2 := Fr.sh_pos (Int.mul_ne_zero (Int.ne_of_gt gz.2.2) (Int.ne_of_gt wz.2.2))
        refine ⟨p3, p4, _, _, _, _, rfl, sq_fc lk, sq_fc hp4, mi_sz gz wz (b64s (by omega) (by omega)), Int.mul_ne_zero (Int.ne_of_gt nz2) (by show 1 + (i : Int) ≠ 0; omega), fun p5 H7 s7 hp5 => ?_⟩
        refine ⟨sz2, fun tt htt => ?_⟩
        have nt := same_new htt (.tup [V.ref y.q, V.ref p5])
        have hX8 := hX5.same ((s6.trans s7).trans nt)
        refine ⟨D, r3refs xs, .ref tt, rfl, rfl, hX8.lst, by rw [r3_length]; exact small1000 (by omega), ?_⟩
        have el : Rk.ls m ps i = Rk.ov (Rk.mi (Rk.gr (Fr.sh (1 + (i : Int)) m) (Rk.wk m (i + 1))) (Rk.wk m (i + 1))) (1 + (i : Int), 1) := by unfold Rk.ls; rw [if_neg hin]
        refine ⟨xs ++ [⟨tt, y.q, p5⟩], _, _, _, _, rfl, (hs.trans (s4.trans (s5.trans ((s6.trans s7).trans nt)))).upd_new hDD _, R3At.push (y := ⟨tt, y.q, p5⟩) hX8 upd_same ?_ ?_, by rw [List.length_append, xl]; rfl⟩
        · rw [xl]
          exact ((s6.trans s7).trans nt) _ _ hy
        · rw [xl, el]
          exact nt _ _ hp5
  case done =>
    rintro σ H' ⟨xs, v5, v6, v7, v8, rfl, hs, hX, xl⟩
    exact ⟨_, rfl, q D H' xs (s1.trans (s2.trans (s3.trans hs))) hDn hX (by omega)⟩
theorem ok__law_summed {n : Nat} {f : Addr} {fd : FuncData} (F : Fun K "_law_summed" "_law_summed" (top 35) f fd) {g__law_lowest : Addr} {gd__law_lowest : FuncData} (c__law_lowest : Cal P w K mg base n "_law_lowest" ["_law_top", "_law_bottom"] spLow g__law_lowest gd__law_lowest) : FnOk P w K mg base CX0 (n + 1) f fd ["_law_many", "_law_places_here"] spSmd := by
  refine F.ok sc__law_summed (fun vs H Q E h => ?_) (fun cdv A outer s H vs Q E hr h => ?_)
  · obtain ⟨b, m, ps, rfl, _⟩ := h
    rfl
  obtain ⟨b, m, ps, rfl, hb, g, q⟩ := h
  have nd := sc__law_summed.nd
  refine ⟨_, (pss_cons (ps_set (i := 2) nd rfl (Or.inl rfl) pe_int) (pss_cons (ps_set (i := 3) nd rfl (Or.inl rfl) pe_int) (pss_cons (ps_set (i := 4) nd rfl (Or.inl rfl) (pe_tup (pa_cons pe_int (pa_cons pe_int pa_nil)))) (pss_cons (ps_for PassesOwn.never rfl (pi_list (pv 1)) (pg_name (i := 5) nd rfl (Or.inl rfl)) (pss_cons (ps_asg (pe_callC c__law_lowest hr (pa_cons (pe_op op_add (pe_op op_mulB (pe_op op_mulB (pv 2) (pv 0)) (pe_ix ix_tup (pv 4) pe_int (fun _ _ => rfl))) (pe_op op_mulB (pe_ix ix_tup (pv 4) pe_int (fun _ _ => rfl)) (pv 3))) (pa_cons (pe_op op_mulB (pe_op op_mulB (pv 3) (pv 0)) (pe_ix ix_tup (pv 4) pe_int (fun _ _ => rfl))) pa_nil))) (pg_tup rfl (pgs_cons (pg_name (i := 2) nd rfl (Or.inl rfl)) (pgs_cons (pg_name (i := 3) nd rfl (Or.inl rfl)) pgs_nil)))) (pss_one (ps_set (i := 4) nd rfl (Or.inl rfl) (pe_callC c__law_lowest hr (pa_cons (pe_op op_mulB (pe_ix ix_tup (pv 4) pe_int (fun _ _ => rfl)) (pe_op op_sub (pv 5) pe_int)) (pa_cons (pe_op op_mulB (pe_ix ix_tup (pv 4) pe_int (fun _ _ => rfl)) (pv 5)) pa_nil))))))) (pss_one (ps_ret (pe_tup (pa_cons (pv 2) (pa_cons (pv 3) pa_nil))))))))), ?_⟩
  have m1 := g.m1
  have m2 := g.m60
  have hlen := g.len
  have mb : intBits m ≤ 64 := b64s (by omega) (by omega)
  refine ⟨sz2, fun p0 hp0 => ?_⟩
  have n0 := same_new hp0 (.tup [V.int 1, V.int 1])
  refine ⟨_, rfl, b, rfl, ⟨_, SqL.of (n0 _ _ hb)⟩, ?_⟩
  refine for_list (xs := ps.map V.int) (fun i σ H' => ∃ p v5, σ = [some (.int m), some (.ref b), some (.int (Rk.smF m (ps.take i) ((0, 1), (1, 1))).1.1), some (.int (Rk.smF m (ps.take i) ((0, 1), (1, 1))).1.2), some (.ref p), v5] ∧ Same H H' ∧ FcAt H' p (Rk.smF m (ps.take i) ((0, 1), (1, 1))).2) ⟨p0, none, rfl, n0, upd_same⟩ (fun i σ H' _ ⟨p, v5, _, hs, _⟩ => SqL.of (hs _ _ hb)) ?turn ?done
  case turn =>
    rintro i v σ H' hv ⟨p, v5, rfl, hs, hp⟩
    rw [List.getElem?_map] at hv
    cases e : ps[i]? with
    | none => rw [e] at hv; cases hv
    | some pl =>
      rw [e] at hv
      cases hv
      have hpm := List.mem_of_getElem? e
      have pl1 := g.lo pl hpm
      have pl2 := g.hi pl hpm
      have hil := (List.getElem?_eq_some_iff.mp e).1
      have so := Rk.sm_ok g i (by omega)
      have et : ps.take (i + 1) = ps.take i ++ [pl] := by rw [List.take_add_one, e]; rfl
      have lb : (Rk.lastP (ps.take i)).toNat ≤ 60 := by
        rcases Rk.last_mem (ps := ps) (j := i) with z | z
        · rw [z]; decide
        · have := g.hi _ (List.mem_of_mem_take z); omega
      have rz := Rk.rc_z ps lb
      rw [← so.r] at rz
      have st : intBits (Rk.smF m (ps.take i) ((0, 1), (1, 1))).1.1 ≤ 50000 := Nat.le_trans so.t (by omega)
      have sb := so.b
      have sp := so.fr.pos
      have rp := rz.fr.pos
      rw [et, Rk.smF_snoc]
      generalize Rk.smF m (ps.take i) ((0, 1), (1, 1)) = x at *
      have pb : intBits pl ≤ 64 := b64s (by omega) (by omega)
      have pb2 : intBits (pl - 1) ≤ 64 := b64s (by omega) (by omega)
      refine ⟨_, rfl, _, rfl, _, _, rfl, rfl, mulOk (st) (mb) (by decide), _, rfl, p, _, _, _, rfl, rfl, (sq_fc hp), rfl, _, _, rfl, rfl, mulOk (PySem.intBits_mul_le st mb) (rz.b) (by decide), _, rfl, p, _, _, _, rfl, rfl, (sq_fc hp), rfl, _, rfl, _, _, rfl, rfl, mulOk (rz.t) (sb) (by decide), _, _, rfl, rfl, ?_⟩
      refine ⟨_, rfl, _, rfl, _, _, rfl, rfl, mulOk (sb) (mb) (by decide), _, rfl, p, _, _, _, rfl, rfl, (sq_fc hp), rfl, _, _, rfl, rfl, mulOk (PySem.intBits_mul_le sb mb) (rz.b) (by decide), _, _, rfl, Int.mul_pos (Int.mul_pos sp (by omega)) rp, Nat.le_trans (PySem.intBits_mul_le (PySem.intBits_mul_le sb mb) rz.b) (by decide), fun p1 H1 s1 hp1 => ⟨p1, _, rfl, SqT.of hp1, rfl, _, _, rfl, _, _, rfl, rfl, ?_⟩⟩
      have hpr := s1 _ _ hp
      refine ⟨_, rfl, p, _, _, _, rfl, rfl, (sq_fc hpr), rfl, _, rfl, _, _, rfl, rfl, _, _, rfl, rfl, mulOk (rz.t) (pb2) (by decide), ?_⟩
      refine ⟨_, rfl, p, _, _, _, rfl, rfl, (sq_fc hpr), rfl, _, rfl, _, _, rfl, rfl, mulOk (rz.b) (pb) (by decide), _, _, rfl, Int.mul_pos rp (by omega), Nat.le_trans (PySem.intBits_mul_le rz.b pb) (by decide), fun p2 H2 s2 hp2 => ?_⟩
      exact ⟨p2, _, rfl, hs.trans (s1.trans s2), hp2⟩
  case done =>
    rintro σ H' ⟨p, v5, rfl, hs, hp⟩
    rw [List.length_map, List.take_length]
    refine ⟨_, rfl, _, rfl, sz2, fun p2 hp2 => q p2 _ (hs.trans (same_new hp2 _)) ?_⟩
    rw [← Rk.sm_all g]
    exact upd_same
theorem ok__law_places {n : Nat} {f : Addr} {fd : FuncData} (F : Fun K "_law_places" "_law_places" (top 37) f fd) {g__law_mix : Addr} {gd__law_mix : FuncData} (c__law_mix : Cal P w K mg base n "_law_mix" ["_law_cell_here", "_law_k"] spMix g__law_mix gd__law_mix) {g__law_cell : Addr} {gd__law_cell : FuncData} (c__law_cell : Cal P w K mg base n "_law_cell" ["_law_script", "_law_k"] (spCell K) g__law_cell gd__law_cell) (z_range : mg "range" = none) (z_list : mg "list" = none) : FnOk P w K mg base CX0 (n + 1) f fd ["_law_script", "_law_many"] (spPlL K) := by
  refine F.ok sc__law_places (fun vs H Q E h => ?_) (fun cdv A outer s H vs Q E hr h => ?_)
  · obtain ⟨a, ns, m, rfl, _⟩ := h
    rfl
  obtain ⟨a, ns, m, rfl, hS, hm, q⟩ := h
  have nd := sc__law_places.nd
  refine ⟨_, (pss_cons (ps_set (i := 2) nd rfl (Or.inl rfl) (pe_callC c__law_cell hr (pa_cons (pv 0) (pa_cons pe_int pa_nil)))) (pss_cons (ps_if (pt_cmpR op_eq (pe_op op_mod (pv 2) pe_int) pe_int (nomark _)) (pss_one (ps_ret (pe_listRng rfl rfl z_list rfl z_range (pa_cons (pe_op op_add pe_int (pe_op op_mod (pe_op op_fdiv (pv 2) pe_int) (pv 1))) (pa_cons (pe_op op_add (pv 1) pe_int) pa_nil))))) pss_nil) (pss_cons (ps_set (i := 3) nd rfl (Or.inr rfl) (pe_op op_add (pe_op op_mulB (pe_callC c__law_mix hr (pa_cons (pv 2) (pa_cons pe_int pa_nil))) pe_int) (pe_callC c__law_mix hr (pa_cons (pe_callC c__law_cell hr (pa_cons (pv 0) (pa_cons pe_int pa_nil))) (pa_cons pe_int pa_nil))))) (pss_cons (ps_if (pt_cmpR op_gt (pe_op op_mod (pv 2) pe_int) pe_int (nomark _)) (pss_one (ps_set (i := 3) nd rfl (Or.inr rfl) (pe_op op_fdiv (pv 2) pe_int))) pss_nil) (pss_one (ps_ret (pe_comp (ls := ["_law_place"]) (M := ["_law_script", "_law_many", "_law_cell_here", "_law_number"]) rfl (CompOk.of (by rfl)) (NL.of (by rfl)) (pi_range2 rfl z_range (pa_cons pe_int (pa_cons (pe_op op_add (pv 1) pe_int) pa_nil))) (fun _ _ _ _ => ⟨(pg_name (i := 0) (nd_of (by rfl)) rfl (Or.inl rfl)), (pts_one (pt_cmpR op_eq (pe_op op_and (pe_op op_shr (pv 4) (pv 0)) pe_int) pe_int (nomark _))), (pv 0)⟩)))))))), ?_⟩
  obtain ⟨m1, m2⟩ := id hm
  have c1 := Int.emod_nonneg (cellF ns 1 / 4) (show m ≠ 0 by omega)
  have c2 := Int.emod_lt_of_pos (cellF ns 1 / 4) (show (0 : Int) < m by omega)
  refine ⟨_, rfl, a, ns, 1, rfl, hS, by decide, ?_⟩
  refine ⟨_, rfl, _, _, rfl, rfl, (by show (0 : Int) < 4; decide), rfl, _, rfl, ?_⟩
  refine ite2 (fun _ => ?_) (fun _ => ?_)
  · refine ⟨_, rfl, _, _, rfl, rfl, ⟨by decide, by decide⟩, _, rfl, _, _, rfl, rfl, (by show (0 : Int) < m; omega), _, _, rfl, rfl, _, rfl, _, _, rfl, rfl, 1 + cellF ns 1 / 4 % m, m + 1, rfl, ⟨by omega, by omega, by omega, by omega⟩, fun l hl => q l _ (Rk.rng (1 + cellF ns 1 / 4 % m) (m + 1 - (1 + cellF ns 1 / 4 % m)).toNat) (same_new hl _) upd_same ⟨m1, m2, ?_, fun p hp => ?_, fun p hp => ?_⟩⟩
    · unfold Rk.rng
      rw [List.pairwise_map]
      exact List.pairwise_lt_range.imp fun h => by omega
    · unfold Rk.rng at hp
      obtain ⟨j, hj, rfl⟩ := List.mem_map.mp hp
      omega
    · unfold Rk.rng at hp
      obtain ⟨j, hj, rfl⟩ := List.mem_map.mp hp
      have := List.mem_range.mp hj
      omega
  refine ⟨_, rfl, _, _, rfl, fun j j0 jx => ?_⟩
  refine ⟨_, _, rfl, rfl, mulOk (m := 40) (n := 40) (PySem.intBits_le_iff.mpr (by rw [show (2 : Nat) ^ 40 = 1099511627776 from rfl]; omega)) (by decide) (by decide), _, rfl, a, ns, 2, rfl, hS, by decide, _, _, rfl, fun j2 j20 j2x => ?_⟩
  refine ⟨_, _, rfl, rfl, ?_⟩
  refine ⟨_, rfl, _, _, rfl, rfl, (by show (0 : Int) < 4; decide), _, _, rfl, rfl, _, rfl, ?_⟩
  refine ite2 (fun _ => ?_) (fun _ => ?_)
  · refine ⟨_, rfl, _, _, rfl, rfl, ⟨by decide, by decide⟩, ?_⟩
    refine ⟨_, rfl, _, _, rfl, rfl, 1, m + 1, rfl, ⟨by omega, by omega, by omega, by omega⟩, fun D hD => ?_⟩
    refine comp_range (n := (m + 1 - 1).toNat) (fun i τ H' => ∃ v0, τ = [v0, some (.ref a), some (.int m), some (.int (cellF ns 1)), some (.int (cellF ns 1 / 4))] ∧ Same H H' ∧ H' D = some (.lst (((Rk.rng 1 i).filter fun p => decide (V.int (Builtin.bitAnd ((cellF ns 1 / 4) / 2 ^ p.toNat) 1) = V.int 1)).map V.int))) ⟨none, rfl, same_new hD _, upd_same⟩ ?t1 ?d1
    case t1 =>
      rintro i mm τ H' hmm hi ⟨v0, rfl, hs, hD'⟩
      have er : Rk.rng 1 (i + 1) = Rk.rng 1 i ++ [1 + (i : Int)] := by unfold Rk.rng; rw [List.range_succ, List.map_append]; rfl
      have ln : ((Rk.rng 1 i).filter fun p => decide (V.int (Builtin.bitAnd ((cellF ns 1 / 4) / 2 ^ p.toNat) 1) = V.int 1)).length ≤ 1000 := Nat.le_trans (List.length_filter_le _ _) (by unfold Rk.rng; rw [List.length_map, List.length_range]; omega)
      unfold gName
      refine ⟨_, rfl, _, rfl, _, _, rfl, rfl, (by show (0 : Int) ≤ 1 + (i : Int); omega), _, _, rfl, rfl, rfl, _, rfl, ?_⟩
      by_cases hc : decide (V.int (Builtin.bitAnd ((cellF ns 1 / 4) / 2 ^ (1 + (i : Int)).toNat) 1) = V.int 1) = true
      · refine ifT hc ?_
        refine ⟨_, rfl, ?_⟩
        refine comp_next hmm hi hD' (by rw [List.length_map]; exact small1000 ln) ⟨_, rfl, hs.upd_new hD _, ?_⟩
        rw [upd_same, er, List.filter_append, List.map_append, List.filter_cons, if_pos hc]
        rfl
      · refine ifF (Bool.eq_false_iff.mpr hc) ?_
        refine comp_skip hmm hi ⟨_, rfl, hs, ?_⟩
        rw [hD', er, List.filter_append, List.filter_cons, if_neg hc, List.filter_nil, List.append_nil]
    case d1 =>
      rintro τ H' ⟨v0, rfl, hs, hD'⟩
      rw [show (m + 1 - 1).toNat = m.toNat by omega] at hD'
      exact q D H' _ hs hD' ⟨m1, m2, (Rk.rng_ris _).filter _, fun p hp => ((Rk.rng_mem (m := m)).mp (List.mem_filter.mp hp).1).1, fun p hp => by have := ((Rk.rng_mem (m := m)).mp (List.mem_filter.mp hp).1).2; omega⟩
  ·
    refine ⟨_, rfl, _, _, rfl, rfl, 1, m + 1, rfl, ⟨by omega, by omega, by omega, by omega⟩, fun D hD => ?_⟩
    refine comp_range (n := (m + 1 - 1).toNat) (fun i τ H' => ∃ v0, τ = [v0, some (.ref a), some (.int m), some (.int (cellF ns 1)), some (.int (j * 2147483647 + j2))] ∧ Same H H' ∧ H' D = some (.lst (((Rk.rng 1 i).filter fun p => decide (V.int (Builtin.bitAnd ((j * 2147483647 + j2) / 2 ^ p.toNat) 1) = V.int 1)).map V.int))) ⟨none, rfl, same_new hD _, upd_same⟩ ?t2 ?d2
    case t2 =>
      rintro i mm τ H' hmm hi ⟨v0, rfl, hs, hD'⟩
      have er : Rk.rng 1 (i + 1) = Rk.rng 1 i ++ [1 + (i : Int)] := by unfold Rk.rng; rw [List.range_succ, List.map_append]; rfl
      have ln : ((Rk.rng 1 i).filter fun p => decide (V.int (Builtin.bitAnd ((j * 2147483647 + j2) / 2 ^ p.toNat) 1) = V.int 1)).length ≤ 1000 := Nat.le_trans (List.length_filter_le _ _) (by unfold Rk.rng; rw [List.length_map, List.length_range]; omega)
      unfold gName
      refine ⟨_, rfl, _, rfl, _, _, rfl, rfl, (by show (0 : Int) ≤ 1 + (i : Int); omega), _, _, rfl, rfl, rfl, _, rfl, ?_⟩
      by_cases hc : decide (V.int (Builtin.bitAnd ((j * 2147483647 + j2) / 2 ^ (1 + (i : Int)).toNat) 1) = V.int 1) = true
      · refine ifT hc ?_
        refine ⟨_, rfl, ?_⟩
        refine comp_next hmm hi hD' (by rw [List.length_map]; exact small1000 ln) ⟨_, rfl, hs.upd_new hD _, ?_⟩
        rw [upd_same, er, List.filter_append, List.map_append, List.filter_cons, if_pos hc]
        rfl
      · refine ifF (Bool.eq_false_iff.mpr hc) ?_
        refine comp_skip hmm hi ⟨_, rfl, hs, ?_⟩
        rw [hD', er, List.filter_append, List.filter_cons, if_neg hc, List.filter_nil, List.append_nil]
    case d2 =>
      rintro τ H' ⟨v0, rfl, hs, hD'⟩
      rw [show (m + 1 - 1).toNat = m.toNat by omega] at hD'
      exact q D H' _ hs hD' ⟨m1, m2, (Rk.rng_ris _).filter _, fun p hp => ((Rk.rng_mem (m := m)).mp (List.mem_filter.mp hp).1).1, fun p hp => by have := ((Rk.rng_mem (m := m)).mp (List.mem_filter.mp hp).1).2; omega⟩
theorem ok__law_loss {n : Nat} {f : Addr} {fd : FuncData} (F : Fun K "_law_loss" "_law_loss" (top 38) f fd) {g__law_lowest : Addr} {gd__law_lowest : FuncData} (c__law_lowest : Cal P w K mg base n "_law_lowest" ["_law_top", "_law_bottom"] spLow g__law_lowest gd__law_lowest) : FnOk P w K mg base CX0 (n + 1) f fd ["_law_many", "_law_place", "_law_on_here", "_law_taken"] spLoss := by
  refine F.ok sc__law_loss (fun vs H Q E h => ?_) (fun cdv A outer s H vs Q E hr h => ?_)
  · obtain ⟨m, p, o, f, b, rfl, _⟩ := h
    rfl
  obtain ⟨m, p, o, f, b, rfl, hm, p1, p2, ho, gf, q⟩ := h
  have nd := sc__law_loss.nd
  refine ⟨_, (pss_cons (ps_set (i := 4) nd rfl (Or.inl rfl) (pe_tup (pa_cons (pv 1) (pa_cons (pv 0) pa_nil)))) (pss_cons (ps_set (i := 5) nd rfl (Or.inl rfl) (pv 4)) (pss_cons (ps_if (pt_cmpR op_gt (pe_op op_mulB (pe_ix ix_tup (pv 2) pe_int (fun _ _ => rfl)) (pv 0)) (pe_op op_mulB (pv 1) (pe_ix ix_tup (pv 2) pe_int (fun _ _ => rfl))) (nomark _)) (pss_one (ps_set (i := 5) nd rfl (Or.inl rfl) (pv 2))) pss_nil) (pss_cons (ps_set (i := 6) nd rfl (Or.inl rfl) (pv 2)) (pss_cons (ps_if (pt_val (pv 3)) (pss_one (ps_set (i := 6) nd rfl (Or.inl rfl) (pv 4))) pss_nil) (pss_one (ps_ret (pe_callC c__law_lowest hr (pa_cons (pe_op op_sub (pe_op op_mulB (pe_ix ix_tup (pv 5) pe_int (fun _ _ => rfl)) (pe_ix ix_tup (pv 6) pe_int (fun _ _ => rfl))) (pe_op op_mulB (pe_ix ix_tup (pv 6) pe_int (fun _ _ => rfl)) (pe_ix ix_tup (pv 5) pe_int (fun _ _ => rfl)))) (pa_cons (pe_op op_mulB (pe_op op_mulB (pe_ix ix_tup (pv 5) pe_int (fun _ _ => rfl)) (pe_ix ix_tup (pv 6) pe_int (fun _ _ => rfl))) (pv 1)) pa_nil)))))))))), ?_⟩
  obtain ⟨m1, m2⟩ := id hm
  have mb : intBits m ≤ 64 := b64s (by omega) (by omega)
  have pb : intBits p ≤ 64 := b64s (by omega) (by omega)
  have fb := Rk.rg_gd gf
  refine ⟨_, rfl, _, rfl, sz2, fun ph hh => ?_⟩
  have n0 := same_new hh (.tup [V.int p, V.int m])
  have hh0 : FcAt (upd H ph (.tup [V.int p, V.int m])) ph (p, m) := upd_same
  have ho0 : FcAt (upd H ph (.tup [V.int p, V.int m])) o f := n0 _ _ ho
  refine ⟨_, rfl, ?_⟩
  refine ⟨_, rfl, o, _, _, _, rfl, rfl, (sq_fc ho0), rfl, _, rfl, _, _, rfl, rfl, mulOk (fb.1) (mb) (by decide), _, rfl, _, rfl, o, _, _, _, rfl, rfl, (sq_fc ho0), rfl, _, _, rfl, rfl, mulOk (pb) (fb.2) (by decide), _, _, rfl, rfl, _, rfl, ?_⟩
  by_cases hgt : p * f.2 < f.1 * m
  · refine ifT (decide_eq_true hgt) ?_
    refine ⟨_, rfl, ?_⟩
    refine ⟨_, rfl, ?_⟩
    refine ⟨_, rfl, _, rfl, ?_⟩
    cases b with
    | true =>
      refine iteT ?_
      refine ⟨_, rfl, ?_⟩
      refine ⟨_, rfl, o, _, _, _, rfl, rfl, (sq_fc ho0), rfl, _, rfl, ph, _, _, _, rfl, rfl, (sq_fc hh0), rfl, _, _, rfl, rfl, mulOk (fb.1) (mb) (by decide), _, rfl, ph, _, _, _, rfl, rfl, (sq_fc hh0), rfl, _, rfl, o, _, _, _, rfl, rfl, (sq_fc ho0), rfl, _, _, rfl, rfl, mulOk (pb) (fb.2) (by decide), _, _, rfl, rfl, _, rfl, o, _, _, _, rfl, rfl, (sq_fc ho0), rfl, _, rfl, ph, _, _, _, rfl, rfl, (sq_fc hh0), rfl, _, _, rfl, rfl, mulOk (fb.2) (mb) (by decide), _, rfl, _, _, rfl, rfl, mulOk (PySem.intBits_mul_le (fb.2) (mb)) (pb) (by decide), _, _, rfl, Int.mul_pos (Int.mul_pos gf.pos (show 0 < m by omega)) (by omega), Nat.le_trans (PySem.intBits_mul_le (PySem.intBits_mul_le fb.2 mb) pb) (by decide), fun r H' s' hr => q r H' (n0.trans s') ?_⟩
      unfold Rk.lsL Rk.lmost Rk.lhad
      rw [if_pos hgt]
      exact hr
    | false =>
      refine iteF ?_
      refine ⟨_, rfl, o, _, _, _, rfl, rfl, (sq_fc ho0), rfl, _, rfl, o, _, _, _, rfl, rfl, (sq_fc ho0), rfl, _, _, rfl, rfl, mulOk (fb.1) (fb.2) (by decide), _, rfl, o, _, _, _, rfl, rfl, (sq_fc ho0), rfl, _, rfl, o, _, _, _, rfl, rfl, (sq_fc ho0), rfl, _, _, rfl, rfl, mulOk (fb.1) (fb.2) (by decide), _, _, rfl, rfl, _, rfl, o, _, _, _, rfl, rfl, (sq_fc ho0), rfl, _, rfl, o, _, _, _, rfl, rfl, (sq_fc ho0), rfl, _, _, rfl, rfl, mulOk (fb.2) (fb.2) (by decide), _, rfl, _, _, rfl, rfl, mulOk (PySem.intBits_mul_le (fb.2) (fb.2)) (pb) (by decide), _, _, rfl, Int.mul_pos (Int.mul_pos gf.pos gf.pos) (by omega), Nat.le_trans (PySem.intBits_mul_le (PySem.intBits_mul_le fb.2 fb.2) pb) (by decide), fun r H' s' hr => q r H' (n0.trans s') ?_⟩
      unfold Rk.lsL Rk.lmost Rk.lhad
      rw [if_pos hgt]
      exact hr
  · refine ifF (decide_eq_false hgt) ?_
    refine ⟨_, rfl, ?_⟩
    refine ⟨_, rfl, _, rfl, ?_⟩
    cases b with
    | true =>
      refine iteT ?_
      refine ⟨_, rfl, ?_⟩
      refine ⟨_, rfl, ph, _, _, _, rfl, rfl, (sq_fc hh0), rfl, _, rfl, ph, _, _, _, rfl, rfl, (sq_fc hh0), rfl, _, _, rfl, rfl, mulOk (pb) (mb) (by decide), _, rfl, ph, _, _, _, rfl, rfl, (sq_fc hh0), rfl, _, rfl, ph, _, _, _, rfl, rfl, (sq_fc hh0), rfl, _, _, rfl, rfl, mulOk (pb) (mb) (by decide), _, _, rfl, rfl, _, rfl, ph, _, _, _, rfl, rfl, (sq_fc hh0), rfl, _, rfl, ph, _, _, _, rfl, rfl, (sq_fc hh0), rfl, _, _, rfl, rfl, mulOk (mb) (mb) (by decide), _, rfl, _, _, rfl, rfl, mulOk (PySem.intBits_mul_le (mb) (mb)) (pb) (by decide), _, _, rfl, Int.mul_pos (Int.mul_pos (show 0 < m by omega) (show 0 < m by omega)) (by omega), Nat.le_trans (PySem.intBits_mul_le (PySem.intBits_mul_le mb mb) pb) (by decide), fun r H' s' hr => q r H' (n0.trans s') ?_⟩
      unfold Rk.lsL Rk.lmost Rk.lhad
      rw [if_neg hgt]
      exact hr
    | false =>
      refine iteF ?_
      refine ⟨_, rfl, ph, _, _, _, rfl, rfl, (sq_fc hh0), rfl, _, rfl, o, _, _, _, rfl, rfl, (sq_fc ho0), rfl, _, _, rfl, rfl, mulOk (pb) (fb.2) (by decide), _, rfl, o, _, _, _, rfl, rfl, (sq_fc ho0), rfl, _, rfl, ph, _, _, _, rfl, rfl, (sq_fc hh0), rfl, _, _, rfl, rfl, mulOk (fb.1) (mb) (by decide), _, _, rfl, rfl, _, rfl, ph, _, _, _, rfl, rfl, (sq_fc hh0), rfl, _, rfl, o, _, _, _, rfl, rfl, (sq_fc ho0), rfl, _, _, rfl, rfl, mulOk (mb) (fb.2) (by decide), _, rfl, _, _, rfl, rfl, mulOk (PySem.intBits_mul_le (mb) (fb.2)) (pb) (by decide), _, _, rfl, Int.mul_pos (Int.mul_pos (show 0 < m by omega) gf.pos) (by omega), Nat.le_trans (PySem.intBits_mul_le (PySem.intBits_mul_le mb fb.2) pb) (by decide), fun r H' s' hr => q r H' (n0.trans s') ?_⟩
      unfold Rk.lsL Rk.lmost Rk.lhad
      rw [if_neg hgt]
      exact hr
theorem ok__law_walked {n : Nat} {f : Addr} {fd : FuncData} (F : Fun K "_law_walked" "_law_walked" (top 39) f fd) {g__law_lowest : Addr} {gd__law_lowest : FuncData} (c__law_lowest : Cal P w K mg base n "_law_lowest" ["_law_top", "_law_bottom"] spLow g__law_lowest gd__law_lowest) {g__law_same : Addr} {gd__law_same : FuncData} (c__law_same : Cal P w K mg base n "_law_same" ["_law_found", "_law_due"] spSame g__law_same gd__law_same) {g__law_loss : Addr} {gd__law_loss : FuncData} (c__law_loss : Cal P w K mg base n "_law_loss" ["_law_many", "_law_place", "_law_on_here", "_law_taken"] spLoss g__law_loss gd__law_loss) (z_range : mg "range" = none) (z_len : mg "len" = none) (z_isinstance : mg "isinstance" = none) (z_tuple : mg "tuple" = none) : FnOk P w K mg base CX0 (n + 1) f fd ["_law_many", "_law_places_here", "_law_told", "_law_on_here"] spWkd := by
  refine F.ok sc__law_walked (fun vs H Q E h => ?_) (fun cdv A outer s H vs Q E hr h => ?_)
  · obtain ⟨b, t, o, m, ps, xs, rs, rfl, _⟩ := h
    rfl
  obtain ⟨b, t, o, m, ps, xs, rs, rfl, hb, g, hX, xl, hO, eo, q⟩ := h
  have nd := sc__law_walked.nd
  refine ⟨_, (pss_cons (ps_set (i := 4) nd rfl (Or.inl rfl) (pe_tup (pa_cons pe_int (pa_cons pe_int pa_nil)))) (pss_cons (ps_set (i := 5) nd rfl (Or.inl rfl) (pe_tup (pa_cons pe_int (pa_cons pe_int pa_nil)))) (pss_cons (ps_for PassesOwn.never rfl (pi_range2 rfl z_range (pa_cons pe_int (pa_cons (pe_op op_add (pv 0) pe_int) pa_nil))) (pg_name (i := 6) nd rfl (Or.inl rfl)) (pss_cons (ps_set (i := 7) nd rfl (Or.inl rfl) (pe_ix ix_list (pv 2) (pe_op op_sub (pv 6) pe_int) (fun _ _ => rfl))) (pss_cons (ps_if (PW.pt (pw_or (pt_not (pt_val (pe_callB (call_isinst (T := "tuple")) rfl z_isinstance bt_isinstance (pa_cons (pv 7) (pa_cons (pe_bltn (v := .ty "tuple") rfl z_tuple bt_tuple rfl) pa_nil))))) (pw_or (pt_cmpR op_ne (pe_callB call_len_seq rfl z_len bt_len (pa_cons (pv 7) pa_nil)) pe_int (nomark _)) (pw_or1 (pt_not (pt_val (pe_callC c__law_same hr (pa_cons (pe_ix ix_tup (pv 7) pe_int (fun _ _ => rfl)) (pa_cons (pv 5) pa_nil))))))))) (pss_one (ps_ret pe_non)) pss_nil) (pss_cons (ps_set (i := 8) nd rfl (Or.inl rfl) (pe_callC c__law_loss hr (pa_cons (pv 0) (pa_cons (pv 6) (pa_cons (pe_ix ix_list (pv 3) (pv 6) (fun _ _ => rfl)) (pa_cons (pe_cmpR op_in_seq (pv 6) (pv 1) rfl) pa_nil)))))) (pss_cons (ps_if (PW.pt (pw_or (pt_not (pt_val (pe_callC c__law_same hr (pa_cons (pe_ix ix_tup (pv 7) pe_int (fun _ _ => rfl)) (pa_cons (pv 8) pa_nil))))) (pw_or1 (pt_cmpR op_lt (pe_ix ix_tup (pv 8) pe_int (fun _ _ => rfl)) pe_int (nomark _))))) (pss_one (ps_ret pe_non)) pss_nil) (pss_cons (ps_set (i := 9) nd rfl (Or.inl rfl) (pe_op op_mulB (pe_ix ix_tup (pv 5) pe_int (fun _ _ => rfl)) (pe_ix ix_tup (pe_ix ix_tup (pv 7) pe_int (fun _ _ => rfl)) pe_int (fun _ _ => rfl)))) (pss_cons (ps_set (i := 10) nd rfl (Or.inl rfl) (pe_op op_mulB (pe_ix ix_tup (pv 5) pe_int (fun _ _ => rfl)) (pe_ix ix_tup (pe_ix ix_tup (pv 7) pe_int (fun _ _ => rfl)) pe_int (fun _ _ => rfl)))) (pss_cons (ps_set (i := 4) nd rfl (Or.inl rfl) (pe_callC c__law_lowest hr (pa_cons (pe_op op_add (pe_op op_mulB (pe_ix ix_tup (pv 4) pe_int (fun _ _ => rfl)) (pv 10)) (pe_op op_mulB (pv 9) (pe_ix ix_tup (pv 4) pe_int (fun _ _ => rfl)))) (pa_cons (pe_op op_mulB (pe_ix ix_tup (pv 4) pe_int (fun _ _ => rfl)) (pv 10)) pa_nil)))) (pss_one (ps_if (pt_cmpR op_in_seq (pv 6) (pv 1) rfl) (pss_one (ps_set (i := 5) nd rfl (Or.inl rfl) (pe_callC c__law_lowest hr (pa_cons (pe_op op_mulB (pe_ix ix_tup (pv 5) pe_int (fun _ _ => rfl)) (pe_op op_sub (pv 6) pe_int)) (pa_cons (pe_op op_mulB (pe_ix ix_tup (pv 5) pe_int (fun _ _ => rfl)) (pv 6)) pa_nil))))) pss_nil)))))))))) (pss_one (ps_ret (pv 4)))))), ?_⟩
  have m1 := g.m1
  have m2 := g.m60
  refine ⟨sz2, fun p0 hp0 => ?_⟩
  have n0 := same_new hp0 (.tup [V.int 0, V.int 1])
  refine ⟨sz2, fun p1 hp1 => ?_⟩
  have n1 := same_new hp1 (.tup [V.int 1, V.int 1])
  have h00 : FcAt (upd H p0 (.tup [V.int 0, V.int 1])) p0 (0, 1) := upd_same
  refine ⟨_, rfl, _, _, rfl, rfl, 1, m + 1, rfl, ⟨by omega, by omega, by omega, by omega⟩, ?_⟩
  refine for_range (n := (m + 1 - 1).toNat) (fun i σ H' => ∃ pf pr v6 v7 v8 v9 v10, σ = [some (.int m), some (.ref b), some (.ref t), some (.ref o), some (.ref pf), some (.ref pr), v6, v7, v8, v9, v10] ∧ Same H H' ∧ FcAt H' pf (Rk.wf m ps i) ∧ FcAt H' pr (Rk.rc ps i)) ⟨p0, p1, none, none, none, none, none, rfl, n0.trans n1, n1 _ _ h00, upd_same⟩ ?turn ?done
  case turn =>
    rintro i σ H' hi ⟨pf, pr, v6, v7, v8, v9, v10, rfl, hs, hf, hr0⟩
    have hX1 := hX.same hs
    have hO1 := hO.same hs
    have hb1 := hs _ _ hb
    have exi : xs[i]? = some xs[i] := List.getElem?_eq_getElem (by omega)
    generalize xs[i] = x at exi
    obtain ⟨hq, ha, hl⟩ := hX1.at_ i x exi
    have hat : atI (r3refs xs) (1 + (i : Int) - 1) = some (.ref x.q) := by
      rw [show 1 + (i : Int) - 1 = (i : Int) by omega]
      exact atI_nat (r3_get exi)
    obtain ⟨y, haty, hy⟩ := frs_get hO1 eo (i := i + 1) (Rk.onR_at m m.toNat (i + 1) (by omega))
    have hy : FcAt H' y.q (Rk.wk m (i + 1)) := hy
    rw [show (((i + 1 : Nat) : Int)) = 1 + (i : Int) by omega] at haty
    have lg := Rk.ls_rg m1 m2 ps (k := i) (by omega)
    have rz := Rk.rc_z ps (k := i) (by omega)
    have wt := Rk.wf_t60 g (k := i) (by omega)
    have wb := Rk.wf_dvd g (k := i) (by omega)
    have wp := (Rk.wf_ok (ps := ps) m1 m2 i (by omega)).1.pos
    refine ⟨_, rfl, _, rfl, _, _, rfl, rfl, t, _, _, _, rfl, rfl, SqL.of hX1.lst, hat, ?_⟩
    refine ⟨_, rfl, _, _, _, rfl, .tup hq, kit_same _, _, rfl, ?_⟩
    refine iteF ?_
    refine ⟨_, rfl, x.q, _, rfl, .inr (SqT.of hq), rfl, _, rfl, ?_⟩
    refine iteF ?_
    refine ⟨_, rfl, x.q, _, _, _, rfl, rfl, SqT.of hq, rfl, _, rfl, x.a, pr, _, rfl, ha, hr0, _, rfl, ?_⟩
    refine iteF ?_
    refine ⟨_, rfl, _, rfl, _, rfl, _, rfl, o, _, _, _, rfl, rfl, SqL.of hO1.lst, haty, _, rfl, _, rfl, b, _, rfl, .inl (SqL.of hb1), rfl, flat_ints ps, m, 1 + (i : Int), y.q, Rk.wk m (i + 1), _, rfl, ⟨m1, m2⟩, by omega, by omega, hy, Rk.wk_gd m1 m2 (i + 1), fun pd H1 s1 hd0 => ?_⟩
    have hd1 : FcAt H1 pd (Rk.lsL m (1 + (i : Int)) (Rk.wk m (i + 1)) (inV (V.int (1 + (i : Int))) (ps.map V.int))) := hd0
    rw [in_ints, Rk.ls_law m1 m2] at hd1
    have nn : 0 ≤ (Rk.ls m ps i).1 := by rw [← Rk.ls_law m1 m2]; exact Rk.lsL_nn (by omega) (by omega) (Rk.wk_gd m1 m2 (i + 1)).pos
    have hq1 := s1 _ _ hq
    have hl1 := s1 _ _ hl
    have hf1 := s1 _ _ hf
    have hr1 := s1 _ _ hr0
    refine ⟨_, rfl, x.q, _, _, _, rfl, rfl, SqT.of hq1, rfl, _, rfl, x.b, pd, _, rfl, hl1, hd1, _, rfl, ?_⟩
    refine iteF ?_
    refine ⟨_, rfl, pd, _, _, _, rfl, rfl, sq_fc hd1, rfl, _, _, rfl, rfl, _, rfl, ?_⟩
    refine ifF (decide_eq_false (by show ¬ (Rk.ls m ps i).1 < 0; omega)) ?_
    refine ⟨_, rfl, pr, _, _, _, rfl, rfl, (sq_fc hr1), rfl, _, rfl, x.q, _, _, _, rfl, rfl, SqT.of hq1, rfl, x.b, _, _, _, rfl, rfl, sq_fc hl1, rfl, _, _, rfl, rfl, mulOk (rz.t) (lg.t) (by decide), ?_⟩
    refine ⟨_, rfl, pr, _, _, _, rfl, rfl, (sq_fc hr1), rfl, _, rfl, x.q, _, _, _, rfl, rfl, SqT.of hq1, rfl, x.b, _, _, _, rfl, rfl, sq_fc hl1, rfl, _, _, rfl, rfl, mulOk (rz.b) (lg.b) (by decide), ?_⟩
    refine ⟨_, rfl, pf, _, _, _, rfl, rfl, (sq_fc hf1), rfl, _, rfl, _, _, rfl, rfl, mulOk (wt) (PySem.intBits_mul_le rz.b lg.b) (by decide), _, rfl, _, rfl, pf, _, _, _, rfl, rfl, (sq_fc hf1), rfl, _, _, rfl, rfl, mulOk (PySem.intBits_mul_le rz.t lg.t) (wb) (by decide), _, _, rfl, rfl, _, rfl, pf, _, _, _, rfl, rfl, (sq_fc hf1), rfl, _, rfl, _, _, rfl, rfl, mulOk (wb) (PySem.intBits_mul_le rz.b lg.b) (by decide), _, _, rfl, Int.mul_pos wp (Int.mul_pos rz.fr.pos lg.fr.pos), Nat.le_trans (PySem.intBits_mul_le wb (PySem.intBits_mul_le rz.b lg.b)) (by decide), fun p3 H2 s2 hp3 => ?_⟩
    have hp3 : FcAt H2 p3 (Rk.wf m ps (i + 1)) := hp3
    have hr2 := s2 _ _ hr1
    have hb2 := s2 _ _ (s1 _ _ hb1)
    refine ⟨_, rfl, _, rfl, b, _, rfl, .inl (SqL.of hb2), rfl, flat_ints ps, _, rfl, ?_⟩
    by_cases hin : (1 + (i : Int)) ∈ ps
    · refine ifT (by show (if false = true then _ else inV (V.int (1 + (i : Int))) (ps.map V.int)) = true; rw [if_neg Bool.false_ne_true, in_ints]; exact decide_eq_true hin) ?_
      refine ⟨_, rfl, pr, _, _, _, rfl, rfl, (sq_fc hr2), rfl, _, rfl, _, _, rfl, rfl, _, _, rfl, rfl, mulOk (rz.t) (b64s (x := 1 + (i : Int) - 1) (by omega) (by omega)) (by decide), _, rfl, pr, _, _, _, rfl, rfl, (sq_fc hr2), rfl, _, rfl, _, _, rfl, rfl, mulOk (rz.b) (b64s (x := 1 + (i : Int)) (by omega) (by omega)) (by decide), _, _, rfl, Int.mul_pos rz.fr.pos (by omega), Nat.le_trans (PySem.intBits_mul_le rz.b (b64s (x := 1 + (i : Int)) (by omega) (by omega))) (by decide), fun p4 H3 s3 hp4 => ?_⟩
      have e : Rk.rc ps (i + 1) = Rk.ti (Rk.rc ps i) (Fr.sh (1 + (i : Int) - 1) (1 + (i : Int))) := if_pos hin
      have e2 := Rk.smR_is (r := Rk.rc ps i) (p := 1 + (i : Int)) rz.fr.pos (by omega)
      refine ⟨p3, p4, _, _, _, _, _, rfl, hs.trans (s1.trans (s2.trans s3)), s3 _ _ hp3, ?_⟩
      rw [e, ← e2]
      exact hp4
    · refine ifF (by show (if false = true then _ else inV (V.int (1 + (i : Int))) (ps.map V.int)) = false; rw [if_neg Bool.false_ne_true, in_ints]; exact decide_eq_false hin) ?_
      have e : Rk.rc ps (i + 1) = Rk.rc ps i := if_neg hin
      exact ⟨p3, pr, _, _, _, _, _, rfl, hs.trans (s1.trans s2), hp3, by rw [e]; exact hr2⟩
  case done =>
    rintro σ H' ⟨pf, pr, v6, v7, v8, v9, v10, rfl, hs, hf, hr0⟩
    rw [show (m + 1 - 1).toNat = m.toNat by omega] at hf
    exact ⟨_, rfl, q pf H' hs hf⟩
theorem mm_at2 (c : Int) : ∃ x : Int, atI [V.int 60, V.int 6] (c % 2) = some (.int x) ∧ 1 ≤ x ∧ x ≤ 60 := by
  have h1 := Int.emod_nonneg c (show (2 : Int) ≠ 0 by decide)
  have h2 := Int.emod_lt_of_pos c (show (0 : Int) < 2 by decide)
  rcases (by omega : c % 2 = 0 ∨ c % 2 = 1) with z | z
  · exact ⟨60, by rw [z]; rfl, by decide, by decide⟩
  · exact ⟨6, by rw [z]; rfl, by decide, by decide⟩
theorem on_ne {H : Hp} {o t : Addr} {m : Int} {ps : List Int} {xs : List Rw3} {rs : List Rs} (hO : FrsAt H o rs) (hX : R3At H t m ps xs) (xl : xs.length = m.toNat) (eo : vals rs = Rk.onR m m.toNat) : o ≠ t := fun z => by
  have e := hO.lst
  rw [z, hX.lst] at e
  have e2 : r3refs xs = rrefs rs := by injection e with e; injection e
  have e3 := congrArg List.length e2
  rw [r3_length, rrefs_length, ← vals_length, eo, Rk.onR_turns, Rk.turns_len, xl] at e3
  omega
theorem frs_over {H : Hp} {r t : Addr} {rs : List Rs} {ws zs : List V} (h : FrsAt H r rs) (e : H t = some (.lst ws)) (ne : r ≠ t) : FrsAt (upd H t (.lst zs)) r rs :=
  ⟨by rw [upd_ne ne]; exact h.lst, fun x hx => by have z := h.at_ x hx; unfold RsAt at z ⊢; rw [upd_ne (ne_of z e fun z => nomatch z)]; exact z⟩
theorem fc_over {H : Hp} {p t : Addr} {f : Rk.Fc} {ws zs : List V} (h : FcAt H p f) (e : H t = some (.lst ws)) : FcAt (upd H t (.lst zs)) p f := by
  unfold FcAt at h ⊢
  rw [upd_ne (ne_of h e fun z => nomatch z)]
  exact h
theorem ok_law {n : Nat} {f : Addr} {fd : FuncData} (F : Fun K "law" "law" (top 40) f fd) {g__law_lowest : Addr} {gd__law_lowest : FuncData} (c__law_lowest : Cal P w K mg base n "_law_lowest" ["_law_top", "_law_bottom"] spLow g__law_lowest gd__law_lowest) {g__law_walked : Addr} {gd__law_walked : FuncData} (c__law_walked : Cal P w K mg base n "_law_walked" ["_law_many", "_law_places_here", "_law_told", "_law_on_here"] spWkd g__law_walked gd__law_walked) {g_rank_losses : Addr} {gd_rank_losses : FuncData} (c_rank_losses : Cal P w K mg base n "rank_losses" ["many", "places"] spRL g_rank_losses gd_rank_losses) {g__law_on : Addr} {gd__law_on : FuncData} (c__law_on : Cal P w K mg base n "_law_on" ["_law_many"] spOn g__law_on gd__law_on) {g__law_counted : Addr} {gd__law_counted : FuncData} (c__law_counted : Cal P w K mg base n "_law_counted" ["_law_many", "_law_places_here"] spCntP g__law_counted gd__law_counted) {g__law_same : Addr} {gd__law_same : FuncData} (c__law_same : Cal P w K mg base n "_law_same" ["_law_found", "_law_due"] spSame g__law_same gd__law_same) {g__law_summed : Addr} {gd__law_summed : FuncData} (c__law_summed : Cal P w K mg base n "_law_summed" ["_law_many", "_law_places_here"] spSmd g__law_summed gd__law_summed) {g_share_by : Addr} {gd_share_by : FuncData} (c_share_by : Cal P w K mg base n "share_by" ["many", "places"] spSB g_share_by gd_share_by) {g__law_places : Addr} {gd__law_places : FuncData} (c__law_places : Cal P w K mg base n "_law_places" ["_law_script", "_law_many"] (spPlL K) g__law_places gd__law_places) {g__law_cell : Addr} {gd__law_cell : FuncData} (c__law_cell : Cal P w K mg base n "_law_cell" ["_law_script", "_law_k"] (spCell K) g__law_cell gd__law_cell) (z_len : mg "len" = none) (z_isinstance : mg "isinstance" = none) (z_list : mg "list" = none) : FnOk P w K mg base CX0 (n + 1) f fd ["_law_script"] (spLaw K) := by
  refine F.ok sc_law (fun vs H Q E h => ?_) (fun cdv A outer s H vs Q E hr h => ?_)
  · obtain ⟨a, ns, rfl, _⟩ := h
    rfl
  obtain ⟨a, ns, rfl, hS, hlen, q⟩ := h
  have nd := sc_law.nd
  have hu0 := Room.units0 hr
  have hu1 : _ + 0 + 1 < cLine := Nat.lt_of_le_of_lt (Nat.add_le_add_left (by decide : 1 ≤ 64) _) (Room.units hr)
  refine ⟨_, (pss_cons (ps_set (i := 1) nd rfl (Or.inl rfl) (pe_callC c__law_cell hr (pa_cons (pv 0) (pa_cons pe_int pa_nil)))) (pss_cons (ps_set (i := 2) nd rfl (Or.inl rfl) (pe_op op_add pe_int (pe_op op_mod (pe_op op_fdiv (pv 1) pe_int) (pe_ix ix_list (pe_lst (pa_cons pe_int (pa_cons pe_int pa_nil))) (pe_op op_mod (pv 1) pe_int) (fun _ _ => rfl))))) (pss_cons (ps_set (i := 3) nd rfl (Or.inl rfl) (pe_callC c__law_places hr (pa_cons (pv 0) (pa_cons (pv 2) pa_nil)))) (pss_cons (ps_set (i := 4) nd rfl (Or.inl rfl) (pe_callTy call_list_of rfl z_list bt_list (pa_cons (pv 3) pa_nil))) (pss_cons (ps_set (i := 5) nd rfl (Or.inl rfl) (pe_callC c_share_by hr (pa_cons (pv 2) (pa_cons (pv 4) pa_nil)))) (pss_cons (ps_if (pt_not (pt_val (pe_callC c__law_same hr (pa_cons (pv 5) (pa_cons (pe_callC c__law_summed hr (pa_cons (pv 2) (pa_cons (pv 3) pa_nil))) pa_nil))))) (pss_one (ps_ret pe_bl)) pss_nil) (pss_cons (ps_if (PW.pt (pw_and (pt_cmpR op_lt (pv 2) pe_int (nomark _)) (pw_and1 (pt_cmpR (op_neT hu0) (pv 5) (pe_callC c__law_counted hr (pa_cons (pv 2) (pa_cons (pv 3) pa_nil))) (nomark _))))) (pss_one (ps_ret pe_bl)) pss_nil) (pss_cons (ps_set (i := 6) nd rfl (Or.inl rfl) (pe_callC c_rank_losses hr (pa_cons (pv 2) (pa_cons (pv 4) pa_nil)))) (pss_cons (ps_if (PW.pt (pw_or (pt_not (pt_val (pe_callB (call_isinst (T := "list")) rfl z_isinstance bt_isinstance (pa_cons (pv 6) (pa_cons (pe_bltn (v := .ty "list") rfl z_list bt_list rfl) pa_nil))))) (pw_or (pt_cmpR op_ne (pe_callB call_len_seq rfl z_len bt_len (pa_cons (pv 6) pa_nil)) (pv 2) (nomark _)) (pw_or1 (pt_cmpR (op_neD (n := 0) hu1) (pv 4) (pv 3) (nomark _)))))) (pss_one (ps_ret pe_bl)) pss_nil) (pss_cons (ps_set (i := 7) nd rfl (Or.inl rfl) (pe_callC c__law_on hr (pa_cons (pv 2) pa_nil))) (pss_cons (ps_set (i := 8) nd rfl (Or.inl rfl) (pe_callC c__law_walked hr (pa_cons (pv 2) (pa_cons (pv 3) (pa_cons (pv 6) (pa_cons (pv 7) pa_nil)))))) (pss_cons (ps_if (pt_cmpR op_isN (pv 8) pe_non (nomark _)) (pss_one (ps_ret pe_bl)) pss_nil) (pss_cons (ps_expr (pe_bm0 PySem.F.plainAttrs_list PySem.F.slot_list_clear PySem.F.type_list_clear mt_clear (pv 6))) (pss_cons (ps_if (pt_cmpR (op_neT hu0) (pe_callC c__law_walked hr (pa_cons (pv 2) (pa_cons (pv 3) (pa_cons (pe_callC c_rank_losses hr (pa_cons (pv 2) (pa_cons (pv 4) pa_nil))) (pa_cons (pv 7) pa_nil))))) (pv 8) (nomark _)) (pss_one (ps_ret pe_bl)) pss_nil) (pss_cons (ps_set (i := 9) nd rfl (Or.inl rfl) (pe_op op_add (pe_op op_mulB (pe_ix ix_tup (pv 8) pe_int (fun _ _ => rfl)) (pe_ix ix_tup (pv 5) pe_int (fun _ _ => rfl))) (pe_op op_mulB (pe_ix ix_tup (pv 5) pe_int (fun _ _ => rfl)) (pe_ix ix_tup (pv 8) pe_int (fun _ _ => rfl))))) (pss_one (ps_ret (pe_cmpR (op_eqT hu0) (pe_callC c__law_lowest hr (pa_cons (pv 9) (pa_cons (pe_op op_mulB (pe_ix ix_tup (pv 8) pe_int (fun _ _ => rfl)) (pe_ix ix_tup (pv 5) pe_int (fun _ _ => rfl))) pa_nil))) (pe_ix ix_list (pv 7) pe_int (fun _ _ => rfl)) (nomark _))))))))))))))))))), ?_⟩
  refine ⟨_, rfl, a, ns, 0, rfl, hS, by decide, ?_⟩
  obtain ⟨x, hat, x1, x2⟩ := mm_at2 (cellF ns 0)
  have d1 := Int.emod_nonneg (cellF ns 0 / 2) (show x ≠ 0 by omega)
  have d2 := Int.emod_lt_of_pos (cellF ns 0 / 2) (show (0 : Int) < x by omega)
  refine ⟨_, rfl, _, _, rfl, rfl, ⟨by decide, by decide⟩, sz2, fun l0 hl0 => ⟨_, rfl, _, _, rfl, rfl, (by show (0 : Int) < 2; decide), l0, _, _, _, rfl, rfl, SqL.of upd_same, hat, _, _, rfl, rfl, (show (0 : Int) < x by omega), _, _, rfl, rfl, ?_⟩⟩
  have s0 := same_new hl0 (.lst [V.int 60, V.int 6])
  have hm : In60 (1 + cellF ns 0 / 2 % x) := ⟨by omega, by omega⟩
  have hm1 := hm.1
  have hm2 := hm.2
  refine ⟨_, rfl, _, rfl, a, ns, (1 + cellF ns 0 / 2 % x), rfl, s0.seq hS, hm, fun l H1 ps s1 hl g => ?_⟩
  refine ⟨_, rfl, l, _, rfl, .inl (SqL.of hl), fun h hh => ?_⟩
  have n2 := same_new hh (.lst (ps.map V.int))
  have hl2 := n2 _ _ hl
  have hh2 : upd H1 h (.lst (ps.map V.int)) h = some (.lst (ps.map V.int)) := upd_same
  generalize upd H1 h (.lst (ps.map V.int)) = H2 at n2 hl2 hh2 ⊢
  have sr := Rk.shr_rg g
  have wo := Rk.wf_ok (ps := ps) hm1 hm2 ((1 + cellF ns 0 / 2 % x)).toNat (by omega)
  have wt := Rk.wf_t60 g (k := ((1 + cellF ns 0 / 2 % x)).toNat) (Nat.le_refl _)
  have wb := Rk.wf_dvd g (k := ((1 + cellF ns 0 / 2 % x)).toNat) (Nat.le_refl _)
  refine ⟨_, rfl, _, rfl, h, (1 + cellF ns 0 / 2 % x), ps, rfl, hh2, g, fun pf H3 s3 hf => ?_⟩
  refine ⟨_, rfl, _, rfl, _, rfl, l, (1 + cellF ns 0 / 2 % x), ps, rfl, s3 _ _ hl2, g, fun p4 H4 s4 hp4 => ?_⟩
  have hf4 := s4 _ _ hf
  refine ⟨pf, p4, _, rfl, hf4, hp4, _, rfl, ?_⟩
  refine iteF ?_
  refine ⟨_, rfl, _, _, rfl, rfl, _, rfl, ?_⟩
  by_cases h7 : (1 + cellF ns 0 / 2 % x) < 7
  · refine ifT (decide_eq_true h7) ?_
    refine ⟨_, rfl, _, rfl, _, rfl, (1 + cellF ns 0 / 2 % x), l, ps, rfl, hm1, by omega, (s3.trans s4) _ _ hl2, fun p5 H5 s5 hp5 => ?_⟩
    rw [g.cn (by omega), Rk.sm_all g] at hp5
    have hf5 := s5 _ _ hf4
    refine ⟨pf, p5, [(Rk.shr (1 + cellF ns 0 / 2 % x) ps).1, (Rk.shr (1 + cellF ns 0 / 2 % x) ps).2], [(Rk.shr (1 + cellF ns 0 / 2 % x) ps).1, (Rk.shr (1 + cellF ns 0 / 2 % x) ps).2], rfl, rfl, SqT.of hf5, SqT.of hp5, _, rfl, ?_⟩
    refine ifF (by rw [decide_eq_true rfl]; rfl) ?_
    refine ⟨_, rfl, _, rfl, h, (1 + cellF ns 0 / 2 % x), ps, rfl, (s3.trans (s4.trans s5)) _ _ hh2, g, fun t H6 xs s6 ht hX xl => ?_⟩
    refine ⟨_, rfl, _, _, _, rfl, .lst hX.lst, kit_same _, _, rfl, ?_⟩
    refine iteF ?_
    refine ⟨_, rfl, t, _, rfl, .inl (SqL.of hX.lst), _, rfl, rfl, _, rfl, ?_⟩
    refine ifF (by rw [decide_eq_true (show V.int ((r3refs xs).length : Int) = V.int (1 + cellF ns 0 / 2 % x) by rw [r3_length, xl]; congr 1; omega)]; rfl) ?_
    have s26 := (s3.trans (s4.trans s5)).trans s6
    have hl6 := s26 _ _ hl2
    have hh6 := s26 _ _ hh2
    refine ⟨_, rfl, _, rfl, h, l, true, rfl, rfl, ints_eq hh6 hl6, _, rfl, ?_⟩
    refine iteF ?_
    refine ⟨_, rfl, (1 + cellF ns 0 / 2 % x), rfl, hm, fun o H7 rs s7 hO eo => ?_⟩
    have hX7 := hX.same s7
    refine ⟨_, rfl, _, rfl, _, rfl, _, rfl, l, t, o, (1 + cellF ns 0 / 2 % x), ps, xs, rs, rfl, s7 _ _ hl6, g, hX7, xl, hO, eo, fun pl H8 s8 hpl => ?_⟩
    refine ⟨_, rfl, rfl, _, rfl, ?_⟩
    refine iteF ?_
    have hX8 := hX7.same s8
    refine ⟨_, rfl, .inl ⟨rfl, _, SqL.of hX8.lst⟩, t, r3refs xs, rfl, rfl, hX8.lst, ?_⟩
    have nlt : l ≠ t := ne_of_none ((s3.trans (s4.trans s5)) _ _ hl2) ht
    have nht : h ≠ t := ne_of_none ((s3.trans (s4.trans s5)) _ _ hh2) ht
    have not : o ≠ t := on_ne hO hX7 xl eo
    have hl9 : upd H8 t (.lst []) l = some (.lst (ps.map V.int)) := by rw [upd_ne nlt]; exact s8 _ _ (s7 _ _ hl6)
    have hh9 : upd H8 t (.lst []) h = some (.lst (ps.map V.int)) := by rw [upd_ne nht]; exact s8 _ _ (s7 _ _ hh6)
    have hO9 := frs_over (zs := []) (hO.same s8) hX8.lst not
    have hpl9 := fc_over (zs := []) hpl hX8.lst
    have hf9 := fc_over (zs := []) (s8 _ _ (s7 _ _ (s6 _ _ hf5))) hX8.lst
    generalize upd H8 t (.lst []) = H9 at hl9 hh9 hO9 hpl9 hf9 ⊢
    refine ⟨_, rfl, _, rfl, _, rfl, _, rfl, h, (1 + cellF ns 0 / 2 % x), ps, rfl, hh9, g, fun t2 Ha xs2 sa ht2 hX2 xl2 => ?_⟩
    refine ⟨_, rfl, l, t2, o, (1 + cellF ns 0 / 2 % x), ps, xs2, rs, rfl, sa _ _ hl9, g, hX2, xl2, hO9.same sa, eo, fun p2 Hb sb hp2 => ?_⟩
    have hplb := (sa.trans sb) _ _ hpl9
    have hfb := (sa.trans sb) _ _ hf9
    have hOb := hO9.same (sa.trans sb)
    refine ⟨_, rfl, p2, pl, [(Rk.wf (1 + cellF ns 0 / 2 % x) ps (1 + cellF ns 0 / 2 % x).toNat).1, (Rk.wf (1 + cellF ns 0 / 2 % x) ps (1 + cellF ns 0 / 2 % x).toNat).2], [(Rk.wf (1 + cellF ns 0 / 2 % x) ps (1 + cellF ns 0 / 2 % x).toNat).1, (Rk.wf (1 + cellF ns 0 / 2 % x) ps (1 + cellF ns 0 / 2 % x).toNat).2], rfl, rfl, SqT.of hp2, SqT.of hplb, _, rfl, ?_⟩
    refine ifF (by rw [decide_eq_true rfl]; rfl) ?_
    refine ⟨_, rfl, pl, _, _, _, rfl, rfl, (sq_fc hplb), rfl, _, rfl, pf, _, _, _, rfl, rfl, (sq_fc hfb), rfl, _, _, rfl, rfl, mulOk (wt) (sr.2.2) (by decide), _, rfl, pf, _, _, _, rfl, rfl, (sq_fc hfb), rfl, _, rfl, pl, _, _, _, rfl, rfl, (sq_fc hplb), rfl, _, _, rfl, rfl, mulOk (sr.2.1) (wb) (by decide), _, _, rfl, rfl, ?_⟩
    refine ⟨_, rfl, _, rfl, pl, _, _, _, rfl, rfl, (sq_fc hplb), rfl, _, rfl, pf, _, _, _, rfl, rfl, (sq_fc hfb), rfl, _, _, rfl, rfl, mulOk (wb) (sr.2.2) (by decide), _, _, rfl, Int.mul_pos wo.1.pos sr.1.pos, Nat.le_trans (PySem.intBits_mul_le wb sr.2.2) (by decide), fun p3 Hc sc hp3 => ?_⟩
    obtain ⟨y, haty, hy⟩ := frs_get (hOb.same sc) eo (i := 0) (Rk.onR_at (1 + cellF ns 0 / 2 % x) (1 + cellF ns 0 / 2 % x).toNat 0 (Nat.zero_le _))
    have hp3 : FcAt Hc p3 (Rk.wk (1 + cellF ns 0 / 2 % x) 0) := by
      have e := Rk.whole83 g
      rw [← e]
      exact hp3
    refine ⟨_, rfl, o, _, _, _, rfl, rfl, SqL.of (hOb.same sc).lst, haty, p3, y.q, [(Rk.wk (1 + cellF ns 0 / 2 % x) 0).1, (Rk.wk (1 + cellF ns 0 / 2 % x) 0).2], [(Rk.wk (1 + cellF ns 0 / 2 % x) 0).1, (Rk.wk (1 + cellF ns 0 / 2 % x) 0).2], rfl, rfl, SqT.of hp3, SqT.of hy, ?_⟩
    rw [decide_eq_true rfl]
    exact q _
  · refine ifF (decide_eq_false h7) ?_
    refine iteF ?_
    refine ⟨_, rfl, _, rfl, h, (1 + cellF ns 0 / 2 % x), ps, rfl, (s3.trans s4) _ _ hh2, g, fun t H6 xs s6 ht hX xl => ?_⟩
    refine ⟨_, rfl, _, _, _, rfl, .lst hX.lst, kit_same _, _, rfl, ?_⟩
    refine iteF ?_
    refine ⟨_, rfl, t, _, rfl, .inl (SqL.of hX.lst), _, rfl, rfl, _, rfl, ?_⟩
    refine ifF (by rw [decide_eq_true (show V.int ((r3refs xs).length : Int) = V.int (1 + cellF ns 0 / 2 % x) by rw [r3_length, xl]; congr 1; omega)]; rfl) ?_
    have s26 := (s3.trans s4).trans s6
    have hl6 := s26 _ _ hl2
    have hh6 := s26 _ _ hh2
    refine ⟨_, rfl, _, rfl, h, l, true, rfl, rfl, ints_eq hh6 hl6, _, rfl, ?_⟩
    refine iteF ?_
    refine ⟨_, rfl, (1 + cellF ns 0 / 2 % x), rfl, hm, fun o H7 rs s7 hO eo => ?_⟩
    have hX7 := hX.same s7
    refine ⟨_, rfl, _, rfl, _, rfl, _, rfl, l, t, o, (1 + cellF ns 0 / 2 % x), ps, xs, rs, rfl, s7 _ _ hl6, g, hX7, xl, hO, eo, fun pl H8 s8 hpl => ?_⟩
    refine ⟨_, rfl, rfl, _, rfl, ?_⟩
    refine iteF ?_
    have hX8 := hX7.same s8
    refine ⟨_, rfl, .inl ⟨rfl, _, SqL.of hX8.lst⟩, t, r3refs xs, rfl, rfl, hX8.lst, ?_⟩
    have nlt : l ≠ t := ne_of_none ((s3.trans s4) _ _ hl2) ht
    have nht : h ≠ t := ne_of_none ((s3.trans s4) _ _ hh2) ht
    have not : o ≠ t := on_ne hO hX7 xl eo
    have hl9 : upd H8 t (.lst []) l = some (.lst (ps.map V.int)) := by rw [upd_ne nlt]; exact s8 _ _ (s7 _ _ hl6)
    have hh9 : upd H8 t (.lst []) h = some (.lst (ps.map V.int)) := by rw [upd_ne nht]; exact s8 _ _ (s7 _ _ hh6)
    have hO9 := frs_over (zs := []) (hO.same s8) hX8.lst not
    have hpl9 := fc_over (zs := []) hpl hX8.lst
    have hf9 := fc_over (zs := []) (s8 _ _ (s7 _ _ (s6 _ _ hf4))) hX8.lst
    generalize upd H8 t (.lst []) = H9 at hl9 hh9 hO9 hpl9 hf9 ⊢
    refine ⟨_, rfl, _, rfl, _, rfl, _, rfl, h, (1 + cellF ns 0 / 2 % x), ps, rfl, hh9, g, fun t2 Ha xs2 sa ht2 hX2 xl2 => ?_⟩
    refine ⟨_, rfl, l, t2, o, (1 + cellF ns 0 / 2 % x), ps, xs2, rs, rfl, sa _ _ hl9, g, hX2, xl2, hO9.same sa, eo, fun p2 Hb sb hp2 => ?_⟩
    have hplb := (sa.trans sb) _ _ hpl9
    have hfb := (sa.trans sb) _ _ hf9
    have hOb := hO9.same (sa.trans sb)
    refine ⟨_, rfl, p2, pl, [(Rk.wf (1 + cellF ns 0 / 2 % x) ps (1 + cellF ns 0 / 2 % x).toNat).1, (Rk.wf (1 + cellF ns 0 / 2 % x) ps (1 + cellF ns 0 / 2 % x).toNat).2], [(Rk.wf (1 + cellF ns 0 / 2 % x) ps (1 + cellF ns 0 / 2 % x).toNat).1, (Rk.wf (1 + cellF ns 0 / 2 % x) ps (1 + cellF ns 0 / 2 % x).toNat).2], rfl, rfl, SqT.of hp2, SqT.of hplb, _, rfl, ?_⟩
    refine ifF (by rw [decide_eq_true rfl]; rfl) ?_
    refine ⟨_, rfl, pl, _, _, _, rfl, rfl, (sq_fc hplb), rfl, _, rfl, pf, _, _, _, rfl, rfl, (sq_fc hfb), rfl, _, _, rfl, rfl, mulOk (wt) (sr.2.2) (by decide), _, rfl, pf, _, _, _, rfl, rfl, (sq_fc hfb), rfl, _, rfl, pl, _, _, _, rfl, rfl, (sq_fc hplb), rfl, _, _, rfl, rfl, mulOk (sr.2.1) (wb) (by decide), _, _, rfl, rfl, ?_⟩
    refine ⟨_, rfl, _, rfl, pl, _, _, _, rfl, rfl, (sq_fc hplb), rfl, _, rfl, pf, _, _, _, rfl, rfl, (sq_fc hfb), rfl, _, _, rfl, rfl, mulOk (wb) (sr.2.2) (by decide), _, _, rfl, Int.mul_pos wo.1.pos sr.1.pos, Nat.le_trans (PySem.intBits_mul_le wb sr.2.2) (by decide), fun p3 Hc sc hp3 => ?_⟩
    obtain ⟨y, haty, hy⟩ := frs_get (hOb.same sc) eo (i := 0) (Rk.onR_at (1 + cellF ns 0 / 2 % x) (1 + cellF ns 0 / 2 % x).toNat 0 (Nat.zero_le _))
    have hp3 : FcAt Hc p3 (Rk.wk (1 + cellF ns 0 / 2 % x) 0) := by
      have e := Rk.whole83 g
      rw [← e]
      exact hp3
    refine ⟨_, rfl, o, _, _, _, rfl, rfl, SqL.of (hOb.same sc).lst, haty, p3, y.q, [(Rk.wk (1 + cellF ns 0 / 2 % x) 0).1, (Rk.wk (1 + cellF ns 0 / 2 % x) 0).2], [(Rk.wk (1 + cellF ns 0 / 2 % x) 0).1, (Rk.wk (1 + cellF ns 0 / 2 % x) 0).2], rfl, rfl, SqT.of hp3, SqT.of hy, ?_⟩
    rw [decide_eq_true rfl]
    exact q _
end
end K83
namespace K83
open PySem L2 TD PyProof.Rows
theorem all_mk {l : W.OpenLaw} {w : World} {K : W.Frag} {h : Heap} {mg : Str → Option Value} {fa f1 f2 f3 f4 f5 f6 f7 f8 f9 f10 f11 f12 f13 f14 f15 f16 f17 f18 f19 f20 f21 f22 f23 f24 f25 f26 f27 f28 f29 f30 f31 f32 f33 f34 : Addr} (X : K.In h) (G : h.Ns mainGlobals mg) (hfa : mg "law" = some (.ref fa))
    {od1 an1 od2 an2 od3 an3 od4 an4 od5 an5 od6 an6 od7 an7 od8 an8 od9 an9 od10 an10 od11 an11 od12 an12 od13 an13 od14 an14 od15 an15 od16 an16 od17 an17 od18 an18 od19 an19 od20 an20 od21 an21 od22 an22 od23 an23 od24 an24 od25 an25 od26 an26 od27 an27 od28 an28 od29 an29 od30 an30 od31 an31 od32 an32 od33 an33 od34 an34 : Option Addr} {sl1 sl2 sl3 sl4 sl5 sl6 sl7 sl8 sl9 sl10 sl11 sl12 sl13 sl14 sl15 sl16 sl17 sl18 sl19 sl20 sl21 sl22 sl23 sl24 sl25 sl26 sl27 sl28 sl29 sl30 sl31 sl32 sl33 sl34 : Array (Option Value)} {oc1 kV1 dc1 pm1 cd1 ct1 oc2 kV2 dc2 pm2 cd2 ct2 oc3 kV3 dc3 pm3 cd3 ct3 oc4 kV4 dc4 pm4 cd4 ct4 oc5 kV5 dc5 pm5 cd5 ct5 oc6 kV6 dc6 pm6 cd6 ct6 oc7 kV7 dc7 pm7 cd7 ct7 oc8 kV8 dc8 pm8 cd8 ct8 oc9 kV9 dc9 pm9 cd9 ct9 oc10 kV10 dc10 pm10 cd10 ct10 oc11 kV11 dc11 pm11 cd11 ct11 oc12 kV12 dc12 pm12 cd12 ct12 oc13 kV13 dc13 pm13 cd13 ct13 oc14 kV14 dc14 pm14 cd14 ct14 oc15 kV15 dc15 pm15 cd15 ct15 oc16 kV16 dc16 pm16 cd16 ct16 oc17 kV17 dc17 pm17 cd17 ct17 oc18 kV18 dc18 pm18 cd18 ct18 oc19 kV19 dc19 pm19 cd19 ct19 oc20 kV20 dc20 pm20 cd20 ct20 oc21 kV21 dc21 pm21 cd21 ct21 oc22 kV22 dc22 pm22 cd22 ct22 oc23 kV23 dc23 pm23 cd23 ct23 oc24 kV24 dc24 pm24 cd24 ct24 oc25 kV25 dc25 pm25 cd25 ct25 oc26 kV26 dc26 pm26 cd26 ct26 oc27 kV27 dc27 pm27 cd27 ct27 oc28 kV28 dc28 pm28 cd28 ct28 oc29 kV29 dc29 pm29 cd29 ct29 oc30 kV30 dc30 pm30 cd30 ct30 oc31 kV31 dc31 pm31 cd31 ct31 oc32 kV32 dc32 pm32 cd32 ct32 oc33 kV33 dc33 pm33 cd33 ct33 oc34 kV34 dc34 pm34 cd34 ct34 : Value}
    (a1 : W.nsIn K mainGlobals "is_whole" = some (some (.ref f1))) (l1 : K.lookup f1 = some ⟨oc1, od1, .func (W.fnOf "is_whole" "is_whole" (defArgs (top 4)) (defBody (top 4)) (defScope (top 4)) .none kV1 dc1 pm1 an1 cd1 ct1), sl1⟩) (c1 : W.codeIn K cd1 "is_whole" = true) (k1 : W.keepIn K (.ref f1) = true)
    (a2 : W.nsIn K mainGlobals "common_divisor" = some (some (.ref f2))) (l2 : K.lookup f2 = some ⟨oc2, od2, .func (W.fnOf "common_divisor" "common_divisor" (defArgs (top 5)) (defBody (top 5)) (defScope (top 5)) .none kV2 dc2 pm2 an2 cd2 ct2), sl2⟩) (c2 : W.codeIn K cd2 "common_divisor" = true) (k2 : W.keepIn K (.ref f2) = true)
    (a3 : W.nsIn K mainGlobals "share" = some (some (.ref f3))) (l3 : K.lookup f3 = some ⟨oc3, od3, .func (W.fnOf "share" "share" (defArgs (top 7)) (defBody (top 7)) (defScope (top 7)) .none kV3 dc3 pm3 an3 cd3 ct3), sl3⟩) (c3 : W.codeIn K cd3 "share" = true) (k3 : W.keepIn K (.ref f3) = true)
    (a4 : W.nsIn K mainGlobals "whole" = some (some (.ref f4))) (l4 : K.lookup f4 = some ⟨oc4, od4, .func (W.fnOf "whole" "whole" (defArgs (top 8)) (defBody (top 8)) (defScope (top 8)) .none kV4 dc4 pm4 an4 cd4 ct4), sl4⟩) (c4 : W.codeIn K cd4 "whole" = true) (k4 : W.keepIn K (.ref f4) = true)
    (a5 : W.nsIn K mainGlobals "plus" = some (some (.ref f5))) (l5 : K.lookup f5 = some ⟨oc5, od5, .func (W.fnOf "plus" "plus" (defArgs (top 9)) (defBody (top 9)) (defScope (top 9)) .none kV5 dc5 pm5 an5 cd5 ct5), sl5⟩) (c5 : W.codeIn K cd5 "plus" = true) (k5 : W.keepIn K (.ref f5) = true)
    (a6 : W.nsIn K mainGlobals "minus" = some (some (.ref f6))) (l6 : K.lookup f6 = some ⟨oc6, od6, .func (W.fnOf "minus" "minus" (defArgs (top 10)) (defBody (top 10)) (defScope (top 10)) .none kV6 dc6 pm6 an6 cd6 ct6), sl6⟩) (c6 : W.codeIn K cd6 "minus" = true) (k6 : W.keepIn K (.ref f6) = true)
    (a7 : W.nsIn K mainGlobals "times" = some (some (.ref f7))) (l7 : K.lookup f7 = some ⟨oc7, od7, .func (W.fnOf "times" "times" (defArgs (top 12)) (defBody (top 12)) (defScope (top 12)) .none kV7 dc7 pm7 an7 cd7 ct7), sl7⟩) (c7 : W.codeIn K cd7 "times" = true) (k7 : W.keepIn K (.ref f7) = true)
    (a8 : W.nsIn K mainGlobals "over" = some (some (.ref f8))) (l8 : K.lookup f8 = some ⟨oc8, od8, .func (W.fnOf "over" "over" (defArgs (top 13)) (defBody (top 13)) (defScope (top 13)) .none kV8 dc8 pm8 an8 cd8 ct8), sl8⟩) (c8 : W.codeIn K cd8 "over" = true) (k8 : W.keepIn K (.ref f8) = true)
    (a9 : W.nsIn K mainGlobals "below" = some (some (.ref f9))) (l9 : K.lookup f9 = some ⟨oc9, od9, .func (W.fnOf "below" "below" (defArgs (top 14)) (defBody (top 14)) (defScope (top 14)) .none kV9 dc9 pm9 an9 cd9 ct9), sl9⟩) (c9 : W.codeIn K cd9 "below" = true) (k9 : W.keepIn K (.ref f9) = true)
    (a10 : W.nsIn K mainGlobals "greater" = some (some (.ref f10))) (l10 : K.lookup f10 = some ⟨oc10, od10, .func (W.fnOf "greater" "greater" (defArgs (top 15)) (defBody (top 15)) (defScope (top 15)) .none kV10 dc10 pm10 an10 cd10 ct10), sl10⟩) (c10 : W.codeIn K cd10 "greater" = true) (k10 : W.keepIn K (.ref f10) = true)
    (a11 : W.nsIn K mainGlobals "need_many" = some (some (.ref f11))) (l11 : K.lookup f11 = some ⟨oc11, od11, .func (W.fnOf "need_many" "need_many" (defArgs (top 18)) (defBody (top 18)) (defScope (top 18)) .none kV11 dc11 pm11 an11 cd11 ct11), sl11⟩) (c11 : W.codeIn K cd11 "need_many" = true) (k11 : W.keepIn K (.ref f11) = true)
    (a12 : W.nsIn K mainGlobals "is_places" = some (some (.ref f12))) (l12 : K.lookup f12 = some ⟨oc12, od12, .func (W.fnOf "is_places" "is_places" (defArgs (top 19)) (defBody (top 19)) (defScope (top 19)) .none kV12 dc12 pm12 an12 cd12 ct12), sl12⟩) (c12 : W.codeIn K cd12 "is_places" = true) (k12 : W.keepIn K (.ref f12) = true)
    (a13 : W.nsIn K mainGlobals "need_places" = some (some (.ref f13))) (l13 : K.lookup f13 = some ⟨oc13, od13, .func (W.fnOf "need_places" "need_places" (defArgs (top 20)) (defBody (top 20)) (defScope (top 20)) .none kV13 dc13 pm13 an13 cd13 ct13), sl13⟩) (c13 : W.codeIn K cd13 "need_places" = true) (k13 : W.keepIn K (.ref f13) = true)
    (a14 : W.nsIn K mainGlobals "rank_worths" = some (some (.ref f14))) (l14 : K.lookup f14 = some ⟨oc14, od14, .func (W.fnOf "rank_worths" "rank_worths" (defArgs (top 21)) (defBody (top 21)) (defScope (top 21)) .none kV14 dc14 pm14 an14 cd14 ct14), sl14⟩) (c14 : W.codeIn K cd14 "rank_worths" = true) (k14 : W.keepIn K (.ref f14) = true)
    (a15 : W.nsIn K mainGlobals "reached_places" = some (some (.ref f15))) (l15 : K.lookup f15 = some ⟨oc15, od15, .func (W.fnOf "reached_places" "reached_places" (defArgs (top 22)) (defBody (top 22)) (defScope (top 22)) .none kV15 dc15 pm15 an15 cd15 ct15), sl15⟩) (c15 : W.codeIn K cd15 "reached_places" = true) (k15 : W.keepIn K (.ref f15) = true)
    (a16 : W.nsIn K mainGlobals "share_by" = some (some (.ref f16))) (l16 : K.lookup f16 = some ⟨oc16, od16, .func (W.fnOf "share_by" "share_by" (defArgs (top 23)) (defBody (top 23)) (defScope (top 23)) .none kV16 dc16 pm16 an16 cd16 ct16), sl16⟩) (c16 : W.codeIn K cd16 "share_by" = true) (k16 : W.keepIn K (.ref f16) = true)
    (a17 : W.nsIn K mainGlobals "rank_losses" = some (some (.ref f17))) (l17 : K.lookup f17 = some ⟨oc17, od17, .func (W.fnOf "rank_losses" "rank_losses" (defArgs (top 24)) (defBody (top 24)) (defScope (top 24)) .none kV17 dc17 pm17 an17 cd17 ct17), sl17⟩) (c17 : W.codeIn K cd17 "rank_losses" = true) (k17 : W.keepIn K (.ref f17) = true)
    (a18 : W.nsIn K mainGlobals "_law_cell" = some (some (.ref f18))) (l18 : K.lookup f18 = some ⟨oc18, od18, .func (W.fnOf "_law_cell" "_law_cell" (defArgs (top 26)) (defBody (top 26)) (defScope (top 26)) .none kV18 dc18 pm18 an18 cd18 ct18), sl18⟩) (c18 : W.codeIn K cd18 "_law_cell" = true) (k18 : W.keepIn K (.ref f18) = true)
    (a19 : W.nsIn K mainGlobals "_law_mix" = some (some (.ref f19))) (l19 : K.lookup f19 = some ⟨oc19, od19, .func (W.fnOf "_law_mix" "_law_mix" (defArgs (top 27)) (defBody (top 27)) (defScope (top 27)) .none kV19 dc19 pm19 an19 cd19 ct19), sl19⟩) (c19 : W.codeIn K cd19 "_law_mix" = true) (k19 : W.keepIn K (.ref f19) = true)
    (a20 : W.nsIn K mainGlobals "_law_common" = some (some (.ref f20))) (l20 : K.lookup f20 = some ⟨oc20, od20, .func (W.fnOf "_law_common" "_law_common" (defArgs (top 28)) (defBody (top 28)) (defScope (top 28)) .none kV20 dc20 pm20 an20 cd20 ct20), sl20⟩) (c20 : W.codeIn K cd20 "_law_common" = true) (k20 : W.keepIn K (.ref f20) = true)
    (a21 : W.nsIn K mainGlobals "_law_whole" = some (some (.ref f21))) (l21 : K.lookup f21 = some ⟨oc21, od21, .func (W.fnOf "_law_whole" "_law_whole" (defArgs (top 29)) (defBody (top 29)) (defScope (top 29)) .none kV21 dc21 pm21 an21 cd21 ct21), sl21⟩) (c21 : W.codeIn K cd21 "_law_whole" = true) (k21 : W.keepIn K (.ref f21) = true)
    (a22 : W.nsIn K mainGlobals "_law_lowest" = some (some (.ref f22))) (l22 : K.lookup f22 = some ⟨oc22, od22, .func (W.fnOf "_law_lowest" "_law_lowest" (defArgs (top 30)) (defBody (top 30)) (defScope (top 30)) .none kV22 dc22 pm22 an22 cd22 ct22), sl22⟩) (c22 : W.codeIn K cd22 "_law_lowest" = true) (k22 : W.keepIn K (.ref f22) = true)
    (a23 : W.nsIn K mainGlobals "_law_same" = some (some (.ref f23))) (l23 : K.lookup f23 = some ⟨oc23, od23, .func (W.fnOf "_law_same" "_law_same" (defArgs (top 31)) (defBody (top 31)) (defScope (top 31)) .none kV23 dc23 pm23 an23 cd23 ct23), sl23⟩) (c23 : W.codeIn K cd23 "_law_same" = true) (k23 : W.keepIn K (.ref f23) = true)
    (a24 : W.nsIn K mainGlobals "_law_orders" = some (some (.ref f24))) (l24 : K.lookup f24 = some ⟨oc24, od24, .func (W.fnOf "_law_orders" "_law_orders" (defArgs (top 32)) (defBody (top 32)) (defScope (top 32)) .none kV24 dc24 pm24 an24 cd24 ct24), sl24⟩) (c24 : W.codeIn K cd24 "_law_orders" = true) (k24 : W.keepIn K (.ref f24) = true)
    (a25 : W.nsIn K mainGlobals "_law_first_at" = some (some (.ref f25))) (l25 : K.lookup f25 = some ⟨oc25, od25, .func (W.fnOf "_law_first_at" "_law_first_at" (defArgs (top 33)) (defBody (top 33)) (defScope (top 33)) .none kV25 dc25 pm25 an25 cd25 ct25), sl25⟩) (c25 : W.codeIn K cd25 "_law_first_at" = true) (k25 : W.keepIn K (.ref f25) = true)
    (a26 : W.nsIn K mainGlobals "_law_counted" = some (some (.ref f26))) (l26 : K.lookup f26 = some ⟨oc26, od26, .func (W.fnOf "_law_counted" "_law_counted" (defArgs (top 34)) (defBody (top 34)) (defScope (top 34)) .none kV26 dc26 pm26 an26 cd26 ct26), sl26⟩) (c26 : W.codeIn K cd26 "_law_counted" = true) (k26 : W.keepIn K (.ref f26) = true)
    (a27 : W.nsIn K mainGlobals "_law_summed" = some (some (.ref f27))) (l27 : K.lookup f27 = some ⟨oc27, od27, .func (W.fnOf "_law_summed" "_law_summed" (defArgs (top 35)) (defBody (top 35)) (defScope (top 35)) .none kV27 dc27 pm27 an27 cd27 ct27), sl27⟩) (c27 : W.codeIn K cd27 "_law_summed" = true) (k27 : W.keepIn K (.ref f27) = true)
    (a28 : W.nsIn K mainGlobals "_law_on" = some (some (.ref f28))) (l28 : K.lookup f28 = some ⟨oc28, od28, .func (W.fnOf "_law_on" "_law_on" (defArgs (top 36)) (defBody (top 36)) (defScope (top 36)) .none kV28 dc28 pm28 an28 cd28 ct28), sl28⟩) (c28 : W.codeIn K cd28 "_law_on" = true) (k28 : W.keepIn K (.ref f28) = true)
    (a29 : W.nsIn K mainGlobals "_law_places" = some (some (.ref f29))) (l29 : K.lookup f29 = some ⟨oc29, od29, .func (W.fnOf "_law_places" "_law_places" (defArgs (top 37)) (defBody (top 37)) (defScope (top 37)) .none kV29 dc29 pm29 an29 cd29 ct29), sl29⟩) (c29 : W.codeIn K cd29 "_law_places" = true) (k29 : W.keepIn K (.ref f29) = true)
    (a30 : W.nsIn K mainGlobals "_law_loss" = some (some (.ref f30))) (l30 : K.lookup f30 = some ⟨oc30, od30, .func (W.fnOf "_law_loss" "_law_loss" (defArgs (top 38)) (defBody (top 38)) (defScope (top 38)) .none kV30 dc30 pm30 an30 cd30 ct30), sl30⟩) (c30 : W.codeIn K cd30 "_law_loss" = true) (k30 : W.keepIn K (.ref f30) = true)
    (a31 : W.nsIn K mainGlobals "_law_walked" = some (some (.ref f31))) (l31 : K.lookup f31 = some ⟨oc31, od31, .func (W.fnOf "_law_walked" "_law_walked" (defArgs (top 39)) (defBody (top 39)) (defScope (top 39)) .none kV31 dc31 pm31 an31 cd31 ct31), sl31⟩) (c31 : W.codeIn K cd31 "_law_walked" = true) (k31 : W.keepIn K (.ref f31) = true)
    (a32 : W.nsIn K mainGlobals "law" = some (some (.ref f32))) (l32 : K.lookup f32 = some ⟨oc32, od32, .func (W.fnOf "law" "law" (defArgs (top 40)) (defBody (top 40)) (defScope (top 40)) .none kV32 dc32 pm32 an32 cd32 ct32), sl32⟩) (c32 : W.codeIn K cd32 "law" = true) (k32 : W.keepIn K (.ref f32) = true)
    (a33 : W.nsIn K mainGlobals "common_multiple" = some (some (.ref f33))) (l33 : K.lookup f33 = some ⟨oc33, od33, .func (W.fnOf "common_multiple" "common_multiple" (defArgs (top 6)) (defBody (top 6)) (defScope (top 6)) .none kV33 dc33 pm33 an33 cd33 ct33), sl33⟩) (c33 : W.codeIn K cd33 "common_multiple" = true) (k33 : W.keepIn K (.ref f33) = true)
    (a34 : W.nsIn K mainGlobals "total" = some (some (.ref f34))) (l34 : K.lookup f34 = some ⟨oc34, od34, .func (W.fnOf "total" "total" (defArgs (top 11)) (defBody (top 11)) (defScope (top 11)) .none kV34 dc34 pm34 an34 cd34 ct34), sl34⟩) (c34 : W.codeIn K cd34 "total" = true) (k34 : W.keepIn K (.ref f34) = true)
    (y_abs : W.nsIn K mainGlobals "abs" = some none)
    (y_all : W.nsIn K mainGlobals "all" = some none)
    (y_bool : W.nsIn K mainGlobals "bool" = some none)
    (y_int : W.nsIn K mainGlobals "int" = some none)
    (y_isinstance : W.nsIn K mainGlobals "isinstance" = some none)
    (y_len : W.nsIn K mainGlobals "len" = some none)
    (y_list : W.nsIn K mainGlobals "list" = some none)
    (y_range : W.nsIn K mainGlobals "range" = some none)
    (y_reversed : W.nsIn K mainGlobals "reversed" = some none)
    (y_set : W.nsIn K mainGlobals "set" = some none)
    (y_sorted : W.nsIn K mainGlobals "sorted" = some none)
    (y_sum : W.nsIn K mainGlobals "sum" = some none)
    (y_tuple : W.nsIn K mainGlobals "tuple" = some none)
    {tk_MOST_RANKS : Tok} (yg_MOST_RANKS : W.nsIn K mainGlobals "MOST_RANKS" = some (some (.int 60 tk_MOST_RANKS)))
    : ∃ fd : FuncData, (∀ (s : Shared) (v : Value), BindsTo s fd ⟨[v], []⟩ [("_law_script", v)]) ∧ ∀ base : Heap, K.In base → base.Ns mainGlobals mg → FnOk l.prog w K mg base CX0 6 fa fd ["_law_script"] (spLaw K) := by
  have e := hfa.symm.trans (W.mg_of X G a32)
  cases e
  have F1 := fun_mk (st := top 4) l1 c1 k1
  have b1 := F1.binds (ps := ["thing", "least", "most"]) fun _ _ _ _ _ _ us hl => match us, hl with | [_, _, _], _ => rfl
  have m1 := W.mg_of X G a1
  have F2 := fun_mk (st := top 5) l2 c2 k2
  have b2 := F2.binds (ps := ["one", "other"]) fun _ _ _ _ _ _ us hl => match us, hl with | [_, _], _ => rfl
  have m2 := W.mg_of X G a2
  have F3 := fun_mk (st := top 7) l3 c3 k3
  have b3 := F3.binds (ps := ["top", "bottom"]) fun _ _ _ _ _ _ us hl => match us, hl with | [_, _], _ => rfl
  have m3 := W.mg_of X G a3
  have F4 := fun_mk (st := top 8) l4 c4 k4
  have b4 := F4.binds (ps := ["number"]) fun _ _ _ _ _ _ us hl => match us, hl with | [_], _ => rfl
  have m4 := W.mg_of X G a4
  have F5 := fun_mk (st := top 9) l5 c5 k5
  have b5 := F5.binds (ps := ["one", "other"]) fun _ _ _ _ _ _ us hl => match us, hl with | [_, _], _ => rfl
  have m5 := W.mg_of X G a5
  have F6 := fun_mk (st := top 10) l6 c6 k6
  have b6 := F6.binds (ps := ["one", "other"]) fun _ _ _ _ _ _ us hl => match us, hl with | [_, _], _ => rfl
  have m6 := W.mg_of X G a6
  have F7 := fun_mk (st := top 12) l7 c7 k7
  have b7 := F7.binds (ps := ["one", "other"]) fun _ _ _ _ _ _ us hl => match us, hl with | [_, _], _ => rfl
  have m7 := W.mg_of X G a7
  have F8 := fun_mk (st := top 13) l8 c8 k8
  have b8 := F8.binds (ps := ["one", "other"]) fun _ _ _ _ _ _ us hl => match us, hl with | [_, _], _ => rfl
  have m8 := W.mg_of X G a8
  have F9 := fun_mk (st := top 14) l9 c9 k9
  have b9 := F9.binds (ps := ["one", "other"]) fun _ _ _ _ _ _ us hl => match us, hl with | [_, _], _ => rfl
  have m9 := W.mg_of X G a9
  have F10 := fun_mk (st := top 15) l10 c10 k10
  have b10 := F10.binds (ps := ["one", "other"]) fun _ _ _ _ _ _ us hl => match us, hl with | [_, _], _ => rfl
  have m10 := W.mg_of X G a10
  have F11 := fun_mk (st := top 18) l11 c11 k11
  have b11 := F11.binds (ps := ["many"]) fun _ _ _ _ _ _ us hl => match us, hl with | [_], _ => rfl
  have m11 := W.mg_of X G a11
  have F12 := fun_mk (st := top 19) l12 c12 k12
  have b12 := F12.binds (ps := ["places", "many"]) fun _ _ _ _ _ _ us hl => match us, hl with | [_, _], _ => rfl
  have m12 := W.mg_of X G a12
  have F13 := fun_mk (st := top 20) l13 c13 k13
  have b13 := F13.binds (ps := ["many", "places"]) fun _ _ _ _ _ _ us hl => match us, hl with | [_, _], _ => rfl
  have m13 := W.mg_of X G a13
  have F14 := fun_mk (st := top 21) l14 c14 k14
  have b14 := F14.binds (ps := ["many"]) fun _ _ _ _ _ _ us hl => match us, hl with | [_], _ => rfl
  have m14 := W.mg_of X G a14
  have F15 := fun_mk (st := top 22) l15 c15 k15
  have b15 := F15.binds (ps := ["many", "places"]) fun _ _ _ _ _ _ us hl => match us, hl with | [_, _], _ => rfl
  have m15 := W.mg_of X G a15
  have F16 := fun_mk (st := top 23) l16 c16 k16
  have b16 := F16.binds (ps := ["many", "places"]) fun _ _ _ _ _ _ us hl => match us, hl with | [_, _], _ => rfl
  have m16 := W.mg_of X G a16
  have F17 := fun_mk (st := top 24) l17 c17 k17
  have b17 := F17.binds (ps := ["many", "places"]) fun _ _ _ _ _ _ us hl => match us, hl with | [_, _], _ => rfl
  have m17 := W.mg_of X G a17
  have F18 := fun_mk (st := top 26) l18 c18 k18
  have b18 := F18.binds (ps := ["_law_script", "_law_k"]) fun _ _ _ _ _ _ us hl => match us, hl with | [_, _], _ => rfl
  have m18 := W.mg_of X G a18
  have F19 := fun_mk (st := top 27) l19 c19 k19
  have b19 := F19.binds (ps := ["_law_cell_here", "_law_k"]) fun _ _ _ _ _ _ us hl => match us, hl with | [_, _], _ => rfl
  have m19 := W.mg_of X G a19
  have F20 := fun_mk (st := top 28) l20 c20 k20
  have b20 := F20.binds (ps := ["_law_one", "_law_other"]) fun _ _ _ _ _ _ us hl => match us, hl with | [_, _], _ => rfl
  have m20 := W.mg_of X G a20
  have F21 := fun_mk (st := top 29) l21 c21 k21
  have b21 := F21.binds (ps := ["_law_found"]) fun _ _ _ _ _ _ us hl => match us, hl with | [_], _ => rfl
  have m21 := W.mg_of X G a21
  have F22 := fun_mk (st := top 30) l22 c22 k22
  have b22 := F22.binds (ps := ["_law_top", "_law_bottom"]) fun _ _ _ _ _ _ us hl => match us, hl with | [_, _], _ => rfl
  have m22 := W.mg_of X G a22
  have F23 := fun_mk (st := top 31) l23 c23 k23
  have b23 := F23.binds (ps := ["_law_found", "_law_due"]) fun _ _ _ _ _ _ us hl => match us, hl with | [_, _], _ => rfl
  have m23 := W.mg_of X G a23
  have F24 := fun_mk (st := top 32) l24 c24 k24
  have b24 := F24.binds (ps := ["_law_many"]) fun _ _ _ _ _ _ us hl => match us, hl with | [_], _ => rfl
  have m24 := W.mg_of X G a24
  have F25 := fun_mk (st := top 33) l25 c25 k25
  have b25 := F25.binds (ps := ["_law_order", "_law_places_here"]) fun _ _ _ _ _ _ us hl => match us, hl with | [_, _], _ => rfl
  have m25 := W.mg_of X G a25
  have F26 := fun_mk (st := top 34) l26 c26 k26
  have b26 := F26.binds (ps := ["_law_many", "_law_places_here"]) fun _ _ _ _ _ _ us hl => match us, hl with | [_, _], _ => rfl
  have m26 := W.mg_of X G a26
  have F27 := fun_mk (st := top 35) l27 c27 k27
  have b27 := F27.binds (ps := ["_law_many", "_law_places_here"]) fun _ _ _ _ _ _ us hl => match us, hl with | [_, _], _ => rfl
  have m27 := W.mg_of X G a27
  have F28 := fun_mk (st := top 36) l28 c28 k28
  have b28 := F28.binds (ps := ["_law_many"]) fun _ _ _ _ _ _ us hl => match us, hl with | [_], _ => rfl
  have m28 := W.mg_of X G a28
  have F29 := fun_mk (st := top 37) l29 c29 k29
  have b29 := F29.binds (ps := ["_law_script", "_law_many"]) fun _ _ _ _ _ _ us hl => match us, hl with | [_, _], _ => rfl
  have m29 := W.mg_of X G a29
  have F30 := fun_mk (st := top 38) l30 c30 k30
  have b30 := F30.binds (ps := ["_law_many", "_law_place", "_law_on_here", "_law_taken"]) fun _ _ _ _ _ _ us hl => match us, hl with | [_, _, _, _], _ => rfl
  have m30 := W.mg_of X G a30
  have F31 := fun_mk (st := top 39) l31 c31 k31
  have b31 := F31.binds (ps := ["_law_many", "_law_places_here", "_law_told", "_law_on_here"]) fun _ _ _ _ _ _ us hl => match us, hl with | [_, _, _, _], _ => rfl
  have m31 := W.mg_of X G a31
  have F32 := fun_mk (st := top 40) l32 c32 k32
  have F33 := fun_mk (st := top 6) l33 c33 k33
  have b33 := F33.binds (ps := ["numbers"]) fun _ _ _ _ _ _ us hl => match us, hl with | [_], _ => rfl
  have m33 := W.mg_of X G a33
  have F34 := fun_mk (st := top 11) l34 c34 k34
  have b34 := F34.binds (ps := ["fractions"]) fun _ _ _ _ _ _ us hl => match us, hl with | [_], _ => rfl
  have m34 := W.mg_of X G a34
  have z_abs := W.mg_none_of X G y_abs
  have z_all := W.mg_none_of X G y_all
  have z_bool := W.mg_none_of X G y_bool
  have z_int := W.mg_none_of X G y_int
  have z_isinstance := W.mg_none_of X G y_isinstance
  have z_len := W.mg_none_of X G y_len
  have z_list := W.mg_none_of X G y_list
  have z_range := W.mg_none_of X G y_range
  have z_reversed := W.mg_none_of X G y_reversed
  have z_set := W.mg_none_of X G y_set
  have z_sorted := W.mg_none_of X G y_sorted
  have z_sum := W.mg_none_of X G y_sum
  have z_tuple := W.mg_none_of X G y_tuple
  have g_MOST_RANKS := W.mg_of X G yg_MOST_RANKS
  have r_MOST_RANKS : RelV (.int 60) (.int 60 tk_MOST_RANKS) := ⟨_, rfl⟩
  refine ⟨W.fnOf "law" "law" (defArgs (top 40)) (defBody (top 40)) (defScope (top 40)) .none kV32 dc32 pm32 an32 cd32 ct32, fun s v => .of_eq rfl, fun base _ _ => ?_⟩
  have C1 : Cal l.prog w K mg base 1 "is_whole" ["thing", "least", "most"] spIsW f1 _ := ⟨ok_is_whole (n := 0) F1  z_isinstance z_bool z_int , b1, k1, m1⟩
  have C2 : Cal l.prog w K mg base 1 "common_divisor" ["one", "other"] spCd f2 _ := ⟨ok_common_divisor (n := 0) F2  z_abs , b2, k2, m2⟩
  have C3 : Cal l.prog w K mg base 2 "share" ["top", "bottom"] spShare f3 _ := ⟨ok_share (n := 1) F3 (C2.up (by decide))  , b3, k3, m3⟩
  have C4 : Cal l.prog w K mg base 1 "whole" ["number"] spWh f4 _ := ⟨ok_whole (n := 0) F4   , b4, k4, m4⟩
  have C5 : Cal l.prog w K mg base 3 "plus" ["one", "other"] (spFr K pT pB) f5 _ := ⟨ok_plus (n := 2) F5 (C3.up (by decide))  , b5, k5, m5⟩
  have C6 : Cal l.prog w K mg base 3 "minus" ["one", "other"] (spFr K mT pB) f6 _ := ⟨ok_minus (n := 2) F6 (C3.up (by decide))  , b6, k6, m6⟩
  have C7 : Cal l.prog w K mg base 3 "times" ["one", "other"] (spFr K tT pB) f7 _ := ⟨ok_times (n := 2) F7 (C3.up (by decide))  , b7, k7, m7⟩
  have C8 : Cal l.prog w K mg base 3 "over" ["one", "other"] (spFr K oT oB) f8 _ := ⟨ok_over (n := 2) F8 (C3.up (by decide))  , b8, k8, m8⟩
  have C9 : Cal l.prog w K mg base 1 "below" ["one", "other"] (spBelow K) f9 _ := ⟨ok_below (n := 0) F9   , b9, k9, m9⟩
  have C10 : Cal l.prog w K mg base 2 "greater" ["one", "other"] (spGr K) f10 _ := ⟨ok_greater (n := 1) F10 (C9.up (by decide))  , b10, k10, m10⟩
  have C11 : Cal l.prog w K mg base 2 "need_many" ["many"] spNeed f11 _ := ⟨ok_need_many (n := 1) F11 (C1.up (by decide))  g_MOST_RANKS r_MOST_RANKS, b11, k11, m11⟩
  have C12 : Cal l.prog w K mg base 2 "is_places" ["places", "many"] spPlG f12 _ := ⟨ok_is_places (n := 1) F12 (C1.up (by decide)) z_all z_isinstance z_list z_set z_sorted , b12, k12, m12⟩
  have C13 : Cal l.prog w K mg base 3 "need_places" ["many", "places"] spNPG f13 _ := ⟨ok_need_places (n := 2) F13 (C12.up (by decide)) (C11.up (by decide))  , b13, k13, m13⟩
  have C14 : Cal l.prog w K mg base 4 "rank_worths" ["many"] spRW f14 _ := ⟨ok_rank_worths (n := 3) F14 (C5.up (by decide)) (C7.up (by decide)) (C3.up (by decide)) (C8.up (by decide)) (C4.up (by decide)) (C10.up (by decide)) (C11.up (by decide)) z_range , b14, k14, m14⟩
  have C15 : Cal l.prog w K mg base 4 "reached_places" ["many", "places"] spRP f15 _ := ⟨ok_reached_places (n := 3) F15 (C7.up (by decide)) (C3.up (by decide)) (C4.up (by decide)) z_range , b15, k15, m15⟩
  have C33 : Cal l.prog w K mg base 2 "common_multiple" ["numbers"] (spCMN K) f33 _ := ⟨ok_common_multiple (n := 1) F33 (C2.up (by decide))  , b33, k33, m33⟩
  have C34 : Cal l.prog w K mg base 3 "total" ["fractions"] spTotN f34 _ := ⟨ok_total (n := 2) F34 (C3.up (by decide)) (C33.up (by decide)) z_sum , b34, k34, m34⟩
  have C16 : Cal l.prog w K mg base 5 "share_by" ["many", "places"] spSB f16 _ := ⟨ok_share_by (n := 4) F16 (C7.up (by decide)) (C34.up (by decide)) (C3.up (by decide)) (C15.up (by decide)) (C13.up (by decide))  , b16, k16, m16⟩
  have C17 : Cal l.prog w K mg base 5 "rank_losses" ["many", "places"] spRL f17 _ := ⟨ok_rank_losses (n := 4) F17 (C8.up (by decide)) (C4.up (by decide)) (C6.up (by decide)) (C10.up (by decide)) (C3.up (by decide)) (C15.up (by decide)) (C14.up (by decide)) (C13.up (by decide)) z_range , b17, k17, m17⟩
  have C18 : Cal l.prog w K mg base 1 "_law_cell" ["_law_script", "_law_k"] (spCell K) f18 _ := ⟨ok__law_cell (n := 0) F18  z_len , b18, k18, m18⟩
  have C19 : Cal l.prog w K mg base 1 "_law_mix" ["_law_cell_here", "_law_k"] spMix f19 _ := ⟨ok__law_mix (n := 0) F19   , b19, k19, m19⟩
  have C20 : Cal l.prog w K mg base 1 "_law_common" ["_law_one", "_law_other"] spCd f20 _ := ⟨ok__law_common (n := 0) F20  z_abs , b20, k20, m20⟩
  have C21 : Cal l.prog w K mg base 1 "_law_whole" ["_law_found"] spIsWhole f21 _ := ⟨ok__law_whole (n := 0) F21  z_isinstance z_bool z_int , b21, k21, m21⟩
  have C22 : Cal l.prog w K mg base 2 "_law_lowest" ["_law_top", "_law_bottom"] spLow f22 _ := ⟨ok__law_lowest (n := 1) F22 (C20.up (by decide))  , b22, k22, m22⟩
  have C23 : Cal l.prog w K mg base 2 "_law_same" ["_law_found", "_law_due"] spSame f23 _ := ⟨ok__law_same (n := 1) F23 (C21.up (by decide)) z_len z_isinstance z_tuple , b23, k23, m23⟩
  have C24 : Cal l.prog w K mg base 1 "_law_orders" ["_law_many"] spOrd f24 _ := ⟨ok__law_orders (n := 0) F24  z_range , b24, k24, m24⟩
  have C25 : Cal l.prog w K mg base 1 "_law_first_at" ["_law_order", "_law_places_here"] spFA f25 _ := ⟨ok__law_first_at (n := 0) F25  z_range z_len , b25, k25, m25⟩
  have C26 : Cal l.prog w K mg base 3 "_law_counted" ["_law_many", "_law_places_here"] spCntP f26 _ := ⟨ok__law_counted (n := 2) F26 (C22.up (by decide)) (C25.up (by decide)) (C24.up (by decide)) z_len , b26, k26, m26⟩
  have C27 : Cal l.prog w K mg base 3 "_law_summed" ["_law_many", "_law_places_here"] spSmd f27 _ := ⟨ok__law_summed (n := 2) F27 (C22.up (by decide))  , b27, k27, m27⟩
  have C28 : Cal l.prog w K mg base 3 "_law_on" ["_law_many"] spOn f28 _ := ⟨ok__law_on (n := 2) F28 (C22.up (by decide)) z_list z_reversed z_range , b28, k28, m28⟩
  have C29 : Cal l.prog w K mg base 2 "_law_places" ["_law_script", "_law_many"] (spPlL K) f29 _ := ⟨ok__law_places (n := 1) F29 (C19.up (by decide)) (C18.up (by decide)) z_range z_list , b29, k29, m29⟩
  have C30 : Cal l.prog w K mg base 3 "_law_loss" ["_law_many", "_law_place", "_law_on_here", "_law_taken"] spLoss f30 _ := ⟨ok__law_loss (n := 2) F30 (C22.up (by decide))  , b30, k30, m30⟩
  have C31 : Cal l.prog w K mg base 4 "_law_walked" ["_law_many", "_law_places_here", "_law_told", "_law_on_here"] spWkd f31 _ := ⟨ok__law_walked (n := 3) F31 (C22.up (by decide)) (C23.up (by decide)) (C30.up (by decide)) z_range z_len z_isinstance z_tuple , b31, k31, m31⟩
  exact ok_law (n := 5) F32 (C22.up (by decide)) (C31.up (by decide)) (C17.up (by decide)) (C28.up (by decide)) (C26.up (by decide)) (C23.up (by decide)) (C27.up (by decide)) (C16.up (by decide)) (C29.up (by decide)) (C18.up (by decide)) z_len z_isinstance z_list
theorem walk {l : W.OpenLaw} {q : Program} {loose : List Str} {XP : (Str → Option Value) → Heap → Prop} {YP : World → Heap → Prop} {d : DefRec} {K : Params → W.Frag} (hn : l.most = some 63) (hdf : d.params.defaults = [])
    (hY : ∀ (w : World) (h : Heap), YP w h → (K w.params).In h)
    (F : ∀ (w : World) (mg : Str → Option Value) (fa : Addr) (h : Heap), (K w.params).In h → h.Ns mainGlobals mg → mg d.name = some (.ref fa) →
      ∃ fd : FuncData, (∀ (s : Shared) (u : Value), BindsTo s fd ⟨[u], []⟩ [("_law_script", u)]) ∧ ∀ base : Heap, (K w.params).In base → base.Ns mainGlobals mg → FnOk l.prog w (K w.params) mg base CX0 6 fa fd ["_law_script"] (spLaw (K w.params))) :
    W.WalkO q loose XP YP l.row.toRowW d [] (fun f vs => PySem.call f vs) :=
  L2.walk_of (n := 63) (k := 6) (x := "_law_script") (CX := fun _ => CX0) (sp := fun w => spLaw (K w.params)) hn (by decide) hdf ⟨rfl, by decide, by decide⟩ hY F (fun _ _ a ns hl _ hS => ⟨a, ns, rfl, hS, hl, fun _ => rfl⟩) fun _ _ _ _ _ z => z
noncomputable section
abbrev OO := Params → Obj
def E (P : Params) (x : Str) (t : Tok) (v : Value) : DictEntry := ⟨PyData.keyHash P x, .str x t, v⟩
abbrev fnO (n q : Str) (st : Stmt) (dV kV doc pm : Value) (an : Option Addr) (cdv ct : Value) : FuncData := W.fnOf n q (defArgs st) (defBody st) (defScope st) dV kV doc pm an cdv ct
def fnT (n q : Str) (st : Stmt) : FuncData := { name := n, qualname := q, params := defArgs st, body := .stmts (defBody st), scope := defScope st, globals := 0, closure := [], defaults := .none, kwdefaults := .none }
def s0  : Obj := ⟨(.type "tuple"), none, (.seq #[] 0), #[]⟩
def s1  : Obj := ⟨.none, none, (.fields #[]), #[]⟩
def s2 (x0 : Str) (x1 : Nat) (x2 : Str) (x3 : Nat) (x4 : Str) (x5 : Nat) : Obj := ⟨(.type "tuple"), none, (.seq #[(.str x0 x1), (.str x2 x3), (.str x4 x5)] 0), #[]⟩
def s3 (x0 : Str) (x2 : Stmt) : Obj := ⟨.none, none, (.func (fnT x0 x0 x2)), #[]⟩
def s4 (x0 : Str) (x1 : Nat) (x3 : Nat) (x5 : Nat) (x6 : Int) (x8 : Int) (x16 : Nat) (x19 : Nat) (x20 : Nat) (x21 : Nat) (x22 : Nat) (x23 : Int) (x28 : Nat) : Obj := ⟨(.type "code"), none, (.fields #[(.str x0 x1), (.str x0 x3), (.str "/claim/cut.py" x5), (.int x6 0), (.int x8 0), (.int 0 0), (.int 0 0), (.int 3 0), (.ref x16), (.bool true), (.int 181 0), (.ref x19), .none, (.ref x20), (.ref x21), (.ref x22), (.int x23 0), (.int x6 0), (.str "/claim/cut.py" x28)]), #[]⟩
def s5 (x0 : Str) (x2 : Stmt) (x3 : Str) (x4 : Nat) (x5 : Nat) : Obj := ⟨(.type "function"), none, (.func (fnO x0 x0 x2 .none .none .none (.str x3 x4) none (.ref x5) .none)), #[]⟩
def s6 (x0 : Str) (x1 : Nat) (x2 : Str) (x3 : Nat) : Obj := ⟨(.type "tuple"), none, (.seq #[(.str x0 x1), (.str x2 x3)] 0), #[]⟩
def s7 (x0 : Str) (x1 : Nat) (x3 : Nat) (x5 : Nat) (x6 : Int) (x8 : Int) (x16 : Nat) (x19 : Nat) (x20 : Nat) (x21 : Int) (x26 : Nat) : Obj := ⟨(.type "code"), none, (.fields #[(.str x0 x1), (.str x0 x3), (.str "/claim/cut.py" x5), (.int x6 0), (.int x8 0), (.int 0 0), (.int 0 0), (.int 3 0), (.ref x16), (.bool true), (.int 181 0), (.ref x19), .none, .none, .none, (.ref x20), (.int x21 0), (.int x6 0), (.str "/claim/cut.py" x26)]), #[]⟩
def o13 : OO := fun _ => ⟨(.type "code"), none, (.fields #[(.str "<module>" 182), (.str "<module>" 183), (.str "/claim/cut.py" 184), (.int 1 0), (.int 0 0), (.int 0 0), (.int 0 0), (.int 0 0), (.ref 11), (.bool false), (.int 181 0), (.ref 12), .none, .none, .none, .none, (.int 185 0), (.int 1 0), (.str "/claim/cut.py" 186)]), #[]⟩
def o14 : OO := fun _ => ⟨(.type "frame"), none, .plain, #[(some (.ref 13)), (some (.ref 3)), (some (.ref 3)), none, (some (.str "__main__" 164)), none, (some (.ref 0))]⟩
def o3 : OO := fun P => ⟨(.type "dict"), none, (.dict #[E P "__name__" 165 (.str "law_lidprice_k83_whole_any_places" 390), E P "__doc__" 166 .none, E P "__package__" 167 .none, E P "__loader__" 168 (.builtin "__main__.__loader__#opaque"), E P "__spec__" 169 .none, E P "__annotations__" 170 (.ref 6), E P "__builtins__" 171 (.ref 4), E P "__file__" 173 (.str "/claim/cut.py" 172), E P "__cached__" 174 .none, E P "LidError" 206 (.ref 24), E P "NoRanks" 222 (.ref 37), E P "is_whole" 233 (.ref 46), E P "common_divisor" 242 (.ref 53), E P "common_multiple" 251 (.ref 60), E P "share" 260 (.ref 67), E P "whole" 267 (.ref 74), E P "plus" 275 (.ref 81), E P "minus" 283 (.ref 88), E P "total" 289 (.ref 93), E P "times" 297 (.ref 100), E P "over" 305 (.ref 107), E P "below" 313 (.ref 114), E P "greater" 321 (.ref 121), E P "MOST_RANKS" 325 (.int 60 324), E P "need_many" 332 (.ref 128), E P "is_places" 338 (.ref 133), E P "need_places" 346 (.ref 140), E P "rank_worths" 357 (.ref 147), E P "reached_places" 368 (.ref 154), E P "share_by" 374 (.ref 159), E P "rank_losses" 389 (.ref 166), E P "_law_cell" 399 (.ref 173), E P "_law_mix" 408 (.ref 180), E P "_law_common" 417 (.ref 187), E P "_law_whole" 424 (.ref 194), E P "_law_lowest" 433 (.ref 201), E P "_law_same" 441 (.ref 208), E P "_law_orders" 453 (.ref 215)] 38), #[]⟩
def o12_1 : OO := fun _ => ⟨.none, none, (.fields #[(.int 2 0), (.int 0 0), (.ref 20), (.int 4 0), (.int 0 0), (.ref 33), (.int 7 0), (.int 0 0), (.ref 45), (.int 9 0), (.int 0 0), (.ref 52), (.int 15 0), (.int 0 0), (.ref 59), (.int 20 0), (.int 0 0), (.ref 66), (.int 25 0), (.int 0 0), (.ref 73), (.int 27 0), (.int 0 0), (.ref 80), (.int 29 0), (.int 0 0), (.ref 87), (.int 31 0), (.int 0 0), (.ref 92), (.int 34 0), (.int 0 0), (.ref 99), (.int 36 0), (.int 0 0), (.ref 106), (.int 38 0), (.int 0 0), (.ref 113), (.int 40 0), (.int 0 0), (.ref 120), (.int 44 0), (.int 0 0), (.ref 127), (.int 47 0), (.int 0 0), (.ref 132), (.int 51 0), (.int 0 0), (.ref 139), (.int 55 0), (.int 0 0), (.ref 146), (.int 63 0), (.int 0 0), (.ref 153), (.int 71 0), (.int 0 0), (.ref 158), (.int 75 0), (.int 0 0), (.ref 165), (.int 87 0), (.int 0 0), (.ref 172), (.int 91 0), (.int 0 0), (.ref 179), (.int 95 0), (.int 0 0), (.ref 186), (.int 103 0), (.int 0 0), (.ref 193), (.int 105 0), (.int 0 0), (.ref 200), (.int 108 0), (.int 0 0), (.ref 207), (.int 112 0), (.int 0 0), (.ref 214)]), #[]⟩
def o15 : OO := fun _ => ⟨(.type "tuple"), none, (.seq #[(.type "ValueError")] 0), #[]⟩
def o16 : OO := fun _ => ⟨(.type "builtin_function_or_method"), none, (.fields #[(.builtin "type.__prepare__"), (.type "type")]), #[]⟩
def o17 : OO := fun P => ⟨(.type "dict"), none, (.dict #[E P "__module__" 196 (.str "lidprice.errors" 187), E P "__qualname__" 198 (.str "LidError" 197), E P "__firstlineno__" 200 (.int 2 199), E P "__static_attributes__" 201 (.ref 22)] 4), #[]⟩
def o20 : OO := fun _ => ⟨(.type "code"), none, (.fields #[(.str "LidError" 191), (.str "LidError" 192), (.str "/claim/cut.py" 193), (.int 2 0), (.int 0 0), (.int 0 0), (.int 0 0), (.int 0 0), (.ref 18), (.bool false), (.int 181 0), (.ref 19), .none, .none, .none, .none, (.int 194 0), (.int 2 0), (.str "/claim/cut.py" 195)]), #[]⟩
def o21 : OO := fun _ => ⟨(.type "frame"), none, .plain, #[(some (.ref 20)), (some (.ref 3)), (some (.ref 17)), none, (some (.str "lidprice.errors" 187)), none, (some (.ref 0))]⟩
def o23 : OO := fun P => ⟨(.type "dict"), none, (.dict #[E P "__module__" 196 (.str "lidprice.errors" 187), E P "__firstlineno__" 200 (.int 2 199), E P "__static_attributes__" 201 (.ref 22), E P "__weakref__" 203 (.ref 25), E P "__doc__" 204 .none] 3), #[]⟩
def o24 : OO := fun _ => ⟨(.type "type"), none, (.cls ⟨"LidError", [(.type "ValueError")], [(.ref 24), (.type "ValueError"), (.type "Exception"), (.type "BaseException"), (.type "object")], 23, "LidError", true, [], [(.ref 37)], false, none, false⟩), #[(some (.ref 15)), none, (some (.str "LidError" 189)), (some (.str "LidError" 197)), (some (.builtin "ValueError.__new__")), (some (.bool true))]⟩
def o25 : OO := fun _ => ⟨(.type "getset_descriptor"), none, (.fields #[(.str "__weakref__" 202), (.ref 24), (.builtin "ExceptionGroup.__weakref__"), .none]), #[]⟩
def o26 : OO := fun _ => ⟨(.type "super"), none, (.fields #[(.ref 24), (.ref 24), (.ref 24)]), #[]⟩
def o27 : OO := fun _ => ⟨(.type "builtin_function_or_method"), none, (.fields #[(.builtin "object.__init_subclass__"), (.ref 24)]), #[]⟩
def o28 : OO := fun _ => ⟨(.type "tuple"), none, (.seq #[(.ref 24)] 0), #[]⟩
def o29 : OO := fun _ => ⟨(.type "builtin_function_or_method"), none, (.fields #[(.builtin "type.__prepare__"), (.type "type")]), #[]⟩
def o30 : OO := fun P => ⟨(.type "dict"), none, (.dict #[E P "__module__" 214 (.str "lidprice.errors" 187), E P "__qualname__" 216 (.str "NoRanks" 215), E P "__firstlineno__" 218 (.int 4 217), E P "__static_attributes__" 219 (.ref 35)] 4), #[]⟩
def o33 : OO := fun _ => ⟨(.type "code"), none, (.fields #[(.str "NoRanks" 209), (.str "NoRanks" 210), (.str "/claim/cut.py" 211), (.int 4 0), (.int 0 0), (.int 0 0), (.int 0 0), (.int 0 0), (.ref 31), (.bool false), (.int 181 0), (.ref 32), .none, .none, .none, .none, (.int 212 0), (.int 4 0), (.str "/claim/cut.py" 213)]), #[]⟩
def o34 : OO := fun _ => ⟨(.type "frame"), none, .plain, #[(some (.ref 33)), (some (.ref 3)), (some (.ref 30)), none, (some (.str "lidprice.errors" 187)), none, (some (.ref 0))]⟩
def o36 : OO := fun P => ⟨(.type "dict"), none, (.dict #[E P "__module__" 214 (.str "lidprice.errors" 187), E P "__firstlineno__" 218 (.int 4 217), E P "__static_attributes__" 219 (.ref 35), E P "__doc__" 220 .none] 2), #[]⟩
def o37 : OO := fun _ => ⟨(.type "type"), none, (.cls ⟨"NoRanks", [(.ref 24)], [(.ref 37), (.ref 24), (.type "ValueError"), (.type "Exception"), (.type "BaseException"), (.type "object")], 36, "NoRanks", true, [], [], false, none, false⟩), #[(some (.ref 28)), none, (some (.str "NoRanks" 207)), (some (.str "NoRanks" 215)), (some (.builtin "ValueError.__new__")), (some (.bool true))]⟩
def o38 : OO := fun _ => ⟨(.type "super"), none, (.fields #[(.ref 37), (.ref 37), (.ref 37)]), #[]⟩
def o39 : OO := fun _ => ⟨(.type "builtin_function_or_method"), none, (.fields #[(.builtin "object.__init_subclass__"), (.ref 37)]), #[]⟩
def o42 : OO := fun _ => s2 "thing" 228 "least" 229 "most" 230
def o44 : OO := fun _ => s3 "is_whole" (top 4)
def o45 : OO := fun _ => s4 "is_whole" 225 226 227 7 3 40 41 42 43 44 231 232
def o46 : OO := fun _ => s5 "is_whole" (top 4) "lidprice.shares" 223 45
def o49 : OO := fun _ => s2 "one" 237 "other" 238 "rest" 239
def o51 : OO := fun _ => s3 "common_divisor" (top 5)
def o52 : OO := fun _ => s4 "common_divisor" 234 235 236 9 2 47 48 49 50 51 240 241
def o53 : OO := fun _ => s5 "common_divisor" (top 5) "lidprice.shares" 223 52
def o56 : OO := fun _ => s2 "numbers" 246 "multiple" 247 "number" 248
def o58 : OO := fun _ => s3 "common_multiple" (top 6)
def o59 : OO := fun _ => s4 "common_multiple" 243 244 245 15 1 54 55 56 57 58 249 250
def o60 : OO := fun _ => s5 "common_multiple" (top 6) "lidprice.shares" 223 59
def o63 : OO := fun _ => s2 "top" 255 "bottom" 256 "divisor" 257
def o65 : OO := fun _ => s3 "share" (top 7)
def o66 : OO := fun _ => s4 "share" 252 253 254 20 2 61 62 63 64 65 258 259
def o67 : OO := fun _ => s5 "share" (top 7) "lidprice.shares" 223 66
def o70 : OO := fun _ => ⟨(.type "tuple"), none, (.seq #[(.str "number" 264)] 0), #[]⟩
def o72 : OO := fun _ => s3 "whole" (top 8)
def o73 : OO := fun _ => s4 "whole" 261 262 263 25 1 68 69 70 71 72 265 266
def o74 : OO := fun _ => s5 "whole" (top 8) "lidprice.shares" 223 73
def o77 : OO := fun _ => s6 "one" 271 "other" 272
def o79 : OO := fun _ => s3 "plus" (top 9)
def o80 : OO := fun _ => s4 "plus" 268 269 270 27 2 75 76 77 78 79 273 274
def o81 : OO := fun _ => s5 "plus" (top 9) "lidprice.shares" 223 80
def o84 : OO := fun _ => s6 "one" 279 "other" 280
def o86 : OO := fun _ => s3 "minus" (top 10)
def o87 : OO := fun _ => s4 "minus" 276 277 278 29 2 82 83 84 85 86 281 282
def o88 : OO := fun _ => s5 "minus" (top 10) "lidprice.shares" 223 87
def o91 : OO := fun _ => s3 "total" (top 11)
def o92 : OO := fun _ => s7 "total" 284 285 286 31 1 89 90 91 287 288
def o93 : OO := fun _ => s5 "total" (top 11) "lidprice.shares" 223 92
def o96 : OO := fun _ => s6 "one" 293 "other" 294
def o98 : OO := fun _ => s3 "times" (top 12)
def o99 : OO := fun _ => s4 "times" 290 291 292 34 2 94 95 96 97 98 295 296
def o100 : OO := fun _ => s5 "times" (top 12) "lidprice.shares" 223 99
def o103 : OO := fun _ => s6 "one" 301 "other" 302
def o105 : OO := fun _ => s3 "over" (top 13)
def o106 : OO := fun _ => s4 "over" 298 299 300 36 2 101 102 103 104 105 303 304
def o107 : OO := fun _ => s5 "over" (top 13) "lidprice.shares" 223 106
def o110 : OO := fun _ => s6 "one" 309 "other" 310
def o112 : OO := fun _ => s3 "below" (top 14)
def o113 : OO := fun _ => s4 "below" 306 307 308 38 2 108 109 110 111 112 311 312
def o114 : OO := fun _ => s5 "below" (top 14) "lidprice.shares" 223 113
def o117 : OO := fun _ => s6 "one" 317 "other" 318
def o119 : OO := fun _ => s3 "greater" (top 15)
def o120 : OO := fun _ => s4 "greater" 314 315 316 40 2 115 116 117 118 119 319 320
def o121 : OO := fun _ => s5 "greater" (top 15) "lidprice.shares" 223 120
def o124 : OO := fun _ => ⟨(.type "tuple"), none, (.seq #[(.str "many" 329)] 0), #[]⟩
def o126 : OO := fun _ => s3 "need_many" (top 18)
def o127 : OO := fun _ => s4 "need_many" 326 327 328 44 1 122 123 124 125 126 330 331
def o128 : OO := fun _ => s5 "need_many" (top 18) "lidprice.ranks" 322 127
def o131 : OO := fun _ => s3 "is_places" (top 19)
def o132 : OO := fun _ => s7 "is_places" 333 334 335 47 2 129 130 131 336 337
def o133 : OO := fun _ => s5 "is_places" (top 19) "lidprice.ranks" 322 132
def o136 : OO := fun _ => s6 "many" 342 "places" 343
def o138 : OO := fun _ => s3 "need_places" (top 20)
def o139 : OO := fun _ => s4 "need_places" 339 340 341 51 2 134 135 136 137 138 344 345
def o140 : OO := fun _ => s5 "need_places" (top 20) "lidprice.ranks" 322 139
def o143 : OO := fun _ => ⟨(.type "tuple"), none, (.seq #[(.str "many" 350), (.str "found" 351), (.str "place" 352), (.str "later" 353), (.str "here" 354)] 0), #[]⟩
def o145 : OO := fun _ => s3 "rank_worths" (top 21)
def o146 : OO := fun _ => s4 "rank_worths" 347 348 349 55 1 141 142 143 144 145 355 356
def o147 : OO := fun _ => s5 "rank_worths" (top 21) "lidprice.ranks" 322 146
def o150 : OO := fun _ => ⟨(.type "tuple"), none, (.seq #[(.str "many" 361), (.str "places" 362), (.str "reached" 363), (.str "found" 364), (.str "place" 365)] 0), #[]⟩
def o152 : OO := fun _ => s3 "reached_places" (top 22)
def o153 : OO := fun _ => s4 "reached_places" 358 359 360 63 2 148 149 150 151 152 366 367
def o154 : OO := fun _ => s5 "reached_places" (top 22) "lidprice.ranks" 322 153
def o157 : OO := fun _ => s3 "share_by" (top 23)
def o158 : OO := fun _ => s7 "share_by" 369 370 371 71 2 155 156 157 372 373
def o159 : OO := fun _ => s5 "share_by" (top 23) "lidprice.ranks" 322 158
def o162 : OO := fun _ => ⟨(.type "tuple"), none, (.seq #[(.str "many" 378), (.str "places" 379), (.str "worths" 380), (.str "reached" 381), (.str "found" 382), (.str "place" 383), (.str "taken" 384), (.str "later" 385), (.str "lack" 386)] 0), #[]⟩
def o164 : OO := fun _ => s3 "rank_losses" (top 24)
def o165 : OO := fun _ => s4 "rank_losses" 375 376 377 75 2 160 161 162 163 164 387 388
def o166 : OO := fun _ => s5 "rank_losses" (top 24) "lidprice.ranks" 322 165
def o169 : OO := fun _ => s6 "_law_script" 395 "_law_k" 396
def o171 : OO := fun _ => s3 "_law_cell" (top 26)
def o172 : OO := fun _ => s4 "_law_cell" 392 393 394 87 2 167 168 169 170 171 397 398
def o173 : OO := fun _ => s5 "_law_cell" (top 26) "law_lidprice_k83_whole_any_places" 390 172
def o176 : OO := fun _ => s2 "_law_cell_here" 403 "_law_k" 404 "_law_number" 405
def o178 : OO := fun _ => s3 "_law_mix" (top 27)
def o179 : OO := fun _ => s4 "_law_mix" 400 401 402 91 2 174 175 176 177 178 406 407
def o180 : OO := fun _ => s5 "_law_mix" (top 27) "law_lidprice_k83_whole_any_places" 390 179
def o183 : OO := fun _ => s2 "_law_one" 412 "_law_other" 413 "_law_rest" 414
def o185 : OO := fun _ => s3 "_law_common" (top 28)
def o186 : OO := fun _ => s4 "_law_common" 409 410 411 95 2 181 182 183 184 185 415 416
def o187 : OO := fun _ => s5 "_law_common" (top 28) "law_lidprice_k83_whole_any_places" 390 186
def o190 : OO := fun _ => ⟨(.type "tuple"), none, (.seq #[(.str "_law_found" 421)] 0), #[]⟩
def o192 : OO := fun _ => s3 "_law_whole" (top 29)
def o193 : OO := fun _ => s4 "_law_whole" 418 419 420 103 1 188 189 190 191 192 422 423
def o194 : OO := fun _ => s5 "_law_whole" (top 29) "law_lidprice_k83_whole_any_places" 390 193
def o197 : OO := fun _ => s2 "_law_top" 428 "_law_bottom" 429 "_law_by" 430
def o199 : OO := fun _ => s3 "_law_lowest" (top 30)
def o200 : OO := fun _ => s4 "_law_lowest" 425 426 427 105 2 195 196 197 198 199 431 432
def o201 : OO := fun _ => s5 "_law_lowest" (top 30) "law_lidprice_k83_whole_any_places" 390 200
def o204 : OO := fun _ => s6 "_law_found" 437 "_law_due" 438
def o206 : OO := fun _ => s3 "_law_same" (top 31)
def o207 : OO := fun _ => s4 "_law_same" 434 435 436 108 2 202 203 204 205 206 439 440
def o208 : OO := fun _ => s5 "_law_same" (top 31) "law_lidprice_k83_whole_any_places" 390 207
def o211 : OO := fun _ => ⟨(.type "tuple"), none, (.seq #[(.str "_law_many" 445), (.str "_law_orders_here" 446), (.str "_law_number" 447), (.str "_law_more" 448), (.str "_law_order" 449), (.str "_law_at" 450)] 0), #[]⟩
def o213 : OO := fun _ => s3 "_law_orders" (top 32)
def o214 : OO := fun _ => s4 "_law_orders" 442 443 444 112 1 209 210 211 212 213 451 452
def o215 : OO := fun _ => s5 "_law_orders" (top 32) "law_lidprice_k83_whole_any_places" 390 214
def o3_1 : OO := fun P => ⟨(.type "dict"), none, (.dict #[E P "__name__" 165 (.str "law_lidprice_k83_whole_any_places" 390), E P "__doc__" 166 .none, E P "__package__" 167 .none, E P "__loader__" 168 (.builtin "__main__.__loader__#opaque"), E P "__spec__" 169 .none, E P "__annotations__" 170 (.ref 6), E P "__builtins__" 171 (.ref 4), E P "__file__" 173 (.str "/claim/cut.py" 172), E P "__cached__" 174 .none, E P "LidError" 206 (.ref 24), E P "NoRanks" 222 (.ref 37), E P "is_whole" 233 (.ref 46), E P "common_divisor" 242 (.ref 53), E P "common_multiple" 251 (.ref 60), E P "share" 260 (.ref 67), E P "whole" 267 (.ref 74), E P "plus" 275 (.ref 81), E P "minus" 283 (.ref 88), E P "total" 289 (.ref 93), E P "times" 297 (.ref 100), E P "over" 305 (.ref 107), E P "below" 313 (.ref 114), E P "greater" 321 (.ref 121), E P "MOST_RANKS" 325 (.int 60 324), E P "need_many" 332 (.ref 128), E P "is_places" 338 (.ref 133), E P "need_places" 346 (.ref 140), E P "rank_worths" 357 (.ref 147), E P "reached_places" 368 (.ref 154), E P "share_by" 374 (.ref 159), E P "rank_losses" 389 (.ref 166), E P "_law_cell" 399 (.ref 173), E P "_law_mix" 408 (.ref 180), E P "_law_common" 417 (.ref 187), E P "_law_whole" 424 (.ref 194), E P "_law_lowest" 433 (.ref 201), E P "_law_same" 441 (.ref 208), E P "_law_orders" 453 (.ref 215), E P "_law_first_at" 463 (.ref 222), E P "_law_counted" 469 (.ref 227), E P "_law_summed" 481 (.ref 234), E P "_law_on" 494 (.ref 241), E P "_law_places" 500 (.ref 246), E P "_law_loss" 513 (.ref 253), E P "_law_walked" 530 (.ref 260), E P "law" 546 (.ref 267)] 46), #[]⟩
def o12_2 : OO := fun _ => ⟨.none, none, (.fields #[(.int 2 0), (.int 0 0), (.ref 20), (.int 4 0), (.int 0 0), (.ref 33), (.int 7 0), (.int 0 0), (.ref 45), (.int 9 0), (.int 0 0), (.ref 52), (.int 15 0), (.int 0 0), (.ref 59), (.int 20 0), (.int 0 0), (.ref 66), (.int 25 0), (.int 0 0), (.ref 73), (.int 27 0), (.int 0 0), (.ref 80), (.int 29 0), (.int 0 0), (.ref 87), (.int 31 0), (.int 0 0), (.ref 92), (.int 34 0), (.int 0 0), (.ref 99), (.int 36 0), (.int 0 0), (.ref 106), (.int 38 0), (.int 0 0), (.ref 113), (.int 40 0), (.int 0 0), (.ref 120), (.int 44 0), (.int 0 0), (.ref 127), (.int 47 0), (.int 0 0), (.ref 132), (.int 51 0), (.int 0 0), (.ref 139), (.int 55 0), (.int 0 0), (.ref 146), (.int 63 0), (.int 0 0), (.ref 153), (.int 71 0), (.int 0 0), (.ref 158), (.int 75 0), (.int 0 0), (.ref 165), (.int 87 0), (.int 0 0), (.ref 172), (.int 91 0), (.int 0 0), (.ref 179), (.int 95 0), (.int 0 0), (.ref 186), (.int 103 0), (.int 0 0), (.ref 193), (.int 105 0), (.int 0 0), (.ref 200), (.int 108 0), (.int 0 0), (.ref 207), (.int 112 0), (.int 0 0), (.ref 214), (.int 121 0), (.int 0 0), (.ref 221), (.int 129 0), (.int 0 0), (.ref 226), (.int 133 0), (.int 0 0), (.ref 233), (.int 141 0), (.int 0 0), (.ref 240), (.int 151 0), (.int 0 0), (.ref 245), (.int 159 0), (.int 0 0), (.ref 252), (.int 168 0), (.int 0 0), (.ref 259), (.int 184 0), (.int 0 0), (.ref 266)]), #[]⟩
def o218 : OO := fun _ => ⟨(.type "tuple"), none, (.seq #[(.str "_law_order" 457), (.str "_law_places_here" 458), (.str "_law_high" 459), (.str "_law_at" 460)] 0), #[]⟩
def o220 : OO := fun _ => s3 "_law_first_at" (top 33)
def o221 : OO := fun _ => s4 "_law_first_at" 454 455 456 121 2 216 217 218 219 220 461 462
def o222 : OO := fun _ => s5 "_law_first_at" (top 33) "law_lidprice_k83_whole_any_places" 390 221
def o225 : OO := fun _ => s3 "_law_counted" (top 34)
def o226 : OO := fun _ => s7 "_law_counted" 464 465 466 129 2 223 224 225 467 468
def o227 : OO := fun _ => s5 "_law_counted" (top 34) "law_lidprice_k83_whole_any_places" 390 226
def o230 : OO := fun _ => ⟨(.type "tuple"), none, (.seq #[(.str "_law_many" 473), (.str "_law_places_here" 474), (.str "_law_top" 475), (.str "_law_bottom" 476), (.str "_law_reached" 477), (.str "_law_place" 478)] 0), #[]⟩
def o232 : OO := fun _ => s3 "_law_summed" (top 35)
def o233 : OO := fun _ => s4 "_law_summed" 470 471 472 133 2 228 229 230 231 232 479 480
def o234 : OO := fun _ => s5 "_law_summed" (top 35) "law_lidprice_k83_whole_any_places" 390 233
def o237 : OO := fun _ => ⟨(.type "tuple"), none, (.seq #[(.str "_law_many" 485), (.str "_law_found" 486), (.str "_law_place" 487), (.str "_law_top" 488), (.str "_law_bottom" 489), (.str "_law_taken" 490), (.str "_law_whole_top" 491)] 0), #[]⟩
def o239 : OO := fun _ => s3 "_law_on" (top 36)
def o240 : OO := fun _ => s4 "_law_on" 482 483 484 141 1 235 236 237 238 239 492 493
def o241 : OO := fun _ => s5 "_law_on" (top 36) "law_lidprice_k83_whole_any_places" 390 240
def o244 : OO := fun _ => s3 "_law_places" (top 37)
def o245 : OO := fun _ => s7 "_law_places" 495 496 497 151 2 242 243 244 498 499
def o246 : OO := fun _ => s5 "_law_places" (top 37) "law_lidprice_k83_whole_any_places" 390 245
def o249 : OO := fun _ => ⟨(.type "tuple"), none, (.seq #[(.str "_law_many" 504), (.str "_law_place" 505), (.str "_law_on_here" 506), (.str "_law_taken" 507), (.str "_law_here" 508), (.str "_law_most" 509), (.str "_law_had" 510)] 0), #[]⟩
def o251 : OO := fun _ => s3 "_law_loss" (top 38)
def o252 : OO := fun _ => s4 "_law_loss" 501 502 503 159 4 247 248 249 250 251 511 512
def o253 : OO := fun _ => s5 "_law_loss" (top 38) "law_lidprice_k83_whole_any_places" 390 252
def o256 : OO := fun _ => ⟨(.type "tuple"), none, (.seq #[(.str "_law_many" 517), (.str "_law_places_here" 518), (.str "_law_told" 519), (.str "_law_on_here" 520), (.str "_law_found" 521), (.str "_law_reached" 522), (.str "_law_place" 523), (.str "_law_row" 524), (.str "_law_due" 525), (.str "_law_top" 526), (.str "_law_bottom" 527)] 0), #[]⟩
def o258 : OO := fun _ => s3 "_law_walked" (top 39)
def o259 : OO := fun _ => s4 "_law_walked" 514 515 516 168 4 254 255 256 257 258 528 529
def o260 : OO := fun _ => s5 "_law_walked" (top 39) "law_lidprice_k83_whole_any_places" 390 259
def o263 : OO := fun _ => ⟨(.type "tuple"), none, (.seq #[(.str "_law_script" 534), (.str "_law_cell_here" 535), (.str "_law_many" 536), (.str "_law_places_here" 537), (.str "_law_handed" 538), (.str "_law_found" 539), (.str "_law_told" 540), (.str "_law_on_here" 541), (.str "_law_lost_by" 542), (.str "_law_top" 543)] 0), #[]⟩
def o265 : OO := fun _ => s3 "law" (top 40)
def o266 : OO := fun _ => s4 "law" 531 532 533 184 1 261 262 263 264 265 544 545
def o267 : OO := fun _ => s5 "law" (top 40) "law_lidprice_k83_whole_any_places" 390 266
def t0 (P : Params) : W.BT := (.node (W.boot_o_0 P) (.node (W.boot_o_1 P) (.node (W.boot_o_3 P) (.node (W.boot_o_7 P) .nil .nil) (.node s0 .nil .nil)) (.node (W.boot_o_5 P) (.node (W.boot_o_9 P) .nil .nil) (.node (o13 P) .nil .nil))) (.node (W.boot_o_2 P) (.node (W.boot_o_4 P) (.node (W.boot_o_8 P) .nil .nil) (.node s1 .nil .nil)) (.node (W.boot_o_6 P) (.node (W.boot_o_10 P) .nil .nil) (.node (o14 P) .nil .nil))))
def t1 (P : Params) : W.BT := (.node (W.boot_o_0 P) (.node (W.boot_o_1 P) (.node (o3 P) (.node (W.boot_o_7 P) (.node (o15 P) (.node s0 (.node (o63 P) (.node (o127 P) .nil .nil) (.node s0 .nil .nil)) (.node s1 (.node (o159 P) .nil .nil) .nil)) (.node s0 (.node (o79 P) (.node (o143 P) .nil .nil) (.node (o207 P) .nil .nil)) (.node s0 (.node s1 .nil .nil) .nil))) (.node (o23 P) (.node (o39 P) (.node s0 (.node s1 .nil .nil) (.node (o199 P) .nil .nil)) (.node (o103 P) (.node s0 .nil .nil) .nil)) (.node s1 (.node (o87 P) (.node s0 .nil .nil) (.node (o215 P) .nil .nil)) (.node (o119 P) (.node (o183 P) .nil .nil) .nil)))) (.node s0 (.node s1 (.node s0 (.node (o67 P) (.node (o131 P) .nil .nil) (.node s0 .nil .nil)) (.node (o99 P) (.node s0 .nil .nil) .nil)) (.node (o51 P) (.node s1 (.node (o147 P) .nil .nil) (.node (o211 P) .nil .nil)) (.node s0 (.node (o179 P) .nil .nil) .nil))) (.node (o27 P) (.node s0 (.node s0 (.node (o139 P) .nil .nil) (.node s1 .nil .nil)) (.node (o107 P) (.node (o171 P) .nil .nil) .nil)) (.node (o59 P) (.node (o91 P) (.node s0 .nil .nil) .nil) (.node s1 (.node (o187 P) .nil .nil) .nil))))) (.node (W.boot_o_5 P) (.node (W.boot_o_9 P) (.node (o17 P) (.node (o33 P) (.node (o65 P) (.node s0 .nil .nil) (.node (o193 P) .nil .nil)) (.node s0 (.node s1 .nil .nil) .nil)) (.node (o49 P) (.node (o81 P) (.node (o145 P) .nil .nil) (.node s0 .nil .nil)) (.node (o113 P) (.node s0 .nil .nil) .nil))) (.node (o25 P) (.node s1 (.node (o73 P) (.node s0 .nil .nil) (.node (o201 P) .nil .nil)) (.node (o105 P) (.node (o169 P) .nil .nil) .nil)) (.node s0 (.node s0 (.node (o153 P) .nil .nil) .nil) (.node (o121 P) (.node (o185 P) .nil .nil) .nil)))) (.node (o13 P) (.node (o21 P) (.node (o37 P) (.node s1 (.node (o133 P) .nil .nil) (.node (o197 P) .nil .nil)) (.node s0 (.node (o165 P) .nil .nil) .nil)) (.node (o53 P) (.node s0 (.node s1 .nil .nil) (.node (o213 P) .nil .nil)) (.node (o117 P) (.node s0 .nil .nil) .nil))) (.node (o29 P) (.node (o45 P) (.node (o77 P) (.node s0 .nil .nil) (.node s0 .nil .nil)) (.node s1 (.node (o173 P) .nil .nil) .nil)) (.node s0 (.node (o93 P) (.node (o157 P) .nil .nil) .nil) (.node s0 (.node s1 .nil .nil) .nil)))))) (.node (W.boot_o_2 P) (.node (W.boot_o_4 P) (.node (W.boot_o_8 P) (.node (o16 P) (.node s1 (.node s0 (.node (o128 P) .nil .nil) (.node (o192 P) .nil .nil)) (.node (o96 P) (.node s0 .nil .nil) .nil)) (.node s1 (.node (o80 P) (.node s0 .nil .nil) (.node (o208 P) .nil .nil)) (.node (o112 P) (.node (o176 P) .nil .nil) .nil))) (.node (o24 P) (.node s0 (.node (o72 P) (.node (o136 P) .nil .nil) (.node (o200 P) .nil .nil)) (.node s0 (.node s1 .nil .nil) .nil)) (.node (o56 P) (.node (o88 P) (.node (o152 P) .nil .nil) .nil) (.node (o120 P) (.node s0 .nil .nil) .nil)))) (.node (o12_1 P) (.node (o20 P) (.node (o36 P) (.node s0 (.node (o132 P) .nil .nil) (.node s1 .nil .nil)) (.node (o100 P) (.node (o164 P) .nil .nil) .nil)) (.node (o52 P) (.node (o84 P) (.node s0 .nil .nil) (.node s0 .nil .nil)) (.node s1 (.node (o180 P) .nil .nil) .nil))) (.node (o28 P) (.node (o44 P) (.node s1 (.node (o140 P) .nil .nil) (.node (o204 P) .nil .nil)) (.node s0 (.node (o172 P) .nil .nil) .nil)) (.node (o60 P) (.node (o92 P) (.node s1 .nil .nil) .nil) (.node (o124 P) (.node s0 .nil .nil) .nil))))) (.node (W.boot_o_6 P) (.node (W.boot_o_10 P) (.node s0 (.node (o34 P) (.node (o66 P) (.node s1 .nil .nil) (.node (o194 P) .nil .nil)) (.node (o98 P) (.node (o162 P) .nil .nil) .nil)) (.node s0 (.node s0 (.node (o146 P) .nil .nil) (.node s1 .nil .nil)) (.node (o114 P) (.node (o178 P) .nil .nil) .nil))) (.node (o26 P) (.node (o42 P) (.node (o74 P) (.node (o138 P) .nil .nil) (.node s0 .nil .nil)) (.node (o106 P) (.node s0 .nil .nil) .nil)) (.node (o58 P) (.node s1 (.node (o154 P) .nil .nil) .nil) (.node s0 (.node (o186 P) .nil .nil) .nil)))) (.node (o14 P) (.node s0 (.node (o38 P) (.node (o70 P) (.node s0 .nil .nil) (.node s0 .nil .nil)) (.node s1 (.node (o166 P) .nil .nil) .nil)) (.node s0 (.node (o86 P) (.node (o150 P) .nil .nil) (.node (o214 P) .nil .nil)) (.node s0 (.node s1 .nil .nil) .nil))) (.node (o30 P) (.node (o46 P) (.node s0 (.node s1 .nil .nil) (.node (o206 P) .nil .nil)) (.node (o110 P) (.node s0 .nil .nil) .nil)) (.node s1 (.node s0 (.node (o158 P) .nil .nil) .nil) (.node (o126 P) (.node (o190 P) .nil .nil) .nil)))))))
def t2 (P : Params) : W.BT := (.node (W.boot_o_0 P) (.node (W.boot_o_1 P) (.node (o3_1 P) (.node (W.boot_o_7 P) (.node (o15 P) (.node s0 (.node (o63 P) (.node (o127 P) (.node s1 .nil .nil) .nil) (.node s0 .nil .nil)) (.node s1 (.node (o159 P) .nil .nil) (.node s0 .nil .nil))) (.node s0 (.node (o79 P) (.node (o143 P) .nil .nil) (.node (o207 P) .nil .nil)) (.node s0 (.node s1 .nil .nil) (.node (o239 P) .nil .nil)))) (.node (o23 P) (.node (o39 P) (.node s0 (.node s1 (.node (o263 P) .nil .nil) .nil) (.node (o199 P) .nil .nil)) (.node (o103 P) (.node s0 .nil .nil) (.node s0 .nil .nil))) (.node s1 (.node (o87 P) (.node s0 .nil .nil) (.node (o215 P) .nil .nil)) (.node (o119 P) (.node (o183 P) .nil .nil) (.node s0 .nil .nil))))) (.node s0 (.node s1 (.node s0 (.node (o67 P) (.node (o131 P) (.node (o259 P) .nil .nil) .nil) (.node s0 .nil .nil)) (.node (o99 P) (.node s0 .nil .nil) (.node (o227 P) .nil .nil))) (.node (o51 P) (.node s1 (.node (o147 P) .nil .nil) (.node (o211 P) .nil .nil)) (.node s0 (.node (o179 P) .nil .nil) (.node s1 .nil .nil)))) (.node (o27 P) (.node s0 (.node s0 (.node (o139 P) (.node (o267 P) .nil .nil) .nil) (.node s1 .nil .nil)) (.node (o107 P) (.node (o171 P) .nil .nil) (.node s0 .nil .nil))) (.node (o59 P) (.node (o91 P) (.node s0 .nil .nil) (.node s0 .nil .nil)) (.node s1 (.node (o187 P) .nil .nil) (.node (o251 P) .nil .nil)))))) (.node (W.boot_o_5 P) (.node (W.boot_o_9 P) (.node (o17 P) (.node (o33 P) (.node (o65 P) (.node s0 (.node s0 .nil .nil) .nil) (.node (o193 P) .nil .nil)) (.node s0 (.node s1 .nil .nil) (.node (o225 P) .nil .nil))) (.node (o49 P) (.node (o81 P) (.node (o145 P) .nil .nil) (.node s0 .nil .nil)) (.node (o113 P) (.node s0 .nil .nil) (.node (o241 P) .nil .nil)))) (.node (o25 P) (.node s1 (.node (o73 P) (.node s0 (.node (o265 P) .nil .nil) .nil) (.node (o201 P) .nil .nil)) (.node (o105 P) (.node (o169 P) .nil .nil) (.node (o233 P) .nil .nil))) (.node s0 (.node s0 (.node (o153 P) .nil .nil) (.node s1 .nil .nil)) (.node (o121 P) (.node (o185 P) .nil .nil) (.node (o249 P) .nil .nil))))) (.node (o13 P) (.node (o21 P) (.node (o37 P) (.node s1 (.node (o133 P) (.node s0 .nil .nil) .nil) (.node (o197 P) .nil .nil)) (.node s0 (.node (o165 P) .nil .nil) (.node s1 .nil .nil))) (.node (o53 P) (.node s0 (.node s1 .nil .nil) (.node (o213 P) .nil .nil)) (.node (o117 P) (.node s0 .nil .nil) (.node (o245 P) .nil .nil)))) (.node (o29 P) (.node (o45 P) (.node (o77 P) (.node s0 .nil .nil) (.node s0 .nil .nil)) (.node s1 (.node (o173 P) .nil .nil) (.node (o237 P) .nil .nil))) (.node s0 (.node (o93 P) (.node (o157 P) .nil .nil) (.node (o221 P) .nil .nil)) (.node s0 (.node s1 .nil .nil) (.node (o253 P) .nil .nil))))))) (.node (W.boot_o_2 P) (.node (W.boot_o_4 P) (.node (W.boot_o_8 P) (.node (o16 P) (.node s1 (.node s0 (.node (o128 P) (.node (o256 P) .nil .nil) .nil) (.node (o192 P) .nil .nil)) (.node (o96 P) (.node s0 .nil .nil) (.node s1 .nil .nil))) (.node s1 (.node (o80 P) (.node s0 .nil .nil) (.node (o208 P) .nil .nil)) (.node (o112 P) (.node (o176 P) .nil .nil) (.node (o240 P) .nil .nil)))) (.node (o24 P) (.node s0 (.node (o72 P) (.node (o136 P) (.node s0 .nil .nil) .nil) (.node (o200 P) .nil .nil)) (.node s0 (.node s1 .nil .nil) (.node (o232 P) .nil .nil))) (.node (o56 P) (.node (o88 P) (.node (o152 P) .nil .nil) (.node s0 .nil .nil)) (.node (o120 P) (.node s0 .nil .nil) (.node s1 .nil .nil))))) (.node (o12_2 P) (.node (o20 P) (.node (o36 P) (.node s0 (.node (o132 P) (.node (o260 P) .nil .nil) .nil) (.node s1 .nil .nil)) (.node (o100 P) (.node (o164 P) .nil .nil) (.node s0 .nil .nil))) (.node (o52 P) (.node (o84 P) (.node s0 .nil .nil) (.node s0 .nil .nil)) (.node s1 (.node (o180 P) .nil .nil) (.node (o244 P) .nil .nil)))) (.node (o28 P) (.node (o44 P) (.node s1 (.node (o140 P) .nil .nil) (.node (o204 P) .nil .nil)) (.node s0 (.node (o172 P) .nil .nil) (.node s1 .nil .nil))) (.node (o60 P) (.node (o92 P) (.node s1 .nil .nil) (.node (o220 P) .nil .nil)) (.node (o124 P) (.node s0 .nil .nil) (.node (o252 P) .nil .nil)))))) (.node (W.boot_o_6 P) (.node (W.boot_o_10 P) (.node s0 (.node (o34 P) (.node (o66 P) (.node s1 (.node (o258 P) .nil .nil) .nil) (.node (o194 P) .nil .nil)) (.node (o98 P) (.node (o162 P) .nil .nil) (.node (o226 P) .nil .nil))) (.node s0 (.node s0 (.node (o146 P) .nil .nil) (.node s1 .nil .nil)) (.node (o114 P) (.node (o178 P) .nil .nil) (.node s0 .nil .nil)))) (.node (o26 P) (.node (o42 P) (.node (o74 P) (.node (o138 P) (.node (o266 P) .nil .nil) .nil) (.node s0 .nil .nil)) (.node (o106 P) (.node s0 .nil .nil) (.node (o234 P) .nil .nil))) (.node (o58 P) (.node s1 (.node (o154 P) .nil .nil) (.node (o218 P) .nil .nil)) (.node s0 (.node (o186 P) .nil .nil) (.node s0 .nil .nil))))) (.node (o14 P) (.node s0 (.node (o38 P) (.node (o70 P) (.node s0 (.node s1 .nil .nil) .nil) (.node s0 .nil .nil)) (.node s1 (.node (o166 P) .nil .nil) (.node (o230 P) .nil .nil))) (.node s0 (.node (o86 P) (.node (o150 P) .nil .nil) (.node (o214 P) .nil .nil)) (.node s0 (.node s1 .nil .nil) (.node (o246 P) .nil .nil)))) (.node (o30 P) (.node (o46 P) (.node s0 (.node s1 .nil .nil) (.node (o206 P) .nil .nil)) (.node (o110 P) (.node s0 .nil .nil) (.node s0 .nil .nil))) (.node s1 (.node s0 (.node (o158 P) .nil .nil) (.node (o222 P) .nil .nil)) (.node (o126 P) (.node (o190 P) .nil .nil) (.node s0 .nil .nil))))))))
def envK : Env := { scope := PySem.Challenge.pw_lidprice_k83_whole_any_places.main.scope, locals := mainNs, globals := mainNs, cells := [], code := (.ref 13), frame := some 14 }
def g1 : List Stmt := [top 0, top 1, top 2, top 3, top 4, top 5, top 6, top 7, top 8, top 9, top 10, top 11, top 12, top 13, top 14, top 15, top 16, top 17, top 18, top 19, top 20, top 21, top 22, top 23, top 24, top 25, top 26, top 27, top 28, top 29, top 30, top 31, top 32]
def g2 : List Stmt := [top 33, top 34, top 35, top 36, top 37, top 38, top 39, top 40]
def gs : List Stmt := g1 ++ (g2 ++ [])
def codeK : Code := .body gs envK
theorem run1 (w : World) (os : OsState) : W.segRunT PySem.treeTable PySem.Challenge.pw_lidprice_k83_whole_any_places w 11 (some (.ref 6)) 1 1234 (stT (t0 w.params) 15 187 os) (W.piecesOf g1 envK codeK ⟨0, 0, 0, 0⟩ [W.topFrame ⟨0, 0, 0, 0⟩]) = some (.next, stT (t1 w.params) 216 454 os, codeK, ⟨112, 0, 120, 27⟩) := by kernel_rfl
theorem run2 (w : World) (os : OsState) : W.segRunT PySem.treeTable PySem.Challenge.pw_lidprice_k83_whole_any_places w 11 (some (.ref 6)) 1 266 (stT (t1 w.params) 216 454 os) (W.piecesOf g2 envK codeK ⟨112, 0, 120, 27⟩ [W.topFrame ⟨0, 0, 0, 0⟩]) = some (.next, stT (t2 w.params) 268 547 os, codeK, ⟨184, 0, 205, 84⟩) := by kernel_rfl
theorem runE (w : World) (os : OsState) : W.topRun PySem.treeTable PySem.Challenge.pw_lidprice_k83_whole_any_places w 11 (some (.ref 6)) 2 (stT (t2 w.params) 268 547 os).abs (W.restOf [] envK codeK ⟨184, 0, 205, 84⟩ [W.topFrame ⟨0, 0, 0, 0⟩]) = some (stT (t2 w.params) 268 547 os).abs := by kernel_rfl
theorem preK (w : World) (os : OsState) : W.topGo PySem.treeTable PySem.Challenge.pw_lidprice_k83_whole_any_places w 11 (some (.ref 6)) 12 ⟨W.boot_heap w.params, Array.mk [], W.boot_drawn, W.boot_toks, os⟩ (W.topStub PySem.Challenge.pw_lidprice_k83_whole_any_places) = some ((stT (t0 w.params) 15 187 os).abs, ⟨denote PySem.treeTable (.body gs envK), codeK, ⟨0, 0, 0, 0⟩, [W.topFrame ⟨0, 0, 0, 0⟩]⟩) := by kernel_rfl
theorem blkK (w : World) (os : OsState) : W.segRun PySem.treeTable PySem.Challenge.pw_lidprice_k83_whole_any_places w 11 (some (.ref 6)) 1 1 (stT (t0 w.params) 15 187 os).abs (W.blockOf gs envK codeK ⟨0, 0, 0, 0⟩ [W.topFrame ⟨0, 0, 0, 0⟩]) = some (.next, (stT (t0 w.params) 15 187 os).abs, codeK, ⟨0, 0, 0, 0⟩) := by kernel_rfl
def heapK (P : Params) : W.Frag :=
(nat_lit 2, W.boot_o_2 P) ::
(nat_lit 3, o3_1 P) ::
(nat_lit 15, o15 P) ::
(nat_lit 22, s0) ::
(nat_lit 23, o23 P) ::
(nat_lit 24, o24 P) ::
(nat_lit 25, o25 P) ::
(nat_lit 28, o28 P) ::
(nat_lit 35, s0) ::
(nat_lit 36, o36 P) ::
(nat_lit 37, o37 P) ::
(nat_lit 40, s0) ::
(nat_lit 42, o42 P) ::
(nat_lit 43, s0) ::
(nat_lit 45, o45 P) ::
(nat_lit 46, o46 P) ::
(nat_lit 47, s0) ::
(nat_lit 49, o49 P) ::
(nat_lit 50, s0) ::
(nat_lit 52, o52 P) ::
(nat_lit 53, o53 P) ::
(nat_lit 54, s0) ::
(nat_lit 56, o56 P) ::
(nat_lit 57, s0) ::
(nat_lit 59, o59 P) ::
(nat_lit 60, o60 P) ::
(nat_lit 61, s0) ::
(nat_lit 63, o63 P) ::
(nat_lit 64, s0) ::
(nat_lit 66, o66 P) ::
(nat_lit 67, o67 P) ::
(nat_lit 68, s0) ::
(nat_lit 70, o70 P) ::
(nat_lit 71, s0) ::
(nat_lit 73, o73 P) ::
(nat_lit 74, o74 P) ::
(nat_lit 75, s0) ::
(nat_lit 77, o77 P) ::
(nat_lit 78, s0) ::
(nat_lit 80, o80 P) ::
(nat_lit 81, o81 P) ::
(nat_lit 82, s0) ::
(nat_lit 84, o84 P) ::
(nat_lit 85, s0) ::
(nat_lit 87, o87 P) ::
(nat_lit 88, o88 P) ::
(nat_lit 89, s0) ::
(nat_lit 92, o92 P) ::
(nat_lit 93, o93 P) ::
(nat_lit 94, s0) ::
(nat_lit 96, o96 P) ::
(nat_lit 97, s0) ::
(nat_lit 99, o99 P) ::
(nat_lit 100, o100 P) ::
(nat_lit 101, s0) ::
(nat_lit 103, o103 P) ::
(nat_lit 104, s0) ::
(nat_lit 106, o106 P) ::
(nat_lit 107, o107 P) ::
(nat_lit 108, s0) ::
(nat_lit 110, o110 P) ::
(nat_lit 111, s0) ::
(nat_lit 113, o113 P) ::
(nat_lit 114, o114 P) ::
(nat_lit 115, s0) ::
(nat_lit 117, o117 P) ::
(nat_lit 118, s0) ::
(nat_lit 120, o120 P) ::
(nat_lit 121, o121 P) ::
(nat_lit 122, s0) ::
(nat_lit 124, o124 P) ::
(nat_lit 125, s0) ::
(nat_lit 127, o127 P) ::
(nat_lit 128, o128 P) ::
(nat_lit 129, s0) ::
(nat_lit 132, o132 P) ::
(nat_lit 133, o133 P) ::
(nat_lit 134, s0) ::
(nat_lit 136, o136 P) ::
(nat_lit 137, s0) ::
(nat_lit 139, o139 P) ::
(nat_lit 140, o140 P) ::
(nat_lit 141, s0) ::
(nat_lit 143, o143 P) ::
(nat_lit 144, s0) ::
(nat_lit 146, o146 P) ::
(nat_lit 147, o147 P) ::
(nat_lit 148, s0) ::
(nat_lit 150, o150 P) ::
(nat_lit 151, s0) ::
(nat_lit 153, o153 P) ::
(nat_lit 154, o154 P) ::
(nat_lit 155, s0) ::
(nat_lit 158, o158 P) ::
(nat_lit 159, o159 P) ::
(nat_lit 160, s0) ::
(nat_lit 162, o162 P) ::
(nat_lit 163, s0) ::
(nat_lit 165, o165 P) ::
(nat_lit 166, o166 P) ::
(nat_lit 167, s0) ::
(nat_lit 169, o169 P) ::
(nat_lit 170, s0) ::
(nat_lit 172, o172 P) ::
(nat_lit 173, o173 P) ::
(nat_lit 174, s0) ::
(nat_lit 176, o176 P) ::
(nat_lit 177, s0) ::
(nat_lit 179, o179 P) ::
(nat_lit 180, o180 P) ::
(nat_lit 181, s0) ::
(nat_lit 183, o183 P) ::
(nat_lit 184, s0) ::
(nat_lit 186, o186 P) ::
(nat_lit 187, o187 P) ::
(nat_lit 188, s0) ::
(nat_lit 190, o190 P) ::
(nat_lit 191, s0) ::
(nat_lit 193, o193 P) ::
(nat_lit 194, o194 P) ::
(nat_lit 195, s0) ::
(nat_lit 197, o197 P) ::
(nat_lit 198, s0) ::
(nat_lit 200, o200 P) ::
(nat_lit 201, o201 P) ::
(nat_lit 202, s0) ::
(nat_lit 204, o204 P) ::
(nat_lit 205, s0) ::
(nat_lit 207, o207 P) ::
(nat_lit 208, o208 P) ::
(nat_lit 209, s0) ::
(nat_lit 211, o211 P) ::
(nat_lit 212, s0) ::
(nat_lit 214, o214 P) ::
(nat_lit 215, o215 P) ::
(nat_lit 216, s0) ::
(nat_lit 218, o218 P) ::
(nat_lit 219, s0) ::
(nat_lit 221, o221 P) ::
(nat_lit 222, o222 P) ::
(nat_lit 223, s0) ::
(nat_lit 226, o226 P) ::
(nat_lit 227, o227 P) ::
(nat_lit 228, s0) ::
(nat_lit 230, o230 P) ::
(nat_lit 231, s0) ::
(nat_lit 233, o233 P) ::
(nat_lit 234, o234 P) ::
(nat_lit 235, s0) ::
(nat_lit 237, o237 P) ::
(nat_lit 238, s0) ::
(nat_lit 240, o240 P) ::
(nat_lit 241, o241 P) ::
(nat_lit 242, s0) ::
(nat_lit 245, o245 P) ::
(nat_lit 246, o246 P) ::
(nat_lit 247, s0) ::
(nat_lit 249, o249 P) ::
(nat_lit 250, s0) ::
(nat_lit 252, o252 P) ::
(nat_lit 253, o253 P) ::
(nat_lit 254, s0) ::
(nat_lit 256, o256 P) ::
(nat_lit 257, s0) ::
(nat_lit 259, o259 P) ::
(nat_lit 260, o260 P) ::
(nat_lit 261, s0) ::
(nat_lit 263, o263 P) ::
(nat_lit 264, s0) ::
(nat_lit 266, o266 P) ::
(nat_lit 267, o267 P) :: []
def asK : List Addr := 2 :: 3 :: 15 :: 22 :: 23 :: 24 :: 25 :: 28 :: 35 :: 36 :: 37 :: 40 :: 42 :: 43 :: 45 :: 46 :: 47 :: 49 :: 50 :: 52 :: 53 :: 54 :: 56 :: 57 :: 59 :: 60 :: 61 :: 63 :: 64 :: 66 :: 67 :: 68 :: 70 :: 71 :: 73 :: 74 :: 75 :: 77 :: 78 :: 80 :: 81 :: 82 :: 84 :: 85 :: 87 :: 88 :: 89 :: 92 :: 93 :: 94 :: 96 :: 97 :: 99 :: 100 :: 101 :: 103 :: 104 :: 106 :: 107 :: 108 :: 110 :: 111 :: 113 :: 114 :: 115 :: 117 :: 118 :: 120 :: 121 :: 122 :: 124 :: 125 :: 127 :: 128 :: 129 :: 132 :: 133 :: 134 :: 136 :: 137 :: 139 :: 140 :: 141 :: 143 :: 144 :: 146 :: 147 :: 148 :: 150 :: 151 :: 153 :: 154 :: 155 :: 158 :: 159 :: 160 :: 162 :: 163 :: 165 :: 166 :: 167 :: 169 :: 170 :: 172 :: 173 :: 174 :: 176 :: 177 :: 179 :: 180 :: 181 :: 183 :: 184 :: 186 :: 187 :: 188 :: 190 :: 191 :: 193 :: 194 :: 195 :: 197 :: 198 :: 200 :: 201 :: 202 :: 204 :: 205 :: 207 :: 208 :: 209 :: 211 :: 212 :: 214 :: 215 :: 216 :: 218 :: 219 :: 221 :: 222 :: 223 :: 226 :: 227 :: 228 :: 230 :: 231 :: 233 :: 234 :: 235 :: 237 :: 238 :: 240 :: 241 :: 242 :: 245 :: 246 :: 247 :: 249 :: 250 :: 252 :: 253 :: 254 :: 256 :: 257 :: 259 :: 260 :: 261 :: 263 :: 264 :: 266 :: 267 :: []
theorem keysK : ∀ P, asK = (heapK P).map (·.1) := fun _ => by kernel_rfl
def vw : Program := { PySem.Challenge.pw_lidprice_k83_whole_any_places with main := { (PySem.Challenge.pw_lidprice_k83_whole_any_places).main with body := [top 1, top 2, top 4, top 5, top 6, top 7, top 8, top 9, top 10, top 11, top 12, top 13, top 14, top 15, top 17, top 18, top 19, top 20, top 21, top 22, top 23, top 24, top 26, top 27, top 28, top 29, top 30, top 31, top 32, top 33, top 34, top 35, top 36, top 37, top 38, top 39, top 40] } }
def xtK (s : Shared) : Bool := W.xlAt vw [] s && W.recOk (W.RowW.records (W.OpenRow.toRowW (W.OpenLaw.row PySem.Challenge.rw_lidprice_k83_whole_any_places))) s
theorem leftK : W.LeftO PySem.Challenge.pw_lidprice_k83_whole_any_places vw [] xtK (W.Hook.obs (W.kHook heapK asK keysK)) (W.Hook.val (W.kHook heapK asK keysK)) 3722 :=
  L2.left_run (Tb := t0) (Tf := t2) (nf := 268) (kf := 547) (env := envK) (C := codeK) (gs := gs) (m0 := 11) (ann := (some (.ref 6))) (by kernel_rfl) (by decide) (fun _ => by kernel_rfl) (fun _ => by kernel_rfl) preK blkK (c := 1234 + (266 + (2))) (fun w os => L2.run_app (run1 w os) (L2.run_app (run2 w os) (runE w os))) (by decide) (fun _ => by kernel_rfl)
end
end K83
open PySem PySem.W PyProof.Rows
set_option maxRecDepth 100000 in
set_option maxHeartbeats 0 in
theorem PySem.Challenge.cw_lidprice_k83_whole_any_places_holds : PySem.Challenge.rw_lidprice_k83_whole_any_places.Holds := by
  w_on; o_law
  refine PySem.W.holds_open (N := 3722) (q := K83.vw) (loose := []) (Xt := K83.xtK) (XP := PySem.W.XL K83.vw [])
    (Yf := PySem.W.Hook.obs (PySem.W.kHook K83.heapK K83.asK K83.keysK)) (Ya := PySem.W.Hook.val (PySem.W.kHook K83.heapK K83.asK K83.keysK))
    (YP := PySem.W.Hook.says (PySem.W.kHook K83.heapK K83.asK K83.keysK)) K83.leftK
    (PySem.W.Hook.of _) (PySem.W.Hook.keeps _) (fun s e => PySem.W.xl_of s (Bool.and_eq_true_iff.mp e).1) PySem.W.XL.keeps
    (by rfl) (by rfl) (by rfl) (fun s e => PySem.W.recFacts_of (Bool.and_eq_true_iff.mp e).2)
    (by rfl) (by first | assumption | decide +kernel) (by decide +kernel)
    ⟨rfl, rfl, rfl, rfl, rfl, by decide +kernel⟩ ?hw ?hc
  case hw => w_witness2
  k_fill
  refine K83.walk (l := PySem.Challenge.rw_lidprice_k83_whole_any_places) rfl rfl (fun w h Y => PySem.W.kIn_of Y) ?F
  case F =>
    intro w mg fa h KX G hmg
    refine' K83.all_mk KX G hmg ?a1 ?l1 ?c1 ?k1 ?a2 ?l2 ?c2 ?k2 ?a3 ?l3 ?c3 ?k3 ?a4 ?l4 ?c4 ?k4 ?a5 ?l5 ?c5 ?k5 ?a6 ?l6 ?c6 ?k6 ?a7 ?l7 ?c7 ?k7 ?a8 ?l8 ?c8 ?k8 ?a9 ?l9 ?c9 ?k9 ?a10 ?l10 ?c10 ?k10 ?a11 ?l11 ?c11 ?k11 ?a12 ?l12 ?c12 ?k12 ?a13 ?l13 ?c13 ?k13 ?a14 ?l14 ?c14 ?k14 ?a15 ?l15 ?c15 ?k15 ?a16 ?l16 ?c16 ?k16 ?a17 ?l17 ?c17 ?k17 ?a18 ?l18 ?c18 ?k18 ?a19 ?l19 ?c19 ?k19 ?a20 ?l20 ?c20 ?k20 ?a21 ?l21 ?c21 ?k21 ?a22 ?l22 ?c22 ?k22 ?a23 ?l23 ?c23 ?k23 ?a24 ?l24 ?c24 ?k24 ?a25 ?l25 ?c25 ?k25 ?a26 ?l26 ?c26 ?k26 ?a27 ?l27 ?c27 ?k27 ?a28 ?l28 ?c28 ?k28 ?a29 ?l29 ?c29 ?k29 ?a30 ?l30 ?c30 ?k30 ?a31 ?l31 ?c31 ?k31 ?a32 ?l32 ?c32 ?k32 ?a33 ?l33 ?c33 ?k33 ?a34 ?l34 ?c34 ?k34 ?y_abs ?y_all ?y_bool ?y_int ?y_isinstance ?y_len ?y_list ?y_range ?y_reversed ?y_set ?y_sorted ?y_sum ?y_tuple ?yg_MOST_RANKS
    (case a1 => k_is); (case l1 => k_is); (case c1 => k_is); (case k1 => k_is)
    (case a2 => k_is); (case l2 => k_is); (case c2 => k_is); (case k2 => k_is)
    (case a3 => k_is); (case l3 => k_is); (case c3 => k_is); (case k3 => k_is)
    (case a4 => k_is); (case l4 => k_is); (case c4 => k_is); (case k4 => k_is)
    (case a5 => k_is); (case l5 => k_is); (case c5 => k_is); (case k5 => k_is)
    (case a6 => k_is); (case l6 => k_is); (case c6 => k_is); (case k6 => k_is)
    (case a7 => k_is); (case l7 => k_is); (case c7 => k_is); (case k7 => k_is)
    (case a8 => k_is); (case l8 => k_is); (case c8 => k_is); (case k8 => k_is)
    (case a9 => k_is); (case l9 => k_is); (case c9 => k_is); (case k9 => k_is)
    (case a10 => k_is); (case l10 => k_is); (case c10 => k_is); (case k10 => k_is)
    (case a11 => k_is); (case l11 => k_is); (case c11 => k_is); (case k11 => k_is)
    (case a12 => k_is); (case l12 => k_is); (case c12 => k_is); (case k12 => k_is)
    (case a13 => k_is); (case l13 => k_is); (case c13 => k_is); (case k13 => k_is)
    (case a14 => k_is); (case l14 => k_is); (case c14 => k_is); (case k14 => k_is)
    (case a15 => k_is); (case l15 => k_is); (case c15 => k_is); (case k15 => k_is)
    (case a16 => k_is); (case l16 => k_is); (case c16 => k_is); (case k16 => k_is)
    (case a17 => k_is); (case l17 => k_is); (case c17 => k_is); (case k17 => k_is)
    (case a18 => k_is); (case l18 => k_is); (case c18 => k_is); (case k18 => k_is)
    (case a19 => k_is); (case l19 => k_is); (case c19 => k_is); (case k19 => k_is)
    (case a20 => k_is); (case l20 => k_is); (case c20 => k_is); (case k20 => k_is)
    (case a21 => k_is); (case l21 => k_is); (case c21 => k_is); (case k21 => k_is)
    (case a22 => k_is); (case l22 => k_is); (case c22 => k_is); (case k22 => k_is)
    (case a23 => k_is); (case l23 => k_is); (case c23 => k_is); (case k23 => k_is)
    (case a24 => k_is); (case l24 => k_is); (case c24 => k_is); (case k24 => k_is)
    (case a25 => k_is); (case l25 => k_is); (case c25 => k_is); (case k25 => k_is)
    (case a26 => k_is); (case l26 => k_is); (case c26 => k_is); (case k26 => k_is)
    (case a27 => k_is); (case l27 => k_is); (case c27 => k_is); (case k27 => k_is)
    (case a28 => k_is); (case l28 => k_is); (case c28 => k_is); (case k28 => k_is)
    (case a29 => k_is); (case l29 => k_is); (case c29 => k_is); (case k29 => k_is)
    (case a30 => k_is); (case l30 => k_is); (case c30 => k_is); (case k30 => k_is)
    (case a31 => k_is); (case l31 => k_is); (case c31 => k_is); (case k31 => k_is)
    (case a32 => k_is); (case l32 => k_is); (case c32 => k_is); (case k32 => k_is)
    (case a33 => k_is); (case l33 => k_is); (case c33 => k_is); (case k33 => k_is)
    (case a34 => k_is); (case l34 => k_is); (case c34 => k_is); (case k34 => k_is)
    (case y_abs => k_is)
    (case y_all => k_is)
    (case y_bool => k_is)
    (case y_int => k_is)
    (case y_isinstance => k_is)
    (case y_len => k_is)
    (case y_list => k_is)
    (case y_range => k_is)
    (case y_reversed => k_is)
    (case y_set => k_is)
    (case y_sorted => k_is)
    (case y_sum => k_is)
    (case y_tuple => k_is)
    (case yg_MOST_RANKS => k_is)
