import PyProof.Rows.All
import Wide.All
import OpenK.AllK
import Wide.FinOn
import Lean
import PyProof.EqAt
import PyProof.EqKinds
import PyProof.TupleCall
import PyProof.NeKinds
import KE.IntBitsLaws
import KE.KRevIter
import KE.KSortKey
import KE.KLam
import KE.KNestM
import KE.KDictList
import PyProof.ConsumeWalk
import PyProof.ZipIter
import PyProof.Rows.Range3
import PyProof.CollectWalk
import PyProof.ListNew
import KE.KUnpack
import PySem.Challenge.RW_lidprice_k15_what_makes_no_box
set_option Elab.async false
set_option linter.all false
set_option maxRecDepth 100000
namespace L2
open PySem PySem.Spec PyProof.Rows
abbrev Key := Sum Int Str
def keyIs : Key → Value → Bool
  | .inl k, v => Value.isInt k v
  | .inr x, v => Value.isStrOf x v
def keyH (w : World) : Key → Int
  | .inl k => hashInt k
  | .inr x => hashStr w x
theorem keyIs_shape : ∀ {k : Key} {v : Value}, keyIs k v = true → (∃ i t, k = Sum.inl i ∧ v = Value.int i t) ∨ (∃ x t, k = Sum.inr x ∧ v = Value.str x t)
  | .inl i, v, h => by
    obtain ⟨t, e⟩ := Value.isInt_shape (k := i) (v := v) h
    exact .inl ⟨i, t, rfl, e⟩
  | .inr x, v, h => by
    obtain ⟨t, e⟩ := Value.isStrOf_shape (x := x) (v := v) h
    exact .inr ⟨x, t, rfl, e⟩
theorem keyIs_int (i : Int) (t : Tok) : keyIs (.inl i) (.int i t) = true := by simp [keyIs, Value.isInt]
theorem keyIs_str (x : Str) (t : Tok) : keyIs (.inr x) (.str x t) = true := by simp [keyIs, Value.isStrOf]
theorem key_ll (a b : Int) : decide ((Sum.inl a : Key) = Sum.inl b) = (a == b) := by
  by_cases e : a = b
  · subst e; simp
  · have h : ¬ (Sum.inl a : Key) = Sum.inl b := fun q => e (Sum.inl.inj q)
    rw [decide_eq_false h]
    exact (beq_eq_false_iff_ne.mpr e).symm
theorem key_rr (a b : Str) : decide ((Sum.inr a : Key) = Sum.inr b) = decide (a = b) := by
  by_cases e : a = b
  · subst e; simp
  · have h : ¬ (Sum.inr a : Key) = Sum.inr b := fun q => e (Sum.inr.inj q)
    rw [decide_eq_false h, decide_eq_false e]
theorem key_lr (a : Int) (b : Str) : decide ((Sum.inl a : Key) = Sum.inr b) = false := decide_eq_false (fun q => nomatch q)
theorem key_rl (a : Str) (b : Int) : decide ((Sum.inr a : Key) = Sum.inl b) = false := decide_eq_false (fun q => nomatch q)
def mixKind (prog : Program) (w : World) : PySem.KeyKind prog w Key where
  is := keyIs
  hash := keyH w
  inj := fun v a b ha hb => by
    rcases keyIs_shape ha with ⟨i, t, rfl, rfl⟩ | ⟨x, t, rfl, rfl⟩
    · rcases keyIs_shape hb with ⟨j, u, rfl, e⟩ | ⟨y, u, rfl, e⟩
      · injection e with e1 _; rw [e1]
      · exact nomatch e
    · rcases keyIs_shape hb with ⟨j, u, rfl, e⟩ | ⟨y, u, rfl, e⟩
      · exact nomatch e
      · injection e with e1 _; rw [e1]
  byValue := fun k v h => by
    rcases keyIs_shape h with ⟨i, t, rfl, rfl⟩ | ⟨x, t, rfl, rfl⟩ <;> rfl
  pyHash := fun hv h => by
    rcases keyIs_shape hv with ⟨i, t, rfl, rfl⟩ | ⟨x, t, rfl, rfl⟩
    · exact wpAny_pyHash_int h
    · exact wpAny_pyHash_str h
  eqBool := fun hu hv h => by
    rcases keyIs_shape hu with ⟨i, t, rfl, rfl⟩ | ⟨x, t, rfl, rfl⟩
    · rcases keyIs_shape hv with ⟨j, u, rfl, rfl⟩ | ⟨y, u, rfl, rfl⟩
      · rw [key_ll] at h; exact wpAny_eqBool_int h
      · rw [key_lr] at h; exact SeqAt.EqAt.int_str i t y u _ _ _ _ h
    · rcases keyIs_shape hv with ⟨j, u, rfl, rfl⟩ | ⟨y, u, rfl, rfl⟩
      · rw [key_rl] at h; exact SeqAt.EqAt.str_int x t j u _ _ _ _ h
      · rw [key_rr] at h; exact wpAny_eqBool_str h
  «strs» := fun k x t v h => by
    rcases keyIs_shape h with ⟨i, u, rfl, e⟩ | ⟨y, u, rfl, e⟩
    · exact nomatch e
    · injection e with e1 _
      subst e1
      cases v <;> rfl
theorem mixKind_int (prog : Program) (w : World) (i : Int) (t : Tok) : (mixKind prog w).is (.inl i) (.int i t) = true := keyIs_int i t
theorem mixKind_str (prog : Program) (w : World) (x : Str) (t : Tok) : (mixKind prog w).is (.inr x) (.str x t) = true := keyIs_str x t
end L2
namespace L2
open PySem PySem.Spec PyProof.Rows
inductive V where
  | non | bl (b : Bool) | int (i : Int) | str (x : Str) | byt (b : Array UInt8) | flt (b : UInt64) | ref (a : Addr) | ty (n : String)
  deriving DecidableEq
def RelV : V → Value → Prop
  | .non, u => u = Value.none
  | .bl b, u => u = Value.bool b
  | .int i, u => ∃ t, u = Value.int i t
  | .str x, u => ∃ t, u = Value.str x t
  | .byt b, u => ∃ t, u = Value.bytes b t
  | .flt b, u => ∃ t, u = Value.float b t
  | .ref a, u => u = Value.ref a
  | .ty n, u => u = Value.type n
abbrev Vals : List V → List Value → Prop := Paired RelV
theorem Vals.length {xs : List V} {us : List Value} (r : Vals xs us) : xs.length = us.length := Paired.length r
theorem Vals.get : ∀ {xs : List V} {us : List Value} {i : Nat} {x : V}, Vals xs us → xs[i]? = some x → ∃ u, us[i]? = some u ∧ RelV x u
  | _, _, _, _, .nil, e => by simp at e
  | _, _, 0, _, .cons r _, e => by simp at e; subst e; exact ⟨_, rfl, r⟩
  | _, _, i + 1, x, .cons _ t, e => by
    obtain ⟨u, h1, h2⟩ := Vals.get (i := i) (x := x) t (by simpa using e)
    exact ⟨u, by simpa using h1, h2⟩
theorem Vals.set {x : V} {u : Value} (r : RelV x u) : ∀ {xs : List V} {us : List Value} (i : Nat), Vals xs us → Vals (xs.set i x) (us.set i u)
  | _, _, _, .nil => .nil
  | _, _, 0, .cons _ t => .cons r t
  | _, _, i + 1, .cons q t => .cons q (Vals.set r i t)
theorem Vals.append : ∀ {xs ys : List V} {us ws : List Value}, Vals xs us → Vals ys ws → Vals (xs ++ ys) (us ++ ws)
  | _, _, _, _, .nil, s => s
  | _, _, _, _, .cons r t, s => .cons r (Vals.append t s)
theorem Vals.take : ∀ {xs : List V} {us : List Value} (n : Nat), Vals xs us → Vals (xs.take n) (us.take n)
  | _, _, 0, _ => .nil
  | _, _, _ + 1, .nil => .nil
  | _, _, n + 1, .cons r t => .cons r (Vals.take n t)
theorem Vals.drop : ∀ {xs : List V} {us : List Value} (n : Nat), Vals xs us → Vals (xs.drop n) (us.drop n)
  | _, _, 0, r => r
  | _, _, _ + 1, .nil => .nil
  | _, _, n + 1, .cons _ t => Vals.drop n t
theorem Vals.none_of : ∀ {xs : List V} {us : List Value} {i : Nat}, Vals xs us → xs[i]? = none → us[i]? = none := fun {xs us i} r e => by
  have h1 := r.length
  have h2 : xs.length ≤ i := List.getElem?_eq_none_iff.mp e
  exact List.getElem?_eq_none_iff.mpr (by omega)
def RelO : Option V → Option Value → Prop
  | some v, some u => RelV v u
  | none, none => True
  | _, _ => False
def KV {κ : Type} : List (κ × V) → List (κ × Value) → Prop := Paired fun (p : κ × V) (q : κ × Value) => p.1 = q.1 ∧ RelV p.2 q.2
def kV : Key → V
  | .inl i => .int i
  | .inr x => .str x
inductive HO where
  | lst (xs : List V)
  | tup (xs : List V)
  | dK (kvs : List (Key × V)) | dT (kvs : List (List Key × V))
  | set (S : Int → Bool) (n : Nat)
  | ins (C dx : Addr) (fs : List (Str × V))
  | own (x : Addr)
  | xd (fs : List (Str × V))
  | met (f x : Addr)
  | rng (lo hi : Int)
  | frz (o : Obj) (u : HO)
  | tbl (ps : Array Value)
  | ext (φ : Heap → Prop)
abbrev Hp := Addr → Option HO
def upd (H : Hp) (a : Addr) (o : HO) : Hp := fun b => if b = a then some o else H b
theorem upd_same {H : Hp} {a : Addr} {o : HO} : upd H a o a = some o := by unfold upd; rw [if_pos rfl]
theorem upd_ne {H : Hp} {a b : Addr} {o : HO} (h : b ≠ a) : upd H a o b = H b := by unfold upd; rw [if_neg h]
theorem ne_of {H : Hp} {a b : Addr} {o u : HO} (h : H a = some o) (h' : H b = some u) (d : o ≠ u) : a ≠ b := by
  intro e; subst e; rw [h] at h'; exact d (Option.some.inj h')
theorem ne_of_none {H : Hp} {a b : Addr} {o : HO} (h : H a = some o) (h' : H b = none) : a ≠ b := by
  intro e; subst e; rw [h] at h'; cases h'
section
variable (P : Program) (w : World)
def ObjOk (H : Hp) (h : Heap) (a : Addr) : HO → Prop
  | .lst xs => xs.length ≤ sizeLine ∧ ∃ (its : List Value) (n : Nat), Vals xs its ∧ h.get? a = some { cls := .type "list", data := .seq its.toArray n }
  | .tup xs => xs.length ≤ sizeLine ∧ ∃ its : List Value, Vals xs its ∧ IsTup h a its.toArray
  | .dK kvs => kvs.length ≤ sizeLine ∧ (a == sysModules) = false ∧ ∃ vs, KV kvs vs ∧ h.DictOf (mixKind P w) a vs
  | .dT kvs => kvs.length ≤ sizeLine ∧ (a == sysModules) = false ∧ ∃ xs : List (List Key × Addr × Value),
      Paired (fun (p : List Key × V) (q : List Key × Addr × Value) => p.1 = q.1 ∧ H q.2.1 = some (.tup (p.1.map kV)) ∧ RelV p.2 q.2.2) kvs xs ∧
      ∃ o es ep, h.get? a = some o ∧ o.ExactDict ∧ o.data = .dict es ep ∧ es.toList = xs.map (entryOfKey (tupleKind (mixKind P w))) ∧ (xs.map (·.1)).Nodup
  | .set S n => h.SetOf (intKind P w) a S n
  | .ins C dx fs => H dx = some (.own a) ∧ fs.length ≤ 1000 ∧ dx ≠ a ∧ h.get? a = some (PySem.W.instObj C dx) ∧
      ∃ mA, h.Ns1 dx mA ∧ (∀ f, RelO (fs.lookup f) (mA f)) ∧ PySem.Within mA (fs.map (·.1))
  | .own _ => ∃ o, h.get? a = some o
  | .xd fs => ∃ mA, h.Ns1 a mA ∧ ∀ f, RelO (fs.lookup f) (mA f)
  | .rng lo hi => ∃ t u v, h.get? a = some { cls := .type "range", data := .fields #[.int lo t, .int hi u, .int 1 v] }
  | .frz o u => h.get? a = some o ∧ ObjOk H h a u
  | .tbl ps => h.get? a = some { cls := .none, data := .fields ps }
  | .met f x => h.get? a = some (PySem.W.methodObj (.ref f) (.ref x))
  | .ext φ => φ h ∧ (∃ o, h.get? a = some o) ∧ ∀ h1 h2 : Heap, φ h1 → (∀ o, h1.get? a = some o → h2.get? a = some o) → φ h2
def HOk (H : Hp) (h : Heap) : Prop := ∀ a o, H a = some o → ObjOk P w H h a o
end
section
variable {P : Program} {w : World} {H H' : Hp} {h h' : Heap} {a : Addr} {o : HO}
theorem ObjOk.lt (x : ObjOk P w H h a o) : a < h.objs.size := by
  cases o with
  | lst xs => obtain ⟨_, _, _, _, e⟩ := x; exact Heap.lt_size e
  | tup xs => obtain ⟨_, _, _, p⟩ := x; exact p.lt
  | dK kvs => obtain ⟨_, _, _, _, o, _, _, e, _⟩ := x; exact Heap.lt_size e
  | dT kvs => obtain ⟨_, _, _, _, o, _, _, e, _⟩ := x; exact Heap.lt_size e
  | set S n => obtain ⟨o, _, _, _, e, _⟩ := x; exact Heap.lt_size e
  | ins C dx fs => obtain ⟨_, _, _, e, _⟩ := x; exact Heap.lt_size e
  | own y => obtain ⟨_, e⟩ := x; exact Heap.lt_size e
  | xd fs => obtain ⟨_, ⟨_, _, _, e, _⟩, _⟩ := x; exact Heap.lt_size e
  | rng lo hi => obtain ⟨_, _, _, e⟩ := x; exact Heap.lt_size e
  | frz ob u => obtain ⟨e, _⟩ := x; exact Heap.lt_size e
  | tbl ps => exact Heap.lt_size (show h.get? a = some _ from x)
  | met f y => exact Heap.lt_size (show h.get? a = some _ from x)
  | ext φ => obtain ⟨_, ⟨_, e⟩, _⟩ := x; exact Heap.lt_size e
theorem Paired.mapP {α β : Type} {F G : α → β → Prop} : ∀ {l₁ : List α} {l₂ : List β}, Paired F l₁ l₂ → (∀ a b, F a b → G a b) → Paired G l₁ l₂
  | _, _, .nil, _ => .nil
  | _, _, .cons r t, f => .cons (f _ _ r) (Paired.mapP t f)
theorem ObjOk.stay (x : ObjOk P w H h a o) (k : ∀ b u, (b = a ∨ H b = some (.own a)) → h.get? b = some u → h'.get? b = some u)
    (ho : ∀ b, H b = some (.own a) → H' b = some (.own a)) (ht : ∀ b xs, H b = some (.tup xs) → H' b = some (.tup xs)) : ObjOk P w H' h' a o := by
  induction o with
  | lst xs => obtain ⟨z, its, n, r, e⟩ := x; exact ⟨z, its, n, r, k _ _ (.inl rfl) e⟩
  | tup xs => obtain ⟨z, its, r, ob, e, c⟩ := x; exact ⟨z, its, r, ob, k _ _ (.inl rfl) e, c⟩
  | dK kvs => obtain ⟨z, y, vs, r, ob, es, ep, e, c⟩ := x; exact ⟨z, y, vs, r, ob, es, ep, k _ _ (.inl rfl) e, c⟩
  | dT kvs =>
    obtain ⟨z, y, xs, r, ob, es, ep, e, c⟩ := x
    exact ⟨z, y, xs, Paired.mapP r fun p q z => ⟨z.1, ht _ _ z.2.1, z.2.2⟩, ob, es, ep, k _ _ (.inl rfl) e, c⟩
  | set S n => obtain ⟨ob, es, ep, t, e, c⟩ := x; exact ⟨ob, es, ep, t, k _ _ (.inl rfl) e, c⟩
  | ins C dx fs =>
    obtain ⟨d, z, ne, e, mA, ⟨od, es, ep, e2, c⟩, r⟩ := x
    exact ⟨ho _ d, z, ne, k _ _ (.inl rfl) e, mA, ⟨od, es, ep, k _ _ (.inr d) e2, c⟩, r⟩
  | own y => obtain ⟨ob, e⟩ := x; exact ⟨ob, k _ _ (.inl rfl) e⟩
  | xd fs => obtain ⟨mA, ⟨od, es, ep, e, c⟩, r⟩ := x; exact ⟨mA, ⟨od, es, ep, k _ _ (.inl rfl) e, c⟩, r⟩
  | rng lo hi => obtain ⟨t, u, v, e⟩ := x; exact ⟨t, u, v, k _ _ (.inl rfl) e⟩
  | frz ob u ih => obtain ⟨e, q⟩ := x; exact ⟨k _ _ (.inl rfl) e, ih q⟩
  | tbl ps =>
    have e : h.get? a = some { cls := .none, data := .fields ps } := x
    show h'.get? a = some { cls := .none, data := .fields ps }
    exact k a _ (.inl rfl) e
  | met f y =>
    have e : h.get? a = some (PySem.W.methodObj (.ref f) (.ref y)) := x
    show h'.get? a = some (PySem.W.methodObj (.ref f) (.ref y))
    exact k a _ (.inl rfl) e
  | ext φ => obtain ⟨p, ⟨o, e⟩, st⟩ := x; exact ⟨st _ _ p fun o q => k _ _ (.inl rfl) q, ⟨o, k _ _ (.inl rfl) e⟩, st⟩
theorem HOk.lt (x : HOk P w H h) (e : H a = some o) : a < h.objs.size := (x a o e).lt
theorem HOk.fresh (x : HOk P w H h) (e : h.objs.size ≤ a) : H a = none := by
  cases q : H a with
  | none => rfl
  | some u => exact absurd (Nat.lt_of_lt_of_le (x.lt q) e) (Nat.lt_irrefl _)
theorem HOk.kept (x : HOk P w H h) (k : ∀ b u, h.get? b = some u → h'.get? b = some u) : HOk P w H h' := fun a o e =>
  (x a o e).stay (fun b u _ q => k b u q) (fun _ q => q) fun _ _ q => q
theorem HOk.laid (x : HOk P w H h) (k : ∀ b u, h.get? b = some u → h'.get? b = some u) (hp : h.objs.size ≤ a) (new : ObjOk P w (upd H a o) h' a o) : HOk P w (upd H a o) h' := fun b u e => by
  have hn := x.fresh hp
  by_cases hb : b = a
  · subst hb; rw [upd_same] at e; cases e; exact new
  · rw [upd_ne hb] at e
    exact (x b u e).stay (fun c v _ q => k c v q) (fun c q => by rw [upd_ne (ne_of_none q hn)]; exact q) fun c xs q => by rw [upd_ne (ne_of_none q hn)]; exact q
end
def Rd (H : Hp) (a : Addr) (u : HO) : Prop := H a = some u ∨ ∃ o, H a = some (.frz o u)
theorem Rd.of {H : Hp} {a : Addr} {u : HO} (h : H a = some u) : Rd H a u := .inl h
theorem Rd.ok {P : Program} {w : World} {H : Hp} {h : Heap} {a : Addr} {u : HO} (r : Rd H a u) (x : HOk P w H h) : ObjOk P w H h a u := by
  rcases r with r | ⟨o, r⟩
  · exact x a u r
  · obtain ⟨_, q⟩ := x a _ r
    exact q
def Mut : Option HO → Prop
  | some (.lst _) => True
  | some (.dK _) => True
  | some (.dT _) => True
  | some (.set _ _) => True
  | some (.ins _ _ _) => True
  | some (.ext _) => True
  | _ => False
section
variable {P : Program} {w : World} {H : Hp} {h h' : Heap} {x e : Addr} {o' : HO}
theorem HOk.write (ok : HOk P w H h) (mu : Mut (H x)) (he : e = x ∨ H e = some (.own x)) (k : ∀ b u, b ≠ e → h.get? b = some u → h'.get? b = some u) (heo : ∃ u, h'.get? e = some u)
    (new : ObjOk P w (upd H x o') h' x o') : HOk P w (upd H x o') h' := fun b u q => by
  have nown : ∀ c y, H c = some (.own y) → c ≠ x := fun c y r z => by subst z; rw [r] at mu; exact mu
  have ntup : ∀ c xs, H c = some (.tup xs) → c ≠ x := fun c xs r z => by subst z; rw [r] at mu; exact mu
  by_cases hb : b = x
  · subst hb; rw [upd_same] at q; cases q; exact new
  · rw [upd_ne hb] at q
    by_cases hbe : b = e
    · have q' : H b = some (.own x) := by
        rcases he with z | z
        · exact absurd (hbe.trans z) hb
        · rw [hbe]; exact z
      rw [q] at q'; cases q'
      obtain ⟨v, hv⟩ := heo
      exact ⟨v, by rw [hbe]; exact hv⟩
    · refine (ok b u q).stay (fun c v hc r => k c v ?_ r) (fun c r => by rw [upd_ne (nown c b r)]; exact r) fun c xs r => by rw [upd_ne (ntup c xs r)]; exact r
      rcases hc with rfl | hc
      · exact hbe
      · rintro rfl
        rcases he with z | z
        · exact nown c b hc z
        · rw [hc] at z; cases z; exact hb rfl
end
structure Un (fs ex : List Addr) (H H' : Hp) (h h' : Heap) : Prop where
  keep : ∀ b o, h.get? b = some o → H b = none → b ∉ fs → b ∉ ex → h'.get? b = some o
  slot : ∀ b o, h.get? b = some o → H b = none → b ∈ fs → b ∉ ex → ∃ sl, h'.get? b = some { o with slots := sl }
  free : ∀ b o, h.get? b = some o → H b = none → b ∉ ex → H' b = none
  there : ∀ b o, h.get? b = some o → b ∉ ex → ∃ o', h'.get? b = some o'
  tups : ∀ b xs, H b = some (.tup xs) → H' b = some (.tup xs)
  frzs : ∀ b o u, H b = some (.frz o u) → H' b = some (.frz o u)
  tbls : ∀ b ps, H b = some (.tbl ps) → ∃ more, H' b = some (.tbl (ps ++ more))
section
variable {fs fs' ex ex' : List Addr} {H H1 H2 : Hp} {h h1 h2 h' : Heap} {a x e : Addr} {o : HO}
theorem Un.any (u : Un fs ex H H1 h h1) {b : Addr} {ob : Obj} (q : h.get? b = some ob) (n : H b = none) (hx : b ∉ ex) : ∃ sl, h1.get? b = some { ob with slots := sl } := by
  by_cases hb : b ∈ fs
  · exact u.slot b ob q n hb hx
  · exact ⟨ob.slots, u.keep b ob q n hb hx⟩
theorem Un.trans (a : Un fs ex H H1 h h1) (b : Un fs ex H1 H2 h1 h2) : Un fs ex H H2 h h2 where
  keep := fun c ob q n hc hx => b.keep c ob (a.keep c ob q n hc hx) (a.free c ob q n hx) hc hx
  slot := fun c ob q n hc hx => by
    obtain ⟨sl, e1⟩ := a.slot c ob q n hc hx
    obtain ⟨sl', e2⟩ := b.slot c _ e1 (a.free c ob q n hx) hc hx
    exact ⟨sl', e2⟩
  free := fun c ob q n hx => by
    obtain ⟨o', e1⟩ := a.there c ob q hx
    exact b.free c o' e1 (a.free c ob q n hx) hx
  there := fun c ob q hx => by
    obtain ⟨o', e1⟩ := a.there c ob q hx
    exact b.there c o' e1 hx
  tups := fun c xs q => b.tups c xs (a.tups c xs q)
  frzs := fun c ob xs q => b.frzs c ob xs (a.frzs c ob xs q)
  tbls := fun c ps q => by
    obtain ⟨m1, e1⟩ := a.tbls c ps q
    obtain ⟨m2, e2⟩ := b.tbls c _ e1
    exact ⟨m1 ++ m2, by rw [e2, Array.append_assoc]⟩
theorem Un.kept (k : ∀ b u, h.get? b = some u → h'.get? b = some u) : Un fs ex H H h h' :=
  ⟨fun b ob q _ _ _ => k b ob q, fun b ob q _ _ _ => ⟨ob.slots, k b ob q⟩, fun _ _ _ n _ => n, fun b ob q _ => ⟨ob, k b ob q⟩, fun _ _ q => q, fun _ _ _ q => q, fun _ ps q => ⟨#[], by rw [q]; simp⟩⟩
theorem Un.refl : Un fs ex H H h h := Un.kept fun _ _ q => q
theorem Un.laid (k : ∀ b u, h.get? b = some u → h'.get? b = some u) (hp : h.objs.size ≤ a) (hn : H a = none) : Un fs ex H (upd H a o) h h' where
  keep := fun b u q _ _ _ => k b u q
  slot := fun b u q _ _ _ => ⟨u.slots, k b u q⟩
  free := fun b u q n _ => by rw [upd_ne (Nat.ne_of_lt (Nat.lt_of_lt_of_le (Heap.lt_size q) hp))]; exact n
  there := fun b u q _ => ⟨u, k b u q⟩
  tups := fun b xs q => by rw [upd_ne (ne_of_none q hn)]; exact q
  frzs := fun b u xs q => by rw [upd_ne (ne_of_none q hn)]; exact q
  tbls := fun b ps q => ⟨#[], by rw [upd_ne (ne_of_none q hn), q]; simp⟩
theorem Un.write (mu : Mut (H x)) (he : e = x ∨ H e = some (.own x)) (k : ∀ b u, b ≠ e → h.get? b = some u → h'.get? b = some u) (heo : ∃ u, h'.get? e = some u) : Un fs ex H (upd H x o) h h' := by
  have hx : ∀ b, H b = none → b ≠ x := fun b n z => by subst z; rw [n] at mu; exact mu
  have hb : ∀ b, H b = none → b ≠ e := fun b n z => by
    subst z
    rcases he with r | r
    · exact hx b n r
    · rw [n] at r; cases r
  have hm : ∀ b u, H b = some u → ¬ Mut (some u) → b ≠ x := fun b u q nm z => by subst z; rw [q] at mu; exact nm mu
  refine ⟨fun b u q n _ _ => k b u (hb b n) q, fun b u q n _ _ => ⟨u.slots, k b u (hb b n) q⟩, fun b u q n _ => by rw [upd_ne (hx b n)]; exact n, fun b u q _ => ?_,
    fun b xs q => by rw [upd_ne (hm b _ q fun z => z)]; exact q, fun b u xs q => by rw [upd_ne (hm b _ q fun z => z)]; exact q, fun b ps q => ⟨#[], by rw [upd_ne (hm b _ q fun z => z), q]; simp⟩⟩
  by_cases hbe : b = e
  · subst hbe; exact heo
  · exact ⟨u, k b u hbe q⟩
theorem Un.mono (u : Un fs ex H H1 h h1) (hs : ∀ b ∈ fs, b ∈ fs') (hx : ∀ b ∈ ex, b ∈ ex') : Un fs' ex' H H1 h h1 :=
  ⟨fun b ob q n hb he => u.keep b ob q n (fun z => hb (hs b z)) fun z => he (hx b z), fun _ _ q n _ he => u.any q n fun z => he (hx _ z), fun b ob q n he => u.free b ob q n fun z => he (hx b z), fun b ob q he => u.there b ob q fun z => he (hx b z), u.tups, u.frzs, u.tbls⟩
end
def trk (h : Heap) (H : Hp) : List Addr := (List.range h.objs.size).filter fun a => (H a).isSome
def hidT (h : Heap) (H : Hp) : Heap := PySem.W.hideAll h (trk h H)
theorem hidT_size (h : Heap) (H : Hp) : (hidT h H).objs.size = h.objs.size := PySem.W.hideAll_size _ _
theorem hidT_get {h : Heap} {H : Hp} {b : Addr} {o : Obj} (e : h.get? b = some o) (n : H b = none) : (hidT h H).get? b = some o :=
  PySem.W.hideAll_get _ e fun hm => by
    have q : (H b).isSome = true := (List.mem_filter.mp hm).2
    rw [n] at q; simp at q
theorem of_hidT {h : Heap} {H : Hp} {b : Addr} {o : Obj} (e : (hidT h H).get? b = some o) : h.get? b = some o ∧ H b = none := by
  have e' : h.get? b = some o := PySem.W.of_hideAll (trk h H) e
  refine ⟨e', ?_⟩
  cases q : H b with
  | none => rfl
  | some x =>
    have hm : b ∈ trk h H := List.mem_filter.mpr ⟨List.mem_range.mpr (Heap.lt_size e'), by simp [q]⟩
    have z : (hidT h H).get? b = none := PySem.W.hideAll_none (trk h H) hm
    rw [z] at e; cases e
def allNews (g h : Heap) (L : Addr) : List (Addr × Obj) := (List.range h.objs.size).filterMap fun a => if a = L ∨ (g.get? a).isSome = true then none else (h.get? a).map fun o => (a, o)
def rest (g h : Heap) (L d : Addr) : List (Addr × Obj) := (allNews g h L).filter fun p => decide (p.1 ≠ d)
end L2
namespace L2
open PySem PySem.Spec PyProof.Rows
structure Mod (K : PySem.W.Frag) (mg : Str → Option Value) (base : Heap) : Prop where
  kin : K.In base
  glob : base.Ns mainGlobals mg
  blt : ∃ mb, base.Ns builtinsNs mb ∧ ∀ x : Str, x ≠ "__name__" → mb x = bootBuiltins x
  nolimit : base.NoLimit
structure Cx where
  prog : Program
  w : World
  K : PySem.W.Frag
  mg : Str → Option Value
  base : Heap
  A : Around
  N : List Str
  s₀ : Shared
  H₀ : Hp
  env : Env
  outer : List Env
  stack : List Env
  ex : List Addr
  fn : Str → Bool
  calm : Bool
  pn : List (Addr × Obj)
  xe : Value → Shared → Prop
def frs (l : List Env) : List Addr := l.filterMap (·.frame)
abbrev Cx.fs (X : Cx) : List Addr := frs X.outer
def Vis (sc : Scope) (x : Str) : Prop := sc.names.lookup x = some .local ∨ sc.names.lookup x = some .cell ∨ sc.names.lookup x = some .free
def Loc (sc : Scope) (x : Str) : Prop := sc.names.lookup x = some .local ∨ sc.names.lookup x = some .cell
def Look (env : Env) (h : Heap) (m : Str → Option Value) (x : Str) (u : Value) : Prop :=
  (env.kindOf x = some .local ∧ m x = some u) ∨ ((env.kindOf x = some .cell ∨ env.kindOf x = some .free) ∧ ∃ c, env.cells.lookup x = some c ∧ h.IsCell c (some u))
structure Cx.Ok (X : Cx) : Prop where
  mod : Mod X.K X.mg X.base
  kind : X.env.scope.kind = .function
  glob : X.env.globals = mainGlobals
  blt : X.env.builtins = builtinsNs
  above : X.s₀.heap.objs.size ≤ X.env.locals
  inj : ∀ x y c, X.env.cells.lookup x = some c → X.env.cells.lookup y = some c → x = y
  has : ∀ x, (X.env.kindOf x = some .cell ∨ X.env.kindOf x = some .free) → ∃ c, X.env.cells.lookup x = some c
  cab : ∀ x c, X.fn x = true → X.env.cells.lookup x = some c → X.s₀.heap.objs.size ≤ c
  hd : X.calm = true → X.A.handled = none
  frames : X.A.frames = some X.stack
  stk : X.stack = X.outer ∨ (X.stack = X.env :: X.outer ∧ X.env.frame = some X.env.locals)
  exf : ∀ b ∈ X.ex, b ≠ X.env.locals ∧ ∀ x c, X.env.cells.lookup x = some c → c ≠ b
  bs : ∀ b o, X.base.get? b = some o → X.s₀.heap.get? b = some o ∧ X.H₀ b = none
  bsz : X.base.objs.size ≤ X.s₀.heap.objs.size
  noex : ∀ b o, X.base.get? b = some o → b ∉ X.ex
  exfs : ∀ b ∈ X.ex, b ∉ X.fs
  funs : X.s₀.heap.FunFrames X.base X.outer
  frf : ∀ b ∈ X.fs, X.H₀ b = none
structure Inv (X : Cx) (pins : List (Addr × Obj)) (σ : List (Option V)) (H : Hp) (s : Shared) : Prop where
  ok : X.Ok
  os : s.os = X.s₀.os
  bare : AllBare s.gens
  base : Un X.fs X.ex X.H₀ H X.s₀.heap s.heap
  loc : ∃ m, s.heap.Ns X.env.locals m ∧ ∀ (i : Nat) (x : Str) (v : V), X.N[i]? = some x → σ[i]? = some (some v) → Vis X.env.scope x → ∃ u, RelV v u ∧ Look X.env s.heap m x u
  cell : ∀ x c, X.env.cells.lookup x = some c → ∃ v, s.heap.IsCell c v
  free : H X.env.locals = none
  freeC : ∀ x c, X.env.cells.lookup x = some c → H c = none
  pin : ∀ p ∈ X.pn ++ pins, s.heap.get? p.1 = some p.2 ∧ H p.1 = none ∧ p.1 ≠ X.env.locals ∧ p.1 ∉ X.fs ∧ ∀ v, p.2.data ≠ .cell v
  hok : HOk X.prog X.w H s.heap
  len : σ.length = X.N.length
section
variable {X : Cx} {pins : List (Addr × Obj)} {σ : List (Option V)} {H H' : Hp} {s : Shared} {h' : Heap}
theorem Cx.Ok.nofr (ok : X.Ok) {b : Addr} {o : Obj} (e : X.base.get? b = some o) : b ∉ X.fs := fun hb => by
  have := (ok.funs.mem hb).1
  rw [e] at this; cases this
theorem Inv.bs (I : Inv X pins σ H s) : ∀ b o, X.base.get? b = some o → s.heap.get? b = some o ∧ H b = none := fun b o e =>
  ⟨I.base.keep b o (I.ok.bs b o e).1 (I.ok.bs b o e).2 (I.ok.nofr e) (I.ok.noex b o e), I.base.free b o (I.ok.bs b o e).1 (I.ok.bs b o e).2 (I.ok.noex b o e)⟩
theorem Inv.bk (I : Inv X pins σ H s) : ∀ b o, X.base.get? b = some o → s.heap.get? b = some o := fun b o e => (I.bs b o e).1
theorem Inv.mod (I : Inv X pins σ H s) : Mod X.K X.mg X.base := I.ok.mod
theorem Inv.kIn (I : Inv X pins σ H s) : X.K.In s.heap := I.ok.mod.kin.keeps I.bk
theorem Inv.nolimit (I : Inv X pins σ H s) : s.heap.NoLimit := I.ok.mod.nolimit.keeps I.bk
theorem Inv.fr (I : Inv X pins σ H s) : ∃ m, Fr X.base X.env.locals s.heap m :=
  let ⟨m, hn, _⟩ := I.loc
  ⟨m, hn, I.bk, Nat.le_trans I.ok.bsz I.ok.above⟩
theorem Inv.lt (I : Inv X pins σ H s) : X.env.locals < s.heap.objs.size := let ⟨_, hn, _⟩ := I.loc; hn.lt
theorem Inv.sz (I : Inv X pins σ H s) : X.s₀.heap.objs.size ≤ s.heap.objs.size := Nat.le_trans I.ok.above (Nat.le_of_lt I.lt)
theorem Inv.nofs (I : Inv X pins σ H s) {a : Addr} (h : s.heap.objs.size ≤ a) : a ∉ X.fs := fun hb => by
  obtain ⟨_, o, ho, _⟩ := I.ok.funs.mem hb
  exact absurd (Nat.lt_of_lt_of_le (Heap.lt_size ho) (Nat.le_trans I.sz h)) (Nat.lt_irrefl _)
theorem Inv.cne (I : Inv X pins σ H s) : ∀ x c, X.env.cells.lookup x = some c → c ≠ X.env.locals := fun x c e z => by
  obtain ⟨v, o, ho, hd⟩ := I.cell x c e
  obtain ⟨m, ⟨o', es, ep, ho', hd', _⟩, _⟩ := I.loc
  rw [z, ho'] at ho; cases ho; rw [hd'] at hd; cases hd
theorem Inv.funs (I : Inv X pins σ H s) : s.heap.FunFrames X.base X.outer := by
  have all : ∀ (l : List Env), (∀ b ∈ frs l, b ∈ X.fs) → X.s₀.heap.FunFrames X.base l → s.heap.FunFrames X.base l := by
    intro l
    induction l with
    | nil => intro _ _; trivial
    | cons env r ih =>
      intro hs hl
      obtain ⟨hk, ⟨L, o, hf, hn, ho, hd⟩, hr⟩ := hl
      have hL : L ∈ X.fs := hs L (by unfold frs; rw [List.filterMap_cons, hf]; exact List.mem_cons_self)
      obtain ⟨sl, e⟩ := I.base.slot L o ho (I.ok.frf L hL) hL fun z => I.ok.exfs L z hL
      exact ⟨hk, ⟨L, _, hf, hn, e, hd⟩, ih (fun b hb => hs b (by unfold frs; rw [List.filterMap_cons, hf]; exact List.mem_cons_of_mem _ hb)) hr⟩
  exact all X.outer (fun _ hb => hb) I.ok.funs
theorem Inv.stack (I : Inv X pins σ H s) : s.heap.FunFrames X.base X.stack := by
  rcases I.ok.stk with e | ⟨e, hf⟩
  · rw [e]; exact I.funs
  · rw [e]
    obtain ⟨m, hn, _⟩ := I.loc
    refine .cons (by rw [I.ok.kind]; decide) hf hn ?_ I.funs
    exact Heap.get?_none_of_le (Nat.le_trans I.ok.bsz I.ok.above)
theorem Inv.stkSub (I : Inv X pins σ H s) : ∀ b ∈ frs X.stack, b ∈ X.env.locals :: X.fs := fun b hb => by
  rcases I.ok.stk with e | ⟨e, hf⟩
  · rw [e] at hb; exact List.mem_cons_of_mem _ hb
  · rw [e] at hb
    unfold frs at hb
    rw [List.filterMap_cons, hf] at hb
    exact hb
theorem Inv.stkFree (I : Inv X pins σ H s) : ∀ b ∈ frs X.stack, H b = none := fun b hb => by
  rcases List.mem_cons.mp (I.stkSub b hb) with e | hb
  · rw [e]; exact I.free
  · obtain ⟨_, o, ho, _⟩ := I.ok.funs.mem hb
    exact I.base.free b o ho (I.ok.frf b hb) fun z => I.ok.exfs b z hb
theorem Inv.step {g' : Array GenState} {t' : Nat} {d' : Drawn} {ch : List Addr} (I : Inv X pins σ H s)
    (hch : ∀ b ∈ ch, (b ∈ X.ex ∨ X.s₀.heap.objs.size ≤ b) ∧ b ≠ X.env.locals ∧ (∀ x c, X.env.cells.lookup x = some c → c ≠ b) ∧ ∀ p ∈ X.pn ++ pins, p.1 ≠ b)
    (keep : ∀ b o, b ≠ X.env.locals → b ∉ X.fs → b ∉ ch → s.heap.get? b = some o → H b = none → h'.get? b = some o)
    (slot : ∀ b o, b ≠ X.env.locals → b ∈ X.fs → b ∉ ch → s.heap.get? b = some o → H b = none → ∃ sl, h'.get? b = some { o with slots := sl }) (free : ∀ b o, b ∉ ch → s.heap.get? b = some o → H b = none → H' b = none)
    (there : ∀ b o, b ∉ ch → s.heap.get? b = some o → ∃ o', h'.get? b = some o')
    (tups : ∀ b xs, H b = some (.tup xs) → H' b = some (.tup xs)) (frzs : ∀ b o u, H b = some (.frz o u) → H' b = some (.frz o u)) (tbls : ∀ b ps, H b = some (.tbl ps) → ∃ more, H' b = some (.tbl (ps ++ more)))
    (ns : ∀ m, s.heap.Ns X.env.locals m → h'.Ns X.env.locals m) (hok : HOk X.prog X.w H' h') (hg : AllBare g') :
    Inv X pins σ H' { s with heap := h', gens := g', drawn := d', toks := t' } := by
  have neL : ∀ b o, X.s₀.heap.get? b = some o → b ≠ X.env.locals := fun b o e => Nat.ne_of_lt (Nat.lt_of_lt_of_le (Heap.lt_size e) I.ok.above)
  have neC : ∀ b o, X.s₀.heap.get? b = some o → b ∉ X.ex → b ∉ ch := fun b o e hx hb => by
    rcases (hch b hb).1 with z | z
    · exact hx z
    · exact absurd (Nat.lt_of_lt_of_le (Heap.lt_size e) z) (Nat.lt_irrefl _)
  have cellK : ∀ x c, X.env.cells.lookup x = some c → ∀ v, s.heap.IsCell c v → h'.IsCell c v := fun x c e v ⟨o, ho, hd⟩ => by
    have nch : c ∉ ch := fun z => (hch c z).2.2.1 x c e rfl
    by_cases hc : c ∈ X.fs
    · obtain ⟨sl, q⟩ := slot c o (I.cne x c e) hc nch ho (I.freeC x c e)
      exact ⟨_, q, hd⟩
    · exact ⟨o, keep c o (I.cne x c e) hc nch ho (I.freeC x c e), hd⟩
  refine ⟨I.ok, I.os, hg, ⟨fun b o e n hb hx => ?_, fun b o e n hb hx => ?_, fun b o e n hx => ?_, fun b o e hx => ?_, fun b xs e => tups b xs (I.base.tups b xs e), fun b o xs e => frzs b o xs (I.base.frzs b o xs e), fun b ps e => ?_⟩, ?_, fun x c e => ?_, ?_, fun x c e => ?_, fun p hp => ?_, hok, I.len⟩
  · exact keep b o (neL b o e) hb (neC b o e hx) (I.base.keep b o e n hb hx) (I.base.free b o e n hx)
  · obtain ⟨sl, e1⟩ := I.base.slot b o e n hb hx
    obtain ⟨sl', e2⟩ := slot b _ (neL b o e) hb (neC b o e hx) e1 (I.base.free b o e n hx)
    exact ⟨sl', e2⟩
  · obtain ⟨o', e1⟩ := I.base.there b o e hx
    exact free b o' (neC b o e hx) e1 (I.base.free b o e n hx)
  · obtain ⟨o', e1⟩ := I.base.there b o e hx
    exact there b o' (neC b o e hx) e1
  · obtain ⟨m1, e1⟩ := I.base.tbls b ps e
    obtain ⟨m2, e2⟩ := tbls b _ e1
    exact ⟨m1 ++ m2, by rw [e2, Array.append_assoc]⟩
  · obtain ⟨m, hn, hl⟩ := I.loc
    refine ⟨m, ns m hn, fun i x v e1 e2 e3 => ?_⟩
    obtain ⟨u, r, l⟩ := hl i x v e1 e2 e3
    refine ⟨u, r, ?_⟩
    rcases l with l | ⟨k, c, e, z⟩
    · exact .inl l
    · exact .inr ⟨k, c, e, cellK x c e _ z⟩
  · obtain ⟨v, z⟩ := I.cell x c e
    exact ⟨v, cellK x c e v z⟩
  · obtain ⟨m, ⟨o, _, _, ho, _⟩, _⟩ := I.loc
    exact free _ o (fun z => (hch _ z).2.1 rfl) ho I.free
  · obtain ⟨v, o, ho, hd⟩ := I.cell x c e
    exact free c o (fun z => (hch c z).2.2.1 x c e rfl) ho (I.freeC x c e)
  · obtain ⟨e, n, ne, nf, d⟩ := I.pin p hp
    have nch : p.1 ∉ ch := fun z => (hch p.1 z).2.2.2 p hp rfl
    exact ⟨keep p.1 p.2 ne nf nch e n, free p.1 p.2 nch e n, ne, nf, d⟩
theorem Inv.un {t' : Nat} (I : Inv X pins σ H s) (u : Un X.fs [] H H' s.heap h') (hok : HOk X.prog X.w H' h') : Inv X pins σ H' { s with heap := h', toks := t' } := by
  obtain ⟨m, ⟨o, es, ep, ho, r⟩, _⟩ := id I.loc
  obtain ⟨sl, hL⟩ := u.any ho I.free (by simp)
  exact I.step (g' := s.gens) (d' := s.drawn) (ch := []) (fun _ z => nomatch z) (fun b o _ hb _ e n => u.keep b o e n hb (by simp)) (fun b o _ hb _ e n => u.slot b o e n hb (by simp)) (fun b o _ e n => u.free b o e n (by simp)) (fun b o _ e => u.there b o e (by simp)) u.tups u.frzs u.tbls (fun m' hm => by
    obtain ⟨o', es', ep', ho', r'⟩ := hm
    rw [ho] at ho'; cases ho'
    exact ⟨_, es', ep', hL, r'⟩) hok I.bare
theorem Inv.call {g' : Array GenState} {t' : Nat} {d' : Drawn} {ch : List Addr} (I : Inv X pins σ H s) (u : Un (frs X.stack) ch H H' s.heap h') (hok : HOk X.prog X.w H' h') (hg : AllBare g')
    (hch : ∀ b ∈ ch, (b ∈ X.ex ∨ X.s₀.heap.objs.size ≤ b) ∧ b ≠ X.env.locals ∧ (∀ x c, X.env.cells.lookup x = some c → c ≠ b) ∧ ∀ p ∈ X.pn ++ pins, p.1 ≠ b) :
    Inv X pins σ H' { s with heap := h', gens := g', drawn := d', toks := t' } := by
  obtain ⟨m, ⟨o, es, ep, ho, r⟩, _⟩ := id I.loc
  obtain ⟨sl, hL⟩ := u.any ho I.free fun z => (hch _ z).2.1 rfl
  exact I.step (ch := ch) hch (fun b o hL hb hc e n => u.keep b o e n (fun z => (List.mem_cons.mp (I.stkSub b z)).elim hL hb) hc) (fun b o _ _ hc e n => u.any e n hc) (fun b o hc e n => u.free b o e n hc) (fun b o hc e => u.there b o e hc) u.tups u.frzs u.tbls (fun m' hm => by
    obtain ⟨o', es', ep', ho', r'⟩ := hm
    rw [ho] at ho'; cases ho'
    exact ⟨_, es', ep', hL, r'⟩) hok hg
theorem Inv.turned {t' : Nat} {it : Addr} (I : Inv X pins σ H s) (k : ∀ b o, b ≠ it → s.heap.get? b = some o → h'.get? b = some o) (hn : H it = none) (hL : it ≠ X.env.locals)
    (h1 : it ∈ X.ex ∨ X.s₀.heap.objs.size ≤ it) (h2 : ∀ x c, X.env.cells.lookup x = some c → c ≠ it) (h3 : ∀ p ∈ X.pn ++ pins, p.1 ≠ it) : Inv X pins σ H { s with heap := h', toks := t' } := by
  have nit : ∀ b u, H b = some u → b ≠ it := fun b u e z => by rw [z, hn] at e; cases e
  refine I.step (g' := s.gens) (d' := s.drawn) (ch := [it]) (fun b hb => ?_) (fun b o _ _ hc e _ => k b o (fun z => hc (by simp [z])) e) (fun b o _ _ hc e _ => ⟨o.slots, k b o (fun z => hc (by simp [z])) e⟩) (fun _ _ _ _ n => n)
    (fun b o hc e => ⟨o, k b o (fun z => hc (by simp [z])) e⟩) (fun _ _ e => e) (fun _ _ _ e => e) (fun b ps e => ⟨#[], by rw [e]; simp⟩) (fun m hm => ?_) (fun b u e => ?_) I.bare
  · have e : b = it := by simpa using hb
    subst e
    exact ⟨h1, hL, h2, h3⟩
  · obtain ⟨o, es, ep, ho, r⟩ := hm
    exact ⟨o, es, ep, k _ o (Ne.symm hL) ho, r⟩
  · refine (I.hok b u e).stay (fun c v hc q => k c v ?_ q) (fun _ q => q) fun _ _ q => q
    rcases hc with z | z
    · rw [z]; exact nit b u e
    · exact nit c _ z
theorem Inv.tok (I : Inv X pins σ H s) (t : Nat) : Inv X pins σ H { s with toks := t } := I.un (h' := s.heap) (t' := t) Un.refl I.hok
theorem Inv.kept {t' : Nat} (I : Inv X pins σ H s) (k : ∀ b u, s.heap.get? b = some u → h'.get? b = some u) : Inv X pins σ H { s with heap := h', toks := t' } := I.un (Un.kept k) (I.hok.kept k)
theorem Inv.laid {a : Addr} {o : HO} {t' : Nat} (I : Inv X pins σ H s) (k : ∀ b u, s.heap.get? b = some u → h'.get? b = some u) (hp : s.heap.objs.size ≤ a) (new : ObjOk X.prog X.w (upd H a o) h' a o) :
    Inv X pins σ (upd H a o) { s with heap := h', toks := t' } := I.un (Un.laid k hp (I.hok.fresh hp)) (I.hok.laid k hp new)
theorem Inv.write {x e : Addr} {o : HO} {t' : Nat} (I : Inv X pins σ H s) (mu : Mut (H x)) (he : e = x ∨ H e = some (.own x)) (k : ∀ b u, b ≠ e → s.heap.get? b = some u → h'.get? b = some u) (heo : ∃ u, h'.get? e = some u)
    (new : ObjOk X.prog X.w (upd H x o) h' x o) : Inv X pins σ (upd H x o) { s with heap := h', toks := t' } := I.un (Un.write mu he k heo) (I.hok.write mu he k heo new)
theorem Inv.weak {σ' : List (Option V)} (I : Inv X pins σ H s) (hl : σ'.length = σ.length) (w : ∀ (i : Nat) v, σ'[i]? = some (some v) → σ[i]? = some (some v)) : Inv X pins σ' H s :=
  ⟨I.ok, I.os, I.bare, I.base, let ⟨m, hn, hl'⟩ := I.loc; ⟨m, hn, fun i x v e1 e2 e3 => hl' i x v e1 (w i v e2) e3⟩, I.cell, I.free, I.freeC, I.pin, I.hok, hl.trans I.len⟩
theorem Inv.pins_of {pins' : List (Addr × Obj)} (I : Inv X pins σ H s) (h : ∀ p ∈ pins', s.heap.get? p.1 = some p.2 ∧ H p.1 = none ∧ p.1 ≠ X.env.locals ∧ p.1 ∉ X.fs ∧ ∀ v, p.2.data ≠ .cell v) : Inv X pins' σ H s :=
  ⟨I.ok, I.os, I.bare, I.base, I.loc, I.cell, I.free, I.freeC, fun p hp => (List.mem_append.mp hp).elim (fun z => I.pin p (List.mem_append_left _ z)) (h p), I.hok, I.len⟩
theorem nodup_ix {N : List Str} (hN : N.Nodup) {i j : Nat} {x : Str} (a : N[i]? = some x) (b : N[j]? = some x) : i = j := by
  obtain ⟨h1, e1⟩ := List.getElem?_eq_some_iff.mp a
  obtain ⟨h2, e2⟩ := List.getElem?_eq_some_iff.mp b
  exact (List.getElem_inj hN).mp (e1.trans e2.symm)
theorem store_ok2 {M : Model} {A : Around} {E : Value → Shared → Prop} {i : Nat} {x : Str} {v : V} {u : Value} {Q : Unit → Shared → Prop} (I : Inv X pins σ H s) (hN : X.N.Nodup) (hi : X.N[i]? = some x) (hx : Loc X.env.scope x) (r : RelV v u)
    (h : ∀ s', Inv X pins (σ.set i (some v)) H s' → (∃ a, Heap.SameBut a s.heap s'.heap ∧ (a = X.env.locals ∨ X.env.cells.lookup x = some a)) → Q () s') (hf : X.fn x = true ∨ X.env.scope.names.lookup x = some .local := by first | exact .inl rfl | exact .inr rfl | assumption) : wpAny M A (storeName X.env x u) Q E s := by
  obtain ⟨m, hn, hl⟩ := id I.loc
  have hcls : (X.env.scope.kind == .class || (X.env.scope.kind == .module && X.env.locals != X.env.globals)) = false := by rw [I.ok.kind]; rfl
  have hiσ : i < σ.length := by rw [I.len]; exact (List.getElem?_eq_some_iff.mp hi).1
  have cne := I.cne
  have tracked : ∀ {a : Addr} {h' : Heap}, (∃ o, s.heap.get? a = some o ∧ H a = none) → Heap.SameBut a s.heap h' → HOk X.prog X.w H h' := fun {a h'} ha hs b ob e => by
    obtain ⟨_, _, hfree⟩ := ha
    refine (I.hok b ob e).stay (fun c w' hc q => (hs.2 c ?_).trans q) (fun _ q => q) fun _ _ q => q
    rintro rfl
    rcases hc with rfl | hc
    · rw [hfree] at e; cases e
    · rw [hfree] at hc; cases hc
  rcases hx with hk | hk
  · refine wpAny_storeName_local hk hn (fun h' hn' hs => ?_) hcls
    obtain ⟨oL, _, _, hoL, _⟩ := id hn
    refine h _ ⟨I.ok, I.os, I.bare, ⟨fun b o e n hb hx => ?_, fun b o e n hb hx => ?_, I.base.free, fun b o e hx => ?_, I.base.tups, I.base.frzs, I.base.tbls⟩, ⟨_, hn', fun j y v' e1 e2 e3 => ?_⟩, fun y c e => ?_, I.free, I.freeC, fun p hp => ?_, tracked ⟨oL, hoL, I.free⟩ hs, by simpa using I.len⟩ ⟨_, hs, .inl rfl⟩
    · exact (hs.2 b (Nat.ne_of_lt (Nat.lt_of_lt_of_le (Heap.lt_size e) I.ok.above))).trans (I.base.keep b o e n hb hx)
    · obtain ⟨sl, e1⟩ := I.base.slot b o e n hb hx
      exact ⟨sl, (hs.2 b (Nat.ne_of_lt (Nat.lt_of_lt_of_le (Heap.lt_size e) I.ok.above))).trans e1⟩
    · obtain ⟨o', e1⟩ := I.base.there b o e hx
      exact ⟨o', (hs.2 b (Nat.ne_of_lt (Nat.lt_of_lt_of_le (Heap.lt_size e) I.ok.above))).trans e1⟩
    · by_cases hj : j = i
      · subst hj
        rw [hi] at e1; cases e1
        rw [List.getElem?_set_self hiσ] at e2
        cases e2
        exact ⟨u, r, .inl ⟨hk, by simp⟩⟩
      · rw [List.getElem?_set_ne (Ne.symm hj)] at e2
        obtain ⟨u', r', q⟩ := hl j y v' e1 e2 e3
        refine ⟨u', r', ?_⟩
        rcases q with ⟨k, e⟩ | ⟨k, c, e, z⟩
        · refine .inl ⟨k, ?_⟩
          have : y ≠ x := fun e => hj (nodup_ix hN e1 (e ▸ hi))
          simp [this, e]
        · exact .inr ⟨k, c, e, z.sameBut hs (cne y c e)⟩
    · obtain ⟨w', z⟩ := I.cell y c e
      exact ⟨w', z.sameBut hs (cne y c e)⟩
    · obtain ⟨e, n, ne, nf, d⟩ := I.pin p hp
      exact ⟨(hs.2 p.1 ne).trans e, n, ne, nf, d⟩
  · have hfn : X.fn x = true := by
      rcases hf with z | z
      · exact z
      · rw [z] at hk; cases hk
    obtain ⟨c, hc⟩ := I.ok.has x (.inl hk)
    obtain ⟨w', z⟩ := I.cell x c hc
    refine wpAny_storeName_cell I.ok.kind hk hc z (fun h' hc' hs => ?_)
    obtain ⟨oc, hoc, hocd⟩ := id z
    refine h { s with heap := h' } ⟨I.ok, I.os, I.bare, ⟨fun b o e n hb hx => ?_, fun b o e n hb hx => ?_, I.base.free, fun b o e hx => ?_, I.base.tups, I.base.frzs, I.base.tbls⟩, ⟨m, hn.sameBut hs (Ne.symm (cne x c hc)), fun j y v' e1 e2 e3 => ?_⟩, fun y c' e => ?_, I.free, I.freeC, fun p hp => ?_, tracked ⟨oc, hoc, I.freeC x c hc⟩ hs, by simpa using I.len⟩ ⟨c, hs, .inr hc⟩
    · exact (hs.2 b (Nat.ne_of_lt (Nat.lt_of_lt_of_le (Heap.lt_size e) (I.ok.cab x c hfn hc)))).trans (I.base.keep b o e n hb hx)
    · obtain ⟨sl, e1⟩ := I.base.slot b o e n hb hx
      exact ⟨sl, (hs.2 b (Nat.ne_of_lt (Nat.lt_of_lt_of_le (Heap.lt_size e) (I.ok.cab x c hfn hc)))).trans e1⟩
    · obtain ⟨o', e1⟩ := I.base.there b o e hx
      exact ⟨o', (hs.2 b (Nat.ne_of_lt (Nat.lt_of_lt_of_le (Heap.lt_size e) (I.ok.cab x c hfn hc)))).trans e1⟩
    · by_cases hj : j = i
      · subst hj
        rw [hi] at e1; cases e1
        rw [List.getElem?_set_self hiσ] at e2
        cases e2
        exact ⟨u, r, .inr ⟨.inl hk, c, hc, hc'⟩⟩
      · rw [List.getElem?_set_ne (Ne.symm hj)] at e2
        obtain ⟨u', r', q⟩ := hl j y v' e1 e2 e3
        refine ⟨u', r', ?_⟩
        rcases q with q | ⟨k, c', e, z'⟩
        · exact .inl q
        · refine .inr ⟨k, c', e, z'.sameBut hs ?_⟩
          rintro rfl
          exact hj (nodup_ix hN e1 (I.ok.inj _ _ _ e hc ▸ hi))
    · by_cases hcc : c' = c
      · subst hcc; exact ⟨_, hc'⟩
      · obtain ⟨w2, z2⟩ := I.cell y c' e
        exact ⟨w2, z2.sameBut hs hcc⟩
    · obtain ⟨e, n, ne, nf, d⟩ := I.pin p hp
      refine ⟨(hs.2 p.1 ?_).trans e, n, ne, nf, d⟩
      intro q
      rw [q, hoc] at e
      have q' : oc = p.2 := Option.some.inj e
      exact d w' (by rw [← q']; exact hocd)
theorem store_ok {M : Model} {A : Around} {E : Value → Shared → Prop} {i : Nat} {x : Str} {v : V} {u : Value} {Q : Unit → Shared → Prop} (I : Inv X pins σ H s) (hN : X.N.Nodup) (hi : X.N[i]? = some x) (hx : Loc X.env.scope x) (r : RelV v u)
    (h : ∀ s', Inv X pins (σ.set i (some v)) H s' → Q () s') (hf : X.fn x = true ∨ X.env.scope.names.lookup x = some .local := by first | exact .inl rfl | exact .inr rfl | assumption) : wpAny M A (storeName X.env x u) Q E s :=
  store_ok2 I hN hi hx r (fun s' I' _ => h s' I') hf
theorem Inv.call' {s' : Shared} {ch : List Addr} (I : Inv X pins σ H s) (ho : s'.os = s.os) (u : Un (frs X.stack) ch H H' s.heap s'.heap) (hok : HOk X.prog X.w H' s'.heap) (hg : AllBare s'.gens)
    (hch : ∀ b ∈ ch, (b ∈ X.ex ∨ X.s₀.heap.objs.size ≤ b) ∧ b ≠ X.env.locals ∧ (∀ x c, X.env.cells.lookup x = some c → c ≠ b) ∧ ∀ p ∈ X.pn ++ pins, p.1 ≠ b) : Inv X pins σ H' s' := by
  obtain ⟨h', g', d', t', o'⟩ := s'
  have e : o' = s.os := ho
  subst e
  exact I.call (g' := g') (t' := t') (d' := d') u hok hg hch
end
abbrev XK := Value → Option Addr → Hp → Prop
abbrev St := List (Option V)
abbrev VK := V → Hp → Prop
abbrev TE := St → Hp → VK → Prop
abbrev TT := St → Hp → (Bool → Hp → Prop) → Prop
abbrev TA := St → Hp → (List V → Hp → Prop) → Prop
structure Ends where
  nx : St → Hp → Prop
  rt : VK
  bk : St → Hp → Prop := fun _ _ => False
  ct : St → Hp → Prop := fun _ _ => False
abbrev TS := Ends → St → Hp → Prop
def EP (X : Cx) (pins : List (Addr × Obj)) (σ : St) (Q : VK) (u : Value) (s' : Shared) : Prop := ∃ v H', Inv X pins σ H' s' ∧ RelV v u ∧ Q v H'
def TP (X : Cx) (pins : List (Addr × Obj)) (σ : St) (Q : Bool → Hp → Prop) (b : Bool) (s' : Shared) : Prop := ∃ H', Inv X pins σ H' s' ∧ Q b H'
def AP (X : Cx) (pins : List (Addr × Obj)) (σ : St) (Q : List V → Hp → Prop) (us : List Value) (s' : Shared) : Prop := ∃ vs H', Inv X pins σ H' s' ∧ Vals vs us ∧ Q vs H'
def SP (X : Cx) (pins : List (Addr × Obj)) (D : Ends) (f : Flow) (s' : Shared) : Prop :=
  match f with
  | .next => ∃ σ' H', Inv X pins σ' H' s' ∧ D.nx σ' H'
  | .brk => ∃ σ' H', Inv X pins σ' H' s' ∧ D.bk σ' H'
  | .cont => ∃ σ' H', Inv X pins σ' H' s' ∧ D.ct σ' H'
  | .ret u => ∃ v σ' H', Inv X pins σ' H' s' ∧ RelV v u ∧ D.rt v H'
def PE (X : Cx) (e : Expr) (t : TE) : Prop :=
  ∀ (pins : List (Addr × Obj)) (s : Shared) (σ : St) (H : Hp) (Q : VK), Inv X pins σ H s → t σ H Q → wpAny (model X.prog X.w) X.A (eval e X.env) (EP X pins σ Q) X.xe s
def PT (X : Cx) (e : Expr) (t : TT) : Prop :=
  ∀ (pins : List (Addr × Obj)) (s : Shared) (σ : St) (H : Hp) (Q : Bool → Hp → Prop), Inv X pins σ H s → t σ H Q → wpAny (model X.prog X.w) X.A (isTrue e X.env (eval e X.env)) (TP X pins σ Q) X.xe s
def PW (X : Cx) (e : Expr) (t : TT) : Prop :=
  ∀ (whole : Sem Value) (pins : List (Addr × Obj)) (s : Shared) (σ : St) (H : Hp) (Q : Bool → Hp → Prop), Inv X pins σ H s → t σ H Q → wpAny (model X.prog X.w) X.A (isTrue e X.env whole) (TP X pins σ Q) X.xe s
theorem PW.pt {X : Cx} {e : Expr} {t : TT} (h : PW X e t) : PT X e t := h _
def PA (X : Cx) (es : List Expr) (t : TA) : Prop :=
  ∀ (pos : Pos) (pins : List (Addr × Obj)) (s : Shared) (σ : St) (H : Hp) (Q : List V → Hp → Prop), Inv X pins σ H s → t σ H Q → wpAny (model X.prog X.w) X.A (spliced (backTo pos (starEach es X.env))) (AP X pins σ Q) X.xe s
def PS (X : Cx) (st : Stmt) (t : TS) : Prop :=
  ∀ (pins : List (Addr × Obj)) (s : Shared) (σ : St) (H : Hp) (D : Ends), Inv X pins σ H s → t D σ H → wpAny (model X.prog X.w) X.A (exec st X.env) (SP X pins D) X.xe s
def PSs (X : Cx) (st : List Stmt) (t : TS) : Prop :=
  ∀ (pins : List (Addr × Obj)) (s : Shared) (σ : St) (H : Hp) (D : Ends), Inv X pins σ H s → t D σ H → wpAny (model X.prog X.w) X.A (execs st X.env) (SP X pins D) X.xe s
theorem thn {α : Type} {t : Sem α} {Q Q' : α → Shared → Prop} {M : Model} {A : Around} {E : Value → Shared → Prop} {s : Shared} (h : wpAny M A t Q E s) (hQ : ∀ a s, Q a s → Q' a s) : wpAny M A t Q' E s := wpAny_mono h hQ fun _ _ x => x
end L2
namespace L2
open PySem PySem.Spec PyProof.Rows
section
variable {X : Cx}
def tVar (i : Nat) : TE := fun σ H Q => ∃ v, σ[i]? = some (some v) ∧ Q v H
def tC (v : V) : TE := fun _ H Q => Q v H
theorem pe_var {i : Nat} {x : Str} {pos : Pos} (hN : X.N[i]? = some x) (hv : Vis X.env.scope x) (hd : (x == ("__debug__" : Str)) = false := by decide) (hcd : (x == ("__classdict__" : Str)) = false := by decide) : PE X (.Name x pos) (tVar i) := by
  intro pins s σ H Q I h
  obtain ⟨v, e, h⟩ := h
  obtain ⟨m, hn, hl⟩ := I.loc
  obtain ⟨u, r, l⟩ := hl i x v hN e hv
  have fin : EP X pins σ Q u s := ⟨v, H, I, r, h⟩
  rcases l with ⟨hk, hm⟩ | ⟨hk, c, hc, hcell⟩
  · exact wpAny_Name (wpAny_loadName_local I.ok.kind hk hn hm fin) hd
  · rcases hk with hk | hk
    · exact wpAny_Name (wpAny_loadName_cell I.ok.kind hk hc hcell fin) hd
    · exact wpAny_Name (wpAny_loadName_free I.ok.kind hk hc hcell fin hcd) hd
theorem pe_int {i j pos} : PE X (.Constant (.int i) j pos) (tC (.int i)) := fun _ _ _ H _ I h => wpAny_Constant_int ⟨.int i, H, I.tok _, ⟨_, rfl⟩, h⟩
theorem pe_bl {b j pos} : PE X (.Constant (.bool b) j pos) (tC (.bl b)) := fun _ _ _ H _ I h => Constant_bool ⟨.bl b, H, I, rfl, h⟩
theorem pe_non {j pos} : PE X (.Constant .none j pos) (tC .non) := fun _ _ _ H _ I h => Constant_none ⟨.non, H, I, rfl, h⟩
theorem pe_str {x j pos} : PE X (.Constant (.str x) j pos) (tC (.str x)) := fun _ _ _ H _ I h => Calls.Constant_str ⟨.str x, H, I.tok _, ⟨_, rfl⟩, h⟩
def Gl (X : Cx) (x : Str) : Prop := X.env.kindOf x = some .globalImplicit
theorem ld_glob {E : Value → Shared → Prop} {pins : List (Addr × Obj)} {s : Shared} {σ : St} {H : Hp} {x : Str} {u : Value} {pos : Pos} {Q : Value → Shared → Prop} (I : Inv X pins σ H s) (hg : Gl X x) (hm : X.mg x = some u) (h : Q u s)
    (hd : (x == ("__debug__" : Str)) = false := by decide) : wpAny (model X.prog X.w) X.A (eval (.Name x pos) X.env) Q E s :=
  Calls.Name_function_global I.ok.kind hg (Calls.loadGlobal_global (by rw [I.ok.glob]; exact I.mod.glob.keeps I.bk) hm h) hd
theorem ld_blt {E : Value → Shared → Prop} {pins : List (Addr × Obj)} {s : Shared} {σ : St} {H : Hp} {x : Str} {u : Value} {pos : Pos} {Q : Value → Shared → Prop} (I : Inv X pins σ H s) (hg : Gl X x) (hm : X.mg x = none) (hv : bootBuiltins x = some u) (h : Q u s)
    (hn : x ≠ "__name__" := by decide) (hd : (x == ("__debug__" : Str)) = false := by decide) : wpAny (model X.prog X.w) X.A (eval (.Name x pos) X.env) Q E s := by
  obtain ⟨mb, h1, h2⟩ := I.mod.blt
  exact Calls.Name_function_global I.ok.kind hg (Calls.loadGlobal_builtin (by rw [I.ok.glob]; exact I.mod.glob.keeps I.bk) hm (by rw [I.ok.blt]; exact h1.keeps I.bk) ((h2 x hn).trans hv) h) hd
theorem pe_glob {x : Str} {v : V} {u : Value} {pos : Pos} (hg : Gl X x) (hm : X.mg x = some u) (r : RelV v u) (hd : (x == ("__debug__" : Str)) = false := by decide) : PE X (.Name x pos) (tC v) :=
  fun _ _ _ H _ I h => ld_glob I hg hm ⟨v, H, I, r, h⟩ hd
theorem pe_bltn {x : Str} {v : V} {u : Value} {pos : Pos} (hg : Gl X x) (hm : X.mg x = none) (hv : bootBuiltins x = some u) (r : RelV v u) (hn : x ≠ "__name__" := by decide) (hd : (x == ("__debug__" : Str)) = false := by decide) : PE X (.Name x pos) (tC v) :=
  fun _ _ _ H _ I h => ld_blt I hg hm hv ⟨v, H, I, r, h⟩ hn hd
variable {a b : Expr} {ta tb : TE} {pos : Pos}
def tB (t : TE) : TT := fun σ H Q => t σ H fun x H1 => ∃ c, x = .bl c ∧ Q c H1
theorem pt_val {e : Expr} {t : TE} (h : PE X e t) (he : ∀ whole, isTrue e X.env whole = (do let v ← whole; standAt e.pos; holding [v] (truthy v)) := by intro _; rfl) : PT X e (tB t) := by
  intro pins s σ H Q I hw
  refine isTrue_plain (thn (h pins s σ H _ I hw) fun v s1 ⟨x, H1, I1, r1, q1⟩ => ?_) (he _)
  obtain ⟨d, rfl, q⟩ := q1
  cases r1
  exact wpAny_truthy_bool ⟨H1, I1, q⟩
variable {tA tB' : TT} {rest : List Expr}
def tAnd (t u : TT) : TT := fun σ H Q => t σ H fun c H1 => if c = true then u σ H1 Q else Q false H1
def tOr (t u : TT) : TT := fun σ H Q => t σ H fun c H1 => if c = true then Q true H1 else u σ H1 Q
def tNot (t : TT) : TT := fun σ H Q => t σ H fun c H1 => Q (!c) H1
theorem pw_and1 (ha : PT X a tA) : PW X (.BoolOp .And [a] pos) tA := by
  intro wh pins s σ H Q I h
  refine isTrue_and (thn (ha pins s σ H Q I h) fun c s1 e => ?_)
  cases c with
  | true => exact isTrue_and_nil e
  | false => exact e
theorem pw_or1 (ha : PT X a tA) : PW X (.BoolOp .Or [a] pos) tA := by
  intro wh pins s σ H Q I h
  refine isTrue_or (thn (ha pins s σ H Q I h) fun c s1 e => ?_)
  cases c with
  | false => exact isTrue_or_nil e
  | true => exact e
theorem pw_and (ha : PT X a tA) (hb : PW X (.BoolOp .And (b :: rest) pos) tB') : PW X (.BoolOp .And (a :: b :: rest) pos) (tAnd tA tB') := by
  intro wh pins s σ H Q I h
  refine isTrue_and (thn (ha pins s σ H _ I h) fun c s1 ⟨H1, I1, q1⟩ => ?_)
  cases c with
  | true => exact hb wh pins s1 σ H1 Q I1 q1
  | false => exact ⟨H1, I1, q1⟩
theorem pw_or (ha : PT X a tA) (hb : PW X (.BoolOp .Or (b :: rest) pos) tB') : PW X (.BoolOp .Or (a :: b :: rest) pos) (tOr tA tB') := by
  intro wh pins s σ H Q I h
  refine isTrue_or (thn (ha pins s σ H _ I h) fun c s1 ⟨H1, I1, q1⟩ => ?_)
  cases c with
  | true => exact ⟨H1, I1, q1⟩
  | false => exact hb wh pins s1 σ H1 Q I1 q1
theorem pt_not (ha : PT X a tA) : PT X (.UnaryOp .Not a pos) (tNot tA) := by
  intro pins s σ H Q I h
  exact isTrue_not (ha pins s σ H (fun c H1 => Q (!c) H1) I h)
def tAndV (ta tb : TE) : TE := fun σ H Q => ta σ H fun x H1 => ∃ c, x = .bl c ∧ if c = true then tb σ H1 Q else Q (.bl false) H1
def tOrV (ta tb : TE) : TE := fun σ H Q => ta σ H fun x H1 => ∃ c, x = .bl c ∧ if c = true then Q (.bl true) H1 else tb σ H1 Q
def tNotV (ta : TE) : TE := fun σ H Q => ta σ H fun x H1 => ∃ c, x = .bl c ∧ Q (.bl (!c)) H1
theorem pe_one {op} {t : TE} (h : PE X a t) : PE X (.BoolOp op [a] pos) t := fun pins s σ H Q I hw => BoolOp_one (h pins s σ H Q I hw)
theorem pe_and (ha : PE X a ta) (hb : PE X (.BoolOp .And (b :: rest) pos) tb) : PE X (.BoolOp .And (a :: b :: rest) pos) (tAndV ta tb) := by
  intro pins s σ H Q I h
  refine BoolOp_and (thn (ha pins s σ H _ I h) fun v s1 ⟨x, H1, I1, r1, q1⟩ => ?_)
  obtain ⟨c, rfl, q1⟩ := q1
  cases r1
  refine wpAny_truthy_bool ?_
  cases c with
  | true => exact hb pins s1 σ H1 Q I1 q1
  | false => exact ⟨.bl false, H1, I1, rfl, q1⟩
theorem pe_or (ha : PE X a ta) (hb : PE X (.BoolOp .Or (b :: rest) pos) tb) : PE X (.BoolOp .Or (a :: b :: rest) pos) (tOrV ta tb) := by
  intro pins s σ H Q I h
  refine BoolOp_or (thn (ha pins s σ H _ I h) fun v s1 ⟨x, H1, I1, r1, q1⟩ => ?_)
  obtain ⟨c, rfl, q1⟩ := q1
  cases r1
  refine wpAny_truthy_bool ?_
  cases c with
  | false => exact hb pins s1 σ H1 Q I1 q1
  | true => exact ⟨.bl true, H1, I1, rfl, q1⟩
theorem pe_not (ha : PE X a ta) : PE X (.UnaryOp .Not a pos) (tNotV ta) := by
  intro pins s σ H Q I h
  refine UnaryOp_ (thn (ha pins s σ H _ I h) fun v s1 ⟨x, H1, I1, r1, q1⟩ => ?_)
  obtain ⟨c, rfl, q1⟩ := q1
  cases r1
  exact not_of (wpAny_truthy_bool ⟨.bl (!c), H1, I1, rfl, q1⟩)
def tIf (t : TT) (ta tb : TE) : TE := fun σ H Q => t σ H fun c H1 => if c = true then ta σ H1 Q else tb σ H1 Q
theorem pe_ifExp {c : Expr} (hc : PT X c tA) (ha : PE X a ta) (hb : PE X b tb) : PE X (.IfExp c a b pos) (tIf tA ta tb) := by
  intro pins s σ H Q I h
  refine wpAny_IfExp (thn (hc pins s σ H _ I h) fun d s1 ⟨H1, I1, q1⟩ => ?_)
  cases d with
  | true => exact ha pins s1 σ H1 Q I1 q1
  | false => exact hb pins s1 σ H1 Q I1 q1
end
end L2
namespace L2
open PySem PySem.Spec PyProof.Rows
def SqL (K : PySem.W.Frag) (H : Hp) (a : Addr) (xs : List V) : Prop :=
  Rd H a (.lst xs) ∨
    ∃ (o : Obj) (its : Array Value) (n : Nat), K.lookup a = some o ∧ o.cls = .type "list" ∧ o.dict = none ∧ o.data = .seq its n ∧ its.size ≤ sizeLine ∧ Vals xs its.toList
def SqT (K : PySem.W.Frag) (H : Hp) (a : Addr) (xs : List V) : Prop :=
  Rd H a (.tup xs) ∨
    ∃ (o : Obj) (its : Array Value) (n : Nat), K.lookup a = some o ∧ o.cls = .type "tuple" ∧ o.data = .seq its n ∧ its.size ≤ sizeLine ∧ Vals xs its.toList
def absV : Value → Option V
  | .none => some .non
  | .bool b => some (.bl b)
  | .int i _ => some (.int i)
  | .str x _ => some (.str x)
  | .bytes b _ => some (.byt b)
  | .float b _ => some (.flt b)
  | .ref a => some (.ref a)
  | .type n => some (.ty n)
  | _ => none
theorem RelV.abs {x : V} {u : Value} (r : RelV x u) : absV u = some x := by
  cases x with
  | non => cases r; rfl
  | bl _ => cases r; rfl
  | int _ => obtain ⟨t, rfl⟩ := r; rfl
  | str _ => obtain ⟨t, rfl⟩ := r; rfl
  | byt _ => obtain ⟨t, rfl⟩ := r; rfl
  | flt _ => obtain ⟨t, rfl⟩ := r; rfl
  | ref _ => cases r; rfl
  | ty _ => cases r; rfl
theorem RelV.inj {x y : V} {u : Value} (r : RelV x u) (q : RelV y u) : x = y := Option.some.inj (r.abs.symm.trans q.abs)
theorem Vals.inj : ∀ {xs ys : List V} {us : List Value}, Vals xs us → Vals ys us → xs = ys
  | _, _, _, .nil, .nil => rfl
  | _, _, _, .cons r t, .cons r' t' => by rw [r.inj r', Vals.inj t t']
section
variable {X : Cx} {pins : List (Addr × Obj)} {σ : St} {H : Hp} {s : Shared} {a : Addr} {xs ys : List V}
theorem SqL.of {K : PySem.W.Frag} (h : H a = some (.lst xs)) : SqL K H a xs := .inl (.inl h)
theorem SqT.of {K : PySem.W.Frag} (h : H a = some (.tup xs)) : SqT K H a xs := .inl (.inl h)
theorem Inv.list (I : Inv X pins σ H s) (h : SqL X.K H a xs) : ∃ its : List Value, Vals xs its ∧ PlainL s.heap a its.toArray ∧ xs.length ≤ sizeLine := by
  rcases h with h | ⟨o, its, n, hk, hc, hd, hs, hz, r⟩
  · obtain ⟨z, its, n, r, e⟩ := h.ok I.hok
    exact ⟨its, r, ⟨_, n, e, rfl, rfl, rfl⟩, z⟩
  · refine ⟨its.toList, r, ⟨o, n, I.kIn a o hk, hc, hd, by simpa using hs⟩, ?_⟩
    have e := r.length
    simp only [Array.length_toList] at e
    omega
theorem Inv.tuple (I : Inv X pins σ H s) (h : SqT X.K H a xs) : ∃ its : List Value, Vals xs its ∧ IsTup s.heap a its.toArray ∧ xs.length ≤ sizeLine := by
  rcases h with h | ⟨o, its, n, hk, hc, hs, hz, r⟩
  · obtain ⟨z, its, r, p⟩ := h.ok I.hok
    exact ⟨its, r, p, z⟩
  · refine ⟨its.toList, r, ⟨o, I.kIn a o hk, hc, n, by simpa using hs⟩, ?_⟩
    have e := r.length
    simp only [Array.length_toList] at e
    omega
theorem Inv.list_inj (I : Inv X pins σ H s) (h : SqL X.K H a xs) (h' : SqL X.K H a ys) : xs = ys := by
  obtain ⟨its, r, ⟨o, n, e, _, _, d⟩, _⟩ := I.list h
  obtain ⟨its', r', ⟨o', n', e', _, _, d'⟩, _⟩ := I.list h'
  rw [e] at e'; cases e'
  rw [d] at d'
  injection d' with d1 _
  have : its = its' := by simpa using congrArg Array.toList d1
  subst this
  exact r.inj r'
theorem Inv.tuple_inj (I : Inv X pins σ H s) (h : SqT X.K H a xs) (h' : SqT X.K H a ys) : xs = ys := by
  obtain ⟨its, r, ⟨o, e, _, n, d⟩, _⟩ := I.tuple h
  obtain ⟨its', r', ⟨o', e', _, n', d'⟩, _⟩ := I.tuple h'
  rw [e] at e'; cases e'
  rw [d] at d'
  injection d' with d1 _
  have : its = its' := by simpa using congrArg Array.toList d1
  subst this
  exact r.inj r'
end
abbrev Cx.wish (X : Cx) (E : Value → Shared → Prop) : Cx := { X with xe := E }
abbrev Cx.nox (X : Cx) : Cx := X.wish fun _ _ => False
theorem Cx.Ok.wish {X : Cx} (ok : X.Ok) (E : Value → Shared → Prop) : (X.wish E).Ok :=
  ⟨ok.mod, ok.kind, ok.glob, ok.blt, ok.above, ok.inj, ok.has, ok.cab, ok.hd, ok.frames, ok.stk, ok.exf, ok.bs, ok.bsz, ok.noex, ok.exfs, ok.funs, ok.frf⟩
theorem Cx.Ok.unwish {X : Cx} {E : Value → Shared → Prop} (ok : (X.wish E).Ok) : X.Ok :=
  ⟨ok.mod, ok.kind, ok.glob, ok.blt, ok.above, ok.inj, ok.has, ok.cab, ok.hd, ok.frames, ok.stk, ok.exf, ok.bs, ok.bsz, ok.noex, ok.exfs, ok.funs, ok.frf⟩
section
variable {X : Cx} {pins : List (Addr × Obj)} {σ : St} {H : Hp} {s : Shared} {E : Value → Shared → Prop}
theorem Inv.wish (I : Inv X pins σ H s) (E : Value → Shared → Prop) : Inv (X.wish E) pins σ H s := ⟨I.ok.wish E, I.os, I.bare, I.base, I.loc, I.cell, I.free, I.freeC, I.pin, I.hok, I.len⟩
theorem Inv.unwish (I : Inv (X.wish E) pins σ H s) : Inv X pins σ H s := ⟨I.ok.unwish, I.os, I.bare, I.base, I.loc, I.cell, I.free, I.freeC, I.pin, I.hok, I.len⟩
theorem SP.unwish {D : Ends} {f : Flow} {s' : Shared} (h : SP (X.wish E) pins D f s') : SP X pins D f s' := by
  cases f with
  | next => obtain ⟨σ', H', I, q⟩ := h; exact ⟨σ', H', I.unwish, q⟩
  | brk => obtain ⟨σ', H', I, q⟩ := h; exact ⟨σ', H', I.unwish, q⟩
  | cont => obtain ⟨σ', H', I, q⟩ := h; exact ⟨σ', H', I.unwish, q⟩
  | ret u => obtain ⟨v, σ', H', I, r, q⟩ := h; exact ⟨v, σ', H', I.unwish, r, q⟩
theorem PE.nox {e : Expr} {t : TE} (h : PE X.nox e t) : PE X e t := fun pins s σ H Q I hw =>
  wpAny_mono (h pins s σ H Q (I.wish _) hw) (fun _ _ ⟨v, H', I', r, q⟩ => ⟨v, H', I'.unwish, r, q⟩) fun _ _ z => False.elim z
theorem PT.nox {e : Expr} {t : TT} (h : PT X.nox e t) : PT X e t := fun pins s σ H Q I hw =>
  wpAny_mono (h pins s σ H Q (I.wish _) hw) (fun _ _ ⟨H', I', q⟩ => ⟨H', I'.unwish, q⟩) fun _ _ z => False.elim z
theorem PSs.nox {st : List Stmt} {t : TS} (h : PSs X.nox st t) : PSs X st t := fun pins s σ H D I hw =>
  wpAny_mono (h pins s σ H D (I.wish _) hw) (fun _ _ q => q.unwish) fun _ _ z => False.elim z
end
section
variable {X : Cx} {st : Stmt} {rest : List Stmt} {t u : TS} {e : Expr} {te : TE} {pos : Pos}
def tNext : TS := fun D σ H => D.nx σ H
def tSeq (t u : TS) : TS := fun D σ H => t { D with nx := u D } σ H
theorem pss_nil : PSs X [] tNext := fun _ _ σ H _ I h => wpAny_execs_nil ⟨σ, H, I, h⟩
theorem pss_cons (h1 : PS X st t) (h2 : PSs X rest u) : PSs X (st :: rest) (tSeq t u) := by
  intro pins s σ H D I h
  refine wpAny_execs_cons (thn (h1 pins s σ H { D with nx := u D } I h) fun f s1 q => ?_)
  cases f with
  | next =>
    obtain ⟨σ', H', I', q⟩ := q
    exact h2 pins s1 σ' H' D I' q
  | ret v => exact q
  | brk => exact q
  | cont => exact q
theorem pss_one (h1 : PS X st t) : PSs X [st] t := by
  intro pins s σ H D I h
  refine wpAny_execs_cons (thn (h1 pins s σ H D I h) fun f s1 q => ?_)
  cases f with
  | next => exact wpAny_execs_nil q
  | ret v => exact q
  | brk => exact q
  | cont => exact q
def tBreak : TS := fun D σ H => D.bk σ H
theorem ps_break : PS X (.Break pos) tBreak := fun _ _ σ H _ I h => wpAny_Break ⟨σ, H, I, h⟩
theorem Inv.quiet {pins : List (Addr × Obj)} {σ : St} {H : Hp} {s : Shared} (I : Inv X pins σ H s) : interactive X.env = false := by simp [interactive, I.ok.kind]
def tDrop (te : TE) : TS := fun D σ H => te σ H fun _ H1 => D.nx σ H1
theorem ps_expr (he : PE X e te) (hs : swapsWith e none pos.line X.env = pure false := by rfl) : PS X (.Expr e pos) (tDrop te) := by
  intro pins s σ H D I h
  exact wpAny_Expr_any (thn (he pins s σ H _ I h) fun v s1 ⟨x, H1, I1, r1, q1⟩ => ⟨σ, H1, I1, q1⟩) I.quiet hs
def tRet (te : TE) : TS := fun D σ H => te σ H D.rt
theorem ps_ret (he : PE X e te) : PS X (.Return (some e) pos) (tRet te) := by
  intro pins s σ H D I h
  exact wpAny_Return_some (thn (he pins s σ H _ I h) fun v s1 ⟨x, H1, I1, r1, q1⟩ => ⟨x, σ, H1, I1, r1, q1⟩)
def tIfS (c : TT) (t u : TS) : TS := fun D σ H => c σ H fun b H1 => if b = true then t D σ H1 else u D σ H1
theorem ps_if {c : Expr} {a b : List Stmt} {tc : TT} (hc : PT X c tc) (ha : PSs X a t) (hb : PSs X b u) : PS X (.If c a b pos) (tIfS tc t u) := by
  intro pins s σ H D I h
  refine wpAny_If (thn (hc pins s σ H _ I h) fun d s1 ⟨H1, I1, q1⟩ => ?_)
  cases d with
  | true => exact ha pins s1 σ H1 D I1 q1
  | false => exact hb pins s1 σ H1 D I1 q1
end
abbrev TG := V → St → Hp → (St → Hp → Prop) → Prop
abbrev TGs := List V → St → Hp → (St → Hp → Prop) → Prop
def PG (X : Cx) (target : Expr) (t : TG) : Prop :=
  ∀ (pins : List (Addr × Obj)) (s : Shared) (σ : St) (H : Hp) (v : V) (u : Value) (Q : St → Hp → Prop), Inv X pins σ H s → RelV v u → t v σ H Q →
    wpAny (model X.prog X.w) X.A (assign target X.env u) (fun _ s' => ∃ σ' H', Inv X pins σ' H' s' ∧ Q σ' H') X.xe s
def PGs (X : Cx) (ts : List Expr) (t : TGs) : Prop :=
  ∀ (pins : List (Addr × Obj)) (s : Shared) (σ : St) (H : Hp) (vs : List V) (us : List Value) (Q : St → Hp → Prop), Inv X pins σ H s → Vals vs us → t vs σ H Q →
    wpAny (model X.prog X.w) X.A (assignInOrder ((assignEach ts X.env).map (·.2)) us) (fun _ s' => ∃ σ' H', Inv X pins σ' H' s' ∧ Q σ' H') X.xe s
section
variable {X : Cx} {pos : Pos}
def gName (i : Nat) : TG := fun v σ H Q => Q (σ.set i (some v)) H
theorem pg_name {i : Nat} {x : Str} (hN : X.N.Nodup) (hi : X.N[i]? = some x) (hx : Loc X.env.scope x) (hf : X.fn x = true ∨ X.env.scope.names.lookup x = some .local := by first | exact .inl rfl | exact .inr rfl | assumption) : PG X (.Name x pos) (gName i) := by
  intro pins s σ H v u Q I r h
  exact wpAny_assign_Name (store_ok I hN hi hx r (fun s' I' => ⟨_, H, I', h⟩) hf)
def gNil : TGs := fun vs σ H Q => vs = [] ∧ Q σ H
def gCons (t : TG) (u : TGs) : TGs := fun vs σ H Q => ∃ v r, vs = v :: r ∧ t v σ H fun σ' H' => u r σ' H' Q
theorem pgs_nil : PGs X [] gNil := by
  intro pins s σ H vs us Q I r h
  obtain ⟨e, h⟩ := h
  subst e
  cases r
  exact assignInOrder_nil ⟨σ, H, I, h⟩
theorem pgs_cons {e : Expr} {es : List Expr} {t : TG} {u : TGs} (h1 : PG X e t) (h2 : PGs X es u)
    (hs : (assignEach (e :: es) X.env).map (·.2) = assign e X.env :: (assignEach es X.env).map (·.2) := by rfl) : PGs X (e :: es) (gCons t u) := by
  intro pins s σ H vs us Q I r h
  obtain ⟨v, vr, e1, h⟩ := h
  subst e1
  cases r with
  | cons r rr =>
    rw [hs]
    refine assignInOrder_cons (thn (h1 pins s σ H _ _ _ I r h) fun _ s1 ⟨σ1, H1, I1, q1⟩ => ?_)
    exact h2 pins s1 σ1 H1 _ _ Q I1 rr q1
def gTup (K : PySem.W.Frag) (n : Nat) (t : TGs) : TG := fun v σ H Q => ∃ a xs, v = .ref a ∧ SqT K H a xs ∧ xs.length = n ∧ t xs σ H Q
theorem pg_tup {es : List Expr} {k : Nat} {t : TGs} {n : Nat} (hc : X.calm = true) (h : PGs X es t)
    (hn : (assignEach es X.env).length = n := by rfl) (hst : (assignEach es X.env).findIdx? (·.1) = none := by rfl) : PG X (.Tuple es k pos) (gTup X.K n t) := by
  intro pins s σ H v u Q I r hw
  obtain ⟨a, xs, e1, hq, hl, hw⟩ := hw
  subst e1
  cases r
  obtain ⟨its, rv, ht, hz⟩ := I.tuple hq
  refine assign_Tuple_tuple (I.ok.hd hc) ht (by simp [hn, ← hl, rv.length]) hst fun h' hx => ?_
  have I1 : Inv X pins σ H { s with heap := h' } := I.kept (t' := s.toks) fun b o e => hx b o (Nat.ne_of_lt (Heap.lt_size e)) e
  exact h pins _ σ H xs _ Q I1 (by simpa using rv) hw
def tAsg (te : TE) (g : TG) : TS := fun D σ H => te σ H fun x H1 => g x σ H1 D.nx
theorem ps_set {i : Nat} {x : Str} {e : Expr} {te : TE} {pos' : Pos} (hN : X.N.Nodup) (hi : X.N[i]? = some x) (hx : Loc X.env.scope x) (he : PE X e te) (hs : swapsWith e (some (.Name x pos')) pos.line X.env = pure false := by rfl) (hf : X.fn x = true ∨ X.env.scope.names.lookup x = some .local := by first | exact .inl rfl | exact .inr rfl | assumption) :
    PS X (.Assign [.Name x pos'] e pos) (tAsg te (gName i)) := by
  intro pins s σ H D I h
  refine wpAny_Assign_Name (thn (he pins s σ H _ I h) fun v s1 ⟨y, H1, I1, r1, q1⟩ => ?_) hs
  exact store_ok I1 hN hi hx r1 (fun s2 I2 => ⟨_, H1, I2, q1⟩) hf
end
section
variable {X : Cx} {pos : Pos}
def tWhile (c : TT) (tb : TS) : TS := fun D σ H => ∃ W : Nat → St → Hp → Prop, (∃ m, W m σ H) ∧ ∀ m σ H, W m σ H →
  c σ H fun b H1 => if b = true then ∃ N : St → Hp → Prop, (∀ σ' H', N σ' H' → ∃ m', m' < m ∧ W m' σ' H') ∧ tb { D with nx := N, ct := N, bk := D.nx } σ H1 else D.nx σ H1
theorem ps_while {c : Expr} {body : List Stmt} {tc : TT} {tb : TS} (hp : PassesOwn (model X.prog X.w) X.A X.env X.xe) (hc : PT X c tc) (hb : PSs X body tb) : PS X (.While c body [] pos) (tWhile tc tb) := by
  intro pins s σ H D I h
  obtain ⟨W, ⟨m0, w0⟩, turn⟩ := h
  refine wpAny_While (codeAny_whileLoop (fun n s' => ∃ σ' H', Inv X pins σ' H' s' ∧ W n σ' H') ?_ m0 ⟨σ, H, I, w0⟩)
  rintro n s1 ⟨σ1, H1, I1, w1⟩
  refine wpAny_passesOwn hp (thn (hc pins s1 σ1 H1 _ I1 (turn n σ1 H1 w1)) fun b s2 ⟨H2, I2, q2⟩ => ?_)
  cases b with
  | true =>
    obtain ⟨N, hN, q2⟩ := q2
    rw [if_pos rfl]
    refine wpAny_passesOwn hp (thn (hb pins s2 σ1 H2 _ I2 q2) fun f s3 q3 => ?_)
    cases f with
    | next =>
      obtain ⟨σ3, H3, I3, n3⟩ := q3
      obtain ⟨m', hm, w3⟩ := hN σ3 H3 n3
      exact ⟨m', hm, σ3, H3, I3, w3⟩
    | cont =>
      obtain ⟨σ3, H3, I3, n3⟩ := q3
      obtain ⟨m', hm, w3⟩ := hN σ3 H3 n3
      exact ⟨m', hm, σ3, H3, I3, w3⟩
    | brk => exact q3
    | ret v => exact q3
  | false =>
    rw [if_neg Bool.false_ne_true]
    exact wpAny_execs_nil ⟨σ1, H2, I2, q2⟩
end
structure It where
  go : Nat → Hp → Prop
  yld : Nat → Hp → V → Hp → Prop
  stop : Nat → Hp → Prop
def FpOk (X : Cx) (pins : List (Addr × Obj)) (H : Hp) (b : Addr) : Prop :=
  H b = none ∧ b ≠ X.env.locals ∧ b ∉ X.fs ∧ (b ∈ X.ex ∨ X.s₀.heap.objs.size ≤ b) ∧ (∀ x c, X.env.cells.lookup x = some c → c ≠ b) ∧ ∀ p ∈ X.pn ++ pins, p.1 ≠ b
theorem Inv.fpOk {X : Cx} {pins : List (Addr × Obj)} {σ : St} {H H' : Hp} {s : Shared} {b : Addr} (I : Inv X pins σ H s) (hb : s.heap.objs.size ≤ b) (hn : H' b = none) : FpOk X pins H' b := by
  refine ⟨hn, Nat.ne_of_gt (Nat.lt_of_lt_of_le I.lt hb), I.nofs hb, .inr (Nat.le_trans I.sz hb), fun x c e z => ?_, fun p hp z => ?_⟩
  · obtain ⟨v, q⟩ := I.cell x c e
    exact absurd (Nat.lt_of_lt_of_le q.lt (by rw [z]; exact hb)) (Nat.lt_irrefl _)
  · exact absurd (Nat.lt_of_lt_of_le (Heap.lt_size (I.pin p hp).1) (by rw [z]; exact hb)) (Nat.lt_irrefl _)
structure Turn (P : Program) (w : World) (K : PySem.W.Frag) (tg : Expr) (J : It) (fp : List Addr) (it : Addr) (tn : Nat → Heap → Prop) : Prop where
  mem : it ∈ fp
  obj : ∀ i h, tn i h → ∀ b ∈ fp, ∃ o, h.get? b = some o ∧ ∀ v, o.data ≠ .cell v
  keep : ∀ i h h', tn i h → (∀ b ∈ fp, ∀ o, h.get? b = some o → h'.get? b = some o) → tn i h'
  item : ∀ (X : Cx), X.prog = P → X.w = w → X.K = K → X.calm = true → ∀ (i : Nat) (pins : List (Addr × Obj)) (s : Shared) (σ : St) (H : Hp) (E : Value → Shared → Prop), Inv X pins σ H s → (∀ b ∈ fp, FpOk X pins H b) → tn i s.heap → J.go i H →
    wpAny (model P w) X.A (pyNext (.ref it)) (fun r s1 => ∃ u, r = some u ∧
      wpAny (model P w) X.A (letOwnedTupleGo tg (.ref it) u) (fun _ s2 => ∃ x H', Inv X pins σ H' s2 ∧ RelV x u ∧ J.yld i H x H' ∧ tn (i + 1) s2.heap ∧ ∀ b ∈ fp, H' b = none) E s1) E s
  done : ∀ (X : Cx), X.prog = P → X.w = w → X.K = K → X.calm = true → ∀ (i : Nat) (pins : List (Addr × Obj)) (s : Shared) (σ : St) (H : Hp) (E : Value → Shared → Prop), Inv X pins σ H s → (∀ b ∈ fp, FpOk X pins H b) → tn i s.heap → J.stop i H →
    wpAny (model P w) X.A (pyNext (.ref it)) (fun r s1 => r = none ∧ Inv X pins σ H s1) E s
  self : ∀ (A : Around) (i : Nat) (s : Shared) (Q : Value → Shared → Prop) (E : Value → Shared → Prop), tn i s.heap → Q (.ref it) s → wpAny (model P w) A (pyIter (.ref it)) Q E s
abbrev TI := St → Hp → (It → Hp → Prop) → Prop
def PIE (X : Cx) (pins : List (Addr × Obj)) (σ : St) (tg : Expr) (R : It → Hp → Prop) (itv : Value) (s2 : Shared) : Prop :=
  ∃ (it : Addr) (fp : List Addr) (tn : Nat → Heap → Prop) (J : It) (H' : Hp), itv = .ref it ∧ Inv X pins σ H' s2 ∧ Turn X.prog X.w X.K tg J fp it tn ∧ tn 0 s2.heap ∧ (∀ b ∈ fp, FpOk X pins H' b) ∧ R J H'
def PI (X : Cx) (tg iter : Expr) (wi : TI) : Prop :=
  ∀ (pins : List (Addr × Obj)) (s : Shared) (σ : St) (H : Hp) (R : It → Hp → Prop), Inv X pins σ H s → wi σ H R →
    wpAny (model X.prog X.w) X.A (eval iter X.env) (fun v s1 => wpAny (model X.prog X.w) X.A (pyIter v) (PIE X pins σ tg R) X.xe s1) X.xe s
theorem go_of {M : Model} {A : Around} {E : Value → Shared → Prop} {s : Shared} {tg : Expr} {it : Addr} {u : Value} {o : Obj} {n : String} {vs : Array Value} {Q : Unit → Shared → Prop} (ho : s.heap.get? it = some o) (hc : o.cls = .type n) (hd : o.data = .fields vs)
    (hn : ["enumerate", "zip", "dict_itemiterator", "dict_reverseitemiterator", "odict_iterator", "itertools.zip_longest", "itertools.pairwise"].contains n = false) (hQ : Q () s) : wpAny M A (letOwnedTupleGo tg (.ref it) u) Q E s := by
  unfold letOwnedTupleGo
  cases tg <;> first
    | exact wpAny_pure hQ
    | (cases u <;> first
        | exact wpAny_pure hQ
        | (refine wpAny_bind (wpAny_load ho ?_)
           rw [hc, hd]
           show wpAny M A (if (["enumerate", "zip", "dict_itemiterator", "dict_reverseitemiterator", "odict_iterator", "itertools.zip_longest", "itertools.pairwise"].contains n && vs[0]? == some (rawInt _)) = true then _ else _) Q E s
           rw [if_neg (by intro h; rw [hn, Bool.false_and] at h; cases h)]
           exact wpAny_pure hQ))
def Itl (K : PySem.W.Frag) (a : Addr) : It :=
  ⟨fun i H => ∃ xs x, SqL K H a xs ∧ xs[i]? = some x, fun i H x H' => H' = H ∧ ∀ xs, SqL K H a xs → xs[i]? = some x, fun i H => ∃ xs, SqL K H a xs ∧ xs.length ≤ i⟩
def Itr (lo : Int) (n : Nat) : It := ⟨fun i _ => i < n, fun i H x H' => H' = H ∧ x = .int (lo + i), fun i _ => n ≤ i⟩
theorem turn_list {P : Program} {w : World} {K : PySem.W.Frag} {tg : Expr} (a it : Addr) : Turn P w K tg (Itl K a) [it] it (fun i h => h.IsListIter it a i) where
  mem := by simp
  obj := fun i h st b hb => by
    have e : b = it := by simpa using hb
    subst e
    obtain ⟨o, e, c, d⟩ := st
    exact ⟨o, e, fun v z => by rw [d] at z; cases z⟩
  keep := fun i h h' st k => st.at fun o e => k it (by simp) o e
  item := by
    intro X hP hw hK hc i pins s σ H E I hf st hg
    subst hP hw hK
    obtain ⟨xs, x, hq, hx⟩ := hg
    obtain ⟨its, rv, p, hz⟩ := I.list hq
    obtain ⟨u, hu, ru⟩ := rv.get hx
    obtain ⟨f0, f1, f2, f3, f4, f5⟩ := hf it (by simp)
    refine wpAny_pyNext_list_item st p.isList (x := u) (by simpa using hu) fun h' st' sb => ?_
    have I1 : Inv X pins σ H { s with heap := h' } := I.turned (t' := s.toks) (fun b o hb e => (sb.2 b hb).trans e) f0 f1 f3 f4 f5
    obtain ⟨o, e, c, d⟩ := id st'
    exact ⟨u, rfl, go_of (s := { s with heap := h' }) e c d (by decide) ⟨x, H, I1, ru, ⟨rfl, fun ys hy => by rw [I.list_inj hy hq]; exact hx⟩, st', fun b hb => (hf b hb).1⟩⟩
  done := by
    intro X hP hw hK hc i pins s σ H E I hf st hg
    subst hP hw hK
    obtain ⟨xs, hq, hx⟩ := hg
    obtain ⟨its, rv, p, hz⟩ := I.list hq
    obtain ⟨f0, f1, f2, f3, f4, f5⟩ := hf it (by simp)
    have hl := rv.length
    exact wpAny_pyNext_list_end (I.ok.hd hc) st p.isList (by simp; omega) fun h' eb => ⟨rfl, I.turned (t' := s.toks) (fun b o hb e => eb b o hb e) f0 f1 f3 f4 f5⟩
  self := fun _ _ _ _ _ st h => wpAny_pyIter_listiter st h
theorem turn_range {P : Program} {w : World} {K : PySem.W.Frag} {tg : Expr} (it : Addr) (lo : Int) (n : Nat) : Turn P w K tg (Itr lo n) [it] it (fun i h => IsRangeIter h it (lo + (i : Nat) * 1) ((n : Int) - (i : Nat)) 1) where
  mem := by simp
  obj := fun i h st b hb => by
    have e : b = it := by simpa using hb
    subst e
    exact ⟨_, st, fun v z => by
      have z' : Data.fields _ = Data.cell v := z
      cases z'⟩
  keep := fun i h h' st k => k it (by simp) _ st
  item := by
    intro X hP hw hK hc i pins s σ H E I hf st hg
    subst hP hw hK
    obtain ⟨f0, f1, f2, f3, f4, f5⟩ := hf it (by simp)
    have W := Walks.range (prog := X.prog) (w := X.w) (I.ok.hd hc) it lo 1 n
    refine W.item i s _ _ hg st fun v h' tk hv st' kk => ?_
    obtain ⟨t, rfl⟩ := hv
    have I1 : Inv X pins σ H { s with heap := h', toks := tk } := I.turned (fun b o hb e => kk b o (by simpa using hb) e) f0 f1 f3 f4 f5
    refine ⟨_, rfl, go_of (s := { s with heap := h', toks := tk }) (n := "range_iterator") st' rfl rfl (by decide) ⟨.int (lo + i), H, I1, ⟨t, ?_⟩, ⟨rfl, rfl⟩, st', fun b hb => (hf b hb).1⟩⟩
    rw [Int.mul_one]
  done := by
    intro X hP hw hK hc i pins s σ H E I hf st hg
    subst hP hw hK
    obtain ⟨f0, f1, f2, f3, f4, f5⟩ := hf it (by simp)
    exact wpAny_pyNext_range_end (I.ok.hd hc) st (by have : n ≤ i := hg; omega) fun h' eb => ⟨rfl, I.turned (t' := s.toks) (fun b o hb e => eb b o hb e) f0 f1 f3 f4 f5⟩
  self := fun _ _ _ _ _ st h => wpAny_pyIter_rangeiter st h
end L2
namespace L2
open PySem PySem.Spec PyProof.Rows
section
variable {X : Cx} {tg : Expr}
def iList (K : PySem.W.Frag) (tl : TE) : TI := fun σ H R => tl σ H fun x H1 => ∃ a, x = .ref a ∧ (∃ xs, SqL K H1 a xs) ∧ R (Itl K a) H1
theorem pi_list {l : Expr} {tl : TE} (hl : PE X l tl) : PI X tg l (iList X.K tl) := by
  intro pins s σ H R I h
  refine thn (hl pins s σ H _ I h) fun v s1 ⟨x, H1, I1, r1, q1⟩ => ?_
  obtain ⟨a, e, ⟨xs, hq⟩, q⟩ := q1
  subst e
  cases r1
  obtain ⟨its, rv, p, hz⟩ := I1.list hq
  refine wpAny_pyIter_list p.isList ?_
  refine ⟨s1.heap.objs.size, [s1.heap.objs.size], _, _, H1, rfl, I1.kept (t' := s1.toks) fun b o e => Heap.get?_push_of_some _ e, turn_list a _, ⟨_, Heap.get?_push_size _ rfl, rfl, rfl⟩, fun b hb => ?_, q⟩
  have e : b = s1.heap.objs.size := by simpa using hb
  subst e
  exact I1.fpOk (Nat.le_refl _) (I1.hok.fresh (Nat.le_refl _))
theorem range_it {pins : List (Addr × Obj)} {σ : St} {H : Hp} {s : Shared} {R : It → Hp → Prop} {E : Value → Shared → Prop} {lo hi : Int} {t u v : Tok} {tk : Nat} (I : Inv X pins σ H s) (h1 : -(2 ^ 62) ≤ lo) (h2 : lo < 2 ^ 62) (h3 : -(2 ^ 62) ≤ hi) (h4 : hi < 2 ^ 62)
    (q : R (Itr lo (hi - lo).toNat) H) : wpAny (model X.prog X.w) X.A (pyIter (.ref s.heap.objs.size)) (PIE X pins σ tg R) E { s with heap := s.heap.push { cls := .type "range", data := .fields #[.int lo t, .int hi u, .int 1 v] }, toks := tk } := by
  refine wpAny_pyIter_range (IsRange.new ..) (small_one h1 h2 h3 h4) ?_
  have I1 : Inv X pins σ H { s with heap := s.heap.push { cls := .type "range", data := .fields #[.int lo t, .int hi u, .int 1 v] }, toks := tk } := I.kept fun b o e => Heap.get?_push_of_some _ e
  refine ⟨(s.heap.push { cls := .type "range", data := .fields #[.int lo t, .int hi u, .int 1 v] }).objs.size, [(s.heap.push { cls := .type "range", data := .fields #[.int lo t, .int hi u, .int 1 v] }).objs.size], _, _, H, rfl,
    I1.kept (t' := tk) fun b o e => Heap.get?_push_of_some _ e, turn_range _ lo (hi - lo).toNat, ?_, fun b hb => ?_, q⟩
  · have e1 : lo + ((0 : Nat) : Int) * 1 = lo := by simp
    have e2 : (((hi - lo).toNat : Nat) : Int) - ((0 : Nat) : Int) = Builtin.Range.rangeSize lo hi 1 := by rw [rangeSize_one]; split <;> omega
    show IsRangeIter _ _ (lo + ((0 : Nat) : Int) * 1) ((((hi - lo).toNat : Nat) : Int) - ((0 : Nat) : Int)) 1
    rw [e1, e2]
    exact Heap.get?_push_size _ rfl
  · have e : b = (s.heap.push { cls := .type "range", data := .fields #[.int lo t, .int hi u, .int 1 v] }).objs.size := by simpa using hb
    subst e
    exact I1.fpOk (Nat.le_refl _) (I1.hok.fresh (Nat.le_refl _))
def iRng1 (ta : TA) : TI := fun σ H R => ta σ H fun vs H1 => ∃ j : Int, vs = [.int j] ∧ -(2 ^ 62) ≤ j ∧ j < 2 ^ 62 ∧ R (Itr 0 j.toNat) H1
theorem pi_range1 {a : Expr} {ta : TA} {p pos : Pos} (hg : Gl X "range") (hm : X.mg "range" = none) (ha : PA X [a] ta) (hs : starEach [a] X.env = [(false, eval a X.env)] := by rfl) : PI X tg (.Call (.Name "range" p) [a] [] pos) (iRng1 ta) := by
  intro pins s σ H R I h
  refine Call_ (ld_blt I hg hm boot_range (PyProof.Rows.callWith_type1 (thn (ha pos pins s σ H _ I h) fun us s1 ⟨vs, H1, I1, r1, q1⟩ => ?_) hs rfl))
  obtain ⟨j, e, q1, q2, q⟩ := q1
  subst e
  cases r1 with
  | cons r rr =>
    cases rr
    obtain ⟨t, rfl⟩ := r
    exact call_range_1 (range_it I1 (by omega) (by omega) q1 q2 (by simpa using q))
def tFor (wi : TI) (g : TG) (tb : TS) : TS := fun D σ H => wi σ H fun J H1 => ∃ W : Nat → Nat → St → Hp → Prop, (∃ m, W 0 m σ H1) ∧ ∀ i m σ H, W i m σ H →
  (J.stop i H ∧ D.nx σ H) ∨ (J.go i H ∧ ∃ N : St → Hp → Prop, (∀ σ' H', N σ' H' → ∃ m', m' < m ∧ W (i + 1) m' σ' H') ∧ ∀ x H', J.yld i H x H' → g x σ H' fun σ2 H2 => tb { D with nx := N, ct := N, bk := D.nx } σ2 H2)
def pinsAt (fp : List Addr) (h : Heap) : List (Addr × Obj) := fp.filterMap fun b => (h.get? b).map fun o => (b, o)
theorem mem_pinsAt {fp : List Addr} {h : Heap} {b : Addr} {o : Obj} (hb : b ∈ fp) (e : h.get? b = some o) : (b, o) ∈ pinsAt fp h := List.mem_filterMap.mpr ⟨b, hb, by rw [e]; rfl⟩
theorem of_pinsAt {fp : List Addr} {h : Heap} {p : Addr × Obj} (hp : p ∈ pinsAt fp h) : p.1 ∈ fp ∧ h.get? p.1 = some p.2 := by
  obtain ⟨b, hb, e⟩ := List.mem_filterMap.mp hp
  cases q : h.get? b with
  | none => rw [q] at e; cases e
  | some o =>
    rw [q] at e
    have e' : (b, o) = p := Option.some.inj e
    subst e'
    exact ⟨hb, q⟩
theorem Inv.pinned {pins : List (Addr × Obj)} {σ : St} {H : Hp} {s : Shared} {fp : List Addr} (I : Inv X pins σ H s) (hf : ∀ b ∈ fp, FpOk X pins H b) (ho : ∀ b ∈ fp, ∃ o, s.heap.get? b = some o ∧ ∀ v, o.data ≠ .cell v) : Inv X (pins ++ pinsAt fp s.heap) σ H s :=
  I.pins_of fun p hp => (List.mem_append.mp hp).elim (fun z => I.pin p (List.mem_append_right _ z)) fun z => by
    obtain ⟨hb, e⟩ := of_pinsAt z
    obtain ⟨f0, f1, f2, _⟩ := hf p.1 hb
    obtain ⟨o, e', d⟩ := ho p.1 hb
    rw [e] at e'; cases e'
    exact ⟨e, f0, f1, f2, d⟩
theorem Inv.unpinned {pins pl : List (Addr × Obj)} {σ : St} {H : Hp} {s : Shared} (I : Inv X (pins ++ pl) σ H s) : Inv X pins σ H s := I.pins_of fun p hp => I.pin p (List.mem_append_right _ (List.mem_append_left _ hp))
theorem ps_for {iter : Expr} {body : List Stmt} {wi : TI} {g : TG} {tb : TS} {pos : Pos} (hp : PassesOwn (model X.prog X.w) X.A X.env X.xe) (hc : X.calm = true) (hi : PI X tg iter wi) (hg : PG X tg g) (hb : PSs X body tb)
    (hs : ∀ x, foldedSetIterable iter X.env x = pure x := by intro _; rfl) : PS X (.For tg iter body [] pos) (tFor wi g tb) := by
  intro pins s σ H D I h
  refine wpAny_For (thn (hi pins s σ H _ I h) fun v s1 h1 => thn h1 fun itv s2 h2 => ?_) hs
  obtain ⟨it, fp, tn, J, H2, e, I2, T, st2, f2, W, ⟨m0, w0⟩, turn⟩ := h2
  subst e
  have stat : ∀ {H' : Hp}, (∀ b ∈ fp, H' b = none) → ∀ b ∈ fp, FpOk X pins H' b := fun hn b hb => ⟨hn b hb, (f2 b hb).2⟩
  refine codeAny_forLoop_any (fun n s' => ∃ i σ' H', Inv X pins σ' H' s' ∧ tn i s'.heap ∧ (∀ b ∈ fp, H' b = none) ∧ W i n σ' H') ?_ m0 ⟨0, σ, H2, I2, st2, fun b hb => (f2 b hb).1, w0⟩
  rintro n s3 ⟨i, σ3, H3, I3, st3, fr3, w3⟩
  rcases turn i n σ3 H3 w3 with ⟨stop, qn⟩ | ⟨go, N, hN, step⟩
  · refine wpAny_passesOwn hp (thn (T.done X rfl rfl rfl hc i pins s3 σ3 H3 X.xe I3 (stat fr3) st3 stop) fun r s4 ⟨hr, I4⟩ => ?_)
    subst hr
    exact wpAny_execs_nil ⟨σ3, H3, I4, qn⟩
  · refine wpAny_passesOwn hp (thn (T.item X rfl rfl rfl hc i pins s3 σ3 H3 X.xe I3 (stat fr3) st3 go) fun r s4 ⟨u, hr, h4⟩ => ?_)
    subst hr
    refine wpAny_passesOwn hp (thn h4 fun _ s5 ⟨x, H5, I5, r5, y5, st5, fr5⟩ => ?_)
    have I5' := I5.pinned (stat fr5) (T.obj _ _ st5)
    refine wpAny_passesOwn hp (thn (hg _ s5 σ3 H5 x u _ I5' r5 (step x H5 y5)) fun _ s6 ⟨σ6, H6, I6, q6⟩ => ?_)
    refine wpAny_passesOwn hp (thn (hb _ s6 σ6 H6 _ I6 q6) fun f s7 q7 => ?_)
    have again : ∀ {σ7 : St} {H7 : Hp}, Inv X (pins ++ pinsAt fp s5.heap) σ7 H7 s7 → N σ7 H7 → ∃ m, m < n ∧ ∃ i σ' H', Inv X pins σ' H' s7 ∧ tn i s7.heap ∧ (∀ b ∈ fp, H' b = none) ∧ W i m σ' H' := fun {σ7 H7} I7 n7 => by
      obtain ⟨m', hm, w7⟩ := hN σ7 H7 n7
      refine ⟨m', hm, i + 1, σ7, H7, I7.unpinned, T.keep _ _ _ st5 fun b hb o e => (I7.pin (b, o) (List.mem_append_right _ (List.mem_append_right _ (mem_pinsAt hb e)))).1, fun b hb => ?_, w7⟩
      obtain ⟨o, e, d⟩ := T.obj _ _ st5 b hb
      exact (I7.pin (b, o) (List.mem_append_right _ (List.mem_append_right _ (mem_pinsAt hb e)))).2.1
    cases f with
    | next => obtain ⟨σ7, H7, I7, n7⟩ := q7; exact again I7 n7
    | cont => obtain ⟨σ7, H7, I7, n7⟩ := q7; exact again I7 n7
    | brk => obtain ⟨σ7, H7, I7, q7⟩ := q7; exact ⟨σ7, H7, I7.unpinned, q7⟩
    | ret v => obtain ⟨x7, σ7, H7, I7, r7, q7⟩ := q7; exact ⟨x7, σ7, H7, I7.unpinned, r7, q7⟩
end
theorem for_list {K : PySem.W.Frag} {a : Addr} {xs : List V} {g : TG} {tb : TS} {D : Ends} {σ : St} {H : Hp} (Pv : Nat → St → Hp → Prop) (h0 : Pv 0 σ H) (hl : ∀ i σ H, i ≤ xs.length → Pv i σ H → SqL K H a xs)
    (hs : ∀ i x σ H, xs[i]? = some x → Pv i σ H → g x σ H fun σ2 H2 => tb { D with nx := Pv (i + 1), ct := Pv (i + 1), bk := D.nx } σ2 H2) (hd : ∀ σ H, Pv xs.length σ H → D.nx σ H) :
    ∃ W : Nat → Nat → St → Hp → Prop, (∃ m, W 0 m σ H) ∧ ∀ i m σ H, W i m σ H →
      ((Itl K a).stop i H ∧ D.nx σ H) ∨ ((Itl K a).go i H ∧ ∃ N : St → Hp → Prop, (∀ σ' H', N σ' H' → ∃ m', m' < m ∧ W (i + 1) m' σ' H') ∧ ∀ x H', (Itl K a).yld i H x H' → g x σ H' fun σ2 H2 => tb { D with nx := N, ct := N, bk := D.nx } σ2 H2) := by
  refine ⟨fun i m σ H => m = xs.length - i ∧ i ≤ xs.length ∧ Pv i σ H, ⟨xs.length, by simp, Nat.zero_le _, h0⟩, ?_⟩
  rintro i m σ H ⟨rfl, hi, p⟩
  have q := hl i σ H hi p
  by_cases hlt : i < xs.length
  · refine .inr ⟨⟨xs, xs[i], q, by simp [hlt]⟩, Pv (i + 1), fun σ' H' p' => ⟨xs.length - (i + 1), by omega, rfl, hlt, p'⟩, fun x H' y => ?_⟩
    obtain ⟨e, y⟩ := y
    subst e
    exact hs i x σ _ (y xs q) p
  · have e : i = xs.length := by omega
    subst e
    exact .inl ⟨⟨xs, q, Nat.le_refl _⟩, hd σ H p⟩
theorem for_range {lo : Int} {n : Nat} {g : TG} {tb : TS} {D : Ends} {σ : St} {H : Hp} (Pv : Nat → St → Hp → Prop) (h0 : Pv 0 σ H)
    (hs : ∀ i σ H, i < n → Pv i σ H → g (.int (lo + i)) σ H fun σ2 H2 => tb { D with nx := Pv (i + 1), ct := Pv (i + 1), bk := D.nx } σ2 H2) (hd : ∀ σ H, Pv n σ H → D.nx σ H) :
    ∃ W : Nat → Nat → St → Hp → Prop, (∃ m, W 0 m σ H) ∧ ∀ i m σ H, W i m σ H →
      ((Itr lo n).stop i H ∧ D.nx σ H) ∨ ((Itr lo n).go i H ∧ ∃ N : St → Hp → Prop, (∀ σ' H', N σ' H' → ∃ m', m' < m ∧ W (i + 1) m' σ' H') ∧ ∀ x H', (Itr lo n).yld i H x H' → g x σ H' fun σ2 H2 => tb { D with nx := N, ct := N, bk := D.nx } σ2 H2) := by
  refine ⟨fun i m σ H => m = n - i ∧ i ≤ n ∧ Pv i σ H, ⟨n, by simp, Nat.zero_le _, h0⟩, ?_⟩
  rintro i m σ H ⟨rfl, hi, p⟩
  by_cases hlt : i < n
  · refine .inr ⟨hlt, Pv (i + 1), fun σ' H' p' => ⟨n - (i + 1), by omega, rfl, hlt, p'⟩, fun x H' y => ?_⟩
    obtain ⟨e, y⟩ := y
    subst e y
    exact hs i σ _ hlt p
  · have e : i = n := by omega
    subst e
    exact .inl ⟨Nat.le_refl _, hd σ H p⟩
theorem while_by {c : TT} {tb : TS} {D : Ends} {σ : St} {H : Hp} (Pv : St → Hp → Prop) (μ : St → Hp → Nat) (h0 : Pv σ H)
    (hs : ∀ σ H, Pv σ H → c σ H fun b H1 => if b = true then tb { D with nx := fun σ' H' => Pv σ' H' ∧ μ σ' H' < μ σ H, ct := fun σ' H' => Pv σ' H' ∧ μ σ' H' < μ σ H, bk := D.nx } σ H1 else D.nx σ H1)
    (mono : ∀ σ H Q Q', (∀ b H1, Q b H1 → Q' b H1) → c σ H Q → c σ H Q') : tWhile c tb D σ H := by
  refine ⟨fun m σ H => m = μ σ H ∧ Pv σ H, ⟨_, rfl, h0⟩, ?_⟩
  rintro m σ H ⟨rfl, p⟩
  refine mono σ H _ _ (fun b H1 q => ?_) (hs σ H p)
  cases b with
  | true => exact ⟨_, fun σ' H' ⟨p', l⟩ => ⟨_, l, rfl, p'⟩, q⟩
  | false => exact q
end L2
namespace L2
open PySem PySem.Spec PyProof.Rows
abbrev R2 := V → V → Hp → VK → Prop
def OpR (X : Cx) (f : Value → Value → Sem Value) (r : R2) : Prop :=
  ∀ (pins : List (Addr × Obj)) (s : Shared) (σ : St) (H : Hp) (x y : V) (v u : Value) (Q : VK), Inv X pins σ H s → RelV x v → RelV y u → r x y H Q →
    wpAny (model X.prog X.w) X.A (f v u) (EP X pins σ Q) X.xe s
def UnR (X : Cx) (f : Value → Sem Value) (r : V → Hp → VK → Prop) : Prop :=
  ∀ (pins : List (Addr × Obj)) (s : Shared) (σ : St) (H : Hp) (x : V) (v : Value) (Q : VK), Inv X pins σ H s → RelV x v → r x H Q →
    wpAny (model X.prog X.w) X.A (f v) (EP X pins σ Q) X.xe s
def CallR (X : Cx) (f : Value) (r : List V → Hp → VK → Prop) : Prop :=
  ∀ (pins : List (Addr × Obj)) (s : Shared) (σ : St) (H : Hp) (xs : List V) (us : List Value) (Q : VK), Inv X pins σ H s → Vals xs us → r xs H Q →
    wpAny (model X.prog X.w) X.A (call f us) (EP X pins σ Q) X.xe s
def tOp (r : R2) (ta tb : TE) : TE := fun σ H Q => ta σ H fun x H1 => tb σ H1 fun y H2 => r x y H2 Q
def tUn (r : V → Hp → VK → Prop) (ta : TE) : TE := fun σ H Q => ta σ H fun x H1 => r x H1 Q
def rI (C : Int → Int → Prop) (g : Int → Int → V) : R2 := fun x y H Q => ∃ i j, x = .int i ∧ y = .int j ∧ C i j ∧ Q (g i j) H
def rI0 (g : Int → Int → V) : R2 := fun x y H Q => ∃ i j, x = .int i ∧ y = .int j ∧ Q (g i j) H
def rU (g : Int → V) : V → Hp → VK → Prop := fun x H Q => ∃ i, x = .int i ∧ Q (g i) H
section
variable {X : Cx} {a b c : Expr} {ta tb tc : TE} {pos : Pos}
theorem binT (ha : PE X a ta) (hb : PE X b tb) {pins : List (Addr × Obj)} {s : Shared} {σ : St} {H : Hp} {R : V → V → Hp → Prop} (I : Inv X pins σ H s)
    (h : ta σ H fun x H1 => tb σ H1 fun y H2 => R x y H2) {Q : Value → Shared → Prop} {f : Value → Value → Sem Value}
    (hf : ∀ v u s2 x y H2, Inv X pins σ H2 s2 → RelV x v → RelV y u → R x y H2 → wpAny (model X.prog X.w) X.A (f v u) Q X.xe s2) :
    wpAny (model X.prog X.w) X.A (eval a X.env) (fun v s₁ => wpAny (model X.prog X.w) X.A (eval b X.env) (fun u s₂ => wpAny (model X.prog X.w) X.A (f v u) Q X.xe s₂) X.xe s₁) X.xe s := by
  refine thn (ha pins s σ H _ I h) fun v s1 ⟨x, H1, I1, r1, q1⟩ => ?_
  refine thn (hb pins s1 σ H1 _ I1 q1) fun u s2 ⟨y, H2, I2, r2, q2⟩ => ?_
  exact hf v u s2 x y H2 I2 r1 r2 q2
theorem pe_op {op : Operator} {r : R2} (ho : OpR X (binaryOp op) r) (ha : PE X a ta) (hb : PE X b tb) : PE X (.BinOp a op b pos) (tOp r ta tb) := by
  intro pins s σ H Q I h
  exact wpAny_BinOp (binT ha hb I h fun v u s2 x y H2 I2 rx ry q => ho pins s2 σ H2 x y v u Q I2 rx ry q)
theorem pe_un {op : UnaryOp} {r : V → Hp → VK → Prop} (ho : UnR X (unaryOp op) r) (ha : PE X a ta) : PE X (.UnaryOp op a pos) (tUn r ta) := by
  intro pins s σ H Q I h
  exact UnaryOp_ (thn (ha pins s σ H _ I h) fun v s1 ⟨x, H1, I1, r1, q1⟩ => ho pins s1 σ H1 x v Q I1 r1 q1)
theorem opI {f : Value → Value → Sem Value} {C : Int → Int → Prop} {g : Int → Int → Int}
    (rule : ∀ (i j : Int) (t u : Tok) (s : Shared) (Q : Value → Shared → Prop) (E : Value → Shared → Prop), C i j → Q (.int (g i j) s.toks) { s with toks := s.toks + 1 } → wpAny (model X.prog X.w) X.A (f (.int i t) (.int j u)) Q E s) :
    OpR X f (rI C fun i j => .int (g i j)) := by
  intro pins s σ H x y v u Q I rx ry h
  obtain ⟨i, j, rfl, rfl, hc, q⟩ := h
  obtain ⟨t, rfl⟩ := rx
  obtain ⟨t', rfl⟩ := ry
  exact rule i j t t' s _ _ hc ⟨.int (g i j), H, I.tok _, ⟨_, rfl⟩, q⟩
theorem opI0 {f : Value → Value → Sem Value} {g : Int → Int → Int}
    (rule : ∀ (i j : Int) (t u : Tok) (s : Shared) (Q : Value → Shared → Prop) (E : Value → Shared → Prop), Q (.int (g i j) s.toks) { s with toks := s.toks + 1 } → wpAny (model X.prog X.w) X.A (f (.int i t) (.int j u)) Q E s) :
    OpR X f (rI0 fun i j => .int (g i j)) := by
  intro pins s σ H x y v u Q I rx ry h
  obtain ⟨i, j, rfl, rfl, q⟩ := h
  obtain ⟨t, rfl⟩ := rx
  obtain ⟨t', rfl⟩ := ry
  exact rule i j t t' s _ _ ⟨.int (g i j), H, I.tok _, ⟨_, rfl⟩, q⟩
theorem opB0 {f : Value → Value → Sem Value} {g : Int → Int → Bool}
    (rule : ∀ (i j : Int) (t u : Tok) (s : Shared) (Q : Value → Shared → Prop) (E : Value → Shared → Prop), Q (.bool (g i j)) s → wpAny (model X.prog X.w) X.A (f (.int i t) (.int j u)) Q E s) :
    OpR X f (rI0 fun i j => .bl (g i j)) := by
  intro pins s σ H x y v u Q I rx ry h
  obtain ⟨i, j, rfl, rfl, q⟩ := h
  obtain ⟨t, rfl⟩ := rx
  obtain ⟨t', rfl⟩ := ry
  exact rule i j t t' s _ _ ⟨.bl (g i j), H, I, rfl, q⟩
def CPow (i j : Int) : Prop := 0 ≤ j ∧ j ≤ 1000000 ∧ i.natAbs < 2 ^ 64
def CMul (i j : Int) : Prop := (-(2 ^ 64) < i ∧ i < 2 ^ 64) ∨ (-(2 ^ 64) < j ∧ j < 2 ^ 64)
theorem CMul.ok {i j : Int} (h : CMul i j) : IntMulOk i j := by
  rcases h with ⟨h1, h2⟩ | ⟨h1, h2⟩
  · exact .of_left (intBits_le_64 h1 h2)
  · exact .of_right (intBits_le_64 h1 h2)
theorem op_add : OpR X (binaryOp .Add) (rI0 fun i j => .int (i + j)) := opI0 fun _ _ _ _ _ _ _ q => add_int q
theorem op_sub : OpR X (binaryOp .Sub) (rI0 fun i j => .int (i - j)) := opI0 fun _ _ _ _ _ _ _ q => sub_int q
theorem op_mul : OpR X (binaryOp .Mult) (rI CMul fun i j => .int (i * j)) := opI fun _ _ _ _ _ _ _ hc q => mul_int q hc.ok
theorem op_mod : OpR X (binaryOp .Mod) (rI (fun _ j => 0 < j) fun i j => .int (i % j)) := opI fun i j _ _ _ _ _ hc q => by
  have h1 : (0 : Int) < j := hc
  exact mod_int' (by omega) (by rw [Int.fmod_eq_emod_of_nonneg i (by omega)]; exact q)
theorem op_modN : OpR X (binaryOp .Mod) (rI (fun _ j => j ≠ 0) fun i j => .int (i.fmod j)) := opI fun _ _ _ _ _ _ _ hc q => mod_int' hc q
theorem op_pow : OpR X (binaryOp .Pow) (rI CPow fun i j => .int (i ^ j.toNat)) := opI fun _ _ _ _ _ _ _ hc q => pow_int_small hc.1 hc.2.1 hc.2.2 q
theorem unI {f : Value → Sem Value} {g : Int → Int}
    (rule : ∀ (i : Int) (t : Tok) (s : Shared) (Q : Value → Shared → Prop) (E : Value → Shared → Prop), Q (.int (g i) s.toks) { s with toks := s.toks + 1 } → wpAny (model X.prog X.w) X.A (f (.int i t)) Q E s) :
    UnR X f (rU fun i => .int (g i)) := by
  intro pins s σ H x v Q I rx h
  obtain ⟨i, rfl, q⟩ := h
  obtain ⟨t, rfl⟩ := rx
  exact rule i t s _ _ ⟨.int (g i), H, I.tok _, ⟨_, rfl⟩, q⟩
theorem un_neg : UnR X (unaryOp .USub) (rU fun i => .int (-i)) := unI fun _ _ _ _ _ q => neg_int q
end
def scal : V → V → Bool
  | .non, .non => true | .non, .int _ => true | .int _, .non => true | .non, .bl _ => true | .bl _, .non => true | .non, .str _ => true | .str _, .non => true
  | .int _, .int _ => true | .bl _, .bl _ => true | .str _, .str _ => true | .byt _, .byt _ => true
  | .int _, .str _ => true | .str _, .int _ => true | .bl _, .str _ => true | .str _, .bl _ => true
  | _, _ => false
def rEq : R2 := fun x y H Q => scal x y = true ∧ Q (.bl (decide (x = y))) H
def rNe : R2 := fun x y H Q => scal x y = true ∧ Q (.bl (!decide (x = y))) H
theorem dec_int {i j : Int} : decide (V.int i = V.int j) = (i == j) := by
  rw [Bool.eq_iff_iff]
  simp
theorem dec_bl {i j : Bool} : decide (V.bl i = V.bl j) = (i == j) := by
  rw [Bool.eq_iff_iff]
  simp
theorem dec_str {i j : Str} : decide (V.str i = V.str j) = (i == j) := by
  rw [Bool.eq_iff_iff]
  simp
theorem dec_byt {i j : Array UInt8} : decide (V.byt i = V.byt j) = (i.toList == j.toList) := by
  rw [Bool.eq_iff_iff]
  cases i
  cases j
  simp
section
variable {X : Cx} {a b c : Expr} {ta tb tc : TE} {pos : Pos}
theorem fin_bl {pins : List (Addr × Obj)} {σ : St} {H : Hp} {s : Shared} {Q : VK} {k k' : Bool} (I : Inv X pins σ H s) (q : Q (.bl k) H) (e : k = k') : EP X pins σ Q (.bool k') s := by
  subst e
  exact ⟨.bl k, H, I, rfl, q⟩
theorem op_eq : OpR X (compareOp .Eq) rEq := by
  intro pins s σ H x y v u Q I rx ry h
  obtain ⟨hs, q⟩ := h
  cases x with
  | non =>
    cases rx
    cases y with
    | non => cases ry; exact PySem.EqNone.eq_none_none (fin_bl I q (by simp))
    | bl j => cases ry; exact PySem.EqNone.eq_none_bool (fin_bl I q (by simp))
    | int j => obtain ⟨t', rfl⟩ := ry; exact PySem.EqNone.eq_none_int (fin_bl I q (by simp))
    | str j => obtain ⟨t', rfl⟩ := ry; exact PySem.EqNone.eq_none_str (fin_bl I q (by simp))
    | _ => exact absurd (show false = true from hs) Bool.false_ne_true
  | bl i =>
    cases rx
    cases y with
    | non => cases ry; exact PySem.EqNone.eq_bool_none (fin_bl I q (by simp))
    | bl j => cases ry; exact eq_bool (fin_bl I q dec_bl)
    | str j => obtain ⟨t', rfl⟩ := ry; exact PySem.EqMixed.eq_bool_str (fin_bl I q (by simp))
    | _ => exact absurd (show false = true from hs) Bool.false_ne_true
  | int i =>
    obtain ⟨t, rfl⟩ := rx
    cases y with
    | non => cases ry; exact PySem.EqNone.eq_int_none (fin_bl I q (by simp))
    | int j => obtain ⟨t', rfl⟩ := ry; exact eq_int (fin_bl I q dec_int)
    | str j => obtain ⟨t', rfl⟩ := ry; exact PySem.EqMixed.eq_int_str (fin_bl I q (by simp))
    | _ => exact absurd (show false = true from hs) Bool.false_ne_true
  | str i =>
    obtain ⟨t, rfl⟩ := rx
    cases y with
    | non => cases ry; exact PySem.EqNone.eq_str_none (fin_bl I q (by simp))
    | bl j => cases ry; exact PySem.EqMixed.eq_str_bool (fin_bl I q (by simp))
    | int j => obtain ⟨t', rfl⟩ := ry; exact PySem.EqMixed.eq_str_int (fin_bl I q (by simp))
    | str j => obtain ⟨t', rfl⟩ := ry; exact eq_str (fin_bl I q dec_str)
    | _ => exact absurd (show false = true from hs) Bool.false_ne_true
  | byt i =>
    obtain ⟨t, rfl⟩ := rx
    cases y with
    | byt j => obtain ⟨t', rfl⟩ := ry; exact PySem.W.eq_bytes (fin_bl I q dec_byt)
    | _ => exact absurd (show false = true from hs) Bool.false_ne_true
  | _ => cases y <;> exact absurd (show false = true from hs) Bool.false_ne_true
theorem op_ne : OpR X (compareOp .NotEq) rNe := by
  intro pins s σ H x y v u Q I rx ry h
  obtain ⟨hs, q⟩ := h
  cases x with
  | non =>
    cases rx
    cases y with
    | non => cases ry; exact PySem.EqNone.ne_none_none (fin_bl I q (by simp))
    | bl j => cases ry; exact PySem.EqNone.ne_none_bool (fin_bl I q (by simp))
    | int j => obtain ⟨t', rfl⟩ := ry; exact PySem.EqNone.ne_none_int (fin_bl I q (by simp))
    | str j => obtain ⟨t', rfl⟩ := ry; exact PySem.EqNone.ne_none_str (fin_bl I q (by simp))
    | _ => exact absurd (show false = true from hs) Bool.false_ne_true
  | bl i =>
    cases rx
    cases y with
    | non => cases ry; exact PySem.EqNone.ne_bool_none (fin_bl I q (by simp))
    | bl j => cases ry; exact ne_bool (fin_bl I q (congrArg not dec_bl))
    | str j => obtain ⟨t', rfl⟩ := ry; exact PySem.EqMixed.ne_bool_str (fin_bl I q (by simp))
    | _ => exact absurd (show false = true from hs) Bool.false_ne_true
  | int i =>
    obtain ⟨t, rfl⟩ := rx
    cases y with
    | non => cases ry; exact PySem.EqNone.ne_int_none (fin_bl I q (by simp))
    | int j => obtain ⟨t', rfl⟩ := ry; exact ne_int (fin_bl I q (congrArg not dec_int))
    | str j => obtain ⟨t', rfl⟩ := ry; exact PySem.EqMixed.ne_int_str (fin_bl I q (by simp))
    | _ => exact absurd (show false = true from hs) Bool.false_ne_true
  | str i =>
    obtain ⟨t, rfl⟩ := rx
    cases y with
    | non => cases ry; exact PySem.EqNone.ne_str_none (fin_bl I q (by simp))
    | bl j => cases ry; exact PySem.EqMixed.ne_str_bool (fin_bl I q (by simp))
    | int j => obtain ⟨t', rfl⟩ := ry; exact PySem.EqMixed.ne_str_int (fin_bl I q (by simp))
    | str j => obtain ⟨t', rfl⟩ := ry; exact ne_str (fin_bl I q (congrArg not dec_str))
    | _ => exact absurd (show false = true from hs) Bool.false_ne_true
  | byt i =>
    obtain ⟨t, rfl⟩ := rx
    cases y with
    | byt j => obtain ⟨t', rfl⟩ := ry; exact PySem.W.ne_bytes (fin_bl I q (congrArg not dec_byt))
    | _ => exact absurd (show false = true from hs) Bool.false_ne_true
  | _ => cases y <;> exact absurd (show false = true from hs) Bool.false_ne_true
theorem op_lt : OpR X (compareOp .Lt) (rI0 fun i j => .bl (decide (i < j))) := opB0 fun _ _ _ _ _ _ _ q => lt_int q
theorem op_le : OpR X (compareOp .LtE) (rI0 fun i j => .bl (decide (i ≤ j))) := opB0 fun _ _ _ _ _ _ _ q => le_int q
theorem op_gt : OpR X (compareOp .Gt) (rI0 fun i j => .bl (decide (j < i))) := opB0 fun _ _ _ _ _ _ _ q => gt_int q
theorem op_isN : OpR X (compareOp .Is) (fun x y H Q => y = .non ∧ Q (.bl (decide (x = .non))) H) := by
  intro pins s σ H x y v u Q I rx ry h
  obtain ⟨rfl, q⟩ := h
  cases ry
  refine is_none_gen (fin_bl I q ?_)
  cases x <;> first
    | (cases rx; rfl)
    | (obtain ⟨t, rfl⟩ := rx; rfl)
theorem OpR.or {f : Value → Value → Sem Value} {r r' : R2} (h : OpR X f r) (h' : OpR X f r') : OpR X f (fun x y H Q => r x y H Q ∨ r' x y H Q) := by
  intro pins s σ H x y v u Q I rx ry q
  rcases q with q | q
  · exact h pins s σ H x y v u Q I rx ry q
  · exact h' pins s σ H x y v u Q I rx ry q
theorem nomark (b : Expr) {op : CmpOp} (h : op ≠ .In := by decide) (h2 : op ≠ .NotIn := by decide) : behindInMarks op b = false := by
  have e1 : (op == CmpOp.In) = false := by cases op <;> first | rfl | exact absurd rfl h
  have e2 : (op == CmpOp.NotIn) = false := by cases op <;> first | rfl | exact absurd rfl h2
  cases b <;> simp [behindInMarks, e1, e2]
theorem pe_cmpR {op : CmpOp} {r : R2} (ho : OpR X (compareOp op) r) (ha : PE X a ta) (hb : PE X b tb) (hm : behindInMarks op b = false) : PE X (.Compare a [op] [b] pos) (tOp r ta tb) := by
  intro pins s σ H Q I h
  exact wpAny_Compare1 (binT ha hb I h fun v u s2 x y H2 I2 rx ry q => ho pins s2 σ H2 x y v u Q I2 rx ry q) hm
def tTest (t : TE) : TT := fun σ H Q => t σ H fun x H' => ∃ k, x = .bl k ∧ Q k H'
theorem pt_cmpR {op : CmpOp} {r : R2} (ho : OpR X (compareOp op) r) (ha : PE X a ta) (hb : PE X b tb) (hm : behindInMarks op b = false) : PT X (.Compare a [op] [b] pos) (tTest (tOp r ta tb)) := by
  intro pins s σ H Q I h
  refine wpAny_isTrue_Compare1 (thn (ha pins s σ H _ I h) fun v s1 ⟨x, H1, I1, r1, q1⟩ => thn (hb pins s1 σ H1 _ I1 q1) fun u s2 ⟨y, H2, I2, r2, q2⟩ =>
    thn (ho pins s2 σ H2 x y v u _ I2 r1 r2 q2) fun c s3 ⟨z, H3, I3, r3, k, e, q3⟩ => ?_) hm
  subst e
  cases r3
  exact wpAny_truthy_bool ⟨H3, I3, q3⟩
def tChain (r r' : R2) (ta tb tc : TE) : TE := fun σ H Q => ta σ H fun x H1 => tb σ H1 fun y H2 => r x y H2 fun z H3 => ∃ k, z = .bl k ∧
  (if k = true then tc σ H3 fun w' H4 => r' y w' H4 Q else Q (.bl false) H3)
theorem pe_chain {op op' : CmpOp} {r r' : R2} (ho : OpR X (compareOp op) r) (ho' : OpR X (compareOp op') r') (ha : PE X a ta) (hb : PE X b tb) (hc : PE X c tc)
    (hm : lastMarks [op, op'] [b, c] = false := by with_unfolding_all rfl) : PE X (.Compare a [op, op'] [b, c] pos) (tChain r r' ta tb tc) := by
  intro pins s σ H Q I h
  refine Compare_chain (thn (ha pins s σ H _ I h) fun v s1 ⟨x, H1, I1, r1, q1⟩ => chain_link (thn (hb pins s1 σ H1 _ I1 q1) fun u s2 ⟨y, H2, I2, r2, q2⟩ =>
    thn (ho pins s2 σ H2 x y v u _ I2 r1 r2 q2) fun d s3 ⟨z, H3, I3, r3, k, e, q3⟩ => ?_)) hm
  subst e
  cases r3
  refine wpAny_truthy_bool ?_
  cases k with
  | false => exact ite_ff ⟨.bl false, H3, I3, rfl, q3⟩
  | true => exact ite_tt (chain_last (thn (hc pins s3 σ H3 _ I3 q3) fun w' s4 ⟨z', H4, I4, r4, q4⟩ => ho' pins s4 σ H4 y z' u w' Q I4 r2 r4 q4))
theorem pt_chain {op op' : CmpOp} {r r' : R2} (ho : OpR X (compareOp op) r) (ho' : OpR X (compareOp op') r') (ha : PE X a ta) (hb : PE X b tb) (hc : PE X c tc)
    (hm : lastMarks [op, op'] [b, c] = false := by with_unfolding_all rfl) : PT X (.Compare a [op, op'] [b, c] pos) (tTest (tChain r r' ta tb tc)) := by
  intro pins s σ H Q I h
  refine isTrue_chain (thn (ha pins s σ H _ I h) fun v s1 ⟨x, H1, I1, r1, q1⟩ => test_link (thn (hb pins s1 σ H1 _ I1 q1) fun u s2 ⟨y, H2, I2, r2, q2⟩ =>
    thn (ho pins s2 σ H2 x y v u _ I2 r1 r2 q2) fun d s3 ⟨z, H3, I3, r3, k, e, q3⟩ => ?_)) hm
  subst e
  cases r3
  refine wpAny_truthy_bool ?_
  cases k with
  | false =>
    obtain ⟨k', e', q'⟩ := q3
    cases e'
    exact ite_ff ⟨H3, I3, q'⟩
  | true =>
    refine ite_tt (test_last (thn (hc pins s3 σ H3 _ I3 q3) fun w' s4 ⟨z', H4, I4, r4, q4⟩ => thn (ho' pins s4 σ H4 y z' u w' _ I4 r2 r4 q4) fun d' s5 ⟨z2, H5, I5, r5, k2, e2, q5⟩ => ?_))
    subst e2
    cases r5
    exact wpAny_truthy_bool ⟨H5, I5, q5⟩
theorem line63 : (sizeLine : Nat) < 2 ^ 63 := by rw [sizeLine_eq]; decide
theorem vals1 {x : V} {us : List Value} (r : Vals [x] us) : ∃ u, us = [u] ∧ RelV x u := by
  cases r with
  | cons r1 r2 => cases r2; exact ⟨_, rfl, r1⟩
theorem vals2 {x y : V} {us : List Value} (r : Vals [x, y] us) : ∃ u w', us = [u, w'] ∧ RelV x u ∧ RelV y w' := by
  cases r with
  | cons r1 r2 =>
    cases r2 with
    | cons r3 r4 => cases r4; exact ⟨_, _, rfl, r1, r3⟩
theorem call_abs : CallR X (.builtin "abs") (fun xs H Q => ∃ i, xs = [.int i] ∧ Q (.int (if i < 0 then -i else i)) H) := by
  intro pins s σ H xs us Q I r h
  obtain ⟨i, rfl, q⟩ := h
  obtain ⟨u, rfl, t, rfl⟩ := vals1 r
  exact call_abs_int fun u tk => ⟨.int (if i < 0 then -i else i), H, I.tok _, ⟨_, rfl⟩, q⟩
theorem call_max2 (hc : X.calm = true) : CallR X (.builtin "max") (fun xs H Q => ∃ i j, xs = [.int i, .int j] ∧ Q (.int (if j > i then j else i)) H) := by
  intro pins s σ H xs us Q I r h
  obtain ⟨i, j, rfl, q⟩ := h
  obtain ⟨u, w', rfl, ⟨t, rfl⟩, ⟨t', rfl⟩⟩ := vals2 r
  refine max_two_ints (I.ok.hd hc) fun h' tk k => ⟨_, H, I.kept k, ?_, q⟩
  by_cases hj : j > i
  · rw [if_pos hj, if_pos hj]; exact ⟨_, rfl⟩
  · rw [if_neg hj, if_neg hj]; exact ⟨_, rfl⟩
theorem call_min2 (hc : X.calm = true) : CallR X (.builtin "min") (fun xs H Q => ∃ i j, xs = [.int i, .int j] ∧ Q (.int (if j < i then j else i)) H) := by
  intro pins s σ H xs us Q I r h
  obtain ⟨i, j, rfl, q⟩ := h
  obtain ⟨u, w', rfl, ⟨t, rfl⟩, ⟨t', rfl⟩⟩ := vals2 r
  refine min_two_ints (I.ok.hd hc) fun h' tk k => ⟨_, H, I.kept k, ?_, q⟩
  by_cases hj : j < i
  · rw [if_pos hj, if_pos hj]; exact ⟨_, rfl⟩
  · rw [if_neg hj, if_neg hj]; exact ⟨_, rfl⟩
end
end L2
namespace L2
open PySem PySem.Spec PyProof.Rows
structure ObjM (h : Heap) (x dx C : Addr) (mA : Str → Option Value) : Prop where
  obj : h.get? x = some (PySem.W.instObj C dx)
  ns : h.Ns1 dx mA
  ne : dx ≠ x
theorem lookIn_ns {h : Heap} {dx : Addr} {mA : Str → Option Value} (n : h.Ns1 dx mA) : ∃ od, h.get? dx = some od ∧ ∀ name, PySem.W.lookIn name od = some (mA name) := by
  obtain ⟨o, es, ep, ho, hd, hk, _, hm⟩ := n
  refine ⟨o, ho, fun name => ?_⟩
  have e := hm name
  unfold nsFind findBy at e
  rw [← Array.find?_toList] at e
  unfold PySem.W.lookIn
  rw [hd]
  dsimp only
  split
  · rename_i y q
    rw [q] at e
    exact congrArg some e
  · rename_i q
    rw [q] at e
    have a : es.toList.any (·.refKey) = false := by
      rw [List.any_eq_false]
      intro y hy
      obtain ⟨z, t, hkey⟩ := hk y (Array.mem_toList_iff.mp hy)
      simp [DictEntry.refKey, hkey]
    have a' : ¬ es.toList.any (·.refKey) = true := by rw [a]; exact Bool.false_ne_true
    rw [if_neg a']
    exact congrArg some e
theorem ObjM.look {h : Heap} {x dx C : Addr} {mA : Str → Option Value} (I : ObjM h x dx C mA) : ∃ od, PySem.W.InstAt h x (PySem.W.instObj C dx) C (some od) ∧ ∀ name, PySem.W.lookIn name od = some (mA name) :=
  let ⟨od, ho, hl⟩ := lookIn_ns I.ns
  ⟨od, ⟨I.obj, rfl, rfl, ho⟩, hl⟩
section
variable {prog : Program} {w : World} {A : Around} {E : Value → Shared → Prop} {s : Shared} {K : PySem.W.Frag} {x dx C f : Addr} {mA : Str → Option Value} {name : Str} {v : Value}
theorem get_map {expr : Bool} {Q : Value → Shared → Prop} (X : K.In s.heap) (I : ObjM s.heap x dx C mA) (hg : PySem.W.plainGet K C name = true) (hh : PySem.W.hasDictIn K C = true)
    (ha : PySem.W.findIn K (.ref C) name = some none) (hv : mA name = some v) (hv' : PySem.W.handedIn v = true) (h : Q v { s with toks := s.toks + 1 }) :
    wpAny (model prog w) A (getAttr (.ref x) name expr) Q E s := by
  obtain ⟨od, J, hl⟩ := I.look
  exact PySem.W.get_value X J (PySem.W.plainGet_of hg).1 (PySem.W.findObj_own hh ha rfl (by rw [hl, hv])) hv' h
theorem get_meth {pl : Sem Bool} {Q : Value × List Value → Shared → Prop} (X : K.In s.heap) (I : ObjM s.heap x dx C mA) (hg : PySem.W.plainGet K C name = true)
    (hf : PySem.W.findIn K (.ref C) name = some (some (.ref f))) (ht : PySem.W.isFn K (.ref f) = true) (hv : mA name = none) (h : Q (.ref f, [.ref x]) s) :
    wpAny (model prog w) A (getMethod (.ref x) name pl) Q E s := by
  obtain ⟨od, J, hl⟩ := I.look
  exact PySem.W.method_fn X J (PySem.W.plainGet_of hg).1 (PySem.W.plainGet_of hg).2 hf (beq_iff_eq.mp ht) (by show (PySem.W.lookIn name od).map (·.isSome) = some false; rw [hl, hv]; rfl) h
theorem set_map {ns : List Str} {Q : Unit → Shared → Prop} (X : K.In s.heap) (I : ObjM s.heap x dx C mA)
    (hs : PySem.W.findIn K (.ref C) "__setattr__" = some (some (.builtin "object.__setattr__"))) (hp : PySem.W.plainOver K C = true) (ht : PySem.W.takerIn K C name = some none) (hh : PySem.W.hasDictIn K C = true)
    (hw : PySem.Within mA ns) (hsz : ns.length ≤ sizeLine)
    (h : ∀ h', ObjM h' x dx C (fun y => if y = name then some v else mA y) → Heap.SameBut dx s.heap h' → Q () { s with heap := h', toks := s.toks + 2 }) :
    wpAny (model prog w) A (setAttr (.ref x) name v) Q E s := by
  obtain ⟨od, J, hl⟩ := I.look
  refine PySem.W.set_plain X J hs (PySem.W.osa_open (s := { s with toks := s.toks + 1 }) (r := none) X J hp ht fun b => ?_)
  obtain ⟨cd, hc, hd'⟩ := PySem.W.any_some hh
  have hx : s.heap.get? x = some ⟨.ref C, some dx, .plain, #[]⟩ := I.obj
  refine wpAny_bind (wpAny_pure (wpAny_bind (wpAny_bind (wpAny_loadPart hx (wpAny_bind (PySem.W.Looks.here (s := { s with toks := s.toks + 1 }) (PySem.W.looks_clsIn X hc) ?_))))))
  rw [hd']
  refine wpAny_pure (a := some dx) (wpAny_bind (wpAny_pure (wpAny_bind ?_)))
  refine wpAny_nsSet1 (s := { s with toks := s.toks + 1 }) I.ns fun h' hn2 hs2 => ?_
  obtain ⟨oD, esD, epD, hoD, hdD, hcD⟩ := hn2.count (PySem.Within.cons name v hw)
  refine wpAny_bind (wpAny_lookBehind hoD (by rw [hdD]; exact pastItsLine_dict (Nat.le_trans hcD (by rw [List.length_cons]; omega))) ?_)
  exact wpAny_pure (h _ ⟨(hs2.2 _ (Ne.symm I.ne)).trans I.obj, hn2, I.ne⟩ hs2)
theorem make_map {R : Result → Shared → Prop} {vs : List Value} {kw : List (Str × Value)} (X : K.In s.heap) (hm : PySem.W.makesIn K C = true)
    (hi : PySem.W.findIn K (.ref C) "__init__" = some (some (.ref f))) (hf : PySem.W.typeIn K (.ref f) = some (.type "function"))
    (h : codeAny (model prog w) (A.under (.builtin "type.__call__" ⟨.ref C :: vs, kw⟩)) (.call (.ref f) ⟨.ref (s.heap.objs.size + 1) :: vs, kw⟩) (PySem.W.InitBack (s.heap.objs.size + 1) R)
      { s with heap := (s.heap.push PySem.W.emptyDict).push (PySem.W.instObj C s.heap.objs.size) }) :
    codeAny (model prog w) A (.call (.ref C) ⟨vs, kw⟩) R s := by
  obtain ⟨hh, g, d, t, os⟩ := s
  exact PySem.W.make_core (PySem.W.makes_of X hm) (PySem.W.looks_findIn X hi) (fun self => PySem.W.bind_fn X self hf) (.inl rfl) h
end
def putF (f : Str) (v : V) : List (Str × V) → List (Str × V)
  | [] => [(f, v)]
  | (g, x) :: r => if g = f then (g, v) :: r else (g, x) :: putF f v r
theorem lookup_putF (f g : Str) (v : V) : ∀ fs : List (Str × V), (putF f v fs).lookup g = if g = f then some v else fs.lookup g
  | [] => by
    show List.lookup g [(f, v)] = _
    by_cases h : g = f
    · have hb : (g == f) = true := beq_iff_eq.mpr h
      simp only [List.lookup, hb, if_pos h]
    · have hb : (g == f) = false := beq_eq_false_iff_ne.mpr h
      simp only [List.lookup, hb, if_neg h]
  | (k, x) :: r => by
    have ih := lookup_putF f g v r
    rw [show putF f v ((k, x) :: r) = (if k = f then (k, v) :: r else (k, x) :: putF f v r) from rfl]
    by_cases hk : k = f
    · rw [if_pos hk]
      by_cases h : g = k
      · have hb : (g == k) = true := beq_iff_eq.mpr h
        simp only [List.lookup, hb, if_pos (h.trans hk)]
      · have hb : (g == k) = false := beq_eq_false_iff_ne.mpr h
        simp only [List.lookup, hb, if_neg (fun e : g = f => h (e.trans hk.symm))]
    · rw [if_neg hk]
      by_cases h : g = k
      · have hb : (g == k) = true := beq_iff_eq.mpr h
        simp only [List.lookup, hb, if_neg (fun e : g = f => hk (h.symm.trans e))]
      · have hb : (g == k) = false := beq_eq_false_iff_ne.mpr h
        simp only [List.lookup, hb]
        exact ih
theorem keys_putF (f : Str) (v : V) : ∀ fs : List (Str × V), f ∈ (putF f v fs).map (·.1) ∧ ∀ g, g ∈ fs.map (·.1) → g ∈ (putF f v fs).map (·.1)
  | [] => ⟨by simp [putF], fun g h => by simp at h⟩
  | (k, x) :: r => by
    obtain ⟨i1, i2⟩ := keys_putF f v r
    rw [show putF f v ((k, x) :: r) = (if k = f then (k, v) :: r else (k, x) :: putF f v r) from rfl]
    by_cases hk : k = f
    · rw [if_pos hk]
      subst hk
      exact ⟨by simp, fun g h => by simpa using h⟩
    · rw [if_neg hk]
      refine ⟨?_, fun g h => ?_⟩
      · rw [List.map_cons]
        exact List.mem_cons_of_mem _ i1
      · rw [List.map_cons] at h ⊢
        rcases List.mem_cons.mp h with e | e
        · exact List.mem_cons.mpr (.inl e)
        · exact List.mem_cons_of_mem _ (i2 g e)
theorem length_putF (f : Str) (v : V) : ∀ fs : List (Str × V), (putF f v fs).length ≤ fs.length + 1
  | [] => by simp [putF]
  | (k, x) :: r => by
    have ih := length_putF f v r
    rw [show putF f v ((k, x) :: r) = (if k = f then (k, v) :: r else (k, x) :: putF f v r) from rfl]
    by_cases hk : k = f
    · rw [if_pos hk, List.length_cons, List.length_cons]; omega
    · rw [if_neg hk, List.length_cons, List.length_cons]; omega
theorem RelO.some_of {v : V} {o : Option Value} (r : RelO (some v) o) : ∃ u, o = some u ∧ RelV v u := by
  cases o with
  | none => exact (show False from r).elim
  | some u => exact ⟨u, rfl, r⟩
theorem RelO.none_of {o : Option Value} (r : RelO none o) : o = none := by
  cases o with
  | none => rfl
  | some u => exact (show False from r).elim
theorem handed_of {v : V} {u : Value} (r : RelV v u) : PySem.W.handedIn u = true := by
  cases v with
  | non => cases (show u = Value.none from r); rfl
  | bl b => cases (show u = Value.bool b from r); rfl
  | int i => obtain ⟨t, e⟩ := (show ∃ t, u = Value.int i t from r); cases e; rfl
  | str x => obtain ⟨t, e⟩ := (show ∃ t, u = Value.str x t from r); cases e; rfl
  | byt b => obtain ⟨t, e⟩ := (show ∃ t, u = Value.bytes b t from r); cases e; rfl
  | flt b => obtain ⟨t, e⟩ := (show ∃ t, u = Value.float b t from r); cases e; rfl
  | ref a => cases (show u = Value.ref a from r); rfl
  | ty n => cases (show u = Value.type n from r); rfl
section
variable {P : Program} {w : World} {H H' : Hp} {h h' : Heap} {a C dx : Addr} {fs fs' : List (Str × V)}
theorem ins_get (hok : HOk P w H h) (e : H a = some (.ins C dx fs)) : ∃ mA, ObjM h a dx C mA ∧ (∀ f, RelO (fs.lookup f) (mA f)) ∧ PySem.Within mA (fs.map (·.1)) ∧ fs.length ≤ 1000 ∧ H dx = some (.own a) := by
  obtain ⟨d, z, ne, ob, mA, n, r, q⟩ := (show ObjOk P w H h a (.ins C dx fs) from hok a _ e)
  exact ⟨mA, ⟨ob, n, ne⟩, r, q, z, d⟩
end
structure Cls (K : PySem.W.Frag) (C : Addr) : Prop where
  pg : PySem.W.plainGet K C Str.empty = true
  hd : PySem.W.hasDictIn K C = true
  po : PySem.W.plainOver K C = true
  sa : PySem.W.findIn K (.ref C) "__setattr__" = some (some (.builtin "object.__setattr__"))
theorem Cls.get {K : PySem.W.Frag} {C : Addr} (c : Cls K C) (f : Str) : PySem.W.plainGet K C f = true := c.pg
def NoAttr (K : PySem.W.Frag) (C : Addr) (f : Str) : Prop := PySem.W.findIn K (.ref C) f = some none
theorem NoAttr.taker {K : PySem.W.Frag} {C : Addr} {f : Str} (n : NoAttr K C f) : PySem.W.takerIn K C f = some none := by
  unfold PySem.W.takerIn
  rw [show PySem.W.findIn K (.ref C) f = some none from n]
  rfl
structure Con (K : PySem.W.Frag) (C : Addr) (f : Str) (v : V) (u : Value) : Prop where
  at_ : PySem.W.findIn K (.ref C) f = some (some u)
  rel : RelV v u
  get : PySem.W.specialIn K u "__get__" = some none
  cp : PySem.W.copiedNames.contains f = false
structure Meth (K : PySem.W.Frag) (C : Addr) (m : Str) (f : Addr) : Prop where
  at_ : PySem.W.findIn K (.ref C) m = some (some (.ref f))
  fn : PySem.W.isFn K (.ref f) = true
  kp : PySem.W.keepIn K (.ref f) = true
section
variable {X : Cx} {pins : List (Addr × Obj)} {σ : St} {H : Hp} {s : Shared} {a C dx : Addr} {fs : List (Str × V)} {f : Str} {v : V} {A : Around} {E : Value → Shared → Prop}
theorem getattr_ok {b : Bool} {Q : Value → Shared → Prop} (I : Inv X pins σ H s) (e : H a = some (.ins C dx fs)) (c : Cls X.K C) (n : NoAttr X.K C f) (l : fs.lookup f = some v)
    (h : ∀ u s', Inv X pins σ H s' → RelV v u → Q u s') : wpAny (model X.prog X.w) A (getAttr (.ref a) f b) Q E s := by
  obtain ⟨mA, O, r, _, _, _⟩ := ins_get I.hok e
  obtain ⟨u, hu, ru⟩ := RelO.some_of (v := v) (o := mA f) (by rw [← l]; exact r f)
  exact get_map I.kIn O (c.get f) c.hd n hu (handed_of ru) (h u _ (I.tok _) ru)
theorem getmeth_ok {m : Str} {g : Addr} {pl : Sem Bool} {Q : Value × List Value → Shared → Prop} (I : Inv X pins σ H s) (e : H a = some (.ins C dx fs)) (c : Cls X.K C) (k : Meth X.K C m g) (l : fs.lookup m = none)
    (h : Q (.ref g, [.ref a]) s) : wpAny (model X.prog X.w) A (getMethod (.ref a) m pl) Q E s := by
  obtain ⟨mA, O, r, _, _, _⟩ := ins_get I.hok e
  have hn : mA m = none := RelO.none_of (by rw [← l]; exact r m)
  exact get_meth I.kIn O (c.get m) k.at_ k.fn hn h
theorem setattr_ok {y : V} {u : Value} {Q : Unit → Shared → Prop} (I : Inv X pins σ H s) (e : H a = some (.ins C dx fs)) (c : Cls X.K C) (n : NoAttr X.K C f) (hl : fs.length < 1000) (ry : RelV y u)
    (h : ∀ s', Inv X pins σ (upd H a (.ins C dx (putF f y fs))) s' → Q () s') : wpAny (model X.prog X.w) A (setAttr (.ref a) f u) Q E s := by
  obtain ⟨mA, O, r, wi, _, ho⟩ := ins_get I.hok e
  have hz : (fs.map (·.1)).length ≤ sizeLine := by rw [List.length_map, sizeLine_eq]; omega
  refine set_map I.kIn O c.sa c.po n.taker c.hd wi hz fun h' O' sb => h _ ?_
  have hd : ∃ o, h'.get? dx = some o := let ⟨o, _, _, e', _⟩ := O'.ns; ⟨o, e'⟩
  refine I.write (x := a) (e := dx) (by rw [e]; exact True.intro) (.inr ho) (fun b q hb z => (sb.2 b hb).trans z) hd ?_
  refine ⟨by rw [upd_ne O.ne]; exact ho, ?_, O.ne, O'.obj, _, O'.ns, fun g => ?_, fun g hg => ?_⟩
  · have := length_putF f y fs; omega
  · show RelO ((putF f y fs).lookup g) (if g = f then some u else mA g)
    rw [lookup_putF]
    by_cases q : g = f
    · rw [if_pos q, if_pos q]; exact ry
    · rw [if_neg q, if_neg q]; exact r g
  · by_cases q : g = f
    · rw [q]; exact (keys_putF f y fs).1
    · refine (keys_putF f y fs).2 g (wi g fun z => hg ?_)
      show (if g = f then some u else mA g) = none
      rw [if_neg q]; exact z
theorem Inv.made (I : Inv X pins σ H s) : Inv X pins σ (upd (upd H s.heap.objs.size (.own (s.heap.objs.size + 1))) (s.heap.objs.size + 1) (.ins C s.heap.objs.size []))
    { s with heap := (s.heap.push PySem.W.emptyDict).push (PySem.W.instObj C s.heap.objs.size) } := by
  have e1 : (s.heap.push PySem.W.emptyDict).get? s.heap.objs.size = some PySem.W.emptyDict := Heap.get?_push_size s.heap rfl
  have e2 : ((s.heap.push PySem.W.emptyDict).push (PySem.W.instObj C s.heap.objs.size)).get? (s.heap.objs.size + 1) = some (PySem.W.instObj C s.heap.objs.size) := by
    have := Heap.get?_push_size (s.heap.push PySem.W.emptyDict) (o := PySem.W.instObj C s.heap.objs.size) rfl
    rwa [Heap.size_push] at this
  have e3 : (s.heap.push PySem.W.emptyDict).Ns s.heap.objs.size (fun _ => none) := ⟨PySem.W.emptyDict, #[], _, e1, rfl, (fun e he => absurd he (by simp)), fun _ => rfl⟩
  have I1 := I.laid (a := s.heap.objs.size) (o := .own (s.heap.objs.size + 1)) (h' := s.heap.push PySem.W.emptyDict) (t' := s.toks) (fun b u q => Heap.get?_push_of_some _ q) (Nat.le_refl _) ⟨_, e1⟩
  refine I1.laid (a := s.heap.objs.size + 1) (o := .ins C s.heap.objs.size []) (t' := s.toks) (fun b u q => Heap.get?_push_of_some _ q) (Nat.le_of_eq (Heap.size_push _ _)) ?_
  have ne : s.heap.objs.size ≠ s.heap.objs.size + 1 := Nat.ne_of_lt (Nat.lt_succ_self _)
  refine ⟨by rw [upd_ne ne, upd_same], Nat.zero_le _, ne, e2, fun _ => none, (Heap.Ns1.of_empty e3).at fun o q => Heap.get?_push_of_some _ q, fun _ => True.intro, fun y hy => absurd rfl hy⟩
theorem attr_of {prog : Program} {w : World} {env : Env} {e : Expr} {f : Str} {pos : Pos} {s : Shared} {Q : Value → Shared → Prop} (hb : attributeBase e f env (eval e env) = eval e env)
    (h : wpAny (model prog w) A (eval e env) (fun o s₁ => wpAny (model prog w) A (getAttr o f true) Q E s₁) E s) : wpAny (model prog w) A (eval (.Attribute e f pos) env) Q E s :=
  Attribute_any_ h (by rw [arm_eval_Attribute, hb])
end
def tFld (K : PySem.W.Frag) (ta : TE) (f : Str) : TE := fun σ H Q => ta σ H fun x H1 => ∃ a C dx fs v, x = .ref a ∧ H1 a = some (.ins C dx fs) ∧ Cls K C ∧ NoAttr K C f ∧ fs.lookup f = some v ∧ Q v H1
def sFld (K : PySem.W.Frag) (ta tv : TE) (f : Str) : TS := fun D σ H => tv σ H fun y H1 => ta σ H1 fun x H2 => ∃ a C dx fs, x = .ref a ∧ H2 a = some (.ins C dx fs) ∧ Cls K C ∧ NoAttr K C f ∧ fs.length < 1000 ∧
  D.nx σ (upd H2 a (.ins C dx (putF f y fs)))
section
variable {X : Cx} {o e value : Expr} {f : Str} {pos pos' tpos : Pos} {ta tv : TE}
theorem pe_fld (he : PE X e ta) (hb : attributeBase e f X.env (eval e X.env) = eval e X.env) : PE X (.Attribute e f pos) (tFld X.K ta f) := by
  intro pins s σ H Q I h
  refine attr_of hb (thn (he pins s σ H _ I h) fun u s1 ⟨x, H1, I1, rx, a, C, dx, fs, v, ex, ea, c, n, l, q⟩ => ?_)
  subst ex
  obtain rfl : u = Value.ref a := rx
  exact getattr_ok I1 ea c n l fun u' s2 I2 ru => ⟨v, H1, I2, ru, q⟩
theorem ps_fld (ha : PE X o ta) (hv : PE X value tv) (hs : swapsWith value (some (.Attribute o f pos')) pos.line X.env = pure false) : PS X (.Assign [.Attribute o f pos'] value pos) (sFld X.K ta tv f) := by
  intro pins s σ H D I h
  refine plainObj_wpAny_Assign_Attribute (thn (hv pins s σ H _ I h) fun u s1 ⟨y, H1, I1, ry, q⟩ => thn (ha pins s1 σ H1 _ I1 q) fun ov s2 ⟨x, H2, I2, rx, a, C, dx, fs, ex, ea, c, n, l, q2⟩ => ?_) hs
  subst ex
  obtain rfl : ov = Value.ref a := rx
  exact setattr_ok I2 ea c n l ry fun s3 I3 => ⟨σ, _, I3, q2⟩
end
section
variable {X : Cx} {pins : List (Addr × Obj)} {σ : St} {H : Hp} {s : Shared} {A : Around} {E : Value → Shared → Prop} {Q : Value → Shared → Prop} {c : Value} {b : Bool}
inductive TyOf (K : PySem.W.Frag) (H : Hp) : V → Value → Prop where
  | non : TyOf K H .non (.type "NoneType")
  | bl (x : Bool) : TyOf K H (.bl x) (.type "bool")
  | int (i : Int) : TyOf K H (.int i) (.type "int")
  | str (x : Str) : TyOf K H (.str x) (.type "str")
  | flt (x : UInt64) : TyOf K H (.flt x) (.type "float")
  | lst {a : Addr} {xs : List V} (e : H a = some (.lst xs)) : TyOf K H (.ref a) (.type "list")
  | frz {a : Addr} {o : Obj} {xs : List V} (e : H a = some (.frz o (.lst xs))) : TyOf K H (.ref a) (.type "list")
  | tup {a : Addr} {xs : List V} (e : H a = some (.tup xs)) : TyOf K H (.ref a) (.type "tuple")
  | dK {a : Addr} {kvs : List (Key × V)} (e : H a = some (.dK kvs)) : TyOf K H (.ref a) (.type "dict")
  | dT {a : Addr} {kvs : List (List Key × V)} (e : H a = some (.dT kvs)) : TyOf K H (.ref a) (.type "dict")
  | ins {a C dx : Addr} {fs : List (Str × V)} (e : H a = some (.ins C dx fs)) (cl : Cls K C) (ha : PySem.W.findIn K (.ref C) "__class__" = some (some (.builtin "object.__class__")))
      (hn : PySem.W.specialIn K (.builtin "object.__class__") "__get__" = some (some (.builtin "getset_descriptor.__get__"))) (htk : PySem.W.takesIn K (.builtin "object.__class__") = some true)
      (hm : PySem.W.mroIn K C (.type "object") = some true) : TyOf K H (.ref a) (.ref C)
theorem isinst_ok {x : V} {u t : Value} (I : Inv X pins σ H s) (rx : RelV x u) (ty : TyOf X.K H x t) (e : PySem.W.kitOne X.K t c = some b) (h : ∀ tk, Q (.bool b) { s with toks := tk }) :
    wpAny (model X.prog X.w) A (call (.builtin "isinstance") [u, c]) Q E s := by
  cases ty with
  | non => cases (show u = Value.none from rx); exact PySem.W.kia_one PySem.W.kitx_none I.kIn True.intro e (fun z => nomatch z) h
  | bl y => cases (show u = Value.bool y from rx); exact PySem.W.kia_one PySem.W.kitx_bool I.kIn True.intro e (fun z => nomatch z) h
  | int i => obtain ⟨t, q⟩ := (show ∃ t, u = Value.int i t from rx); cases q; exact PySem.W.kia_one PySem.W.kitx_int I.kIn True.intro e (fun z => nomatch z) h
  | str y => obtain ⟨t, q⟩ := (show ∃ t, u = Value.str y t from rx); cases q; exact PySem.W.kia_one PySem.W.kitx_str I.kIn True.intro e (fun z => nomatch z) h
  | flt y => obtain ⟨t, q⟩ := (show ∃ t, u = Value.float y t from rx); cases q; exact PySem.W.kia_one PySem.W.kitx_float I.kIn True.intro e (fun z => nomatch z) h
  | @lst a xs ea =>
    cases (show u = Value.ref a from rx)
    obtain ⟨_, _, n, _, h1⟩ := (show ObjOk X.prog X.w H s.heap a (.lst xs) from I.hok a _ ea)
    exact PySem.W.kia_one PySem.W.kitx_list I.kIn ⟨_, h1, rfl⟩ e (fun z => nomatch z) h
  | @frz a ob xs ea =>
    cases (show u = Value.ref a from rx)
    obtain ⟨_, _, _, n, _, h1⟩ := (show ObjOk X.prog X.w H s.heap a (.frz ob (.lst xs)) from I.hok a _ ea)
    exact PySem.W.kia_one PySem.W.kitx_list I.kIn ⟨_, h1, rfl⟩ e (fun z => nomatch z) h
  | @tup a xs ea =>
    cases (show u = Value.ref a from rx)
    obtain ⟨_, _, _, p⟩ := (show ObjOk X.prog X.w H s.heap a (.tup xs) from I.hok a _ ea)
    obtain ⟨o, h1, h2, _⟩ := p
    exact PySem.W.kia_one PySem.W.kitx_tuple I.kIn ⟨o, h1, h2⟩ e (fun z => nomatch z) h
  | @dK a kvs ea =>
    cases (show u = Value.ref a from rx)
    obtain ⟨_, _, vs, _, p⟩ := (show ObjOk X.prog X.w H s.heap a (.dK kvs) from I.hok a _ ea)
    obtain ⟨o, es, ep, h1, h2, _⟩ := p
    exact PySem.W.kia_one PySem.W.kitx_dict I.kIn ⟨o, h1, h2.1⟩ e (fun z => nomatch z) h
  | @dT a kvs ea =>
    cases (show u = Value.ref a from rx)
    obtain ⟨_, _, xs, _, o, es, ep, h1, h2, _⟩ := (show ObjOk X.prog X.w H s.heap a (.dT kvs) from I.hok a _ ea)
    exact PySem.W.kia_one PySem.W.kitx_dict I.kIn ⟨o, h1, h2.1⟩ e (fun z => nomatch z) h
  | @ins a C dx fs ea cl ha hn htk hm =>
    cases (show u = Value.ref a from rx)
    obtain ⟨mA, O, _⟩ := ins_get I.hok ea
    obtain ⟨od, J, _⟩ := O.look
    exact PySem.W.kia_one (PySem.W.kitx_own (cl.get _) cl.hd ha hn htk hm) I.kIn J e (fun z => nomatch z) h
end
end L2
namespace L2
open PySem PySem.Spec PyProof.Rows
structure Room (k : Nat) (A : Around) : Prop where
  hd : A.handled = none
  dp : A.depth + 3 * k + 5 < recursionLimit
  un : A.units + 16 * k + 200 < cLine
theorem Room.mono {j k : Nat} {A : Around} (r : Room k A) (h : j ≤ k) : Room j A := ⟨r.hd, by have := r.dp; omega, by have := r.un; omega⟩
theorem Room.deeper {k : Nat} {A : Around} (r : Room (k + 1) A) (env : Env) : Room k (A.deeper env) :=
  ⟨r.hd, by have := r.dp; show A.depth + 1 + 3 * k + 5 < _; omega, by have := r.un; show A.units + 3 + 16 * k + 200 < _; omega⟩
theorem Room.in1 {k : Nat} {A : Around} (r : Room (k + 1) A) : Room k A.in1 :=
  ⟨r.hd, by have := r.dp; show A.depth + 3 * k + 5 < _; omega, by have := r.un; show A.units + 1 + 16 * k + 200 < _; omega⟩
theorem make_depth {A : Around} {C : Addr} {us : List Value} {kw : List (Str × Value)} : (A.under (.builtin "type.__call__" ⟨.ref C :: us, kw⟩)).depth = A.depth + 1 := by
  first | rfl | simp [Around.under, Code.weight, Code.isCreation, Code.isGuard, Code.isCaller, Code.frames, Code.isFrame, guardIds]
theorem make_units {A : Around} {C : Addr} {us : List Value} {kw : List (Str × Value)} : (A.under (.builtin "type.__call__" ⟨.ref C :: us, kw⟩)).units = A.units + 1 := by
  first | rfl | simp [Around.under, Code.cUnits, Code.frames, Code.isFrame]
theorem Room.make {k : Nat} {A : Around} (r : Room (k + 1) A) (C : Addr) (us : List Value) (kw : List (Str × Value)) : Room k (A.under (.builtin "type.__call__" ⟨.ref C :: us, kw⟩)) :=
  ⟨r.hd, by have := r.dp; rw [make_depth]; omega, by have := r.un; rw [make_units]; omega⟩
theorem Room.depth {k : Nat} {A : Around} (r : Room k A) : A.depth < recursionLimit := by have := r.dp; omega
theorem Room.units {k : Nat} {A : Around} (r : Room k A) : A.units + 64 < cLine := by have := r.un; omega
def tNil : TA := fun _ H Q => Q [] H
def tCons (ta : TE) (tr : TA) : TA := fun σ H Q => ta σ H fun x H1 => tr σ H1 fun xs H2 => Q (x :: xs) H2
section
variable {X : Cx} {e : Expr} {es : List Expr} {te : TE} {t : TA} {pos : Pos}
theorem pa_nil : PA X [] tNil := fun _ _ _ _ H Q I h => Calls.spliced_nil ⟨[], H, I, .nil, h⟩
theorem pa_cons (ha : PE X e te) (hr : PA X es t) (hs : starEach (e :: es) X.env = (false, eval e X.env) :: starEach es X.env := by rfl) : PA X (e :: es) (tCons te t) := by
  intro pos pins s σ H Q I h
  rw [hs]
  show wpAny _ _ (spliced ((false, eval e X.env) :: backTo pos (starEach es X.env))) _ _ s
  refine Calls.spliced_cons (thn (ha pins s σ H _ I h) fun u s1 ⟨x, H1, I1, r1, q1⟩ => ?_)
  exact thn (hr pos pins s1 σ H1 _ I1 q1) fun us s2 ⟨xs, H2, I2, r2, q2⟩ => ⟨x :: xs, H2, I2, .cons r1 r2, q2⟩
def tTup (t : TA) : TE := fun σ H Q => t σ H fun xs H1 => xs.length ≤ sizeLine ∧ ∀ p, H1 p = none → Q (.ref p) (upd H1 p (.tup xs))
def tLst (t : TA) : TE := fun σ H Q => t σ H fun xs H1 => xs.length ≤ sizeLine ∧ ∀ p, H1 p = none → Q (.ref p) (upd H1 p (.lst xs))
theorem pe_tup {x1} (h : PA X es t) : PE X (.Tuple es x1 pos) (tTup t) := by
  intro pins s σ H Q I hq
  refine wpAny_Tuple_spliced (thn (h pos pins s σ H _ I hq) fun us s1 ⟨xs, H1, I1, r, z, q⟩ => ⟨by rw [← r.length]; exact z, ?_⟩)
  have hf : H1 s1.heap.objs.size = none := I1.hok.fresh (Nat.le_refl _)
  refine ⟨.ref s1.heap.objs.size, upd H1 s1.heap.objs.size (.tup xs), I1.laid (t' := s1.toks) (fun b u e => Heap.get?_push_of_some _ e) (Nat.le_refl _) ?_, rfl, q _ hf⟩
  exact ⟨z, us, r, ⟨_, Heap.get?_push_size _ rfl, rfl, _, rfl⟩⟩
theorem pe_lst (h : PA X es t) : PE X (.List es pos) (tLst t) := by
  intro pins s σ H Q I hq
  refine wpAny_List_spliced (thn (h pos pins s σ H _ I hq) fun us s1 ⟨xs, H1, I1, r, z, q⟩ => ⟨by rw [← r.length]; exact z, ?_⟩)
  have hf : H1 s1.heap.objs.size = none := I1.hok.fresh (Nat.le_refl _)
  refine ⟨.ref s1.heap.objs.size, upd H1 s1.heap.objs.size (.lst xs), I1.laid (t' := s1.toks) (fun b u e => Heap.get?_push_of_some _ e) (Nat.le_refl _) ?_, rfl, q _ hf⟩
  exact ⟨z, us, 0, r, Heap.get?_push_size _ rfl⟩
end
abbrev Sp := List V → Hp → VK → XK → Prop
abbrev CXT := List Env → Hp → Shared → XK → Value → Shared → Prop
structure Env0 (P : Program) (w : World) (K : PySem.W.Frag) (mg : Str → Option Value) (base : Heap) (A : Around) (outer : List Env) (s : Shared) (H : Hp) : Prop where
  frames : A.frames = some outer
  mod : Mod K mg base
  bs : ∀ b o, base.get? b = some o → s.heap.get? b = some o ∧ H b = none
  bsz : base.objs.size ≤ s.heap.objs.size
  funs : s.heap.FunFrames base outer
  frf : ∀ b ∈ frs outer, H b = none
  hok : HOk P w H s.heap
  bare : AllBare s.gens
def CE (outer : List Env) (P : Program) (w : World) (H : Hp) (s : Shared) (Q : VK) (u : Value) (s' : Shared) : Prop :=
  ∃ v H', s'.os = s.os ∧ AllBare s'.gens ∧ Un (frs outer) [] H H' s.heap s'.heap ∧ HOk P w H' s'.heap ∧ RelV v u ∧ Q v H'
def CR (CX : CXT) (outer : List Env) (P : Program) (w : World) (H : Hp) (s : Shared) (Q : VK) (E : XK) (r : Result) (s' : Shared) : Prop :=
  match r with
  | .ok (.ret u) => CE outer P w H s Q u s'
  | .ok _ => False
  | .error e => CX outer H s E e s'
structure FnOk (P : Program) (w : World) (K : PySem.W.Frag) (mg : Str → Option Value) (base : Heap) (CX : CXT) (k : Nat) (f : Addr) (fd : FuncData) (ps : List Str) (sp : Sp) : Prop where
  len : ∀ vs H Q E, sp vs H Q E → vs.length = ps.length
  run : ∀ (A : Around) (outer : List Env) (s : Shared) (H : Hp) (args : Args) (us : List Value) (vs : List V) (Q : VK) (E : XK), Room k A → Env0 P w K mg base A outer s H → BindsTo s fd args (ps.zip us) → Vals vs us → sp vs H Q E →
    codeAny (model P w) A (.call (.ref f) args) (CR CX outer P w H s Q E) s
theorem FnOk.mono {P : Program} {w : World} {K : PySem.W.Frag} {mg : Str → Option Value} {base : Heap} {CX : CXT} {j k : Nat} {f : Addr} {fd : FuncData} {ps : List Str} {sp : Sp} (F : FnOk P w K mg base CX j f fd ps sp) (h : j ≤ k) :
    FnOk P w K mg base CX k f fd ps sp := ⟨F.len, fun A outer s H args us vs Q E hr => F.run A outer s H args us vs Q E (hr.mono h)⟩
theorem FnOk.imp {P : Program} {w : World} {K : PySem.W.Frag} {mg : Str → Option Value} {base : Heap} {CX : CXT} {k : Nat} {f : Addr} {fd : FuncData} {ps : List Str} {sp sp' : Sp} (F : FnOk P w K mg base CX k f fd ps sp)
    (h : ∀ vs H Q E, sp' vs H Q E → sp vs H Q E) : FnOk P w K mg base CX k f fd ps sp' :=
  ⟨fun vs H Q E q => F.len vs H Q E (h _ _ _ _ q), fun A outer s H args us vs Q E hr he hb hv hs => F.run A outer s H args us vs Q E hr he hb hv (h _ _ _ _ hs)⟩
theorem Env0.make {P : Program} {w : World} {K : PySem.W.Frag} {mg : Str → Option Value} {base : Heap} {A : Around} {outer : List Env} {s : Shared} {H : Hp} (e : Env0 P w K mg base A outer s H) (C : Addr) (us : List Value) (kw : List (Str × Value)) :
    Env0 P w K mg base (A.under (.builtin "type.__call__" ⟨.ref C :: us, kw⟩)) outer s H := ⟨by first | exact e.frames | (simpa [Around.under, Code.envs, Code.isFrame, pushEnvs] using e.frames), e.mod, e.bs, e.bsz, e.funs, e.frf, e.hok, e.bare⟩
theorem Env0.in1 {P : Program} {w : World} {K : PySem.W.Frag} {mg : Str → Option Value} {base : Heap} {A : Around} {outer : List Env} {s : Shared} {H : Hp} (e : Env0 P w K mg base A outer s H) :
    Env0 P w K mg base A.in1 outer s H := ⟨e.frames, e.mod, e.bs, e.bsz, e.funs, e.frf, e.hok, e.bare⟩
section
variable {X : Cx} {pins : List (Addr × Obj)} {σ : St} {H : Hp} {s s' : Shared}
theorem Inv.env0 (I : Inv X pins σ H s) : Env0 X.prog X.w X.K X.mg X.base X.A X.stack s H :=
  ⟨I.ok.frames, I.ok.mod, I.bs, Nat.le_trans I.ok.bsz I.sz, I.stack, I.stkFree, I.hok, I.bare⟩
theorem Inv.after {Q : VK} {u : Value} (I : Inv X pins σ H s) (h : CE X.stack X.prog X.w H s Q u s') : EP X pins σ Q u s' := by
  obtain ⟨v, H', os, bare, un, hok, r, q⟩ := h
  obtain ⟨hh, g, d, t, os'⟩ := s'
  obtain rfl : os' = s.os := os
  exact ⟨v, H', I.call (h' := hh) (g' := g) (d' := d) (t' := t) (ch := []) un hok bare (fun b z => absurd z (by simp)), r, q⟩
end
def tCall (sp : Sp) (dvs : List V) (E : XK) (t : TA) : TE := fun σ H Q => t σ H fun vs H1 => sp (vs ++ dvs) H1 Q E
def tMeth (C : Addr) (m : Str) (sp : Sp) (dvs : List V) (E : XK) (ta : TE) (t : TA) : TE := fun σ H Q => ta σ H fun x H1 => ∃ a dx fs, x = .ref a ∧ H1 a = some (.ins C dx fs) ∧ fs.lookup m = none ∧
  t σ H1 fun vs H2 => sp (x :: (vs ++ dvs)) H2 Q E
def tMake (C : Addr) (sp : Sp) (dvs : List V) (E : XK) (t : TA) : TE := fun σ H Q => t σ H fun vs H1 => ∀ x dx, H1 x = none → H1 dx = none → dx ≠ x →
  sp (.ref x :: (vs ++ dvs)) (upd (upd H1 dx (.own x)) x (.ins C dx [])) (fun v H2 => v = .non ∧ Q (.ref x) H2) E
def Binds (K : PySem.W.Frag) (fd : FuncData) (ps : List Str) (ds : List Value) : Prop :=
  ∀ (s : Shared) (us : List Value), K.In s.heap → (us ++ ds).length = ps.length → BindsTo s fd ⟨us, []⟩ (ps.zip (us ++ ds))
theorem Binds.all {K : PySem.W.Frag} {fd : FuncData} {ps : List Str} (h : ∀ us : List Value, us.length = ps.length → bindArgs fd ⟨us, []⟩ = pure (ps.zip us)) : Binds K fd ps [] := fun s us _ hl => by
  rw [List.append_nil] at hl ⊢
  exact .of_eq (h us hl)
def Passes (CX : CXT) (X : Cx) (E : XK) : Prop := ∀ (pins : List (Addr × Obj)) (σ : St) (H : Hp) (s : Shared) (e : Value) (s' : Shared), Inv X pins σ H s → CX X.stack H s E e s' → X.xe e s'
section
variable {X : Cx} {CX : CXT} {k : Nat} {f C : Addr} {fd : FuncData} {ps : List Str} {sp : Sp} {dvs : List V} {ds : List Value} {E : XK} {x m : Str} {p pos apos : Pos} {e o : Expr} {es : List Expr} {ta : TE} {t : TA}
theorem run_fn {pins : List (Addr × Obj)} {σ : St} {H : Hp} {s : Shared} {Q : VK} {us : List Value} {vs : List V} (F : FnOk X.prog X.w X.K X.mg X.base CX k f fd ps sp) (hr : Room k X.A) (hb : Binds X.K fd ps ds) (hd : Vals dvs ds) (hx : Passes CX X E)
    (I : Inv X pins σ H s) (r : Vals vs us) (h : sp (vs ++ dvs) H Q E) : wpAny (model X.prog X.w) X.A (call (.ref f) us) (EP X pins σ Q) X.xe s := by
  have r2 : Vals (vs ++ dvs) (us ++ ds) := r.append hd
  have hl : (us ++ ds).length = ps.length := by rw [← r2.length]; exact F.len _ _ _ _ h
  refine wpAny_call (codeAny_mono (F.run X.A X.stack s H ⟨us, []⟩ (us ++ ds) (vs ++ dvs) Q E hr I.env0 (hb s us I.kIn hl) r2 h) fun r s' hq => ?_)
  cases r with
  | error e => exact hx pins σ H s e s' I hq
  | ok fl =>
    cases fl with
    | ret u => exact I.after hq
    | next => exact False.elim hq
    | brk => exact False.elim hq
    | cont => exact False.elim hq
theorem pe_call (F : FnOk X.prog X.w X.K X.mg X.base CX k f fd ps sp) (hr : Room k X.A) (hg : Gl X x) (hm : X.mg x = some (.ref f)) (hk : PySem.W.keepIn X.K (.ref f) = true) (hb : Binds X.K fd ps ds) (hd : Vals dvs ds) (hx : Passes CX X E)
    (ha : PA X (e :: es) t) (hdb : (x == ("__debug__" : Str)) = false := by decide) (he : starEach (e :: es) X.env = (false, eval e X.env) :: starEach es X.env := by rfl) (hpl : (backTo pos (starEach es X.env)).any (·.1) = false := by rfl) :
    PE X (.Call (.Name x p) (e :: es) [] pos) (tCall sp dvs E t) := by
  intro pins s σ H Q I h
  refine wpAny_Call_Name_kw (ld_glob I hg hm ?_ hdb)
  refine PySem.W.callWith_K (h₀ := X.base) I.ok.mod.kin hk (thn (ha pos pins s σ H _ I h) fun us s1 ⟨vs, H1, I1, r, q⟩ => ⟨I1.kIn, ?_⟩) he hpl
  exact run_fn F hr hb hd hx I1 r q
theorem pe_meth0 {pl : Sem Bool} (he : PE X o ta) (c : Cls X.K C) (hm : Meth X.K C m f) (F : FnOk X.prog X.w X.K X.mg X.base CX k f fd ps sp) (hr : Room k X.A) (hb : Binds X.K fd ps ds) (hd : Vals dvs ds) (hx : Passes CX X E)
    (ht : eval (.Call (.Attribute o m apos) [] [] pos) X.env = (do
      let ov ← eval o X.env
      standAt apos.atName
      let (f, first) ← holding [ov] (getMethod ov m pl)
      callWith pos f first (backTo pos (starEach [] X.env)) (backToKw pos (keywordEach [] X.env))) := by rfl) :
    PE X (.Call (.Attribute o m apos) [] [] pos) (tMeth C m sp dvs E ta tNil) := by
  intro pins s σ H Q I h
  refine PySem.W.methodCall_KW (pl := pl) (thn (he pins s σ H _ I h) fun u s1 ⟨x, H1, I1, rx, a, dx, fs, ex, ea, l, q⟩ => ?_) ht
  subst ex
  obtain rfl : u = Value.ref a := rx
  refine getmeth_ok I1 ea c hm l ?_
  exact PySem.W.callWith_K0 (first := [.ref a]) I1.kIn hm.kp (run_fn (us := [.ref a]) (vs := [.ref a]) F hr hb hd hx I1 (.cons rfl .nil) q)
structure Mk (K : PySem.W.Frag) (C f : Addr) : Prop where
  makes : PySem.W.makesIn K C = true
  init : PySem.W.findIn K (.ref C) "__init__" = some (some (.ref f))
  fn : PySem.W.isFn K (.ref f) = true
  kp : PySem.W.keepIn K (.ref C) = true
theorem run_make {pins : List (Addr × Obj)} {σ : St} {H : Hp} {s : Shared} {Q : VK} {us : List Value} {vs : List V} (M : Mk X.K C f) (F : FnOk X.prog X.w X.K X.mg X.base CX k f fd ps sp) (hr : Room (k + 1) X.A) (hb : Binds X.K fd ps ds) (hd : Vals dvs ds)
    (hx : Passes CX X E) (I : Inv X pins σ H s) (r : Vals vs us)
    (h : ∀ x dx, H x = none → H dx = none → dx ≠ x → sp (.ref x :: (vs ++ dvs)) (upd (upd H dx (.own x)) x (.ins C dx [])) (fun v H2 => v = .non ∧ Q (.ref x) H2) E) :
    wpAny (model X.prog X.w) X.A (call (.ref C) us) (EP X pins σ Q) X.xe s := by
  have hq := h (s.heap.objs.size + 1) s.heap.objs.size (I.hok.fresh (Nat.le_succ _)) (I.hok.fresh (Nat.le_refl _)) (Nat.ne_of_lt (Nat.lt_succ_self _))
  have I2 := Inv.made (C := C) I
  have r2 : Vals (V.ref (s.heap.objs.size + 1) :: (vs ++ dvs)) (Value.ref (s.heap.objs.size + 1) :: (us ++ ds)) := .cons rfl (r.append hd)
  have hl : (Value.ref (s.heap.objs.size + 1) :: us ++ ds).length = ps.length := by
    have e := r2.length
    rw [F.len _ _ _ _ hq] at e
    exact e.symm
  refine wpAny_call (make_map (f := f) I.kIn M.makes M.init (beq_iff_eq.mp M.fn) (codeAny_mono (F.run _ X.stack _ _ ⟨Value.ref (s.heap.objs.size + 1) :: us, []⟩ (Value.ref (s.heap.objs.size + 1) :: (us ++ ds)) _ _ E (hr.make C us [])
    (I2.env0.make C us []) (hb _ (Value.ref (s.heap.objs.size + 1) :: us) I2.kIn hl) r2 hq) fun r s' hq' => ?_))
  cases r with
  | error e => exact hx pins σ _ _ e s' I2 hq'
  | ok fl =>
    cases fl with
    | ret u =>
      obtain ⟨v, H', I3, rv, ev, q3⟩ := I2.after hq'
      subst ev
      exact ⟨rv, ⟨V.ref (s.heap.objs.size + 1), H', I3, rfl, q3⟩⟩
    | next => exact False.elim hq'
    | brk => exact False.elim hq'
    | cont => exact False.elim hq'
theorem pe_make (M : Mk X.K C f) (F : FnOk X.prog X.w X.K X.mg X.base CX k f fd ps sp) (hr : Room (k + 1) X.A) (hg : Gl X x) (hm : X.mg x = some (.ref C)) (hb : Binds X.K fd ps ds) (hd : Vals dvs ds) (hx : Passes CX X E)
    (ha : PA X (e :: es) t) (hdb : (x == ("__debug__" : Str)) = false := by decide) (he : starEach (e :: es) X.env = (false, eval e X.env) :: starEach es X.env := by rfl) (hpl : (backTo pos (starEach es X.env)).any (·.1) = false := by rfl) :
    PE X (.Call (.Name x p) (e :: es) [] pos) (tMake C sp dvs E t) := by
  intro pins s σ H Q I h
  refine wpAny_Call_Name_kw (ld_glob I hg hm ?_ hdb)
  refine PySem.W.callWith_K (h₀ := X.base) I.ok.mod.kin M.kp (thn (ha pos pins s σ H _ I h) fun us s1 ⟨vs, H1, I1, r, q⟩ => ⟨I1.kIn, ?_⟩) he hpl
  exact run_make M F hr hb hd hx I1 r q
end
section
variable {X : Cx} {CX : CXT} {k : Nat} {f C : Addr} {fd : FuncData} {ps ks : List Str} {sp : Sp} {E : XK} {x m : Str} {p pos apos kpos : Pos} {e o : Expr} {es : List Expr} {kws : List Keyword} {te ta : TE} {t tk : TA} {nm : Option Str}
structure KBinds (K : PySem.W.Frag) (fd : FuncData) (ps ks : List Str) (g : List Value → List Value → List Value) (gV : List V → List V → List V) : Prop where
  to : ∀ (s : Shared) (us ws : List Value), K.In s.heap → (g us ws).length = ps.length → BindsTo s fd ⟨us, ks.zip ws⟩ (ps.zip (g us ws))
  rel : ∀ {vs : List V} {us : List Value} {zs : List V} {ws : List Value}, Vals vs us → Vals zs ws → Vals (gV vs zs) (g us ws)
variable {g : List Value → List Value → List Value} {gV : List V → List V → List V}
end
structure FnScope (N P : List Str) (sc : Scope) : Prop where
  kind : sc.kind = .function
  co : sc.isCoroutine = false
  gen : sc.isGenerator = false
  nd : N.Nodup
  pre : N.take P.length = P
  par : ∀ x ∈ P, sc.names.lookup x = some .local ∨ sc.names.lookup x = some .cell
  nofree : ∀ y ∈ sc.names, y.2 ≠ .free
theorem bindL_out {kindOf : Str → Option NameKind} {x : Str} : ∀ {binds : List (Str × Value)} {m : Str → Option Value}, (∀ v, (x, v) ∉ binds) → bindL kindOf binds m x = m x
  | [], _, _ => rfl
  | (n, v) :: r, m, h => by
    unfold bindL
    rw [bindL_out fun w hw => h w (List.mem_cons_of_mem _ hw)]
    split
    · have : x ≠ n := by rintro rfl; exact h v List.mem_cons_self
      simp [this]
    · rfl
theorem bindC_out {kindOf : Str → Option NameKind} {x : Str} : ∀ {binds : List (Str × Value)} {m : Str → Option Value}, (∀ v, (x, v) ∉ binds) → bindC kindOf binds m x = m x
  | [], _, _ => rfl
  | (n, v) :: r, m, h => by
    unfold bindC
    rw [bindC_out fun w hw => h w (List.mem_cons_of_mem _ hw)]
    split
    · rfl
    · have : x ≠ n := by rintro rfl; exact h v List.mem_cons_self
      simp [this]
theorem bindL_get {kindOf : Str → Option NameKind} {x : Str} {v : Value} : ∀ {P : List Str} {vs : List Value} {i : Nat} {m : Str → Option Value}, P.Nodup → P[i]? = some x → vs[i]? = some v → kindOf x = some .local →
    bindL kindOf (P.zip vs) m x = some v
  | [], _, _, _, _, h, _, _ => by simp at h
  | _ :: _, [], _, _, _, _, h, _ => by simp at h
  | p :: P, w :: vs, 0, m, nd, h1, h2, hk => by
    simp at h1 h2; subst h1; subst h2
    show bindL kindOf ((p, w) :: P.zip vs) m p = _
    unfold bindL
    rw [bindL_out fun v hv => (List.nodup_cons.mp nd).1 (List.of_mem_zip hv).1, if_pos hk]
    simp
  | p :: P, w :: vs, i + 1, m, nd, h1, h2, hk => by
    show bindL kindOf ((p, w) :: P.zip vs) m x = _
    unfold bindL
    exact bindL_get (i := i) (List.nodup_cons.mp nd).2 (by simpa using h1) (by simpa using h2) hk
theorem bindC_get {kindOf : Str → Option NameKind} {x : Str} {v : Value} : ∀ {P : List Str} {vs : List Value} {i : Nat} {m : Str → Option Value}, P.Nodup → P[i]? = some x → vs[i]? = some v → kindOf x ≠ some .local →
    bindC kindOf (P.zip vs) m x = some v
  | [], _, _, _, _, h, _, _ => by simp at h
  | _ :: _, [], _, _, _, _, h, _ => by simp at h
  | p :: P, w :: vs, 0, m, nd, h1, h2, hk => by
    simp at h1 h2; subst h1; subst h2
    show bindC kindOf ((p, w) :: P.zip vs) m p = _
    unfold bindC
    rw [bindC_out fun v hv => (List.nodup_cons.mp nd).1 (List.of_mem_zip hv).1, if_neg hk]
    simp
  | p :: P, w :: vs, i + 1, m, nd, h1, h2, hk => by
    show bindC kindOf ((p, w) :: P.zip vs) m x = _
    unfold bindC
    exact bindC_get (i := i) (List.nodup_cons.mp nd).2 (by simpa using h1) (by simpa using h2) hk
def start (N : List Str) (vs : List V) : St := vs.map some ++ List.replicate (N.length - vs.length) none
def cxOf (CX : CXT) (P : Program) (w : World) (K : PySem.W.Frag) (mg : Str → Option Value) (base : Heap) (N : List Str) (qual : Str) (scope : Scope) (f : Addr) (cd : Value) (A : Around) (outer : List Env) (s : Shared) (H : Hp) (E : XK) : Cx where
  prog := P
  w := w
  K := K
  mg := mg
  base := base
  A := A.deeper (envOfC qual scope s.heap.objs.size f cd)
  N := N
  s₀ := s
  H₀ := H
  env := envOfC qual scope s.heap.objs.size f cd
  outer := outer
  stack := envOfC qual scope s.heap.objs.size f cd :: outer
  ex := []
  calm := true
  fn := fun _ => true
  pn := []
  xe := fun e s' => wpAny (model P w) (A.deeper (envOfC qual scope s.heap.objs.size f cd)) (leaving (envOfC qual scope s.heap.objs.size f cd) e) (fun _ s'' => CX outer H s E e s'') (fun e' s'' => CX outer H s E e' s'') s'
theorem cell_has {sc : Scope} {n : Nat} {x : Str} (h : sc.names.lookup x = some .cell) : ∃ c, (cellsFrom n sc.names []).lookup x = some c := by
  have q := PySem.W.cellsFrom_some sc.names n [] (.inl h)
  exact Option.isSome_iff_exists.mp q
theorem inv_start {CX : CXT} {P : Program} {w : World} {K : PySem.W.Frag} {mg : Str → Option Value} {base : Heap} {N ps : List Str} {qual : Str} {scope : Scope} {f : Addr} {cd : Value} {A : Around} {outer : List Env} {s s1 : Shared} {H : Hp} {E : XK} {us : List Value} {vs : List V}
    (S : FnScope N ps scope) (hd : A.handled = none) (e0 : Env0 P w K mg base A outer s H) (hl : vs.length = ps.length) (r : Vals vs us)
    (x : InCallC s s.heap.objs.size (bindL (envOfC qual scope s.heap.objs.size f cd).kindOf (ps.zip us) fun _ => none) (cellsFrom (s.heap.objs.size + 1) scope.names []) (bindC (envOfC qual scope s.heap.objs.size f cd).kindOf (ps.zip us) fun _ => none) s1) :
    Inv (cxOf CX P w K mg base N qual scope f cd A outer s H E) [] (start N vs) H s1 := by
  have hpl : ps.length ≤ N.length := by have := congrArg List.length S.pre; rw [List.length_take] at this; omega
  obtain ⟨h1, tk, rfl, hk⟩ := x.done
  have noA : ∀ b : Addr, b ∉ (cxOf CX P w K mg base N qual scope f cd A outer s H E).ex := fun b z => absurd (show b ∈ ([] : List Addr) from z) (by simp)
  refine ⟨⟨e0.mod, S.kind, rfl, rfl, Nat.le_refl _, fun y z c h1 h2 => ?_, fun y hy => ?_, fun y c _ h => ?_, fun _ => hd, Around.frames_deeper e0.frames, .inr ⟨rfl, rfl⟩, fun b z => absurd z (noA b), e0.bs, e0.bsz, fun b _ _ => noA b, fun b z => absurd z (noA b), e0.funs, e0.frf⟩,
    rfl, e0.bare, Un.kept hk, ⟨_, x.toInCall.ns, fun i y v h1 h2 h3 => ?_⟩, fun y c h => ⟨_, x.cell y c h⟩, e0.hok.fresh (Nat.le_refl _), fun y c h => ?_, fun p hp => absurd (show p ∈ ([] : List (Addr × Obj)) from hp) (by simp), e0.hok.kept hk, ?_⟩
  · exact name_of_addr x.apart (PySem.mem_of_lookup h1) (PySem.mem_of_lookup h2)
  · have hy : scope.names.lookup y = some .cell ∨ scope.names.lookup y = some .free := hy
    rcases hy with hy | hy
    · exact cell_has hy
    · exact absurd rfl (S.nofree _ (PySem.mem_of_lookup hy))
  · exact Nat.le_of_lt (x.above y c (PySem.mem_of_lookup h))
  · have hi : i < vs.length := by
      unfold start at h2
      by_cases hi : i < vs.length
      · exact hi
      · rw [List.getElem?_append_right (by simpa using hi)] at h2
        rw [List.getElem?_replicate] at h2
        split at h2 <;> cases h2
    have ha : vs[i]? = some v := by
      unfold start at h2
      rw [List.getElem?_append_left (by simpa using hi), List.getElem?_map] at h2
      cases e : vs[i]? with
      | none => rw [e] at h2; cases h2
      | some a => rw [e] at h2; cases h2; rfl
    obtain ⟨u, hu, rv⟩ := r.get ha
    have hp : ps[i]? = some y := by
      rw [← S.pre, List.getElem?_take_of_lt (by omega)]; exact h1
    have ndP : ps.Nodup := by rw [← S.pre]; exact S.nd.sublist (List.take_sublist _ _)
    refine ⟨u, rv, ?_⟩
    rcases S.par y (List.mem_of_getElem? hp) with k | k
    · exact .inl ⟨k, bindL_get ndP hp hu k⟩
    · obtain ⟨c, e⟩ := cell_has (n := s.heap.objs.size + 1) k
      refine .inr ⟨.inl k, c, e, ?_⟩
      have q := x.cell y c e
      rw [bindC_get ndP hp hu (by show scope.names.lookup y ≠ _; rw [k]; decide)] at q
      exact q
  · exact e0.hok.fresh (Nat.le_of_lt (x.above y c (PySem.mem_of_lookup h)))
  · unfold start
    show _ = N.length
    rw [List.length_append, List.length_map, List.length_replicate]
    omega
theorem fn_of {CX : CXT} {P : Program} {w : World} {K : PySem.W.Frag} {mg : Str → Option Value} {base : Heap} {k : Nat} {f : Addr} {name qual : Str} {params : Arguments} {body : List Stmt} {scope : Scope} {dV kV doc pm cdv ct oc : Value} {an od : Option Addr}
    {osl : Array (Option Value)} {N ps : List Str} {sp : Sp} (lk : K.lookup f = some ⟨oc, od, .func (PySem.W.fnOf name qual params body scope dV kV doc pm an cdv ct), osl⟩) (hcd : PySem.W.codeIn K cdv qual = true) (S : FnScope N ps scope)
    (len : ∀ vs H Q E, sp vs H Q E → vs.length = ps.length)
    (hbody : ∀ (A : Around) (outer : List Env) (s : Shared) (H : Hp) (vs : List V) (Q : VK) (E : XK), Room k (A.deeper (envOfC qual scope s.heap.objs.size f cdv)) → sp vs H Q E →
      ∃ t, PSs (cxOf CX P w K mg base N qual scope f cdv A outer s H E) body t ∧ t { nx := fun _ H' => Q .non H', rt := Q } (start N vs) H) :
    FnOk P w K mg base CX (k + 1) f (PySem.W.fnOf name qual params body scope dV kV doc pm an cdv ct) ps sp := by
  refine ⟨len, fun A outer s H args us vs Q E hr e0 hb r hsp => ?_⟩
  have hl := len _ _ _ _ hsp
  have KX : K.In s.heap := e0.mod.kin.keeps fun b o e => (e0.bs b o e).1
  have lim : s.heap.NoLimit := e0.mod.nolimit.keeps fun b o e => (e0.bs b o e).1
  have hkind : ∀ y ∈ ps.zip us, scope.names.lookup y.1 = some .local ∨ (scope.names.lookup y.1 = some .cell ∧ ((cellsFrom (s.heap.objs.size + 1) scope.names []).lookup y.1).isSome = true) := fun ⟨n, v⟩ hy => by
    rcases S.par n (List.of_mem_zip hy).1 with q | q
    · exact .inl q
    · exact .inr ⟨q, PySem.W.cellsFrom_some _ _ _ (.inl q)⟩
  refine codeAny_call_function hr.depth (KX _ _ lk) rfl S.co S.gen rfl (PySem.W.codeRec_of KX hcd) (hb _ _ _ _ ?_)
  refine wpAny_newFunctionEnv_cells S.kind hkind fun env he s1 x => ?_
  subst he
  refine ⟨lim.keeps x.toInCall.keep, codeAny_func ?_⟩
  obtain ⟨t, ht, hq⟩ := hbody A outer s H vs Q E (hr.deeper _) hsp
  have I : Inv (cxOf CX P w K mg base N qual scope f cdv A outer s H E) [] (start N vs) H s1 := inv_start S hr.hd e0 hl r x
  refine wpAny_mono (ht [] s1 (start N vs) H _ I hq) (fun fl s' hs => ?_) fun e s' hs => hs
  have fin : ∀ {σ' : St} {H' : Hp} {v : V} {u : Value}, Inv (cxOf CX P w K mg base N qual scope f cdv A outer s H E) [] σ' H' s' → RelV v u → Q v H' → CE outer P w H s Q u s' :=
    fun {σ' H' v u} J rv q => ⟨v, H', J.os, J.bare, J.base, J.hok, rv, q⟩
  cases fl with
  | ret u =>
    obtain ⟨v, σ', H', J, rv, q⟩ := hs
    exact fin J rv q
  | next =>
    obtain ⟨σ', H', J, q⟩ := hs
    exact fin (v := V.non) (u := Value.none) J rfl q
  | brk =>
    obtain ⟨_, _, _, q⟩ := hs
    exact False.elim q
  | cont =>
    obtain ⟨_, _, _, q⟩ := hs
    exact False.elim q
end L2
namespace L2
open PySem PySem.Spec PyProof.Rows
section
variable {X : Cx} {x : Str} {p pos : Pos} {e : Expr} {es : List Expr} {t : TA} {id T : String} {r : List V → Hp → VK → Prop}
def tCB (r : List V → Hp → VK → Prop) (t : TA) : TE := fun σ H Q => t σ H fun vs H1 => r vs H1 Q
theorem pe_callB (hc : CallR X (.builtin id) r) (hg : Gl X x) (hm : X.mg x = none) (hv : bootBuiltins x = some (.builtin id)) (ha : PA X (e :: es) t) (hn : x ≠ "__name__" := by decide) (hdb : (x == ("__debug__" : Str)) = false := by decide)
    (he : starEach (e :: es) X.env = (false, eval e X.env) :: starEach es X.env := by rfl) (hpl : (backTo pos (starEach es X.env)).any (·.1) = false := by rfl) : PE X (.Call (.Name x p) (e :: es) [] pos) (tCB r t) := by
  intro pins s σ H Q I h
  refine wpAny_Call_Name_kw (ld_blt I hg hm hv ?_ hn hdb)
  exact PyProof.Rows.callWith_builtin1 (thn (ha pos pins s σ H _ I h) fun us s1 ⟨vs, H1, I1, r1, q1⟩ => hc pins s1 σ H1 vs us Q I1 r1 q1) he hpl
theorem pe_callTy (hc : CallR X (.type T) r) (hg : Gl X x) (hm : X.mg x = none) (hv : bootBuiltins x = some (.type T)) (ha : PA X (e :: es) t) (hn : x ≠ "__name__" := by decide) (hdb : (x == ("__debug__" : Str)) = false := by decide)
    (he : starEach (e :: es) X.env = (false, eval e X.env) :: starEach es X.env := by rfl) (hpl : (backTo pos (starEach es X.env)).any (·.1) = false := by rfl) : PE X (.Call (.Name x p) (e :: es) [] pos) (tCB r t) := by
  intro pins s σ H Q I h
  refine wpAny_Call_Name_kw (ld_blt I hg hm hv ?_ hn hdb)
  exact PyProof.Rows.callWith_type1 (thn (ha pos pins s σ H _ I h) fun us s1 ⟨vs, H1, I1, r1, q1⟩ => hc pins s1 σ H1 vs us Q I1 r1 q1) he hpl
end
end L2
namespace HT
open PySem PyProof.Rows
section
open PySem.SeqAt
open PySem.AutoSeq1 (wpAny_loadPart')
open PySem.MeetsSeq PySem.MeetsSeq2 PySem.MeetsSeq3
end
section
variable {prog : Program} {w : World} {A : Around} {E : Value → Shared → Prop} {s : Shared}
def sIx (n d : Nat) : Option Int → Nat
  | none => d
  | some v => if v < 0 then (v + (n : Int)).toNat else min v.toNat n
theorem sIx_nat (n d k : Nat) : sIx n d (some (k : Int)) = min k n := by
  show (if (k : Int) < 0 then ((k : Int) + (n : Int)).toNat else min (k : Int).toNat n) = min k n
  rw [if_neg (by omega), Int.toNat_natCast]
end
end HT
namespace L2
open PySem PySem.Spec PyProof.Rows
abbrev TO := St → Hp → (Option Int → Hp → Prop) → Prop
def PO (X : Cx) (e : Option Expr) (t : TO) : Prop :=
  ∀ (pins : List (Addr × Obj)) (s : Shared) (σ : St) (H : Hp) (Q : Option Int → Hp → Prop), Inv X pins σ H s → t σ H Q →
    wpAny (model X.prog X.w) X.A (evalPart e X.env) (fun u s' => ∃ o H', Inv X pins σ H' s' ∧ IsPart u o ∧ Q o H') X.xe s
def tNoPart : TO := fun _ H Q => Q none H
def tPart (t : TE) : TO := fun σ H Q => t σ H fun x H1 => ∃ i, x = .int i ∧ Q (some i) H1
theorem intsAre_of {ns : List Int} : ∀ {us : List Value}, Vals (ns.map V.int) us → IntsAre us ns := by
  induction ns with
  | nil => intro us r; rw [List.map_nil] at r; cases r; exact .nil
  | cons n ns ih =>
    intro us r
    rw [List.map_cons] at r
    cases r with
    | cons r1 r2 =>
      obtain ⟨t, e⟩ := r1
      subst e
      exact .cons n t (ih r2)
section
variable {X : Cx} {e : Expr} {te : TE} {lo hi : Option Expr} {tl th : TO} {pos p2 : Pos}
theorem po_none : PO X none tNoPart := by
  intro pins s σ H Q I h
  rw [evalPart_none]
  exact wpAny_pure ⟨none, H, I, .none, h⟩
theorem po_some (h : PE X e te) : PO X (some e) (tPart te) := by
  intro pins s σ H Q I hw
  rw [evalPart_some]
  refine thn (h pins s σ H _ I hw) fun u s1 ⟨x, H1, I1, r1, q1⟩ => ?_
  obtain ⟨i, rfl, q⟩ := q1
  obtain ⟨t, rfl⟩ := r1
  exact ⟨some i, H1, I1, .int i t, q⟩
def SlR (X : Cx) (r : V → Option Int → Option Int → Hp → VK → Prop) : Prop :=
  ∀ (pins : List (Addr × Obj)) (s : Shared) (σ : St) (H : Hp) (x : V) (v vl vu : Value) (lo hi : Option Int) (sl : Addr) (Q : VK), Inv X pins σ H s → RelV x v → s.heap.IsSliceOf sl vl vu .none → IsPart vl lo → IsPart vu hi → r x lo hi H Q →
    ∃ T id, typeLookup (.type T) "__getitem__" = pure (some (.builtin id)) ∧ s.TypeIs v T ∧ wpAny (model X.prog X.w) X.A (getItem v (.ref sl)) (EP X pins σ Q) X.xe s
theorem SlR.or {r r' : V → Option Int → Option Int → Hp → VK → Prop} (h : SlR X r) (h' : SlR X r') : SlR X (fun x lo hi H Q => r x lo hi H Q ∨ r' x lo hi H Q) := by
  intro pins s σ H x v vl vu lo hi sl Q I rx hs pl pu q
  rcases q with q | q
  · exact h pins s σ H x v vl vu lo hi sl Q I rx hs pl pu q
  · exact h' pins s σ H x v vl vu lo hi sl Q I rx hs pl pu q
def tSl (r : V → Option Int → Option Int → Hp → VK → Prop) (te : TE) (tl th : TO) : TE := fun σ H Q => te σ H fun x H1 => tl σ H1 fun l H2 => th σ H2 fun u H3 => r x l u H3 Q
theorem pe_slice {r : V → Option Int → Option Int → Hp → VK → Prop} (hr : SlR X r) (he : PE X e te) (hl : PO X lo tl) (hu : PO X hi th) : PE X (.Subscript e (.Slice lo hi none p2) pos) (tSl r te tl th) := by
  intro pins s σ H Q I h
  refine Subscript_ (thn (he pins s σ H _ I h) fun v s1 ⟨x, H1, I1, r1, q1⟩ => ?_)
  refine wpAny_Slice (thn (hl pins s1 σ H1 _ I1 q1) fun vl s2 ⟨l, H2, I2, pl, q2⟩ => thn (hu pins s2 σ H2 _ I2 q2) fun vu s3 ⟨u, H3, I3, pu, q3⟩ => ?_)
  rw [evalPart_none]
  refine wpAny_pure ?_
  have I4 : Inv X pins σ H3 { s3 with heap := s3.heap.push { cls := .type "slice", data := .fields #[vl, vu, .none] } } := I3.kept (t' := s3.toks) fun b ob q => Heap.get?_push_of_some _ q
  obtain ⟨T, id, hT, ht, hg⟩ := hr pins { s3 with heap := s3.heap.push { cls := .type "slice", data := .fields #[vl, vu, .none] } } σ H3 x v vl vu l u s3.heap.objs.size Q I4 r1 (Heap.IsSliceOf.new ..) pl pu q3
  show wpAny (model X.prog X.w) X.A (subscriptTail e (.Slice lo hi none p2) v (.ref s3.heap.objs.size)) (EP X pins σ Q) X.xe { s3 with heap := s3.heap.push { cls := .type "slice", data := .fields #[vl, vu, .none] } }
  exact tail_any (ops := [.ref s3.heap.objs.size, v]) ht hT hg (by with_unfolding_all rfl)
def cutV (xs : List V) (lo hi : Option Int) : List V := (xs.drop (HT.sIx xs.length 0 lo)).take (HT.sIx xs.length xs.length hi - HT.sIx xs.length 0 lo)
theorem cutV_length (xs : List V) (lo hi : Option Int) : (cutV xs lo hi).length ≤ xs.length := by
  unfold cutV
  rw [List.length_take, List.length_drop]
  omega
end
end L2
namespace L2
open PySem PySem.Spec PyProof.Rows
def ixN (n : Nat) (i : Int) : Option Nat := if 0 ≤ i then (if i < n then some i.toNat else none) else if -(n : Int) ≤ i then some (i + n).toNat else none
def atI {α : Type} (xs : List α) (i : Int) : Option α := (ixN xs.length i).bind fun j => xs[j]?
theorem ixN_seq {n : Nat} {i : Int} {j : Nat} (h : ixN n i = some j) : seqIndex? i n = some j ∧ j < n ∧ -(n : Int) ≤ i ∧ i < n := by
  unfold ixN at h
  by_cases h0 : 0 ≤ i
  · rw [if_pos h0] at h
    by_cases h1 : i < n
    · rw [if_pos h1] at h
      have e : i.toNat = j := Option.some.inj h
      exact ⟨by rw [seqIndex_of h0 h1, e], by omega, by omega, h1⟩
    · rw [if_neg h1] at h; cases h
  · rw [if_neg h0] at h
    by_cases h1 : -(n : Int) ≤ i
    · rw [if_pos h1] at h
      have e : (i + n).toNat = j := Option.some.inj h
      exact ⟨by rw [seqIndex_neg (by omega) h1, e], by omega, h1, by omega⟩
    · rw [if_neg h1] at h; cases h
theorem atI_get {α : Type} {xs : List α} {i : Int} {v : α} (h : atI xs i = some v) : ∃ j, seqIndex? i xs.length = some j ∧ xs[j]? = some v ∧ j < xs.length ∧ -(xs.length : Int) ≤ i ∧ i < xs.length := by
  unfold atI at h
  cases e : ixN xs.length i with
  | none => rw [e] at h; cases h
  | some j =>
    rw [e] at h
    obtain ⟨h1, h2, h3, h4⟩ := ixN_seq e
    exact ⟨j, h1, h, h2, h3, h4⟩
theorem atI_nat {α : Type} {xs : List α} {j : Nat} {v : α} (h : xs[j]? = some v) : atI xs (j : Int) = some v := by
  have hj : j < xs.length := (List.getElem?_eq_some_iff.mp h).1
  have e : ixN xs.length (j : Int) = some j := by
    unfold ixN
    rw [if_pos (by omega), if_pos (by omega)]; simp
  unfold atI; rw [e]; exact h
def PlainIx (b : Expr) : Prop := ∀ o i, subscripted b false o i = operate [o, i] (getItem o i)
def IxR (X : Cx) (r : R2) : Prop :=
  ∀ (value slice : Expr) (pins : List (Addr × Obj)) (s : Shared) (σ : St) (H : Hp) (x y : V) (v u : Value) (Q : VK), Inv X pins σ H s → RelV x v → RelV y u → r x y H Q →
    subscripted slice false v u = operate [v, u] (getItem v u) → wpAny (model X.prog X.w) X.A (subscriptTail value slice v u) (EP X pins σ Q) X.xe s
def MtR (X : Cx) (id : String) (r : V → List V → Hp → VK → Prop) : Prop :=
  ∀ (pins : List (Addr × Obj)) (s : Shared) (σ : St) (H : Hp) (x : V) (xs : List V) (v : Value) (us : List Value) (Q : VK), Inv X pins σ H s → RelV x v → Vals xs us → r x xs H Q →
    wpAny (model X.prog X.w) X.A (call (.builtin id) (v :: us)) (EP X pins σ Q) X.xe s
section
variable {X : Cx} {a b : Expr} {ta tb : TE} {pos : Pos}
theorem IxR.or {r r' : R2} (h : IxR X r) (h' : IxR X r') : IxR X (fun x y H Q => r x y H Q ∨ r' x y H Q) := by
  intro value slice pins s σ H x y v u Q I rx ry q hs
  rcases q with q | q
  · exact h value slice pins s σ H x y v u Q I rx ry q hs
  · exact h' value slice pins s σ H x y v u Q I rx ry q hs
theorem MtR.or {id : String} {r r' : V → List V → Hp → VK → Prop} (h : MtR X id r) (h' : MtR X id r') : MtR X id (fun x xs H Q => r x xs H Q ∨ r' x xs H Q) := by
  intro pins s σ H x xs v us Q I rx rs q
  rcases q with q | q
  · exact h pins s σ H x xs v us Q I rx rs q
  · exact h' pins s σ H x xs v us Q I rx rs q
theorem pe_ix {r : R2} (hr : IxR X r) (ha : PE X a ta) (hb : PE X b tb) (hs : PlainIx b) : PE X (.Subscript a b pos) (tOp r ta tb) := by
  intro pins s σ H Q I h
  exact Subscript_ (binT ha hb I h fun v u s2 x y H2 I2 rx ry q => hr a b pins s2 σ H2 x y v u Q I2 rx ry q (hs _ _))
def rIxL (K : PySem.W.Frag) : R2 := fun x y H Q => ∃ p xs i v, x = .ref p ∧ y = .int i ∧ SqL K H p xs ∧ atI xs i = some v ∧ Q v H
def rIxT (K : PySem.W.Frag) : R2 := fun x y H Q => ∃ p xs i v, x = .ref p ∧ y = .int i ∧ SqT K H p xs ∧ atI xs i = some v ∧ Q v H
theorem ix_list : IxR X (rIxL X.K) := by
  intro value slice pins s σ H x y v u Q I rx ry h hs
  obtain ⟨p, xs, i, z, rfl, rfl, hq, he, q⟩ := h
  cases rx
  obtain ⟨t, rfl⟩ := ry
  obtain ⟨its, r, pl, hz⟩ := I.list hq
  obtain ⟨j, h1, h2, h3, h4, h5⟩ := atI_get he
  obtain ⟨w, ew, rw'⟩ := r.get h2
  have hl := r.length
  have hn := line63
  have fin : EP X pins σ Q w s := ⟨z, H, I, rw', q⟩
  by_cases h0 : 0 ≤ i
  · have hj : i.toNat = j := by
      rw [seqIndex_of h0 h5] at h1
      exact Option.some.inj h1
    exact item_listR pl.isList h0 (by omega) (by rw [hj]; simpa using ew) fin hs
  · have hj : (i + (its.toArray.size : Int)).toNat = j := by
      rw [seqIndex_neg (by omega) h4] at h1
      rw [List.size_toArray, ← hl]
      exact Option.some.inj h1
    exact subscriptTail_builtinR (x := w) pl.isList.typeIs slot_list_getitem.lookup
      (wpAny_getItem_list_neg (Q := fun r s' => r = w ∧ EP X pins σ Q r s') pl.isList (by omega) (by rw [List.size_toArray] <;> omega) (by omega) (by rw [hj]; simpa using ew) ⟨rfl, fin⟩) hs
theorem ix_tup : IxR X (rIxT X.K) := by
  intro value slice pins s σ H x y v u Q I rx ry h hs
  obtain ⟨p, xs, i, z, rfl, rfl, hq, he, q⟩ := h
  cases rx
  obtain ⟨t, rfl⟩ := ry
  obtain ⟨its, r, pl, hz⟩ := I.tuple hq
  obtain ⟨j, h1, h2, h3, h4, h5⟩ := atI_get he
  obtain ⟨w, ew, rw'⟩ := r.get h2
  have hl := r.length
  have hn := line63
  have fin : EP X pins σ Q w s := ⟨z, H, I, rw', q⟩
  exact subscriptTail_builtinR (x := w) pl.typeIs slot_tuple_getitem.lookup
    (getItem_tuple (j := j) (Q := fun r s' => r = w ∧ EP X pins σ Q r s') pl (by omega) (by omega) (by rw [List.size_toArray, ← hl]; exact h1) (by simpa using ew) ⟨rfl, fin⟩) hs
theorem Inv.lst {pins : List (Addr × Obj)} {σ : St} {H : Hp} {s : Shared} {p : Addr} {xs : List V} (I : Inv X pins σ H s) (h : H p = some (.lst xs)) :
    ∃ (its : List Value) (n : Nat), Vals xs its ∧ s.heap.get? p = some { cls := .type "list", data := .seq its.toArray n } ∧ xs.length ≤ sizeLine := by
  obtain ⟨z, its, n, r, e⟩ := I.hok p _ h
  exact ⟨its, n, r, e, z⟩
theorem slice_bounds (lo hi : Option Int) (n : Nat) : (sliceBounds lo hi none n).1 = ((HT.sIx n 0 lo : Nat) : Int) ∧ (sliceBounds lo hi none n).2.1 = ((HT.sIx n n hi : Nat) : Int) ∧ (sliceBounds lo hi none n).2.2 = 1 := by
  refine ⟨?_, ?_, rfl⟩
  · cases lo with
    | none => simp [sliceBounds, HT.sIx]
    | some i =>
      simp only [sliceBounds, HT.sIx, Option.getD_none, show (1 : Int) > 0 by decide, if_true]
      by_cases h : i < 0
      · simp only [h, if_true] <;> omega
      · simp only [h, if_false] <;> omega
  · cases hi with
    | none => simp [sliceBounds, HT.sIx]
    | some i =>
      simp only [sliceBounds, HT.sIx, Option.getD_none, show (1 : Int) > 0 by decide, if_true]
      by_cases h : i < 0
      · simp only [h, if_true] <;> omega
      · simp only [h, if_false] <;> omega
theorem slicePick_cut (its : List Value) (lo hi : Option Int) : slicePick its.toArray lo hi none = ((its.drop (HT.sIx its.length 0 lo)).take (HT.sIx its.length its.length hi - HT.sIx its.length 0 lo)).toArray := by
  obtain ⟨h1, h2, h3⟩ := slice_bounds lo hi its.toArray.size
  unfold slicePick
  rw [h1, h2, h3]
  simp only [sliceRange_one, pick_run, List.size_toArray] <;> rfl
def rSlL (K : PySem.W.Frag) : V → Option Int → Option Int → Hp → VK → Prop := fun x lo hi H Q => ∃ a xs, x = .ref a ∧ SqL K H a xs ∧ ∀ p, H p = none → Q (.ref p) (upd H p (.lst (cutV xs lo hi)))
theorem sl_list : SlR X (rSlL X.K) := by
  intro pins s σ H x v vl vu lo hi sl Q I rx hs pl pu h
  obtain ⟨a, xs, rfl, hx, q⟩ := h
  cases rx
  obtain ⟨its, r, ht, hz⟩ := I.list hx
  have hlen := r.length
  refine ⟨"list", _, slot_list_getitem.lookup, ht.isList.typeIs, ?_⟩
  refine wpAny_getItem_list_slice ht.isList hs pl pu .none (by simp) ?_ (by rw [List.size_toArray] <;> omega)
  rw [slicePick_cut, ← hlen]
  refine ⟨.ref s.heap.objs.size, _, I.laid (t' := s.toks) (o := .lst (cutV xs lo hi)) (fun b ob q => Heap.get?_push_of_some _ q) (Nat.le_refl _) ?_, rfl, q _ (I.hok.fresh (Nat.le_refl _))⟩
  exact ⟨Nat.le_trans (cutV_length xs lo hi) hz, _, 0, (r.drop (HT.sIx xs.length 0 lo)).take (HT.sIx xs.length xs.length hi - HT.sIx xs.length 0 lo), Heap.get?_push_size _ rfl⟩
theorem call_len_seq : CallR X (.builtin "len") (fun xs H Q => ∃ p ys, xs = [.ref p] ∧ (SqL X.K H p ys ∨ SqT X.K H p ys) ∧ Q (.int ys.length) H) := by
  intro pins s σ H xs us Q I r h
  obtain ⟨p, ys, rfl, hq, q⟩ := h
  obtain ⟨u, rfl, rx⟩ := vals1 r
  cases rx
  have hn := line63
  rcases hq with hq | hq
  · obtain ⟨its, r', pl, hz⟩ := I.list hq
    have hlen := r'.length
    exact Calls.call_len_list pl.isList (by simp only [List.size_toArray] <;> omega) ⟨.int ys.length, H, I.tok _, ⟨s.toks + 1, by rw [List.size_toArray, hlen]⟩, q⟩
  · obtain ⟨its, r', pl, hz⟩ := I.tuple hq
    have hlen := r'.length
    exact len_tuple pl (by simp only [List.size_toArray] <;> omega) ⟨.int ys.length, H, I.tok _, ⟨s.toks + 1, by rw [List.size_toArray, hlen]⟩, q⟩
theorem CallR.or {f : Value} {r r' : List V → Hp → VK → Prop} (h : CallR X f r) (h' : CallR X f r') : CallR X f (fun xs H Q => r xs H Q ∨ r' xs H Q) := by
  intro pins s σ H xs us Q I rs q
  rcases q with q | q
  · exact h pins s σ H xs us Q I rs q
  · exact h' pins s σ H xs us Q I rs q
theorem call_list_of : CallR X (.type "list") (fun xs H Q => ∃ p ys, xs = [.ref p] ∧ (SqL X.K H p ys ∨ SqT X.K H p ys) ∧ ∀ l, H l = none → Q (.ref l) (upd H l (.lst ys))) := by
  intro pins s σ H xs us Q I r h
  obtain ⟨p, ys, rfl, hq, q⟩ := h
  obtain ⟨u, rfl, rx⟩ := vals1 r
  cases rx
  have fin : ∀ (its : List Value), Vals ys its → ys.length ≤ sizeLine → ∀ (h' : Heap) (c' : Nat), (∀ b o', s.heap.get? b = some o' → h'.get? b = some o') →
      h'.get? s.heap.objs.size = some { cls := .type "list", dict := none, data := .seq its.toArray c', slots := #[] } → EP X pins σ Q (.ref s.heap.objs.size) { s with heap := h' } := fun its r' hz h' c' kp e =>
    ⟨.ref s.heap.objs.size, _, I.laid (t' := s.toks) kp (Nat.le_refl _) (show ObjOk X.prog X.w _ h' _ (.lst ys) from ⟨hz, its, c', r', e⟩), rfl, q _ (I.hok.fresh (Nat.le_refl _))⟩
  rcases hq with hq | hq
  · obtain ⟨its, r', pl, hz⟩ := I.list hq
    have hlen := r'.length
    obtain ⟨o, ho, hc, n, hd⟩ := pl.isList
    exact call_list_seq p (.inl rfl) ho hc hd (fun h' c' kp e => fin its r' hz h' c' kp e) (by simp only [List.size_toArray] <;> omega)
  · obtain ⟨its, r', pl, hz⟩ := I.tuple hq
    have hlen := r'.length
    obtain ⟨o, ho, hc, n, hd⟩ := pl
    exact call_list_seq p (.inr rfl) ho hc hd (fun h' c' kp e => fin its r' hz h' c' kp e) (by simp only [List.size_toArray] <;> omega)
theorem call_tuple_of : CallR X (.type "tuple") (fun xs H Q => ∃ p ys, xs = [.ref p] ∧ ((SqL X.K H p ys ∧ ∀ l, H l = none → Q (.ref l) (upd H l (.tup ys))) ∨ (SqT X.K H p ys ∧ Q (.ref p) H))) := by
  intro pins s σ H xs us Q I r h
  obtain ⟨p, ys, rfl, h⟩ := h
  obtain ⟨u, rfl, rx⟩ := vals1 r
  cases rx
  rcases h with ⟨hq, q⟩ | ⟨hq, q⟩
  · obtain ⟨its, r', pl, hz⟩ := I.list hq
    have hlen := r'.length
    refine call_tuple_list pl.isList (fun h' kp => ?_) (by simp only [List.size_toArray] <;> omega)
    have I1 : Inv X pins σ H { s with heap := h' } := I.kept (t' := s.toks) kp
    have I2 : Inv X pins σ (upd H h'.objs.size (.tup ys)) { s with heap := h'.push { cls := .type "tuple", data := .seq its.toArray } } :=
      I1.laid (t' := s.toks) (fun b o e => Heap.get?_push_of_some _ e) (Nat.le_refl _) (show ObjOk X.prog X.w _ _ _ (.tup ys) from ⟨hz, its, r', IsTup.new _ _⟩)
    exact ⟨.ref h'.objs.size, _, I2, rfl, q _ (I1.hok.fresh (Nat.le_refl _))⟩
  · obtain ⟨its, r', pl, hz⟩ := I.tuple hq
    exact call_tuple_same pl ⟨.ref p, H, I, rfl, q⟩
def tyV (K : PySem.W.Frag) (T : String) (x : V) (H : Hp) : Prop := match x with
  | .str _ => T = "str"
  | .int _ => T = "int"
  | .ref p => (T = "list" ∧ ∃ xs, SqL K H p xs) ∨ (T = "tuple" ∧ ∃ o, K.lookup p = some o ∧ o.cls = .type "tuple" ∧ o.dict = none) ∨
      (T = "dict" ∧ ((∃ kvs, H p = some (.dK kvs)) ∨ ∃ kvs, H p = some (.dT kvs))) ∨ (T = "set" ∧ ∃ S n, H p = some (.set S n))
  | _ => False
theorem tyV_is {pins : List (Addr × Obj)} {σ : St} {H : Hp} {s : Shared} {T : String} {x : V} {v : Value} (I : Inv X pins σ H s) (r : RelV x v) (ty : tyV X.K T x H) :
    s.TypeIs v T ∧ ∀ a, v = .ref a → ∃ ob, s.heap.get? a = some ob ∧ ob.dict = none := by
  cases x with
  | str z =>
    obtain ⟨t, rfl⟩ := r
    cases (show T = "str" from ty)
    exact ⟨typeIs_str s z t, fun _ e => nomatch e⟩
  | int i =>
    obtain ⟨t, rfl⟩ := r
    cases (show T = "int" from ty)
    exact ⟨typeIs_int s i t, fun _ e => nomatch e⟩
  | ref p =>
    cases r
    rcases ty with ⟨rfl, xs, hq⟩ | ⟨rfl, o, hk, hc, hd⟩ | ⟨rfl, hk⟩ | ⟨rfl, S, n, hk⟩
    · obtain ⟨its, _, pl, _⟩ := I.list hq
      refine ⟨pl.isList.typeIs, fun a e => ?_⟩
      cases e
      obtain ⟨o, n, e, c, hd, _⟩ := pl
      exact ⟨o, e, hd⟩
    · refine ⟨⟨o, I.kIn p o hk, hc⟩, fun a e => ?_⟩
      cases e
      exact ⟨o, I.kIn _ o hk, hd⟩
    · have z : ∃ o, s.heap.get? p = some o ∧ o.ExactDict := by
        rcases hk with ⟨kvs, hk⟩ | ⟨kvs, hk⟩
        · obtain ⟨_, _, _, _, o, _, _, e, ex, _⟩ := I.hok p _ hk
          exact ⟨o, e, ex⟩
        · obtain ⟨_, _, _, _, o, _, _, e, ex, _⟩ := I.hok p _ hk
          exact ⟨o, e, ex⟩
      obtain ⟨o, e, ex⟩ := z
      refine ⟨⟨o, e, ex.1⟩, fun a e2 => ?_⟩
      cases e2
      exact ⟨o, e, ex.2.1⟩
    · obtain ⟨o, _, _, _, e, ex, _⟩ := I.hok p _ hk
      refine ⟨⟨o, e, ex.1⟩, fun a e2 => ?_⟩
      cases e2
      exact ⟨o, e, ex.2.1⟩
  | _ => exact False.elim ty
def tBM (K : PySem.W.Frag) (T : String) (r : V → List V → Hp → VK → Prop) (to : TE) (t : TA) : TE := fun σ H Q => to σ H fun x H1 => tyV K T x H1 ∧ t σ H1 fun xs H2 => r x xs H2 Q
variable {o e : Expr} {es : List Expr} {to : TE} {t : TA} {name : Str} {apos cpos : Pos} {T id : String} {r : V → List V → Hp → VK → Prop}
theorem pe_bm (pa : PlainAttrs T) (slot : Slot T name id) (hty : typeOf (.builtin id) = pure (.type "method_descriptor")) (hm : MtR X id r) (ho : PE X o to) (ha : PA X (e :: es) t)
    (hbase : attributeBase o name X.env (eval o X.env) = eval o X.env := by rfl)
    (hfew : ((backTo cpos (starEach (e :: es) X.env)).all (fun x => !x.1) && (backToKw cpos (keywordEach [] X.env)).all (fun x => x.1.isSome)
      && decide ((e :: es).length + ([] : List Keyword).length + (if ([] : List Keyword).isEmpty then 0 else 1) < 30)) = true := by rfl)
    (hline : (apos.endLine == cpos.line) = true := by rfl) (hs : starEach (e :: es) X.env = (false, eval e X.env) :: starEach es X.env := by rfl) (hplain : (backTo cpos (starEach es X.env)).any (·.1) = false := by rfl) :
    PE X (.Call (.Attribute o name apos) (e :: es) [] cpos) (tBM X.K T r to t) := by
  intro pins s σ H Q I h
  refine wpAny_Call_method_late hbase hfew hline rfl (thn (ho pins s σ H _ I h) fun v s1 ⟨x, H1, I1, r1, ty, q1⟩ => ?_)
  obtain ⟨h1, h2⟩ := tyV_is I1 r1 ty
  refine ⟨T, id, pa, slot, hty, h1, h2, ?_⟩
  have hA := ha cpos pins s1 σ H1 _ I1 q1
  rw [hs] at hA ⊢
  refine Calls.callWith_builtin (by show (false || (backTo cpos (starEach es X.env)).any (·.1)) = false; rw [hplain] <;> rfl) (Calls.evalArgs_plain ?_)
  exact thn hA fun us s2 ⟨vs, H2, I2, r2, q2⟩ => hm pins s2 σ H2 x vs v us Q I2 r1 r2 q2
end
end L2
namespace L2
open PySem PySem.Spec PyProof.Rows
def MtM (X : Cx) (id : String) (r : V → List V → Hp → VK → Prop) : Prop :=
  ∀ (pins : List (Addr × Obj)) (s : Shared) (σ : St) (H : Hp) (x : V) (xs : List V) (v : Value) (us : List Value) (Q : VK), Inv X pins σ H s → RelV x v → Vals xs us → r x xs H Q →
    wpAny (model X.prog X.w) X.A (call (.builtin id) (v :: us)) (EP X pins σ Q) X.xe s
theorem Vals.one : ∀ {x : V} {us : List Value}, Vals [x] us → ∃ u, us = [u] ∧ RelV x u
  | _, _, .cons r .nil => ⟨_, rfl, r⟩
theorem Vals.two : ∀ {x y : V} {us : List Value}, Vals [x, y] us → ∃ u v, us = [u, v] ∧ RelV x u ∧ RelV y v
  | _, _, _, .cons r (.cons q .nil) => ⟨_, _, rfl, r, q⟩
theorem Vals.zero : ∀ {us : List Value}, Vals [] us → us = []
  | _, .nil => rfl
theorem Vals.reverse {xs : List V} {us : List Value} (h : Vals xs us) : Vals xs.reverse us.reverse := by
  induction h with
  | nil => exact .nil
  | cons r t ih => rw [List.reverse_cons, List.reverse_cons]; exact Vals.append ih (.cons r .nil)
theorem Vals.rep {xs : List V} {us : List Value} (h : Vals xs us) : ∀ k : Nat, Vals (List.replicate k xs).flatten (List.replicate k us).flatten
  | 0 => .nil
  | k + 1 => by
    rw [List.replicate_succ, List.replicate_succ, List.flatten_cons, List.flatten_cons]
    exact Vals.append h (Vals.rep h k)
theorem foldl_rep (its : List Value) : ∀ (k : Nat) (acc : List Value),
    List.foldl (fun x1 x2 => x1 ++ x2) acc.toArray (List.replicate k its.toArray) = (acc ++ (List.replicate k its).flatten).toArray
  | 0, acc => by simp
  | k + 1, acc => by
    have e : acc.toArray ++ its.toArray = (acc ++ its).toArray := by simp
    have e2 : (acc ++ its) ++ (List.replicate k its).flatten = acc ++ (List.replicate (k + 1) its).flatten := by
      rw [List.replicate_succ, List.flatten_cons, List.append_assoc]
    rw [← e2, ← foldl_rep its k (acc ++ its), ← e, List.replicate_succ, List.foldl_cons]
section
variable {X : Cx} {pins : List (Addr × Obj)} {σ : St} {H : Hp} {s : Shared} {l b : Addr} {xs ys zs : List V}
theorem Inv.lset {its its' : List Value} {n : Nat} {f : Array Value → Array Value} {t' : Nat} (I : Inv X pins σ H s) (hH : H l = some (.lst xs))
    (e : s.heap.get? l = some { cls := .type "list", data := .seq its.toArray n }) (hf : f its.toArray = its'.toArray) (hv : Vals ys its') (hz : ys.length ≤ sizeLine) :
    Inv X pins σ (upd H l (.lst ys)) { s with heap := s.heap.update l (Obj.mapSeq f), toks := t' } := by
  have q := PySem.IsL.update e f
  rw [hf] at q
  refine I.write (x := l) (e := l) (by rw [hH]; exact trivial) (.inl rfl) (fun b' u hb hu => (Heap.get?_update_other s.heap (Obj.mapSeq f) (Ne.symm hb)).trans hu) ⟨_, q⟩ ?_
  exact ⟨hz, its', _, hv, q⟩
theorem Inv.lnew {its : List Value} {t' : Nat} (I : Inv X pins σ H s) (hv : Vals ys its) (hz : ys.length ≤ sizeLine) :
    Inv X pins σ (upd H s.heap.objs.size (.lst ys)) { s with heap := s.heap.push { cls := .type "list", data := .seq its.toArray }, toks := t' } :=
  I.laid (fun _ _ q => Heap.get?_push_of_some _ q) (Nat.le_refl _) ⟨hz, its, 0, hv, Heap.get?_push_size _ rfl⟩
theorem Inv.fresh (I : Inv X pins σ H s) : H s.heap.objs.size = none := I.hok.fresh (Nat.le_refl _)
theorem Inv.lstM (I : Inv X pins σ H s) (hH : H l = some (.lst xs)) : xs.length ≤ sizeLine ∧ ∃ (its : List Value) (n : Nat), Vals xs its ∧ xs.length = its.length ∧ s.heap.get? l = some { cls := .type "list", data := .seq its.toArray n } := by
  obtain ⟨z, its, n, r, e⟩ := I.hok l _ hH
  exact ⟨z, its, n, r, r.length, e⟩
theorem notLongL {n : Nat} (h : n ≤ sizeLine) : Builtin.List.listTooLong n = false := by
  unfold Builtin.List.listTooLong
  exact decide_eq_false (by omega)
end
section
variable {X : Cx}
def rAppend : V → List V → Hp → VK → Prop := fun x vs H Q => ∃ l xs y, x = .ref l ∧ vs = [y] ∧ H l = some (.lst xs) ∧ xs.length < sizeLine ∧ Q .non (upd H l (.lst (xs ++ [y])))
theorem mt_append : MtM X "list.append" rAppend := by
  intro pins s σ H x vs v us Q I rx rv h
  obtain ⟨l, xs, y, rfl, rfl, hH, hz, q⟩ := h
  cases rx
  obtain ⟨u, rfl, ru⟩ := rv.one
  obtain ⟨z, its, n, r, hl, e⟩ := I.lstM hH
  refine call_meets F.slot_list_append ⟨_, e, rfl⟩ F.entry_list_append (F.args_list_append_2 _ _) (PySem.list_append l its.toArray n u (by rw [List.size_toArray]; omega)) ⟨e, ?_⟩
  refine ⟨.non, _, I.lset (its' := its ++ [u]) hH e (by simp) (r.append (.cons ru .nil)) ?_, rfl, q⟩
  rw [List.length_append, List.length_singleton]
  omega
def rExtend : V → List V → Hp → VK → Prop := fun x vs H Q => ∃ l b xs zs, x = .ref l ∧ vs = [.ref b] ∧ H l = some (.lst xs) ∧ H b = some (.lst zs) ∧ xs.length + zs.length ≤ sizeLine ∧ Q .non (upd H l (.lst (xs ++ zs)))
theorem mt_extend : MtM X "list.extend" rExtend := by
  intro pins s σ H x vs v us Q I rx rv h
  obtain ⟨l, b, xs, zs, rfl, rfl, hH, hB, hz, q⟩ := h
  cases rx
  obtain ⟨u, rfl, ru⟩ := rv.one
  cases ru
  obtain ⟨z, its, n, r, hl, e⟩ := I.lstM hH
  obtain ⟨z2, its2, n2, r2, hl2, e2⟩ := I.lstM hB
  have hsz : its.toArray.size + its2.toArray.size ≤ sizeLine := by rw [List.size_toArray, List.size_toArray]; omega
  have hlong : ¬ (!its.toArray.isEmpty && Builtin.List.listTooLong (its.toArray.size + its2.toArray.size)) = true := by
    rw [notLongL hsz, Bool.and_false]
    exact Bool.false_ne_true
  refine call_meets F.slot_list_extend ⟨_, e, rfl⟩ F.entry_list_extend (F.args_list_extend_2 _ _)
    (AutoSeq1.list_extend_list_list_0 l its.toArray n b its2.toArray n2 hlong (by rw [List.size_toArray]; omega) (by omega)) ⟨e, e2, ?_⟩
  refine ⟨.non, _, I.lset (its' := its ++ its2) hH e (by simp) (r.append r2) ?_, rfl, q⟩
  rw [List.length_append]
  omega
def rCat : R2 := fun x y H Q => ∃ l b xs zs, x = .ref l ∧ y = .ref b ∧ H l = some (.lst xs) ∧ H b = some (.lst zs) ∧ xs.length + zs.length ≤ sizeLine ∧ ∀ p, H p = none → Q (.ref p) (upd H p (.lst (xs ++ zs)))
theorem op_cat : OpR X (binaryOp .Add) rCat := by
  intro pins s σ H x y v u Q I rx ry h
  obtain ⟨l, b, xs, zs, rfl, rfl, hH, hB, hz, q⟩ := h
  cases rx
  cases ry
  obtain ⟨z, its, n, r, hl, e⟩ := I.lstM hH
  obtain ⟨z2, its2, n2, r2, hl2, e2⟩ := I.lstM hB
  refine PySem.P.add_list e e2 ?_ (by rw [List.size_toArray, List.size_toArray]; omega)
  have ea : its.toArray ++ its2.toArray = (its ++ its2).toArray := by simp
  rw [ea]
  exact ⟨.ref _, _, I.lnew (t' := s.toks) (r.append r2) (by rw [List.length_append]; omega), rfl, q _ I.fresh⟩
def rRep : R2 := fun x y H Q => ∃ l k xs, x = .ref l ∧ y = .int k ∧ H l = some (.lst xs) ∧ -(2 ^ 63) ≤ k ∧ k < 2 ^ 63 ∧ xs.length * k.toNat ≤ sizeLine ∧
  ∀ p, H p = none → Q (.ref p) (upd H p (.lst (List.replicate k.toNat xs).flatten))
theorem len_rep {α : Type} (xs : List α) (k : Nat) : (List.replicate k xs).flatten.length = k * xs.length := by
  induction k with
  | zero => simp
  | succ k ih => rw [List.replicate_succ, List.flatten_cons, List.length_append, ih, Nat.succ_mul, Nat.add_comm]
theorem op_rep : OpR X (binaryOp .Mult) rRep := by
  intro pins s σ H x y v u Q I rx ry h
  obtain ⟨l, k, xs, rfl, rfl, hH, h1, h2, hz, q⟩ := h
  cases rx
  obtain ⟨t, rfl⟩ := ry
  obtain ⟨z, its, n, r, hl, e⟩ := I.lstM hH
  have hlen : its.toArray.size * k.toNat ≤ sizeLine := by rw [List.size_toArray, ← hl]; exact hz
  have hcap : ¬ its.toArray.size * k.toNat > (2 ^ 63 - 1) / 8 := by
    have : (sizeLine : Nat) ≤ (2 ^ 63 - 1) / 8 := by decide
    omega
  have hfit : ¬ (!Builtin.List.listFitsIndex k) = true := by
    rw [fitsIndex_both h1 h2]
    exact Bool.false_ne_true
  have hlong : ¬ Builtin.List.listTooLong (its.toArray.size * k.toNat) = true := by
    rw [notLongL hlen]
    exact Bool.false_ne_true
  have hnew : List.foldl (fun x1 x2 => x1 ++ x2) #[] (List.replicate (if its.toArray.isEmpty = true then 0 else k.toNat) its.toArray) = (List.replicate k.toNat its).flatten.toArray := by
    have f0 : ∀ m : Nat, List.foldl (fun x1 x2 => x1 ++ x2) #[] (List.replicate m its.toArray) = (List.replicate m its).flatten.toArray := fun m => by
      have := foldl_rep its m []
      rw [List.nil_append] at this
      exact this
    rw [f0]
    cases its with
    | nil => simp
    | cons a r' => rw [if_neg (by simp)]
  refine wpAny_binaryOp_repeat_ref (T := "list") (U := "int") (by decide) ⟨_, e, rfl⟩ (fun s' => typeIs_int s' k t) noFill_list_mul F.fills_int_mul F.slot_int_rmul repeat_list F.slot_int_index.lookup
    (call_meets F.slot_int_rmul (typeIs_int s k t) F.entry_int_rmul (F.args_int_rmul_2 _ _) (int___rmul___int_list k t l its.toArray n)
      ⟨e, rfl, ⟨_, e, rfl⟩, call_meets F.slot_list_mul ⟨_, e, rfl⟩ F.entry_list_mul (F.args_list_mul_2 _ _) (AutoListH.list___mul___list_int_3 l its.toArray n k t hfit hcap hlong) ⟨e, ?_⟩⟩)
  rw [hnew]
  exact ⟨.ref _, _, I.lnew (t' := s.toks) (r.rep k.toNat) (by rw [len_rep, Nat.mul_comm]; exact hz), rfl, q _ I.fresh⟩
end
section
variable {prog : Program} {w : World} {A : Around} {E : Value → Shared → Prop} {s : Shared}
end
section
variable {X : Cx}
end
end L2
namespace Att
open PySem PySem.W PySem.Calls PyProof.Rows
theorem ints_of_wellAll {P : Params} {h : Heap} : ∀ (ns : List Int) (vs : List Value), WellAll P h vs (ns.map WData.int) → IntsAre vs ns := by
  intro ns
  induction ns with
  | nil =>
    intro vs w
    rw [List.map_nil] at w
    cases w
    exact .nil
  | cons n ns ih =>
    intro vs w
    rw [List.map_cons] at w
    cases w with
    | cons a b =>
      cases a
      exact .cons _ _ (ih _ b)
theorem script_of {l : OpenLaw} {n : Nat} (hn : l.most = some n) {P : Params} {h : Heap} {args : List WData} {vals : List Value}
    (hpre : l.row.toRowW.claim.pre args = true) (hwl : WellAll P h vals args) :
    ∃ a vs ns, vals = [Value.ref a] ∧ args = [WData.list (ns.map WData.int)] ∧ h.get? a = some { cls := .type "list", data := .seq vs.toArray } ∧ IntsAre vs ns ∧ ns.length ≤ n := by
  have hsh : WShape.hasAll [] args [.list .int] = true := (pre_splitW hpre).1
  have hc : l.pre.holds [] { args := args } = true := (pre_splitW hpre).2
  obtain ⟨d, r, rfl, h1, h2⟩ := hasAllW_cons hsh
  obtain rfl := hasAllW_nil h2
  obtain ⟨xs, rfl, h3⟩ := hasW_list h1
  obtain ⟨ns, rfl⟩ := items_int h3
  have hlen : ns.length ≤ n := by
    unfold OpenLaw.pre at hc
    have h4 : (WTm.not (.lt (.lit (.int (n : Int))) (.len (.arg 0)))).holds [] { args := [.list (ns.map .int)] } = true := by
      have h4 := (holds_andW hc).1
      rw [hn] at h4
      exact h4
    have h5 := condW_of h4 (w_not (w_lt w_lit (w_len_list (w_arg rfl))))
    rw [List.length_map] at h5
    refine Nat.le_of_not_lt fun q => ?_
    have q' : (n : Int) < ((ns.length : Nat) : Int) := by omega
    first
      | (rw [decide_eq_true q'] at h5; exact absurd h5 (by decide))
      | (simp at h5; omega)
  cases hwl with
  | cons w1 w2 =>
    cases w2
    cases w1 with
    | list ho hall => exact ⟨_, _, ns, rfl, rfl, ho, ints_of_wellAll ns _ hall, hlen⟩
theorem post_true (l : OpenLaw) (args : List WData) : l.row.toRowW.claim.post args (.bool true) args = true :=
  postW_of (r := l.row.toRowW) (X := (true == true))
    (show WShape.has [] (.bool true) .bool = true by first | rfl | decide | simp [WShape.has, WShape.arms, WShape.armsAll])
    (show (WTm.eq .res (.lit (.bool true))).value [] { args := args, res := some (.bool true), after := args } = some (.bool (true == true)) from w_eq_bool (w_res rfl) w_lit) rfl
theorem attach_call {l : OpenLaw} {n : Nat} {q : Program} {loose : List Str} {XP : (Str → Option Value) → Heap → Prop} {YP : World → Heap → Prop} {d : DefRec}
    (hn : l.most = some n) (hdf : d.params.defaults = [])
    (call : ∀ (w : World) (s₀ s₁ : Shared) (mg mb : Str → Option Value) (fa : Addr) (o : Obj) (pm cd doc : Value) (a : Addr) (vs : List Value) (ns : List Int),
      Ground q loose [] XP w s₀ mg mb s₁.heap → YP w s₁.heap →
      s₁.heap.get? fa = some o → o.data = .func (docDef d.name d.params d.body d.scope pm cd doc) → s₁.heap.CodeRec cd d.name → mg d.name = some (.ref fa) →
      s₁.heap.get? a = some { cls := .type "list", data := .seq vs.toArray } → IntsAre vs ns → ns.length ≤ n → s₁.gens = #[] →
      codeAny (model l.prog w) callerA (.call (.ref fa) ⟨[.ref a], []⟩) (fun r s' => r = .ok (.ret (.bool true)) ∧ OldK s₁.heap s'.heap ∧ s'.os = s₁.os ∧ AllBare s'.gens) s₁) :
    WalkO q loose XP YP l.row.toRowW d [] (fun f vs => PySem.call f vs) := by
  intro w s₀ s₁ mg mb G Y fa o pm cd doc dV kV ho hd hcd hD hmg hg args vals as hpre hlay hrd hwl hlo
  obtain rfl : dV = .none := Dflts.none hD hdf
  obtain rfl : kV = .none := Dflts.noKw hD
  obtain ⟨a, vs, ns, rfl, rfl, hobj, hints, hlen⟩ := script_of hn hpre hwl
  refine enter_call (codeAny_mono (call w s₀ s₁ mg mb fa o pm cd doc a vs ns G Y ho (fd_plain hd) hcd hmg hobj hints hlen hg) fun r s' hq => ?_)
  obtain ⟨rfl, h2, h3, h4⟩ := hq
  exact ⟨.inl ⟨.bool true, .bool true, [], rfl, fun _ => rfl, .bool true, post_true l _, fun _ => ⟨List.Pairwise.nil, fun _ hm => (nomatch hm)⟩⟩, h2, h3, h4⟩
section
variable {prog : Program} {w : World} {A : Around} {E : Value → Shared → Prop} {s : Shared} {K : Frag}
end
end Att
namespace L2
open PySem PySem.Spec PyProof.Rows
theorem vals_ints : ∀ {vs : List Value} {ns : List Int}, IntsAre vs ns → Vals (ns.map V.int) vs
  | _, _, .nil => .nil
  | _, _, .cons n t h => .cons ⟨t, rfl⟩ (vals_ints h)
end L2
namespace L2
open PySem PySem.Spec PyProof.Rows
end L2
namespace L2
open PySem PySem.Spec PyProof.Rows
def inClass (s : Stmt) (j : Nat) : Stmt := match s with
  | .ClassDef _ _ _ body _ _ _ _ _ _ _ => body.getD j (.Pass ⟨0, 0, 0, 0⟩)
  | _ => .Pass ⟨0, 0, 0, 0⟩
def defArgs (s : Stmt) : Arguments := match s with
  | .FunctionDef _ a _ _ _ _ _ _ _ _ => a
  | _ => { posonlyargs := [], args := [], vararg := none, kwonlyargs := [], kw_defaults := [], kwarg := none, defaults := [] }
def defBody (s : Stmt) : List Stmt := match s with
  | .FunctionDef _ _ b _ _ _ _ _ _ _ => b
  | _ => []
def defScope (s : Stmt) : Scope := match s with
  | .FunctionDef _ _ _ _ _ _ sc _ _ _ => sc
  | _ => { kind := .function, names := [], isGenerator := false, isCoroutine := false }
abbrev CX0 : CXT := fun _ _ _ _ _ _ => False
abbrev E0 : XK := fun _ _ _ => False
theorem pass0 {X : Cx} : Passes CX0 X E0 := fun _ _ _ _ _ _ _ h => h.elim
structure Fun (K : PySem.W.Frag) (x qual : Str) (st : Stmt) (f : Addr) (fd : FuncData) : Prop where
  ex : ∃ (oc : Value) (od : Option Addr) (kV doc pm : Value) (an : Option Addr) (cdv ct : Value) (osl : Array (Option Value)),
    fd = PySem.W.fnOf x qual (defArgs st) (defBody st) (defScope st) .none kV doc pm an cdv ct ∧ K.lookup f = some ⟨oc, od, .func fd, osl⟩ ∧ PySem.W.codeIn K cdv qual = true
  kp : PySem.W.keepIn K (.ref f) = true
section
variable {P : Program} {w : World} {K : PySem.W.Frag} {mg : Str → Option Value} {base : Heap}
theorem Fun.ok {x qual : Str} {st : Stmt} {f : Addr} {fd : FuncData} {N ps : List Str} {k : Nat} {sp : Sp} (F : Fun K x qual st f fd) (S : FnScope N ps (defScope st)) (len : ∀ vs H Q E, sp vs H Q E → vs.length = ps.length)
    (hbody : ∀ (cdv : Value) (A : Around) (outer : List Env) (s : Shared) (H : Hp) (vs : List V) (Q : VK) (E : XK), Room k (A.deeper (envOfC qual (defScope st) s.heap.objs.size f cdv)) → sp vs H Q E →
      ∃ t, PSs (cxOf CX0 P w K mg base N qual (defScope st) f cdv A outer s H E).nox (defBody st) t ∧ t { nx := fun _ H' => Q .non H', rt := Q } (start N vs) H) : FnOk P w K mg base CX0 (k + 1) f fd ps sp := by
  obtain ⟨oc, od, kV, doc, pm, an, cdv, ct, osl, rfl, lk, hcd⟩ := F.ex
  refine fn_of lk hcd S len fun A outer s H vs Q E hr hsp => ?_
  obtain ⟨t, h, q⟩ := hbody cdv A outer s H vs Q E hr hsp
  exact ⟨t, h.nox, q⟩
theorem Fun.binds {x qual : Str} {st : Stmt} {f : Addr} {fd : FuncData} {ps : List Str} (F : Fun K x qual st f fd)
    (h : ∀ (kV doc pm : Value) (an : Option Addr) (cdv ct : Value) (us : List Value), us.length = ps.length → bindArgs (PySem.W.fnOf x qual (defArgs st) (defBody st) (defScope st) .none kV doc pm an cdv ct) ⟨us, []⟩ = pure (ps.zip us)) : Binds K fd ps [] := by
  obtain ⟨oc, od, kV, doc, pm, an, cdv, ct, osl, rfl, lk, hcd⟩ := F.ex
  exact .all (h kV doc pm an cdv ct)
theorem fun_mk {x qual : Str} {st : Stmt} {f : Addr} {oc : Value} {od an : Option Addr} {osl : Array (Option Value)} {kV doc pm cdv ct : Value} (l : K.lookup f = some ⟨oc, od, .func (PySem.W.fnOf x qual (defArgs st) (defBody st) (defScope st) .none kV doc pm an cdv ct), osl⟩)
    (c : PySem.W.codeIn K cdv qual = true) (k : PySem.W.keepIn K (.ref f) = true) : Fun K x qual st f (PySem.W.fnOf x qual (defArgs st) (defBody st) (defScope st) .none kV doc pm an cdv ct) := ⟨⟨oc, od, kV, doc, pm, an, cdv, ct, osl, rfl, l, c⟩, k⟩
end
theorem hu_of {A : Around} {k : Nat} (hr : Room k A) : A.units + 1 < cLine := Nat.lt_of_le_of_lt (Nat.add_le_add_left (by decide : 1 ≤ 64) _) hr.units
theorem small1000 {n : Nat} (h : n ≤ 1000) : n < sizeLine := Nat.lt_of_le_of_lt h (by decide)
section
variable {X : Cx}
theorem pv (i : Nat) {x : Str} {pos : Pos} (hN : X.N[i]? = some x := by rfl) (hv : Vis X.env.scope x := by first | exact Or.inl rfl | exact Or.inr (Or.inl rfl) | exact Or.inr (Or.inr rfl)) (hd : (x == ("__debug__" : Str)) = false := by decide)
    (hcd : (x == ("__classdict__" : Str)) = false := by decide) : PE X (.Name x pos) (tVar i) := pe_var hN hv hd hcd
end
theorem iteF {A B : Prop} (h : B) : if false = true then A else B := by
  rw [if_neg Bool.false_ne_true]
  exact h
theorem iteT {A B : Prop} (h : A) : if true = true then A else B := by
  rw [if_pos rfl]
  exact h
theorem ite2 {c A B : Prop} [Decidable c] (h1 : c → A) (h2 : ¬ c → B) : if c then A else B := by
  by_cases h : c
  · rw [if_pos h]
    exact h1 h
  · rw [if_neg h]
    exact h2 h
def Same (H H' : Hp) : Prop := ∀ b o, H b = some o → H' b = some o
theorem Same.refl (H : Hp) : Same H H := fun _ _ h => h
theorem Same.trans {H H1 H2 : Hp} (a : Same H H1) (b : Same H1 H2) : Same H H2 := fun c o h => b c o (a c o h)
theorem Same.free {H H' : Hp} (e : Same H H') {l : Addr} (h : H' l = Option.none) : H l = Option.none := by
  cases q : H l with
  | none => rfl
  | some o =>
    rw [e l o q] at h
    cases h
theorem Same.seq {K : PySem.W.Frag} {H H' : Hp} {a : Addr} {xs : List V} (e : Same H H') (h : SqL K H a xs) : SqL K H' a xs := by
  rcases h with (h | ⟨o, h⟩) | h
  · exact .inl (.inl (e _ _ h))
  · exact .inl (.inr ⟨o, e _ _ h⟩)
  · exact .inr h
end L2
namespace L2
open PySem PySem.Spec PyProof.Rows
section
variable {κ : Type} [DecidableEq κ]
def valV (kvs : List (κ × V)) (k : κ) : Option V := (kvs.find? fun kv => decide (kv.1 = k)).map (·.2)
def putK (kvs : List (κ × V)) (k : κ) (v : V) : List (κ × V) :=
  if (kvs.any fun kv => decide (kv.1 = k)) = true then kvs.map (fun kv => if kv.1 = k then (kv.1, v) else kv) else kvs ++ [(k, v)]
def dropK (kvs : List (κ × V)) (k : κ) : List (κ × V) := kvs.filter fun kv => decide (kv.1 ≠ k)
theorem valV_pos {p : κ × V} {r : List (κ × V)} {k : κ} (e : p.1 = k) : valV (p :: r) k = some p.2 := by simp [valV, List.find?_cons, e]
theorem valV_neg {p : κ × V} {r : List (κ × V)} {k : κ} (e : ¬ p.1 = k) : valV (p :: r) k = valV r k := by simp [valV, List.find?_cons, e]
theorem valV_any (k : κ) : ∀ kvs : List (κ × V), (kvs.any fun kv => decide (kv.1 = k)) = (valV kvs k).isSome
  | [] => rfl
  | p :: r => by
    rw [List.any_cons]
    by_cases e : p.1 = k
    · simp only [valV_pos e, decide_eq_true e, Bool.true_or, Option.isSome_some]
    · rw [valV_neg e, decide_eq_false e, Bool.false_or]; exact valV_any k r
theorem length_putK (kvs : List (κ × V)) (k : κ) (v : V) : (putK kvs k v).length ≤ kvs.length + 1 := by
  unfold putK
  split
  · rw [List.length_map]; omega
  · rw [List.length_append, List.length_cons, List.length_nil]; omega
theorem RelO.isSome_eq {o : Option V} {u : Option Value} (r : RelO o u) : o.isSome = u.isSome := by
  cases o with
  | none => cases u with
    | none => rfl
    | some _ => exact (show False from r).elim
  | some _ => cases u with
    | none => exact (show False from r).elim
    | some _ => rfl
theorem RelO.getD {o : Option V} {u : Option Value} {d : V} {d' : Value} (r : RelO o u) (rd : RelV d d') : RelV (o.getD d) (u.getD d') := by
  cases o with
  | none => cases u with
    | none => exact rd
    | some _ => exact (show False from r).elim
  | some _ => cases u with
    | none => exact (show False from r).elim
    | some _ => exact r
theorem KV.val {kvs : List (κ × V)} {vs : List (κ × Value)} (r : KV kvs vs) (k : κ) : RelO (valV kvs k) (valueAt vs k) := by
  unfold KV at r
  induction r with
  | nil => exact True.intro
  | @cons p q ps qs h t ih =>
    obtain ⟨h1, h2⟩ := h
    by_cases e : p.1 = k
    · have e' : q.1 = k := h1.symm.trans e
      have b : valueAt (q :: qs) k = some q.2 := by simp [valueAt, List.find?_cons, e']
      rw [valV_pos e, b]; exact h2
    · have e' : ¬ q.1 = k := fun z => e (h1.trans z)
      have b : valueAt (q :: qs) k = valueAt qs k := by simp [valueAt, List.find?_cons, e']
      rw [valV_neg e, b]; exact ih
theorem KV.any {kvs : List (κ × V)} {vs : List (κ × Value)} (r : KV kvs vs) (k : κ) : (kvs.any fun kv => decide (kv.1 = k)) = vs.any fun kv => decide (kv.1 = k) := by
  unfold KV at r
  induction r with
  | nil => rfl
  | cons h t ih => rw [List.any_cons, List.any_cons, ih, h.1]
theorem KV.repl {kvs : List (κ × V)} {vs : List (κ × Value)} (r : KV kvs vs) (k : κ) {y : V} {u : Value} (ry : RelV y u) :
    KV (kvs.map fun kv => if kv.1 = k then (kv.1, y) else kv) (vs.map fun kv => if kv.1 = k then (kv.1, u) else kv) := by
  unfold KV at r ⊢
  induction r with
  | nil => exact .nil
  | @cons p q ps qs h t ih =>
    rw [List.map_cons, List.map_cons]
    refine .cons ?_ ih
    obtain ⟨h1, h2⟩ := h
    by_cases e : p.1 = k
    · rw [if_pos e, if_pos (h1.symm.trans e)]; exact ⟨h1, ry⟩
    · rw [if_neg e, if_neg (fun z => e (h1.trans z))]; exact ⟨h1, h2⟩
theorem KV.put {kvs : List (κ × V)} {vs : List (κ × Value)} (r : KV kvs vs) (k : κ) {y : V} {u : Value} (ry : RelV y u) : KV (putK kvs k y) (stored vs k u) := by
  unfold putK stored
  rw [r.any k]
  by_cases e : (vs.any fun kv => decide (kv.1 = k)) = true
  · rw [if_pos e, if_pos e]; exact r.repl k ry
  · rw [if_neg e, if_neg e]; exact Paired.snoc r ⟨rfl, ry⟩
theorem KV.drop {kvs : List (κ × V)} {vs : List (κ × Value)} (r : KV kvs vs) (k : κ) : KV (dropK kvs k) (without vs k) := by
  unfold KV at r ⊢
  unfold dropK without
  induction r with
  | nil => exact .nil
  | @cons p q ps qs h t ih =>
    obtain ⟨h1, h2⟩ := h
    rw [List.filter_cons, List.filter_cons]
    by_cases e : p.1 = k
    · have a : ¬ decide (p.1 ≠ k) = true := by simp [e]
      have b : ¬ decide (q.1 ≠ k) = true := by simp [h1.symm.trans e]
      rw [if_neg a, if_neg b]; exact ih
    · have e' : ¬ q.1 = k := fun z => e (h1.trans z)
      have a : decide (p.1 ≠ k) = true := by simp [e]
      have b : decide (q.1 ≠ k) = true := by simp [e']
      rw [if_pos a, if_pos b]; exact .cons ⟨h1, h2⟩ ih
theorem KV.keys {kvs : List (κ × V)} {vs : List (κ × Value)} (r : KV kvs vs) : kvs.map (·.1) = vs.map (·.1) := by
  unfold KV at r
  induction r with
  | nil => rfl
  | cons h t ih => rw [List.map_cons, List.map_cons, ih, h.1]
theorem KV.length {kvs : List (κ × V)} {vs : List (κ × Value)} (r : KV kvs vs) : kvs.length = vs.length := Paired.length r
end
theorem kV_is {P : Program} {w : World} {k : Key} {u : Value} (r : RelV (kV k) u) : (mixKind P w).is k u = true := by
  cases k with
  | inl i => obtain ⟨t, e⟩ := (show ∃ t, u = Value.int i t from r); subst e; exact mixKind_int P w i t
  | inr x => obtain ⟨t, e⟩ := (show ∃ t, u = Value.str x t from r); subst e; exact mixKind_str P w x t
theorem items_are {P : Program} {w : World} : ∀ {ks : List Key} {us : List Value}, Vals (ks.map kV) us → ItemsAre (mixKind P w) ks us
  | [], _, r => by rw [List.map_nil] at r; cases r; exact .nil
  | k :: ks, _, r => by
    rw [List.map_cons] at r
    cases r with
    | cons h t => exact .cons (kV_is h) (items_are t)
abbrev KT (H : Hp) : List (List Key × V) → List (List Key × Addr × Value) → Prop := Paired fun p q => p.1 = q.1 ∧ H q.2.1 = some (.tup (p.1.map kV)) ∧ RelV p.2 q.2.2
theorem KT.val {H : Hp} {kvs : List (List Key × V)} {xs : List (List Key × Addr × Value)} (r : KT H kvs xs) (k : List Key) : RelO (valV kvs k) ((atKey xs k).map (·.2)) := by
  induction r with
  | nil => exact True.intro
  | @cons p q ps qs h t ih =>
    obtain ⟨h1, _, h2⟩ := h
    by_cases e : p.1 = k
    · have e' : q.1 = k := h1.symm.trans e
      have b : atKey (q :: qs) k = some q.2 := by simp [atKey, List.find?_cons, e']
      rw [valV_pos e, b]; exact h2
    · have e' : ¬ q.1 = k := fun z => e (h1.trans z)
      have b : atKey (q :: qs) k = atKey qs k := by simp [atKey, List.find?_cons, e']
      rw [valV_neg e, b]; exact ih
theorem KT.repl {H : Hp} {kvs : List (List Key × V)} {xs : List (List Key × Addr × Value)} (r : KT H kvs xs) (k : List Key) {y : V} {u : Value} (ry : RelV y u) :
    KT H (kvs.map fun kv => if kv.1 = k then (kv.1, y) else kv) (xs.map (putAt k u)) := by
  induction r with
  | nil => exact .nil
  | @cons p q ps qs h t ih =>
    rw [List.map_cons, List.map_cons]
    refine .cons ?_ ih
    obtain ⟨h1, h2, h3⟩ := h
    unfold putAt
    by_cases e : p.1 = k
    · rw [if_pos e, if_pos (h1.symm.trans e)]; exact ⟨h1, h2, ry⟩
    · rw [if_neg e, if_neg (fun z => e (h1.trans z))]; exact ⟨h1, h2, h3⟩
theorem KT.put {H : Hp} {kvs : List (List Key × V)} {xs : List (List Key × Addr × Value)} (r : KT H kvs xs) (k : List Key) {b : Addr} {y : V} {u : Value} (hb : H b = some (.tup (k.map kV))) (ry : RelV y u) :
    KT H (putK kvs k y) (storedH xs k b u) := by
  have e : (kvs.any fun kv => decide (kv.1 = k)) = (atKey xs k).isSome := by
    rw [valV_any, (r.val k).isSome_eq, Option.isSome_map]
  unfold putK storedH
  rw [e]
  by_cases q : (atKey xs k).isSome = true
  · rw [if_pos q, if_pos q]; exact r.repl k ry
  · rw [if_neg q, if_neg q]; exact Paired.snoc r ⟨rfl, hb, ry⟩
theorem KT.keeps {H H' : Hp} {kvs : List (List Key × V)} {xs : List (List Key × Addr × Value)} (r : KT H kvs xs) (ht : ∀ b ys, H b = some (.tup ys) → H' b = some (.tup ys)) : KT H' kvs xs :=
  Paired.mapP r fun _ _ z => ⟨z.1, ht _ _ z.2.1, z.2.2⟩
section
variable {P : Program} {w : World} {H : Hp} {h : Heap} {a : Addr}
theorem rd_of {u : HO} (ok : HOk P w H h) (e : Rd H a u) : ObjOk P w H h a u := e.ok ok
theorem dk_rd {kvs : List (Key × V)} (ok : HOk P w H h) (e : Rd H a (.dK kvs)) : kvs.length ≤ sizeLine ∧ (a == sysModules) = false ∧ ∃ vs, KV kvs vs ∧ h.DictOf (mixKind P w) a vs :=
  show ObjOk P w H h a (.dK kvs) from rd_of ok e
theorem dk_of {kvs : List (Key × V)} (ok : HOk P w H h) (e : H a = some (.dK kvs)) : kvs.length ≤ sizeLine ∧ (a == sysModules) = false ∧ ∃ vs, KV kvs vs ∧ h.DictOf (mixKind P w) a vs := dk_rd ok (.inl e)
theorem key_of {ks : List Key} (ok : HOk P w H h) (e : H a = some (.tup (ks.map kV))) : (tupleKind (mixKind P w)).is h ks a := by
  obtain ⟨_, its, r, o, h1, h2, n, h3⟩ := (show ObjOk P w H h a (.tup (ks.map kV)) from ok a _ e)
  exact ⟨o, its.toArray, n, h1, h2, h3, by simpa using items_are r⟩
theorem dt_rd {kvs : List (List Key × V)} (ok : HOk P w H h) (e : Rd H a (.dT kvs)) : kvs.length ≤ sizeLine ∧ (a == sysModules) = false ∧
    ∃ xs, KT H kvs xs ∧ h.DictOfH (tupleKind (mixKind P w)) a xs := by
  obtain ⟨z, y, xs, r, o, es, ep, h1, h2, h3, h4, h5⟩ := (show ObjOk P w H h a (.dT kvs) from rd_of ok e)
  refine ⟨z, y, xs, r, o, es, ep, h1, h2, h3, h4, fun x hx => ?_, h5⟩
  have all : ∀ {l : List (List Key × V)} {m : List (List Key × Addr × Value)}, KT H l m → ∀ x ∈ m, (tupleKind (mixKind P w)).is h x.1 x.2.1 := by
    intro l m q
    induction q with
    | nil => intro x hx; exact nomatch hx
    | @cons p q ps qs hq t ih =>
      intro x hx
      rcases List.mem_cons.mp hx with e | hx
      · subst e
        exact key_of ok (by rw [← hq.1]; exact hq.2.1)
      · exact ih x hx
  exact all r x hx
theorem dt_of {kvs : List (List Key × V)} (ok : HOk P w H h) (e : H a = some (.dT kvs)) : kvs.length ≤ sizeLine ∧ (a == sysModules) = false ∧
    ∃ xs, KT H kvs xs ∧ h.DictOfH (tupleKind (mixKind P w)) a xs := dt_rd ok (.inl e)
end
def DGet (H : Hp) (a : Addr) (y : V) (r : Option V) : Prop :=
  (∃ kvs k, Rd H a (.dK kvs) ∧ y = kV k ∧ r = valV kvs k) ∨ ∃ kvs k b, Rd H a (.dT kvs) ∧ y = .ref b ∧ H b = some (.tup (k.map kV)) ∧ r = valV kvs k
def DPut (H : Hp) (a : Addr) (y v : V) (H' : Hp) : Prop :=
  (∃ kvs k, H a = some (.dK kvs) ∧ y = kV k ∧ kvs.length < sizeLine ∧ H' = upd H a (.dK (putK kvs k v))) ∨
  ∃ kvs k b, H a = some (.dT kvs) ∧ y = .ref b ∧ H b = some (.tup (k.map kV)) ∧ kvs.length < sizeLine ∧ H' = upd H a (.dT (putK kvs k v))
theorem DGet.k {H : Hp} {a : Addr} {kvs : List (Key × V)} {k : Key} (e : H a = some (.dK kvs)) : DGet H a (kV k) (valV kvs k) := .inl ⟨kvs, k, .inl e, rfl, rfl⟩
theorem DGet.t {H : Hp} {a b : Addr} {kvs : List (List Key × V)} {k : List Key} (e : H a = some (.dT kvs)) (eb : H b = some (.tup (k.map kV))) : DGet H a (.ref b) (valV kvs k) := .inr ⟨kvs, k, b, .inl e, rfl, eb, rfl⟩
theorem DPut.k {H : Hp} {a : Addr} {kvs : List (Key × V)} {k : Key} {v : V} (e : H a = some (.dK kvs)) (hl : kvs.length < sizeLine) : DPut H a (kV k) v (upd H a (.dK (putK kvs k v))) := .inl ⟨kvs, k, e, rfl, hl, rfl⟩
theorem DPut.t {H : Hp} {a b : Addr} {kvs : List (List Key × V)} {k : List Key} {v : V} (e : H a = some (.dT kvs)) (eb : H b = some (.tup (k.map kV))) (hl : kvs.length < sizeLine) :
    DPut H a (.ref b) v (upd H a (.dT (putK kvs k v))) := .inr ⟨kvs, k, b, e, rfl, eb, hl, rfl⟩
section
variable {X : Cx} {pins : List (Addr × Obj)} {σ : St} {H : Hp} {s : Shared} {a : Addr} {y v : V} {u r : Value} {o : Option V} {A : Around} {E : Value → Shared → Prop}
theorem Inv.big (I : Inv X pins σ H s) : sysModules < s.heap.objs.size := by
  have h : mainGlobals < s.heap.objs.size := (I.mod.glob.keeps I.bk).lt
  exact Nat.lt_trans (by decide) h
theorem d_getItem {Q : Value → Shared → Prop} (hu : A.units + 1 < cLine) (I : Inv X pins σ H s) (g : DGet H a y (some v)) (ry : RelV y u) (h : ∀ w' s', Inv X pins σ H s' → RelV v w' → Q w' s') :
    wpAny (model X.prog X.w) A (getItem (.ref a) u) Q E s := by
  rcases g with ⟨kvs, k, e, ey, l⟩ | ⟨kvs, k, b, e, ey, eb, l⟩
  · subst ey
    obtain ⟨z, hd, vs, rel, dd⟩ := dk_rd I.hok e
    obtain ⟨w', hw, rw'⟩ := RelO.some_of (v := v) (o := valueAt vs k) (by rw [l]; exact rel.val k)
    exact wpAny_getItem_of (kV_is ry) dd.mapOf hw (h w' _ (I.tok _) rw')
  · subst ey
    cases (show u = Value.ref b from ry)
    obtain ⟨z, hd, xs, rel, dd⟩ := dt_rd I.hok e
    obtain ⟨w', hw, rw'⟩ := RelO.some_of (v := v) (o := (atKey xs k).map (·.2)) (by rw [l]; exact rel.val k)
    obtain ⟨p, hp, hp2⟩ := Option.map_eq_some_iff.mp hw
    refine wpAny_getItem_heap (tupleKind_room_in1 hu) (key_of I.hok eb) dd hp ?_
    rw [hp2]
    exact h w' _ (I.tok _) rw'
theorem d_write {h' : Heap} {t' : Nat} {ob : HO} (I : Inv X pins σ H s) (mu : Mut (H a)) (hs : Heap.SameBut a s.heap h') (he : ∃ q, h'.get? a = some q) (new : ObjOk X.prog X.w (upd H a ob) h' a ob) :
    Inv X pins σ (upd H a ob) { s with heap := h', toks := t' } :=
  I.write (x := a) (e := a) mu (.inl rfl) (fun b q hb z => (hs.2 b hb).trans z) he new
theorem dk_new {P : Program} {w : World} {H' : Hp} {h' : Heap} {kvs : List (Key × V)} {vs : List (Key × Value)} (z : kvs.length ≤ sizeLine) (hd : (a == sysModules) = false) (rel : KV kvs vs) (dd : h'.DictOf (mixKind P w) a vs) :
    ObjOk P w H' h' a (.dK kvs) := ⟨z, hd, vs, rel, dd⟩
theorem d_setItem {H' : Hp} {Q : Unit → Shared → Prop} (hu : A.units + 1 < cLine) (I : Inv X pins σ H s) (g : DPut H a y v H') (ry : RelV y u) (rv : RelV v r) (h : ∀ s', Inv X pins σ H' s' → Q () s') :
    wpAny (model X.prog X.w) A (setItem (.ref a) u r) Q E s := by
  rcases g with ⟨kvs, k, e, ey, l, eH⟩ | ⟨kvs, k, b, e, ey, eb, l, eH⟩
  · subst ey eH
    obtain ⟨z, hd, vs, rel, dd⟩ := dk_of I.hok e
    have hz : vs.length ≤ sizeLine := by rw [← rel.length]; exact z
    have hl : (putK kvs k v).length ≤ sizeLine := by have := length_putK kvs k v; omega
    refine wpAny_setItem_pairs (hsz := hz) (kV_is ry) dd fun h' dd' hs => h _ ?_
    have he : ∃ q, h'.get? a = some q := let ⟨q, _, _, hq, _⟩ := dd'; ⟨q, hq⟩
    exact d_write I (by rw [e]; exact True.intro) hs he (dk_new hl hd (rel.put k rv) dd')
  · subst ey eH
    cases (show u = Value.ref b from ry)
    obtain ⟨z, hd, xs, rel, dd⟩ := dt_of I.hok e
    have hz : xs.length ≤ sizeLine := by rw [← Paired.length rel]; exact z
    have hl : (putK kvs k v).length ≤ sizeLine := by have := length_putK kvs k v; omega
    refine wpAny_setItem_heap (hsz := hz) (tupleKind_room_in1 hu) (key_of I.hok eb) dd fun h' dd' hs => h _ ?_
    obtain ⟨q, es, ep, hq, h2, h3, h4, _, h5⟩ := dd'
    refine d_write I (by rw [e]; exact True.intro) hs ⟨q, hq⟩ ⟨hl, hd, _, (rel.put k eb rv).keeps fun c ys ec => ?_, q, es, ep, hq, h2, h3, h4, h5⟩
    rw [upd_ne (ne_of ec e (fun z => nomatch z))]
    exact ec
end
section
variable {X : Cx} {pins : List (Addr × Obj)} {σ : St} {H : Hp} {s : Shared} {a : Addr} {kvs : List (Key × V)} {k : Key} {u : Value} {A : Around} {E : Value → Shared → Prop}
end
def NoSl (i : Expr) : Prop := ∀ ov iv, subscripted i false ov iv = operate [ov, iv] (getItem ov iv)
theorem subD_of {prog : Program} {w : World} {A : Around} {E : Value → Shared → Prop} {s : Shared} {env : Env} {value slice : Expr} {pos : Pos} {T id : String} {Q : Value → Shared → Prop}
    (hl : typeLookup (.type T) "__getitem__" = pure (some (.builtin id))) (hs : NoSl slice)
    (h : wpAny (model prog w) A (eval value env) (fun o s₁ => wpAny (model prog w) A (eval slice env) (fun i s₂ => s₂.TypeIs o T ∧ wpAny (model prog w) A (getItem o i) Q E s₂) E s₁) E s) :
    wpAny (model prog w) A (eval (.Subscript value slice pos) env) Q E s := by
  refine Subscript_ (wpAny_mono h (fun o s₁ h₁ => wpAny_mono h₁ (fun i s₂ h₂ => ?_) fun _ _ x => x) fun _ _ x => x)
  obtain ⟨hT, h₂⟩ := h₂
  unfold subscriptTail
  refine wpAny_bind ?_
  rw [getitemInPython_of_ne hT.not_modules]
  refine wpAny_bind (wpAny_specialOf hT hl ?_)
  have fin : wpAny (model prog w) A (subscripted slice false o i) (fun r s₃ => wpAny (model prog w) A (letTemporaryGo value o r >>= fun _ => pure r) Q E s₃) E s₂ := by
    rw [hs o i]
    exact wpAny_operating (wpAny_mono h₂ (fun r s₃ h₃ => wpAny_bind (wpAny_letTemporaryGo (wpAny_pure h₃))) fun _ _ x => x)
  first
    | exact wpAny_pure (wpAny_bind fin)
    | exact wpAny_bind (wpAny_pure (wpAny_bind fin))
    | exact wpAny_bind fin
theorem dict_typeIs {X : Cx} {pins : List (Addr × Obj)} {σ : St} {H : Hp} {s : Shared} {a : Addr} {y : V} {o : Option V} (I : Inv X pins σ H s) (g : DGet H a y o) : s.TypeIs (.ref a) "dict" := by
  rcases g with ⟨kvs, k, e, _, _⟩ | ⟨kvs, k, b, e, _, _, _⟩
  · obtain ⟨_, _, vs, _, dd⟩ := dk_rd I.hok e
    exact dd.typeIs
  · obtain ⟨_, _, xs, _, dd⟩ := dt_rd I.hok e
    exact dd.typeIs
def tDGet (td ty : TE) : TE := fun σ H Q => td σ H fun x H1 => ty σ H1 fun y H2 => ∃ a v, x = .ref a ∧ DGet H2 a y (some v) ∧ Q v H2
def sDPut (td ty tv : TE) : TS := fun D σ H => tv σ H fun v H1 => td σ H1 fun x H2 => ty σ H2 fun y H3 => ∃ a H4, x = .ref a ∧ DPut H3 a y v H4 ∧ D.nx σ H4
section
variable {X : Cx} {o i e value : Expr} {pos pos' tpos : Pos} {td ty tv : TE}
theorem pe_dget (hu : X.A.units + 1 < cLine) (ho : PE X o td) (hi : PE X i ty) (hs : NoSl i) : PE X (.Subscript o i pos) (tDGet td ty) := by
  intro pins s σ H Q I h
  refine subD_of PySem.F.slot_dict_getitem.lookup hs (thn (ho pins s σ H _ I h) fun u s1 ⟨x, H1, I1, rx, q1⟩ => thn (hi pins s1 σ H1 _ I1 q1) fun iv s2 ⟨y, H2, I2, ry, a, v, ex, g, q2⟩ => ?_)
  subst ex
  obtain rfl : u = Value.ref a := rx
  exact ⟨dict_typeIs I2 g, d_getItem hu I2 g ry fun w' s3 I3 rw' => ⟨v, H2, I3, rw', q2⟩⟩
theorem ps_dput (hu : X.A.units + 1 < cLine) (ho : PE X o td) (hi : PE X i ty) (hv : PE X value tv) (hs : swapsWith value (some (.Subscript o i pos')) pos.line X.env = pure false) :
    PS X (.Assign [.Subscript o i pos'] value pos) (sDPut td ty tv) := by
  intro pins s σ H D I h
  refine wpAny_Assign_Subscript (thn (hv pins s σ H _ I h) fun r s1 ⟨v, H1, I1, rv, q1⟩ => thn (ho pins s1 σ H1 _ I1 q1) fun u s2 ⟨x, H2, I2, rx, q2⟩ => thn (hi pins s2 σ H2 _ I2 q2) fun iv s3 ⟨y, H3, I3, ry, a, H4, ex, g, q3⟩ => ?_) hs
  subst ex
  obtain rfl : u = Value.ref a := rx
  exact d_setItem hu I3 g ry rv fun s4 I4 => ⟨σ, H4, I4, q3⟩
end
theorem dk_empty {P : Program} {w : World} {H : Hp} (h : Heap) (hb : sysModules < h.objs.size) : ObjOk P w H (h.push { cls := .type "dict", data := .dict #[] }) h.objs.size (.dK []) :=
  ⟨Nat.zero_le _, beq_eq_false_iff_ne.mpr (Ne.symm (Nat.ne_of_lt hb)), [], .nil, Heap.DictOf.new h⟩
theorem dt_empty {P : Program} {w : World} {H : Hp} (h : Heap) (hb : sysModules < h.objs.size) : ObjOk P w H (h.push { cls := .type "dict", data := .dict #[] }) h.objs.size (.dT []) :=
  ⟨Nat.zero_le _, beq_eq_false_iff_ne.mpr (Ne.symm (Nat.ne_of_lt hb)), [], .nil, _, #[], 0, Heap.get?_push_size _ rfl, ⟨rfl, rfl, rfl⟩, rfl, rfl, List.nodup_nil⟩
def tDNewK : TE := fun _ H Q => ∀ p, H p = none → Q (.ref p) (upd H p (.dK []))
def tDNewT : TE := fun _ H Q => ∀ p, H p = none → Q (.ref p) (upd H p (.dT []))
section
variable {X : Cx} {pos : Pos}
theorem pe_dnewK : PE X (.Dict [] [] pos) tDNewK := fun pins s σ H Q I h =>
  wpAny_Dict_empty ⟨.ref s.heap.objs.size, _, I.laid (a := s.heap.objs.size) (o := .dK []) (t' := s.toks) (fun _ _ q => Heap.get?_push_of_some _ q) (Nat.le_refl _) (dk_empty s.heap I.big), rfl, h _ (I.hok.fresh (Nat.le_refl _))⟩
theorem pe_dnewT : PE X (.Dict [] [] pos) tDNewT := fun pins s σ H Q I h =>
  wpAny_Dict_empty ⟨.ref s.heap.objs.size, _, I.laid (a := s.heap.objs.size) (o := .dT []) (t' := s.toks) (fun _ _ q => Heap.get?_push_of_some _ q) (Nat.le_refl _) (dt_empty s.heap I.big), rfl, h _ (I.hok.fresh (Nat.le_refl _))⟩
end
def tPairs : List (TE × TE) → St → Hp → (List (V × V) → Hp → Prop) → Prop
  | [], _, H, Q => Q [] H
  | (tk, tv) :: r, σ, H, Q => tk σ H fun x H1 => tv σ H1 fun y H2 => tPairs r σ H2 fun ps H3 => Q ((x, y) :: ps) H3
abbrev VV : List (V × V) → List (Value × Value) → Prop := Paired fun p q => RelV p.1 q.1 ∧ RelV p.2 q.2
def PPs (X : Cx) (pos : Pos) (keys : List (Option Expr)) (values : List Expr) (trs : List (TE × TE)) : Prop :=
  ∀ (pins : List (Addr × Obj)) (s : Shared) (σ : St) (H : Hp) (Q : List (V × V) → Hp → Prop), Inv X pins σ H s → tPairs trs σ H Q →
    wpAny (model X.prog X.w) X.A (evalPairs (pairTrees keys values X.env pos)) (fun vs s' => ∃ ps H', Inv X pins σ H' s' ∧ VV ps vs ∧ Q ps H') X.xe s
structure M1 (X : Cx) (o : Expr) (m : Str) (apos : Pos) (e : Expr) (cpos : Pos) : Prop where
  base : attributeBase o m X.env (eval o X.env) = eval o X.env
  few : ((backTo cpos (starEach [e] X.env)).all (fun x => !x.1) && (backToKw cpos (keywordEach [] X.env)).all (fun x => x.1.isSome)
    && decide (([e] : List Expr).length + ([] : List Keyword).length + (if ([] : List Keyword).isEmpty then 0 else 1) < 30)) = true
  line : (apos.endLine == cpos.line) = true
  trees : backTo cpos (starEach [e] X.env) = [(false, eval e X.env)]
structure M2 (X : Cx) (o : Expr) (m : Str) (apos : Pos) (e f : Expr) (cpos : Pos) : Prop where
  base : attributeBase o m X.env (eval o X.env) = eval o X.env
  few : ((backTo cpos (starEach [e, f] X.env)).all (fun x => !x.1) && (backToKw cpos (keywordEach [] X.env)).all (fun x => x.1.isSome)
    && decide (([e, f] : List Expr).length + ([] : List Keyword).length + (if ([] : List Keyword).isEmpty then 0 else 1) < 30)) = true
  line : (apos.endLine == cpos.line) = true
  trees : backTo cpos (starEach [e, f] X.env) = [(false, eval e X.env), (false, eval f X.env)]
def IsD (H : Hp) (a : Addr) : Prop := (∃ kvs, Rd H a (.dK kvs)) ∨ ∃ kvs, Rd H a (.dT kvs)
theorem isD_at {X : Cx} {pins : List (Addr × Obj)} {σ : St} {H : Hp} {s : Shared} {a : Addr} (I : Inv X pins σ H s) (d : IsD H a) :
    s.TypeIs (.ref a) "dict" ∧ (∀ b, Value.ref a = .ref b → ∃ ob, s.heap.get? b = some ob ∧ ob.dict = none) ∧ (a == sysModules) = false := by
  rcases d with ⟨kvs, e⟩ | ⟨kvs, e⟩
  · obtain ⟨_, hd, vs, _, dd⟩ := dk_rd I.hok e
    refine ⟨dd.typeIs, fun b q => ?_, hd⟩
    cases q
    obtain ⟨ob, _, _, h1, h2, _⟩ := dd
    exact ⟨ob, h1, h2.2.1⟩
  · obtain ⟨_, hd, xs, _, dd⟩ := dt_rd I.hok e
    refine ⟨dd.typeIs, fun b q => ?_, hd⟩
    cases q
    obtain ⟨ob, _, _, h1, h2, _⟩ := dd
    exact ⟨ob, h1, h2.2.1⟩
section
variable {X : Cx} {pins : List (Addr × Obj)} {σ : St} {H : Hp} {s : Shared} {a : Addr} {y d : V} {u r : Value} {o : Option V} {A : Around} {E : Value → Shared → Prop}
theorem d_get2 {Q : Value → Shared → Prop} (hu : A.units + 1 < cLine) (I : Inv X pins σ H s) (g : DGet H a y o) (ry : RelV y u) (rd : RelV d r) (h : ∀ w' s', Inv X pins σ H s' → RelV (o.getD d) w' → Q w' s') :
    wpAny (model X.prog X.w) A (call (.builtin "dict.get") [.ref a, u, r]) Q E s := by
  rcases g with ⟨kvs, k, e, ey, l⟩ | ⟨kvs, k, b, e, ey, eb, l⟩
  · subst ey
    obtain ⟨z, hd, vs, rel, dd⟩ := dk_rd I.hok e
    refine call_meetsIn PySem.F.slot_dict_get dd.typeIs PySem.F.entry_dict_get (PySem.F.args_dict_get_3 _ _ _) (meets_dict_get_default (mixKind X.prog X.w) a (kV_is ry) hd r) ⟨_, dd.mapOf, h _ _ (I.tok _) ?_⟩
    rw [l]
    exact (rel.val k).getD rd
  · subst ey
    cases (show u = Value.ref b from ry)
    obtain ⟨z, hd, xs, rel, dd⟩ := dt_rd I.hok e
    refine call_meetsIn PySem.F.slot_dict_get dd.typeIs PySem.F.entry_dict_get (PySem.F.args_dict_get_3 _ _ _) (meetsH_dict_get_default (tupleKind (mixKind X.prog X.w)) a b hd r) ⟨tupleKind_room_in1 hu, k, xs, key_of I.hok eb, dd, h _ _ (I.tok _) ?_⟩
    rw [l]
    exact (rel.val k).getD rd
end
def tDGet2 (td ty tx : TE) : TE := fun σ H Q => td σ H fun x H1 => ∃ a, x = .ref a ∧ IsD H1 a ∧ ty σ H1 fun y H2 => tx σ H2 fun z H3 => ∃ o, DGet H3 a y o ∧ Q (o.getD z) H3
section
variable {X : Cx} {o e f : Expr} {apos cpos : Pos} {td ty tx : TE}
theorem pe_dget2 (hu : X.A.units + 1 < cLine) (ho : PE X o td) (he : PE X e ty) (hf : PE X f tx) (m : M2 X o "get" apos e f cpos) : PE X (.Call (.Attribute o "get" apos) [e, f] [] cpos) (tDGet2 td ty tx) := by
  intro pins s σ H Q I h
  refine wpAny_Call_method m.base m.few m.line PySem.F.plainAttrs_dict PySem.F.slot_dict_get PySem.F.type_dict_get (thn (ho pins s σ H _ I h) fun u s1 ⟨x, H1, I1, rx, a, ex, d, q1⟩ => ?_)
  subst ex
  obtain rfl : u = Value.ref a := rx
  obtain ⟨t1, t2, _⟩ := isD_at I1 d
  refine ⟨t1, t2, ?_⟩
  rw [m.trees]
  refine Calls.callWith_builtin rfl (Calls.evalArgs_plain (Calls.spliced_cons (thn (he pins s1 σ H1 _ I1 q1) fun iv s2 ⟨y, H2, I2, ry, q2⟩ =>
    Calls.spliced_cons (thn (hf pins s2 σ H2 _ I2 q2) fun fv s3 ⟨z, H3, I3, rz, ov, g, q3⟩ => Calls.spliced_nil ?_))))
  exact d_get2 hu I3 g ry rz fun w' s4 I4 rw' => ⟨_, H3, I4, rw', q3⟩
end
section
variable {X : Cx} {pins : List (Addr × Obj)} {σ : St} {H : Hp} {s : Shared} {a : Addr} {kvs : List (Key × V)} {A : Around} {E : Value → Shared → Prop}
end
section
variable {X : Cx} {pins : List (Addr × Obj)} {σ : St} {H : Hp} {s : Shared} {a : Addr} {y : V} {u : Value} {A : Around} {E : Value → Shared → Prop}
end
end L2
namespace L2
open PySem PySem.Spec PyProof.Rows
section
variable {X : Cx}
end
section
variable {κ : Type} [DecidableEq κ]
theorem valV_not {kvs : List (κ × V)} {k : κ} (h : valV kvs k = none) : ¬ k ∈ kvs.map (·.1) := by
  intro m
  obtain ⟨p, hp, e⟩ := List.mem_map.mp m
  have q : (kvs.any fun kv => decide (kv.1 = k)) = true := List.any_eq_true.mpr ⟨p, hp, decide_eq_true e⟩
  rw [valV_any, h] at q
  exact absurd q (by simp)
end
end L2
namespace PySem
section
variable {prog : Program} {w : World} {A : Around} {E : Value → Shared → Prop} {R : Result → Shared → Prop} {s : Shared}
theorem compLoop_any {elt target iter : Expr} {ifs : List Expr} {scope : Scope} {pos : Pos} {it acc : Value} {env : Env} (I : Nat → Shared → Prop)
    (turn : ∀ n s, I n s → ∀ E' : Value → Shared → Prop, wpAny (model prog w) A (pyNext it) (fun r s₁ => match r with
      | none => R (.ok .next) s₁
      | some v => wpAny (model prog w) A (letOwnedTupleGo target it v) (fun _ s₁' => wpAny (model prog w) A (assign target env v) (fun _ s₂ =>
          wpAny (model prog w) A (forIn ifs true fun c r => if r = true then do let ok ← isTrue c env (eval c env); pure (ForInStep.yield ok) else pure (ForInStep.yield r)) (fun ok s₃ =>
            if ok = true then wpAny (model prog w) A (eval elt env) (fun x s₄ =>
              wpAny (model prog w) A (call (.builtin "list.append") [acc, x]) (fun _ s₅ => ∃ m, m < n ∧ I m s₅) E' s₄) E' s₃
            else ∃ m, m < n ∧ I m s₃) E' s₂) E' s₁') E' s₁) E' s)
    (n : Nat) (h : I n s) :
    codeAny (model prog w) A (.compLoop (.ListComp elt [⟨target, iter, ifs, 0⟩] scope pos) 0 it acc env) R s := by
  refine codeAny_loop rfl I (fun n s hI => ?_) n h
  show wpAny _ A ((compTurn (.ListComp elt [⟨target, iter, ifs, 0⟩] scope pos) 0 it acc env).onRaise (fun x => do noteFrame x env; theTreesLotGoes x)) _ _ s
  refine wpAny_noted ?_
  rw [compTurn_list]
  refine wpAny_bind (wpAny_standAt (wpAny_bind (wpAny_mono (turn n s hI _) (fun r s₁ h₁ => ?_) fun _ _ h' => h')))
  cases r with
  | none => exact wpAny_pure h₁
  | some v =>
    refine wpAny_bind (wpAny_mono h₁ (fun _ s₁' h₁' => ?_) fun _ _ h' => h')
    refine wpAny_bind (wpAny_mono h₁' (fun _ s₂ h₂ => wpAny_bind (wpAny_mono h₂ (fun ok s₃ h₃ => ?_) fun _ _ h' => h')) fun _ _ h' => h')
    cases ok with
    | false => exact wpAny_pure ⟨rfl, h₃⟩
    | true =>
      exact wpAny_bind (wpAny_bind (wpAny_mono h₃ (fun x s₄ h₄ => wpAny_bind (wpAny_mono h₄ (fun _ s₅ h₅ => wpAny_pure (wpAny_pure ⟨rfl, h₅⟩)) fun _ _ h' => h')) fun _ _ h' => h'))
end
end PySem
namespace PySem
def closL (env : Env) : List (Str × NameKind) → List (Str × Addr) → List (Str × Addr)
  | [], cs => cs
  | (n, k) :: r, cs => closL env r (if k == .free then (match env.cells.lookup n with | some a => (n, a) :: cs | none => cs) else cs)
theorem closureFor_closL {scope : Scope} {env : Env} (h : ∀ y ∈ scope.names, y.2 = .free → ∃ c, env.cells.lookup y.1 = some c) : closureFor scope env = pure (closL env scope.names []) := by
  unfold closureFor
  have key : ∀ (l : List (Str × NameKind)) (cs : List (Str × Addr)), (∀ y ∈ l, y.2 = .free → ∃ c, env.cells.lookup y.1 = some c) →
      (forIn l cs fun x r => (match x with
        | (name, kind) => if (kind == NameKind.free) = true then (do let a ← cellOf env name; pure (ForInStep.yield ((name, a) :: r))) else pure (ForInStep.yield r) : Sem (ForInStep (List (Str × Addr))))) = (pure (closL env l cs) : Sem _) := by
    intro l
    induction l with
    | nil => intro cs _; rfl
    | cons y r ih =>
      intro cs hy
      obtain ⟨n, k⟩ := y
      rw [List.forIn_cons]
      by_cases hk : (k == NameKind.free) = true
      · obtain ⟨c, hc⟩ := hy (n, k) List.mem_cons_self (by simpa using hk)
        have e : cellOf env n = pure c := by unfold cellOf; rw [hc]
        simp only [hk, if_true, e, pure_bind]
        rw [ih _ fun z hz => hy z (List.mem_cons_of_mem _ hz)]
        show _ = pure (closL env r (if (k == NameKind.free) = true then (match env.cells.lookup n with | some a => (n, a) :: cs | none => cs) else cs))
        rw [if_pos hk, hc]
      · have hk2 : (k == NameKind.free) = false := by simpa using hk
        simp only [hk2, Bool.false_eq_true, if_false, pure_bind]
        rw [ih _ fun z hz => hy z (List.mem_cons_of_mem _ hz)]
        show _ = pure (closL env r (if (k == NameKind.free) = true then (match env.cells.lookup n with | some a => (n, a) :: cs | none => cs) else cs))
        rw [if_neg hk]
  have k2 := key scope.names [] h
  simp only [bind_pure]
  first
    | exact k2
    | (rw [← k2]; rfl)
theorem closL_mem {env : Env} : ∀ (l : List (Str × NameKind)) (cs : List (Str × Addr)) (p : Str × Addr), p ∈ closL env l cs → p ∈ cs ∨ env.cells.lookup p.1 = some p.2
  | [], _, _, h => .inl h
  | (n, k) :: r, cs, p, h => by
    rcases closL_mem r _ p h with q | q
    · by_cases hk : (k == NameKind.free) = true
      · rw [if_pos hk] at q
        cases e : env.cells.lookup n with
        | none => rw [e] at q; exact .inl q
        | some a =>
          rw [e] at q
          rcases List.mem_cons.mp q with z | z
          · subst z; exact .inr e
          · exact .inl z
      · rw [if_neg hk] at q; exact .inl q
    · exact .inr q
theorem closL_sub {env : Env} : ∀ (l : List (Str × NameKind)) (cs : List (Str × Addr)) (p : Str × Addr), p ∈ cs → p ∈ closL env l cs
  | [], _, _, h => h
  | (n, k) :: r, cs, p, h => by
    refine closL_sub r _ p ?_
    by_cases hk : (k == NameKind.free) = true
    · rw [if_pos hk]
      cases e : env.cells.lookup n with
      | none => exact h
      | some a => exact List.mem_cons_of_mem _ h
    · rw [if_neg hk]; exact h
theorem closL_has {env : Env} {n : Str} {c : Addr} (e : env.cells.lookup n = some c) : ∀ (l : List (Str × NameKind)) (cs : List (Str × Addr)), (n, NameKind.free) ∈ l → (n, c) ∈ closL env l cs
  | [], _, h => nomatch h
  | (m, k) :: r, cs, h => by
    rcases List.mem_cons.mp h with z | z
    · cases z
      refine closL_sub r _ _ ?_
      rw [if_pos (by rfl), e]
      exact List.mem_cons_self
    · exact closL_has e r _ z
theorem lookup_of_mem {β : Type} {n : Str} {c : β} : ∀ {l : List (Str × β)}, (n, c) ∈ l → ∃ d, l.lookup n = some d
  | [], h => nomatch h
  | (m, d) :: r, h => by
    cases q : n == m with
    | true => exact ⟨d, by simp only [List.lookup_cons, q]⟩
    | false =>
      rcases List.mem_cons.mp h with z | z
      · cases z
        simp at q
      · obtain ⟨d', e⟩ := lookup_of_mem z
        exact ⟨d', by simp only [List.lookup_cons, q, e]⟩
theorem relabel_inv {env : Env} : ∀ {names : List (Str × NameKind)} {x : Str} {k : NameKind},
    (names.map fun (n, k) => if (k == NameKind.free && env.scope.kind == .function && env.kindOf n == some .cell) then (n, NameKind.cell) else (n, k)).lookup x = some k →
    ∃ k', names.lookup x = some k' ∧ (k' = k ∨ (k' = .free ∧ k = .cell))
  | [], _, _, h => by simp at h
  | (n, j) :: r, x, k, h => by
    cases hx : x == n with
    | true =>
      refine ⟨j, by simp only [List.lookup_cons, hx], ?_⟩
      by_cases hc : (j == NameKind.free && env.scope.kind == .function && env.kindOf n == some .cell) = true
      · simp only [List.map_cons, if_pos hc, List.lookup_cons, hx] at h
        cases h
        refine .inr ⟨?_, rfl⟩
        simp only [Bool.and_eq_true, beq_iff_eq] at hc
        exact hc.1.1
      · simp only [List.map_cons, if_neg hc, List.lookup_cons, hx] at h
        cases h
        exact .inl rfl
    | false =>
      by_cases hc : (j == NameKind.free && env.scope.kind == .function && env.kindOf n == some .cell) = true
      · simp only [List.map_cons, if_pos hc, List.lookup_cons, hx] at h
        obtain ⟨k', e1, e2⟩ := relabel_inv h
        exact ⟨k', by simp only [List.lookup_cons, hx, e1], e2⟩
      · simp only [List.map_cons, if_neg hc, List.lookup_cons, hx] at h
        obtain ⟨k', e1, e2⟩ := relabel_inv h
        exact ⟨k', by simp only [List.lookup_cons, hx, e1], e2⟩
end PySem
namespace L2
open PySem PySem.Spec PyProof.Rows
open Builtin.Int (intBits)
section
variable {X : Cx}
def CMulB (i j : Int) : Prop := intBits i + intBits j ≤ 134217728
def CDivB (i j : Int) : Prop := j ≠ 0 ∧ intBits j ≤ 9000
theorem op_mulB : OpR X (binaryOp .Mult) (rI CMulB fun i j => .int (i * j)) := opI fun _ _ _ _ _ _ _ hc q => mul_int q (IntMulOk.of_le (Nat.le_refl _) (Nat.le_refl _) hc)
theorem log2_of_bits {j : Int} (h0 : j ≠ 0) (h : intBits j ≤ 9000) : j.natAbs.log2 < 9000 := by
  unfold Builtin.Int.intBits at h
  have e : (j == 0) = false := by simpa using h0
  rw [e] at h
  simp only [Bool.false_eq_true, if_false] at h
  omega
theorem op_fdivB : OpR X (binaryOp .FloorDiv) (rI CDivB fun i j => .int (i.fdiv j)) := opI fun _ _ _ _ _ _ _ hc q => floordiv_int hc.1 q (.inl (PyProof.noPylong_of_log2 (log2_of_bits hc.1 hc.2)))
theorem call_isinst {T : String} : CallR X (.builtin "isinstance") (fun xs H Q => ∃ x t b, xs = [x, .ty T] ∧ TyOf X.K H x t ∧ PySem.W.kitOne X.K t (.type T) = some b ∧ Q (.bl b) H) := by
  intro pins s σ H xs us Q I r h
  obtain ⟨x, t, b, rfl, ty, e, q⟩ := h
  obtain ⟨u, w', rfl, rx, rt⟩ := vals2 r
  cases (show w' = Value.type T from rt)
  exact isinst_ok I rx ty e fun tk => ⟨.bl b, H, I.tok _, rfl, q⟩
theorem getD_at {α : Type} {l : List α} {d : α} {i : Nat} (h : i < l.length) : l.getD i d = l[i] := by simp [h]
end
structure CompOk (sc scope : Scope) : Prop where
  kind : scope.kind = .function
  nocell : ∀ y ∈ scope.names, y.2 ≠ .cell
  loc : ∀ y ∈ scope.names, y.2 = .local → scope.names.lookup y.1 = some .local
  free : ∀ y ∈ scope.names, y.2 = .free → sc.names.lookup y.1 = some .cell ∨ sc.names.lookup y.1 = some .free
def compOkB (sc scope : Scope) : Bool := (scope.kind == .function) && scope.names.all fun y => (y.2 != .cell) && ((y.2 != .local) || (scope.names.lookup y.1 == some .local)) && ((y.2 != .free) || (sc.names.lookup y.1 == some .cell) || (sc.names.lookup y.1 == some .free))
theorem CompOk.of {sc scope : Scope} (h : compOkB sc scope = true) : CompOk sc scope := by
  unfold compOkB at h
  rw [Bool.and_eq_true, List.all_eq_true] at h
  obtain ⟨hk, h⟩ := h
  refine ⟨eq_of_beq hk, fun y hy => ?_, fun y hy e => ?_, fun y hy e => ?_⟩
  · have q := h y hy
    simp only [Bool.and_eq_true, bne_iff_ne] at q
    exact q.1.1
  · have q := h y hy
    simp only [Bool.and_eq_true, Bool.or_eq_true, bne_iff_ne, beq_iff_eq] at q
    exact q.1.2.resolve_left fun z => z e
  · have q := h y hy
    simp only [Bool.and_eq_true, Bool.or_eq_true, bne_iff_ne, beq_iff_eq] at q
    rcases q.2 with (z | z) | z
    · exact absurd e z
    · exact .inl z
    · exact .inr z
structure NL (N M : List Str) (scope : Scope) : Prop where
  len : M.length = N.length
  loc : ∀ (j : Nat) x, M[j]? = some x → scope.names.lookup x ≠ some .local
  free : ∀ (j : Nat) x, M[j]? = some x → scope.names.lookup x = some .free → N[j]? = some x
def nlB (scope : Scope) : List Str → List Str → Bool
  | [], [] => true
  | x :: M, y :: N => (scope.names.lookup x != some .local) && ((scope.names.lookup x != some .free) || x == y) && nlB scope M N
  | _, _ => false
theorem NL.of {scope : Scope} : ∀ {N M : List Str}, nlB scope M N = true → NL N M scope
  | [], [], _ => ⟨rfl, fun j x h => by simp at h, fun j x h => by simp at h⟩
  | [], _ :: _, h => by cases h
  | _ :: _, [], h => by cases h
  | y :: N, x :: M, h => by
    have h' : ((scope.names.lookup x != some .local) && ((scope.names.lookup x != some .free) || x == y) && nlB scope M N) = true := h
    simp only [Bool.and_eq_true, Bool.or_eq_true, bne_iff_ne, beq_iff_eq] at h'
    obtain ⟨⟨h1, h2⟩, h3⟩ := h'
    have q := NL.of h3
    refine ⟨by simp [q.len], fun j z e => ?_, fun j z e f => ?_⟩
    · cases j with
      | zero => simp at e; subst e; exact h1
      | succ j => exact q.loc j z (by simpa using e)
    · cases j with
      | zero =>
        simp at e; subst e
        rcases h2 with w | w
        · exact absurd f w
        · simp [w]
      | succ j => simpa using q.free j z (by simpa using e) f
def cxComp (X : Cx) (ls M : List Str) (scope : Scope) (C : Addr) (fp : List Addr) (s : Shared) (H : Hp) : Cx where
  prog := X.prog
  w := X.w
  K := X.K
  mg := X.mg
  base := X.base
  A := X.A
  N := ls ++ M
  s₀ := s
  H₀ := H
  env := compEnvC scope (closL X.env scope.names []) C X.env
  outer := X.stack
  stack := X.stack
  ex := fp
  fn := fun _ => false
  calm := X.calm
  pn := []
  xe := fun _ _ => False
def PTs (Y : Cx) (ifs : List Expr) (c : TT) : Prop :=
  ∀ (pins : List (Addr × Obj)) (s : Shared) (σ : St) (H : Hp) (Q : Bool → Hp → Prop), Inv Y pins σ H s → c σ H Q →
    wpAny (model Y.prog Y.w) Y.A (forIn ifs true fun c r => if r = true then do let ok ← isTrue c Y.env (eval c Y.env); pure (ForInStep.yield ok) else pure (ForInStep.yield r)) (TP Y pins σ Q) Y.xe s
def tYes : TT := fun _ H Q => Q true H
theorem pts_nil {Y : Cx} : PTs Y [] tYes := fun _ _ _ H _ I h => wpAny_tests_nil ⟨H, I, h⟩
def CompW (k : Nat) (J : It) (g : TG) (c : TT) (te : TE) (σ : St) (H1 : Hp) (D : Addr) (Q : VK) : Prop :=
  ∃ W : Nat → Nat → St → Hp → Prop, (∃ m, W 0 m (List.replicate k none ++ σ) (upd H1 D (.lst []))) ∧ ∀ i m τ H, W i m τ H →
    (J.stop i H ∧ Q (.ref D) H) ∨ (J.go i H ∧ ∀ x H', J.yld i H x H' → g x τ H' fun τ2 H2 => c τ2 H2 fun b H3 => if b = true then te τ2 H3 fun y H4 => ∃ ys m', m' < m ∧ H4 D = some (.lst ys) ∧ ys.length < sizeLine ∧ W (i + 1) m' τ2 (upd H4 D (.lst (ys ++ [y]))) else ∃ m', m' < m ∧ W (i + 1) m' τ2 H3)
def tComp (k : Nat) (wi : TI) (g : TG) (c : TT) (te : TE) : TE := fun σ H Q => wi σ H fun J H1 => ∀ D, H1 D = none → CompW k J g c te σ H1 D Q
structure COff (X : Cx) (pins : List (Addr × Obj)) (H : Hp) (C : Addr) (s : Shared) : Prop where
  ns : ∃ m, s.heap.Ns C m
  none : H C = none
  ne : C ≠ X.env.locals
  young : X.s₀.heap.objs.size ≤ C
  cells : ∀ x c, X.env.cells.lookup x = some c → c ≠ C
  pins : ∀ p ∈ X.pn ++ pins, p.1 ≠ C
theorem Inv.gone {X : Cx} {pins : List (Addr × Obj)} {σ : St} {H : Hp} {C : Addr} {s : Shared} {h' : Heap} (I : Inv X pins σ H s) (o : COff X pins H C s) (hs : Heap.SameBut C s.heap h') : Inv X pins σ H { s with heap := h' } :=
  I.turned (t' := s.toks) (it := C) (fun b ob hb e => (hs.2 b hb).trans e) o.none o.ne (.inr o.young) o.cells o.pins
section
variable {X : Cx} {elt tg iter : Expr} {ifs : List Expr} {scope : Scope} {pos : Pos} {ls M : List Str} {g : TG} {c : TT} {te : TE}
theorem comp_core {J : It} {fp : List Addr} {tn : Nat → Heap → Prop} {it : Addr} {pins : List (Addr × Obj)} {σ : St} {H2 : Hp} {s2 : Shared} {Qe : VK} {RR : Value → Addr → Result → Shared → Prop} {E : Value → Shared → Prop}
    (hc : X.calm = true) (S : CompOk X.env.scope scope) (nl : NL X.N M scope)
    (hb : ∀ C fp s H, PG (cxComp X ls M scope C fp s H) tg g ∧ PTs (cxComp X ls M scope C fp s H) ifs c ∧ PE (cxComp X ls M scope C fp s H) elt te)
    (I2 : Inv X pins σ H2 s2) (T : Turn X.prog X.w X.K tg J fp it tn) (st2 : tn 0 s2.heap) (f2 : ∀ b ∈ fp, FpOk X pins H2 b)
    (hW : ∀ D, H2 D = none → CompW ls.length J g c te σ H2 D Qe)
    (hRR : ∀ D C H' s', Inv X pins σ H' s' → COff X pins H' C s' → Qe (.ref D) H' → RR (.ref D) C (.ok .next) s') :
    wpAny (model X.prog X.w) X.A (newList []) (fun acc s₃ => wpAny (model X.prog X.w) X.A (newFunctionEnv scope X.env.globals (closL X.env scope.names []) [] X.env.qual none .none (some X.env)) (fun cenv s₄ =>
      codeAny (model X.prog X.w) X.A (.compStart (.ListComp elt [⟨tg, iter, ifs, 0⟩] scope pos) 0 (.ref it) acc { cenv with scope := relabel scope X.env }) (RR acc cenv.locals) s₄) E s₃) E s2 := by
  refine wpAny_newObj_type (wpAny_newFunctionEnv S.nocell (by intro y hy; simp at hy) (fun h₁ hns₁ hsb₁ => ?_) S.kind)
  dsimp only at hns₁ hsb₁ ⊢
  have I3 : Inv X pins σ (upd H2 s2.heap.objs.size (.lst [])) { s2 with heap := s2.heap.push { cls := .type "list", dict := none, data := .seq ([] : List Value).toArray }, toks := s2.toks } :=
    I2.laid (fun _ _ q => Heap.get?_push_of_some _ q) (Nat.le_refl _) ⟨Nat.zero_le _, [], 0, .nil, Heap.get?_push_size _ rfl⟩
  have hfreshD : H2 s2.heap.objs.size = none := I2.hok.fresh (Nat.le_refl _)
  generalize hHH : s2.heap.push { cls := .type "list", dict := none, data := .seq ([] : List Value).toArray } = HH at hns₁ hsb₁ I3 ⊢
  have up : ∀ b o, s2.heap.get? b = some o → HH.get? b = some o := fun b o e => by rw [← hHH]; exact Heap.get?_push_of_some _ e
  have old : ∀ b o, HH.get? b = some o → h₁.get? b = some o := fun b o e => hsb₁.extBut b o (Nat.ne_of_lt (Heap.lt_size e)) (Heap.get?_push_of_some _ e)
  generalize hH3 : upd H2 s2.heap.objs.size (.lst []) = H3 at I3
  have f3 : ∀ b ∈ fp, FpOk X pins H3 b := fun b hb => by
    obtain ⟨f0, fr⟩ := f2 b hb
    refine ⟨?_, fr⟩
    obtain ⟨o, e, _⟩ := T.obj 0 _ st2 b hb
    rw [← hH3, upd_ne (Nat.ne_of_lt (Heap.lt_size e))]
    exact f0
  have fplt : ∀ b ∈ fp, b < HH.objs.size := fun b hb => by
    obtain ⟨o, e, _⟩ := T.obj 0 _ st2 b hb
    exact Heap.lt_size (up b o e)
  have sub : ∀ x a, (closL X.env scope.names []).lookup x = some a → X.env.cells.lookup x = some a := fun x a e => by
    rcases closL_mem _ _ _ (PySem.mem_of_lookup e) with z | z
    · exact absurd z (by simp)
    · exact z
  have kin : ∀ x, scope.names.lookup x = some .free → X.env.kindOf x = some .cell ∨ X.env.kindOf x = some .free := fun x e => S.free (x, .free) (PySem.mem_of_lookup e) rfl
  have has : ∀ x a, scope.names.lookup x = some .free → X.env.cells.lookup x = some a → (closL X.env scope.names []).lookup x = some a := fun x a e ec => by
    obtain ⟨d, hd⟩ := lookup_of_mem (closL_has ec scope.names [] (PySem.mem_of_lookup e))
    have := sub x d hd
    rw [ec] at this
    cases this
    exact hd
  have rel : ∀ x k, (relabel scope X.env).names.lookup x = some k → (k = .cell ∨ k = .free) → scope.names.lookup x = some .free := fun x k e hk => by
    obtain ⟨k', e1, e2⟩ := relabel_inv (show (scope.names.map fun (n, k) => if (k == NameKind.free && X.env.scope.kind == .function && X.env.kindOf n == some .cell) then (n, NameKind.cell) else (n, k)).lookup x = some k from e)
    rcases e2 with e2 | ⟨e2, _⟩
    · subst e2
      rcases hk with hk | hk
      · subst hk; exact absurd rfl (S.nocell _ (PySem.mem_of_lookup e1))
      · subst hk; exact e1
    · subst e2; exact e1
  have okY : (cxComp X ls M scope HH.objs.size fp { s2 with heap := HH, toks := s2.toks } H3).Ok := by
    refine ⟨I3.ok.mod, S.kind, I3.ok.glob, I3.ok.blt, Nat.le_refl _, fun x y a h1 h2 => I3.ok.inj x y a (sub x a h1) (sub y a h2), fun x hx => ?_, (fun x a h => nomatch h), I3.ok.hd, I3.ok.frames, .inl rfl, fun b hb' => ⟨Nat.ne_of_lt (fplt b hb'), fun x a e => (f3 b hb').2.2.2.2.1 x a (sub x a e)⟩,
      I3.bs, Nat.le_trans I3.ok.bsz I3.sz, fun b o e hb' => ?_, fun b hb' hs => ?_, I3.stack, I3.stkFree⟩
    · have hf : scope.names.lookup x = some .free := by
        rcases hx with hx | hx
        · exact rel x _ hx (.inl rfl)
        · exact rel x _ hx (.inr rfl)
      obtain ⟨a, ea⟩ := I3.ok.has x (kin x hf)
      exact ⟨a, has x a hf ea⟩
    · rcases (f3 b hb').2.2.2.1 with z | z
      · exact I3.ok.noex b o e z
      · exact absurd (Nat.lt_of_lt_of_le (Heap.lt_size e) (Nat.le_trans I3.ok.bsz z)) (Nat.lt_irrefl _)
    · rcases List.mem_cons.mp (I3.stkSub b hs) with z | z
      · exact (f3 b hb').2.1 z
      · exact (f3 b hb').2.2.1 z
  have IY : Inv (cxComp X ls M scope HH.objs.size fp { s2 with heap := HH, toks := s2.toks } H3) [] (List.replicate ls.length none ++ σ) H3 { s2 with heap := h₁, toks := s2.toks + ([] : List (Str × Value)).length } := by
    refine ⟨okY, rfl, I2.bare, Un.kept old, ⟨_, hns₁, fun i x v e1 e2 e3 => ?_⟩, fun x a e => ?_, I3.hok.fresh (Nat.le_refl _), fun x a e => I3.freeC x a (sub x a e), fun p hp => absurd (show p ∈ ([] : List (Addr × Obj)) from hp) (by simp), I3.hok.kept old, ?_⟩
    · have hi : ls.length ≤ i := by
        by_cases hi : ls.length ≤ i
        · exact hi
        · rw [List.getElem?_append_left (by simp; omega), List.getElem?_replicate] at e2
          split at e2 <;> cases e2
      rw [List.getElem?_append_right (by simpa using hi), List.length_replicate] at e2
      have e0 : M[i - ls.length]? = some x := by
        have z : (ls ++ M)[i]? = some x := e1
        rw [List.getElem?_append_right hi] at z
        exact z
      have hnl := nl.loc _ x e0
      have hf : scope.names.lookup x = some .free := by
        rcases e3 with e3 | e3 | e3
        · obtain ⟨k', q1, q2⟩ := relabel_inv (show (scope.names.map fun (n, k) => if (k == NameKind.free && X.env.scope.kind == .function && X.env.kindOf n == some .cell) then (n, NameKind.cell) else (n, k)).lookup x = some .local from e3)
          rcases q2 with q2 | ⟨_, q2⟩
          · subst q2; exact absurd q1 hnl
          · cases q2
        · exact rel x _ e3 (.inl rfl)
        · exact rel x _ e3 (.inr rfl)
      have e1' := nl.free _ x e0 hf
      have hk := kin x hf
      obtain ⟨m, hn, hl⟩ := I3.loc
      obtain ⟨u, ru, lk⟩ := hl (i - ls.length) x v e1' e2 (hk.elim (fun z => .inr (.inl z)) fun z => .inr (.inr z))
      refine ⟨u, ru, ?_⟩
      rcases lk with ⟨z, _⟩ | ⟨_, a, ea, hcell⟩
      · rcases hk with hk | hk <;> (rw [hk] at z; cases z)
      · obtain ⟨o, eo, hd⟩ := hcell
        refine .inr ⟨?_, a, has x a hf ea, ⟨o, old a o eo, hd⟩⟩
        rcases e3 with e3 | e3 | e3
        · obtain ⟨k', q1, q2⟩ := relabel_inv (show (scope.names.map fun (n, k) => if (k == NameKind.free && X.env.scope.kind == .function && X.env.kindOf n == some .cell) then (n, NameKind.cell) else (n, k)).lookup x = some .local from e3)
          rcases q2 with q2 | ⟨_, q2⟩
          · subst q2; exact absurd q1 hnl
          · cases q2
        · exact .inl e3
        · exact .inr e3
    · obtain ⟨v, o, eo, hd⟩ := I3.cell x a (sub x a e)
      exact ⟨v, o, old a o eo, hd⟩
    · show (List.replicate ls.length none ++ σ).length = (ls ++ M).length
      rw [List.length_append, List.length_append, List.length_replicate, I3.len, nl.len]
  have st1 : tn 0 h₁ := T.keep 0 _ _ st2 fun b _ o e => old b o (up b o e)
  obtain ⟨hPG, hPT, hPE⟩ := hb HH.objs.size fp { s2 with heap := HH, toks := s2.toks } H3
  obtain ⟨W, ⟨m0, w0⟩, turn⟩ := hW s2.heap.objs.size hfreshD
  rw [hH3] at w0
  have back : ∀ {τ : St} {H' : Hp} {s' : Shared}, Inv (cxComp X ls M scope HH.objs.size fp { s2 with heap := HH, toks := s2.toks } H3) [] τ H' s' → Inv X pins σ H' s' ∧ COff X pins H' HH.objs.size s' := fun {τ H' s'} J => by
    refine ⟨I3.call' (ch := fp) J.os J.base J.hok J.bare fun b hb' => ?_, ?_⟩
    · obtain ⟨_, g1, g2, g3, g4, g5⟩ := f3 b hb'
      exact ⟨g3, g1, g4, g5⟩
    · obtain ⟨m, hn, _⟩ := J.loc
      refine ⟨⟨m, hn⟩, J.free, Ne.symm (Nat.ne_of_lt I3.lt), I3.sz, fun x a e => ?_, fun p hp => Nat.ne_of_lt (Heap.lt_size (I3.pin p hp).1)⟩
      obtain ⟨v, q⟩ := I3.cell x a e
      exact Nat.ne_of_lt q.lt
  have stat : ∀ {H' : Hp}, (∀ b ∈ fp, H' b = none) → ∀ b ∈ fp, FpOk (cxComp X ls M scope HH.objs.size fp { s2 with heap := HH, toks := s2.toks } H3) [] H' b := fun {H'} hn b hb' => by
    obtain ⟨_, g1, g2, g3, g4, g5⟩ := f3 b hb'
    refine ⟨hn b hb', Nat.ne_of_lt (fplt b hb'), fun hs => ?_, .inl hb', fun x a e => g4 x a (sub x a e), fun p hp => absurd (show p ∈ ([] : List (Addr × Obj)) from hp) (by simp)⟩
    rcases List.mem_cons.mp (I3.stkSub b hs) with z | z
    · exact g1 z
    · exact g2 z
  have loop : ∀ s₃ : Shared, s₃ = { s2 with heap := h₁, toks := s2.toks + ([] : List (Str × Value)).length } →
      codeAny (model X.prog X.w) X.A (.compLoop (.ListComp elt [⟨tg, iter, ifs, 0⟩] scope pos) 0 (.ref it) (.ref s2.heap.objs.size) (compEnvC scope (closL X.env scope.names []) HH.objs.size X.env)) (RR (.ref s2.heap.objs.size) HH.objs.size) s₃ := by
    rintro s₃ rfl
    refine compLoop_any (fun n s' => ∃ i τ H', Inv (cxComp X ls M scope HH.objs.size fp { s2 with heap := HH, toks := s2.toks } H3) [] τ H' s' ∧ tn i s'.heap ∧ (∀ b ∈ fp, H' b = none) ∧ W i n τ H') ?_ m0 ⟨0, _, H3, IY, st1, fun b hb' => (f3 b hb').1, w0⟩
    rintro n s3 ⟨i, τ, H', I4, st4, fr4, w4⟩ E'
    rcases turn i n τ H' w4 with ⟨stop, qn⟩ | ⟨go, step⟩
    · refine thn (T.done (cxComp X ls M scope HH.objs.size fp { s2 with heap := HH, toks := s2.toks } H3) rfl rfl rfl hc i [] s3 τ H' E' I4 (stat fr4) st4 stop) fun r s4 ⟨hr, I5⟩ => ?_
      subst hr
      obtain ⟨b1, b2⟩ := back I5
      exact hRR _ _ H' s4 b1 b2 qn
    · refine thn (T.item (cxComp X ls M scope HH.objs.size fp { s2 with heap := HH, toks := s2.toks } H3) rfl rfl rfl hc i [] s3 τ H' E' I4 (stat fr4) st4 go) fun r s4 ⟨u, hr, h4⟩ => ?_
      subst hr
      refine thn h4 fun _ s5 ⟨x, H5, I5, r5, y5, st5, fr5⟩ => ?_
      have I5' := I5.pinned (stat fr5) (T.obj _ _ st5)
      refine wpAny_mono (hPG _ s5 τ H5 x u _ I5' r5 (step x H5 y5)) (fun _ s6 ⟨σ6, H6, I6, q6⟩ => ?_) fun _ _ z => z.elim
      refine wpAny_mono (hPT _ s6 σ6 H6 _ I6 q6) (fun ok s7 ⟨H7, I7, q7⟩ => ?_) fun _ _ z => z.elim
      have again : ∀ {σ8 : St} {H8 : Hp} {s8 : Shared} {m' : Nat}, Inv (cxComp X ls M scope HH.objs.size fp { s2 with heap := HH, toks := s2.toks } H3) ([] ++ pinsAt fp s5.heap) σ8 H8 s8 → m' < n → W (i + 1) m' σ8 H8 →
          ∃ m, m < n ∧ ∃ i τ H', Inv (cxComp X ls M scope HH.objs.size fp { s2 with heap := HH, toks := s2.toks } H3) [] τ H' s8 ∧ tn i s8.heap ∧ (∀ b ∈ fp, H' b = none) ∧ W i m τ H' := fun {σ8 H8 s8 m'} I8 hm w8 => by
        refine ⟨m', hm, i + 1, σ8, H8, I8.unpinned, T.keep _ _ _ st5 fun b hb' o e => (I8.pin (b, o) (List.mem_append_right _ (List.mem_append_right _ (mem_pinsAt hb' e)))).1, fun b hb' => ?_, w8⟩
        obtain ⟨o, e, d⟩ := T.obj _ _ st5 b hb'
        exact (I8.pin (b, o) (List.mem_append_right _ (List.mem_append_right _ (mem_pinsAt hb' e)))).2.1
      cases ok with
      | false =>
        rw [if_neg Bool.false_ne_true] at q7 ⊢
        obtain ⟨m', hm, w7⟩ := q7
        exact again I7 hm w7
      | true =>
        rw [if_pos rfl] at q7 ⊢
        refine wpAny_mono (hPE _ s7 σ6 H7 _ I7 q7) (fun yv s8 ⟨y, H8, I8, r8, ys, m', hm, hD, hz, w8⟩ => ?_) fun _ _ z => z.elim
        refine wpAny_mono (mt_append (X := (cxComp X ls M scope HH.objs.size fp { s2 with heap := HH, toks := s2.toks } H3)) _ s8 σ6 H8 (.ref s2.heap.objs.size) [y] (.ref s2.heap.objs.size) [yv] (fun _ H9 => W (i + 1) m' σ6 H9) I8 rfl (.cons r8 .nil) ⟨_, ys, y, rfl, rfl, hD, hz, w8⟩) (fun _ s9 ⟨_, H9, I9, _, w9⟩ => ?_) fun _ _ z => z.elim
        exact again I9 hm w9
  exact codeAny_compStart_list (loop _ rfl) (T.self _ 0 _ _ _ st1 (loop _ rfl))
theorem closOk (S : CompOk X.env.scope scope) (ok : X.Ok) : closureFor scope X.env = pure (closL X.env scope.names []) :=
  closureFor_closL fun y hy e => ok.has y.1 (S.free y hy e)
theorem pe_comp {wi : TI} (hc : X.calm = true) (S : CompOk X.env.scope scope) (nl : NL X.N M scope) (hi : PI X tg iter wi)
    (hb : ∀ C fp s H, PG (cxComp X ls M scope C fp s H) tg g ∧ PTs (cxComp X ls M scope C fp s H) ifs c ∧ PE (cxComp X ls M scope C fp s H) elt te)
    (hs : ∀ x, foldedSetIterable iter X.env x = pure x := by intro _; rfl) : PE X (.ListComp elt [⟨tg, iter, ifs, 0⟩] scope pos) (tComp ls.length wi g c te) := by
  intro pins s σ H Q I h
  rw [eval_ListComp]
  refine wpAny_comprehension_free (use := none) rfl hs (closOk S I.ok) S.kind S.loc (thn (hi pins s σ H _ I h) fun xv s1 h1 => thn h1 fun itv s2 h2 => ?_)
  obtain ⟨it, fp, tn, J, H2, e, I2, T, st2, f2, hW⟩ := h2
  subst e
  refine comp_core (RR := fun acc C => compPost (model X.prog X.w) X.A X.xe none (EP X pins σ Q) acc C) (Qe := Q) hc S nl hb I2 T st2 f2 hW fun D C H' s' I' o q => ?_
  exact ⟨o.ns.choose, o.ns.choose_spec, fun h' hs' => ⟨.ref D, H', I'.gone o hs', rfl, q⟩⟩
theorem ps_setC {wi : TI} {i : Nat} {y : Str} {py spos : Pos} (hc : X.calm = true) (S : CompOk X.env.scope scope) (nl : NL X.N M scope) (hN : X.N.Nodup) (hiy : X.N[i]? = some y) (hy : Loc X.env.scope y)
    (hi : PI X tg iter wi) (hb : ∀ C fp s H, PG (cxComp X ls M scope C fp s H) tg g ∧ PTs (cxComp X ls M scope C fp s H) ifs c ∧ PE (cxComp X ls M scope C fp s H) elt te)
    (hsw : swapsWith (.ListComp elt [⟨tg, iter, ifs, 0⟩] scope pos) (some (.Name y py)) spos.line X.env = pure true := by rfl)
    (hs : ∀ x, foldedSetIterable iter X.env x = pure x := by intro _; rfl) (hf : X.fn y = true ∨ X.env.scope.names.lookup y = some .local := by first | exact .inl rfl | exact .inr rfl) :
    PS X (.Assign [.Name y py] (.ListComp elt [⟨tg, iter, ifs, 0⟩] scope pos) spos) (tAsg (tComp ls.length wi g c te) (gName i)) := by
  intro pins s σ H D I h
  rw [exec_Assign_Name_used _ _ _ _ hsw]
  refine wpAny_bind (wpAny_standAt (wpAny_bind ?_))
  show wpAny _ X.A (do let _ ← comprehension (.ListComp elt [⟨tg, iter, ifs, 0⟩] scope pos) scope X.env _ (newList []) false (eval iter X.env) (some (assign (.Name y py) X.env))) _ _ s
  refine wpAny_bind (wpAny_mono (wpAny_comprehension_free (use := some (assign (.Name y py) X.env)) (Q := fun _ s' => SP X pins D .next s') rfl hs (closOk S I.ok) S.kind S.loc (thn (hi pins s σ H _ I h) fun xv s1 h1 => thn h1 fun itv s2 h2 => ?_)) (fun _ s' hq => wpAny_pure (wpAny_pure hq)) fun _ _ e => e)
  obtain ⟨it, fp, tn, J, H2, e, I2, T, st2, f2, hW⟩ := h2
  subst e
  refine comp_core (RR := fun acc C => compPost (model X.prog X.w) X.A X.xe (some (assign (.Name y py) X.env)) (fun _ s' => SP X pins D .next s') acc C) hc S nl hb I2 T st2 f2 hW fun Dl C H' s' I' o q => ?_
  show wpAny _ X.A (assign (.Name y py) X.env (.ref Dl)) _ _ _
  refine wpAny_assign_Name (store_ok2 I' hN hiy hy (v := .ref Dl) rfl (fun s'' I'' ⟨a, hsa, ha⟩ => ?_) hf)
  have hCa : C ≠ a := by
    rcases ha with z | z
    · rw [z]; exact o.ne
    · exact Ne.symm (o.cells y a z)
  obtain ⟨m, hm⟩ := o.ns
  have o2 : COff X pins H' C s'' := ⟨⟨m, hm.sameBut hsa hCa⟩, o.none, o.ne, o.young, o.cells, o.pins⟩
  exact ⟨m, hm.sameBut hsa hCa, fun h' hs' => ⟨_, H', I''.gone o2 hs', q⟩⟩
end
def CW (n : Nat) (Pv : Nat → St → Hp → Prop) (i m : Nat) (τ : St) (H : Hp) : Prop := m = n - i ∧ i ≤ n ∧ Pv i τ H
theorem comp_next {n i m : Nat} {Pv : Nat → St → Hp → Prop} {τ : St} {H4 : Hp} {D : Addr} {ys : List V} {y : V} (hm : m = n - i) (hi : i < n) (e1 : H4 D = some (.lst ys)) (e2 : ys.length < sizeLine) (p : Pv (i + 1) τ (upd H4 D (.lst (ys ++ [y])))) :
    ∃ ys m', m' < m ∧ H4 D = some (.lst ys) ∧ ys.length < sizeLine ∧ CW n Pv (i + 1) m' τ (upd H4 D (.lst (ys ++ [y]))) := ⟨ys, n - (i + 1), by omega, e1, e2, rfl, hi, p⟩
theorem comp_range {k : Nat} {lo : Int} {n : Nat} {g : TG} {c : TT} {te : TE} {σ : St} {H1 : Hp} {D : Addr} {Q : VK} (Pv : Nat → St → Hp → Prop) (h0 : Pv 0 (List.replicate k none ++ σ) (upd H1 D (.lst [])))
    (hs : ∀ i m τ H, m = n - i → i < n → Pv i τ H → g (.int (lo + i)) τ H fun τ2 H2 => c τ2 H2 fun b H3 => if b = true then te τ2 H3 fun y H4 => ∃ ys m', m' < m ∧ H4 D = some (.lst ys) ∧ ys.length < sizeLine ∧ CW n Pv (i + 1) m' τ2 (upd H4 D (.lst (ys ++ [y]))) else ∃ m', m' < m ∧ CW n Pv (i + 1) m' τ2 H3)
    (hd : ∀ τ H, Pv n τ H → Q (.ref D) H) : CompW k (Itr lo n) g c te σ H1 D Q := by
  refine ⟨CW n Pv, ⟨n, rfl, Nat.zero_le _, h0⟩, ?_⟩
  rintro i m τ H ⟨hm, hi, p⟩
  by_cases hlt : i < n
  · refine .inr ⟨hlt, fun x H' y => ?_⟩
    obtain ⟨e, y⟩ := y
    subst e y
    exact hs i m τ _ hm hlt p
  · have e : i = n := by omega
    subst e
    exact .inl ⟨Nat.le_refl _, hd τ H p⟩
theorem comp_list {K : PySem.W.Frag} {a : Addr} {xs : List V} {k : Nat} {g : TG} {c : TT} {te : TE} {σ : St} {H1 : Hp} {D : Addr} {Q : VK} (Pv : Nat → St → Hp → Prop) (h0 : Pv 0 (List.replicate k none ++ σ) (upd H1 D (.lst [])))
    (hl : ∀ i τ H, i ≤ xs.length → Pv i τ H → SqL K H a xs)
    (hs : ∀ i m x τ H, m = xs.length - i → i < xs.length → xs[i]? = some x → Pv i τ H → g x τ H fun τ2 H2 => c τ2 H2 fun b H3 => if b = true then te τ2 H3 fun y H4 => ∃ ys m', m' < m ∧ H4 D = some (.lst ys) ∧ ys.length < sizeLine ∧ CW xs.length Pv (i + 1) m' τ2 (upd H4 D (.lst (ys ++ [y]))) else ∃ m', m' < m ∧ CW xs.length Pv (i + 1) m' τ2 H3)
    (hd : ∀ τ H, Pv xs.length τ H → Q (.ref D) H) : CompW k (Itl K a) g c te σ H1 D Q := by
  refine ⟨CW xs.length Pv, ⟨xs.length, rfl, Nat.zero_le _, h0⟩, ?_⟩
  rintro i m τ H ⟨hm, hi, p⟩
  have q := hl i τ H hi p
  by_cases hlt : i < xs.length
  · refine .inr ⟨⟨xs, xs[i], q, by simp [hlt]⟩, fun x H' y => ?_⟩
    obtain ⟨e, y⟩ := y
    subst e
    exact hs i m x τ _ hm hlt (y xs q) p
  · have e : i = xs.length := by omega
    subst e
    exact .inl ⟨⟨xs, q, Nat.le_refl _⟩, hd τ H p⟩
theorem tyes_if {τ : St} {H : Hp} {A B : Hp → Prop} (h : A H) : tYes τ H (fun b H3 => if b = true then A H3 else B H3) := by
  show (if true = true then A H else B H)
  rw [if_pos rfl]
  exact h
theorem ifT {c : Bool} {A B : Prop} (h : c = true) (a : A) : if c = true then A else B := by
  rw [if_pos h]
  exact a
theorem ifF {c : Bool} {A B : Prop} (h : c = false) (b : B) : if c = true then A else B := by
  rw [if_neg (by rw [h]; exact Bool.false_ne_true)]
  exact b
theorem bt_int : bootBuiltins "int" = some (.type "int") := by decide +kernel
theorem bt_bool : bootBuiltins "bool" = some (.type "bool") := by decide +kernel
theorem bt_list : bootBuiltins "list" = some (.type "list") := by decide +kernel
theorem bt_tuple : bootBuiltins "tuple" = some (.type "tuple") := by decide +kernel
theorem bt_len : bootBuiltins "len" = some (.builtin "len") := by decide +kernel
theorem bt_abs : bootBuiltins "abs" = some (.builtin "abs") := by decide +kernel
theorem bt_isinstance : bootBuiltins "isinstance" = some (.builtin "isinstance") := by decide +kernel
theorem bt_sum : bootBuiltins "sum" = some (.builtin "sum") := by decide +kernel
theorem bt_max : bootBuiltins "max" = some (.builtin "max") := by decide +kernel
theorem bt_min : bootBuiltins "min" = some (.builtin "min") := by decide +kernel
theorem bt_sorted : bootBuiltins "sorted" = some (.builtin "sorted") := by decide +kernel
theorem bt_all : bootBuiltins "all" = some (.builtin "all") := by decide +kernel
def nodupB : List Str → Bool
  | [] => true
  | x :: r => (r.all fun y => x != y) && nodupB r
theorem nd_of : ∀ {l : List Str}, nodupB l = true → l.Nodup
  | [], _ => .nil
  | x :: r, h => by
    have h' : ((r.all fun y => x != y) && nodupB r) = true := h
    rw [Bool.and_eq_true, List.all_eq_true] at h'
    refine List.nodup_cons.mpr ⟨fun z => ?_, nd_of h'.2⟩
    have := h'.1 x z
    simp at this
structure Cal (P : Program) (w : World) (K : PySem.W.Frag) (mg : Str → Option Value) (base : Heap) (n : Nat) (x : Str) (ps : List Str) (sp : Sp) (g : Addr) (gd : FuncData) : Prop where
  ok : FnOk P w K mg base CX0 n g gd ps sp
  bi : Binds K gd ps []
  kp : PySem.W.keepIn K (.ref g) = true
  at_ : mg x = some (.ref g)
theorem Cal.up {P : Program} {w : World} {K : PySem.W.Frag} {mg : Str → Option Value} {base : Heap} {n m : Nat} {x : Str} {ps : List Str} {sp : Sp} {g : Addr} {gd : FuncData} (c : Cal P w K mg base n x ps sp g gd) (h : n ≤ m) : Cal P w K mg base m x ps sp g gd := ⟨c.ok.mono h, c.bi, c.kp, c.at_⟩
theorem pe_callC {X : Cx} {n : Nat} {x : Str} {ps : List Str} {sp : Sp} {g : Addr} {gd : FuncData} {p pos : Pos} {e : Expr} {es : List Expr} {t : TA} (c : Cal X.prog X.w X.K X.mg X.base n x ps sp g gd) (hr : Room n X.A) (ha : PA X (e :: es) t) (hg : Gl X x := by rfl)
    (hd : (x == ("__debug__" : Str)) = false := by decide) (he : starEach (e :: es) X.env = (false, eval e X.env) :: starEach es X.env := by rfl) (hpl : (backTo pos (starEach es X.env)).any (·.1) = false := by rfl) :
    PE X (.Call (.Name x p) (e :: es) [] pos) (tCall sp [] E0 t) := pe_call c.ok hr hg c.at_ c.kp c.bi .nil pass0 ha hd he hpl
theorem Same.tup {K : PySem.W.Frag} {H H' : Hp} {a : Addr} {xs : List V} (e : Same H H') (h : SqT K H a xs) : SqT K H' a xs := by
  rcases h with (h | ⟨o, h⟩) | h
  · exact .inl (.inl (e _ _ h))
  · exact .inl (.inr ⟨o, e _ _ h⟩)
  · exact .inr h
theorem same_new {H : Hp} {p : Addr} (h : H p = none) (o : HO) : Same H (upd H p o) := fun b u q => by rw [upd_ne (ne_of_none q h)]; exact q
theorem Same.upd_new {H H' : Hp} {p : Addr} (s : Same H H') (h : H p = none) (o : HO) : Same H (upd H' p o) := fun b u q => by rw [upd_ne (ne_of_none q h)]; exact s b u q
theorem atI_ints {L : List Int} {i : Int} (h0 : 0 ≤ i) (h1 : i < (L.length : Int)) : atI (L.map V.int) i = some (.int (L.getD i.toNat 0)) := by
  have hi : i.toNat < L.length := by omega
  have e : i = ((i.toNat : Nat) : Int) := by omega
  have q : atI (L.map V.int) ((i.toNat : Nat) : Int) = some (.int (L.getD i.toNat 0)) := atI_nat (by rw [List.getElem?_map, List.getElem?_eq_getElem hi, getD_at hi] <;> rfl)
  rw [← e] at q
  exact q
end L2
namespace L2
open PySem PySem.Spec PyProof.Rows
section
variable {X : Cx} {pins : List (Addr × Obj)} {σ : St} {H : Hp} {s : Shared}
theorem Inv.track {a : Addr} {o : HO} (I : Inv X pins σ H s) (f : FpOk X pins H a) (hy : X.s₀.heap.objs.size ≤ a) (new : ObjOk X.prog X.w (upd H a o) s.heap a o) : Inv X pins σ (upd H a o) s := by
  obtain ⟨f0, f1, f2, f3, f4, f5⟩ := f
  have ne : ∀ b u, H b = some u → b ≠ a := fun b u e => ne_of_none e f0
  refine ⟨I.ok, I.os, I.bare, ⟨I.base.keep, I.base.slot, fun b ob e n hx => ?_, I.base.there, fun b xs e => ?_, fun b ob u e => ?_, fun b ps e => ?_⟩, I.loc, I.cell, ?_, fun x c e => ?_, fun p hp => ?_, fun b u e => ?_, I.len⟩
  · rw [upd_ne (Nat.ne_of_lt (Nat.lt_of_lt_of_le (Heap.lt_size e) hy))]
    exact I.base.free b ob e n hx
  · have q := I.base.tups b xs e
    rw [upd_ne (ne _ _ q)]; exact q
  · have q := I.base.frzs b ob u e
    rw [upd_ne (ne _ _ q)]; exact q
  · obtain ⟨m, q⟩ := I.base.tbls b ps e
    exact ⟨m, by rw [upd_ne (ne _ _ q)]; exact q⟩
  · rw [upd_ne (Ne.symm f1)]; exact I.free
  · rw [upd_ne (f4 x c e)]; exact I.freeC x c e
  · obtain ⟨g1, g2, g3, g4, g5⟩ := I.pin p hp
    exact ⟨g1, by rw [upd_ne (f5 p hp)]; exact g2, g3, g4, g5⟩
  · by_cases hb : b = a
    · subst hb; rw [upd_same] at e; cases e; exact new
    · rw [upd_ne hb] at e
      exact (I.hok b u e).stay (fun _ _ _ q => q) (fun c q => by rw [upd_ne (ne _ _ q)]; exact q) fun c xs q => by rw [upd_ne (ne _ _ q)]; exact q
theorem FpOk.pin {b : Addr} {o : Obj} (f : FpOk X pins H b) (e : s.heap.get? b = some o) (d : ∀ v, o.data ≠ .cell v) : s.heap.get? b = some o ∧ H b = none ∧ b ≠ X.env.locals ∧ b ∉ X.fs ∧ ∀ v, o.data ≠ .cell v := ⟨e, f.1, f.2.1, f.2.2.1, d⟩
def KeyT (X : Cx) (pins : List (Addr × Obj)) (σ : St) (H : Hp) (A : Around) (f v : Value) (k : Int) : Prop :=
  ∀ (more : List (Addr × Obj)) (s : Shared), Inv X (pins ++ more) σ H s → wpAny (model X.prog X.w) A (call f [v]) (fun r s' => (∃ t, r = Value.int k t) ∧ Inv X (pins ++ more) σ H s') (fun _ _ => False) s
variable {A : Around} {E : Value → Shared → Prop} {P : PySem.Fin → Shared → Prop} {a kS : Addr} {b : Bool} {vs : List Value} {kz : List Int} {keys : Array Value} {e e1 : Nat} {f : Value}
theorem srt_tail {st : SortSt} (I : Inv X pins σ H s) (fk : FpOk X pins H kS) (fa : FpOk X pins H a) (hka : kS ≠ a) (ek : s.heap.get? kS = some (seqObj "list" keys e)) (ea : s.heap.get? a = some (seqObj "list" #[] e1))
    (hk : IntsAre keys.toList kz) (hlen : kz.length = vs.length) (h64 : vs.length < 64) (hp : (arrOf st).Perm (keys.zip vs.toArray)) (hs : SortedTo (arrOf st) (arrOf st).size) (hfl : failedOf st = none)
    (done : ∀ s' out c, Inv X pins σ H s' → s'.heap.get? a = some (seqObj "list" out c) → KskOut b kz vs out.toList → P (.done (.ret .none)) s') :
    wpAny (model X.prog X.w) A (ksk_tail a b e1 (.ref kS) st) P E s := by
  have hsz : keys.size = vs.length := by
    have h1 := hk.length
    rw [Array.length_toList] at h1
    omega
  have hsz2 : (arrOf st).size = vs.length := by
    have z : (arrOf st).size = (keys.zip vs.toArray).size := hp.size_eq
    have z2 : (keys.zip vs.toArray).size = vs.length := by rw [Array.size_zip, hsz]; simp
    exact z.trans z2
  have ko := ksk_out (b := b) hk hp hs
  have hout : (if b = true then ((arrOf st).map (·.2)).reverse else (arrOf st).map (·.2)).size = vs.length := by
    cases b <;> simp [hsz2]
  generalize hO : (if b = true then ((arrOf st).map (·.2)).reverse else (arrOf st).map (·.2)) = out at ko hout
  have I1 : Inv X pins σ H { s with heap := s.heap.update kS (Obj.mapSeq fun _ => (#[] : Array Value)) } :=
    I.turned (t' := s.toks) (fun b o hb q => ((Heap.SameBut.update s.heap kS _).2 b hb).trans q) fk.1 fk.2.1 fk.2.2.2.1 fk.2.2.2.2.1 fk.2.2.2.2.2
  have ea1 : (s.heap.update kS (Obj.mapSeq fun _ => (#[] : Array Value))).get? a = some (seqObj "list" #[] e1) := ((Heap.SameBut.update s.heap kS _).2 a (Ne.symm hka)).trans ea
  have I2 : Inv X pins σ H { s with heap := (s.heap.update kS (Obj.mapSeq fun _ => (#[] : Array Value))).update a (Obj.mapSeq fun _ => out) } :=
    I1.turned (t' := s.toks) (fun b o hb q => ((Heap.SameBut.update _ a _).2 b hb).trans q) fa.1 fa.2.1 fa.2.2.2.1 fa.2.2.2.2.1 fa.2.2.2.2.2
  unfold ksk_tail
  dsimp only
  refine wpAny_bind (listUpdate_at ek rfl ?_ (by rw [hsz]; exact Nat.le_trans (Nat.le_of_lt h64) (by decide)) (Nat.zero_le _))
  refine wpAny_bind (wpAny_letGo ?_)
  refine wpAny_bind (seqEpoch_at ea1 rfl ?_)
  rw [hO]
  refine wpAny_bind (listUpdate_at ea1 rfl ?_ (Nat.zero_le _) (by rw [hout]; exact Nat.le_trans (Nat.le_of_lt h64) (by decide)))
  rw [hfl]
  simp only [bne_self_eq_false, Bool.false_eq_true, if_false]
  exact wpAny_pure (done _ out _ I2 (get?_update_seq ea1 fun _ => out) ko)
theorem srt_end (I : Inv X pins σ H s) (fk : FpOk X pins H kS) (fa : FpOk X pins H a) (hka : kS ≠ a) (ek : s.heap.get? kS = some (seqObj "list" keys e)) (ea : s.heap.get? a = some (seqObj "list" #[] e1))
    (hk : IntsAre keys.toList kz) (hlen : kz.length = vs.length) (h64 : vs.length < 64)
    (done : ∀ s' out c, Inv X pins σ H s' → s'.heap.get? a = some (seqObj "list" out c) → KskOut false kz vs out.toList → P (.done (.ret .none)) s') :
    wpAny (model X.prog X.w) A (ksk_end a false vs.toArray e1 (.ref kS) keys) P E s := by
  have hsz : keys.size = vs.length := by
    have h1 := hk.length
    rw [Array.length_toList] at h1
    omega
  have hzs : (keys.zip vs.toArray).size = vs.length := by rw [Array.size_zip, hsz, List.size_toArray]; omega
  unfold ksk_end
  dsimp only
  simp only [Bool.false_eq_true, if_false]
  by_cases h2 : vs.toArray.size < 2
  · rw [if_pos h2, if_pos h2]
    refine wpAny_bind (wpAny_pure ?_)
    rw [StateT.run_pure]
    refine wpAny_bind (wpAny_pure ?_)
    refine srt_tail (st := SortSt.mk' general' (keys.zip vs.toArray) #[] 7 none) I fk fa hka ek ea hk hlen h64 (Array.Perm.refl _) (fun i j hij hj => ?_) rfl done
    have hj' : j < (keys.zip vs.toArray).size := hj
    rw [hzs] at hj'
    rw [List.size_toArray] at h2
    have z : i = j := by omega
    rw [z]
    exact Int.le_refl _
  · rw [if_neg h2, if_neg h2]
    rw [List.size_toArray] at h2
    rw [ksk_kind hk (by omega)]
    refine wpAny_bind (wpAny_pure ?_)
    refine wpAny_bind (wpAny_mono (wpS_sortRuns (a₀ := keys.zip vs.toArray) (st := SortSt.mk' oneType' (keys.zip vs.toArray) #[] 7 none)
      (Q := fun _ t => (arrOf t).Perm (keys.zip vs.toArray) ∧ failedOf t = none ∧ SortedTo (arrOf t) (keys.zip vs.toArray).size)
      (ksk_intKeys hk) ⟨Array.Perm.refl _, rfl, rfl, rfl⟩ (by omega) (by omega) fun t z1 z2 z3 => ⟨z1, z2, z3⟩) ?_ fun _ _ z => z)
    rintro ⟨⟨⟩, t⟩ s2 ⟨rfl, p1, p2, p3⟩
    exact srt_tail I fk fa hka ek ea hk hlen h64 p1 (by rw [p1.size_eq]; exact p3) p2 done
theorem srt_rest (I : Inv X pins σ H s) (fk : FpOk X pins H kS) (fa : FpOk X pins H a) (hka : kS ≠ a) (ek : s.heap.get? kS = some (seqObj "list" #[] 0)) (ea : s.heap.get? a = some (seqObj "list" #[] e1))
    (hlen : kz.length = vs.length) (h64 : vs.length < 64) (turn : ∀ (i : Nat) v k, vs[i]? = some v → kz[i]? = some k → KeyT X pins σ H A f v k)
    (done : ∀ s' out c, Inv X pins σ H s' → s'.heap.get? a = some (seqObj "list" out c) → KskOut false kz vs out.toList → P (.done (.ret .none)) s') :
    wpAny (model X.prog X.w) A (ksk_rest a f false vs.toArray e1 (.ref kS)) P E s := by
  unfold ksk_rest
  refine wpAny_bind (wpAny_rule ?_)
  rw [List.forIn_toArray]
  refine wpAny_bind (ksk_fold (fun i s' => Inv X pins σ H s' ∧ s'.heap.get? a = some (seqObj "list" #[] e1) ∧ ∃ kA e, s'.heap.get? kS = some (seqObj "list" kA e) ∧ IntsAre kA.toList (kz.take i)) vs 0 s ⟨I, ea, #[], 0, ek, by simpa using IntsAre.nil⟩ ?step ?fin)
  case step =>
    rintro j x s1 hx ⟨I1, ea1, kA, e, ek1, hk⟩
    rw [Nat.zero_add] at hk ⊢
    have hj : j < vs.length := (List.getElem?_eq_some_iff.mp hx).1
    have hkj : kz[j]? = some kz[j] := List.getElem?_eq_getElem (by omega)
    have hz : kA.size ≤ vs.length := by
      have h1 := hk.length
      rw [Array.length_toList, List.length_take] at h1
      omega
    have I2 : Inv X (pins ++ [(kS, seqObj "list" kA e), (a, seqObj "list" #[] e1)]) σ H s1 := I1.pins_of fun p hp => by
      rcases List.mem_append.mp hp with z | z
      · exact I1.pin p (List.mem_append_right _ z)
      · rcases List.mem_cons.mp z with z | z
        · subst z; exact fk.pin ek1 fun v q => nomatch q
        · rw [List.mem_singleton.mp z]; exact fa.pin ea1 fun v q => nomatch q
    refine wpAny_bind (wpAny_attempt (wpAny_mono (turn j x _ hx hkj _ s1 I2) (fun v s2 h2 => ?_) fun _ _ z => z.elim))
    obtain ⟨⟨t, rfl⟩, I3⟩ := h2
    have ek2 := (I3.pin (kS, seqObj "list" kA e) (List.mem_append_right _ (List.mem_append_right _ (.head _)))).1
    have ea2 := (I3.pin (a, seqObj "list" #[] e1) (List.mem_append_right _ (List.mem_append_right _ (.tail _ (.head _))))).1
    have I4 := I3.unpinned
    refine wpAny_bind (listUpdate_at ek2 rfl ?_ (Nat.le_trans hz (Nat.le_trans (Nat.le_of_lt h64) (by decide))) (Nat.le_trans (Nat.le_of_eq (Array.size_push ..)) (Nat.succ_le_succ (Nat.le_trans hz (Nat.le_trans (Nat.le_of_lt h64) (by decide))))))
    refine wpAny_pure ⟨rfl, I4.turned (t' := s2.toks) (fun b o hb q => ((Heap.SameBut.update s2.heap kS _).2 b hb).trans q) fk.1 fk.2.1 fk.2.2.2.1 fk.2.2.2.2.1 fk.2.2.2.2.2, ((Heap.SameBut.update s2.heap kS _).2 a (Ne.symm hka)).trans ea2, kA.push (.int kz[j] t), _, get?_update_seq ek2 (·.push (.int kz[j] t)), ?_⟩
    have q1 : kz.take (j + 1) = kz.take j ++ [kz[j]] := by rw [List.take_add_one, hkj]; rfl
    rw [q1, Array.toList_push]
    exact ksk_snoc hk
  case fin =>
    rintro s1 ⟨I1, ea1, kA, e, ek1, hk⟩
    have hk' : IntsAre kA.toList kz := by
      rw [Nat.zero_add, ← hlen, List.take_length] at hk
      exact hk
    exact wpAny_bind (listItems_at ek1 rfl (srt_end I1 fk fa hka ek1 ea1 hk' hlen h64 done))
end
end L2
namespace L2
open PySem PySem.Spec PyProof.Rows
section
variable {X : Cx} {pins : List (Addr × Obj)} {σ : St} {H : Hp} {s : Shared} {A : Around} {E : Value → Shared → Prop} {P : PySem.Fin → Shared → Prop} {a : Addr} {vs : List Value} {kz : List Int} {n : Nat} {f : Value}
theorem srt_tree (I : Inv X pins σ H s) (fa : FpOk X pins H a) (ea : s.heap.get? a = some (seqObj "list" vs.toArray n)) (hlen : kz.length = vs.length) (h64 : vs.length < 64)
    (turn : ∀ (i : Nat) v k, vs[i]? = some v → kz[i]? = some k → KeyT X pins σ H A f v k)
    (done : ∀ s' out c, Inv X pins σ H s' → s'.heap.get? a = some (seqObj "list" out c) → KskOut false kz vs out.toList → P (.done (.ret .none)) s') :
    wpAny (model X.prog X.w) A (ksk_tree a f false) P E s := by
  have I1 : Inv X pins σ H { s with heap := s.heap.update a (Obj.mapSeq fun _ => (#[] : Array Value)) } :=
    I.turned (t' := s.toks) (fun b o hb q => ((Heap.SameBut.update s.heap a _).2 b hb).trans q) fa.1 fa.2.1 fa.2.2.2.1 fa.2.2.2.2.1 fa.2.2.2.2.2
  have ea1 := get?_update_seq ea fun _ => (#[] : Array Value)
  generalize hh : s.heap.update a (Obj.mapSeq fun _ => (#[] : Array Value)) = h1 at I1 ea1
  have I2 : Inv X pins σ H { s with heap := (h1.push (seqObj "tuple" vs.toArray 0)).push (seqObj "list" #[] 0) } :=
    I1.kept (t' := s.toks) fun b o q => Heap.get?_push_of_some _ (Heap.get?_push_of_some _ q)
  have hlt : a < h1.objs.size := Heap.lt_size ea1
  have hsz : (h1.push (seqObj "tuple" vs.toArray 0)).objs.size = h1.objs.size + 1 := size_push' _ _
  have h64' : vs.length ≤ sizeLine := Nat.le_trans (Nat.le_of_lt h64) (by decide)
  unfold ksk_tree
  refine wpAny_bind (listItems_at ea rfl ?_)
  refine wpAny_bind (listUpdate_at ea rfl ?_ (by rw [List.size_toArray]; exact h64') (Nat.zero_le _))
  rw [hh]
  refine wpAny_bind (seqEpoch_at (s := { s with heap := h1 }) ea1 rfl ?_)
  refine wpAny_bind (wpAny_newTuple ?_ (by simpa using h64'))
  refine wpAny_bind (wpAny_newList ?_ (Nat.zero_le _))
  refine wpAny_holding ?_
  refine srt_rest (s := { s with heap := (h1.push (seqObj "tuple" vs.toArray 0)).push (seqObj "list" #[] 0) }) (kS := (h1.push (seqObj "tuple" vs.toArray 0)).objs.size) I2 ?_ fa ?_ (Heap.get?_push_size _ rfl) (Heap.get?_push_of_some _ (Heap.get?_push_of_some _ ea1)) hlen h64 turn done
  · exact I1.fpOk (by rw [hsz]; exact Nat.le_succ _) (I1.hok.fresh (by rw [hsz]; exact Nat.le_succ _))
  · rw [hsz]
    exact Nat.ne_of_gt (Nat.lt_succ_of_lt hlt)
def adr : Value → Addr
  | .ref a => a
  | _ => 0
theorem vals_refs : ∀ {qs : List Addr} {vs : List Value}, Vals (qs.map V.ref) vs → vs = qs.map Value.ref
  | [], _, h => by cases h; rfl
  | q :: qs, _, h => by
    cases h with
    | cons r t => rw [vals_refs t, show _ = Value.ref q from r]; rfl
theorem refs_vals : ∀ (qs : List Addr), Vals (qs.map V.ref) (qs.map Value.ref)
  | [] => .nil
  | q :: qs => .cons rfl (refs_vals qs)
theorem kout_refs {kz : List Int} {qs : List Addr} {out : List Value} (h : KskOut false kz (qs.map Value.ref) out) : ∃ ps : List (Int × Addr), ps.Perm (kz.zip qs) ∧ out = ps.map (fun p => Value.ref p.2) ∧ ps.Pairwise (fun p q => p.1 ≤ q.1) := by
  obtain ⟨ps, hp, ho, hs⟩ := h
  have e0 : kz.zip (qs.map Value.ref) = (kz.zip qs).map fun p => (p.1, Value.ref p.2) := by rw [List.zip_map_right]; exact List.map_congr_left fun ⟨x, y⟩ _ => rfl
  rw [e0] at hp
  have mem : ∀ p ∈ ps, p.2 = Value.ref (adr p.2) := fun p hm => by
    obtain ⟨q, _, rfl⟩ := List.mem_map.mp (hp.mem_iff.mp hm)
    rfl
  refine ⟨ps.map fun p => (p.1, adr p.2), ?_, ?_, ?_⟩
  · have z := hp.map fun p => (p.1, adr p.2)
    rw [List.map_map] at z
    have e1 : (kz.zip qs).map ((fun p => (p.1, adr p.2)) ∘ fun p => (p.1, Value.ref p.2)) = kz.zip qs := by
      conv => rhs; rw [← List.map_id (kz.zip qs)]
      exact List.map_congr_left fun ⟨x, y⟩ _ => rfl
    rw [e1] at z
    exact z
  · rw [ho, List.map_map]
    exact List.map_congr_left fun p hm => mem p hm
  · rw [List.pairwise_map]
    exact hs
theorem srt_call {l fa : Addr} {qs : List Addr} {Q : VK} (I : Inv X pins σ H s) (hS : SqL X.K H l (qs.map V.ref)) (hlen : kz.length = qs.length) (h64 : qs.length < 64)
    (turn : ∀ (i : Nat) q k, qs[i]? = some q → kz[i]? = some k → KeyT X pins σ H X.A.in1.in1 (.ref fa) (.ref q) k)
    (done : ∀ D (ps : List (Int × Addr)), H D = none → ps.Perm (kz.zip qs) → ps.Pairwise (fun p q => p.1 ≤ q.1) → Q (.ref D) (upd H D (.lst (ps.map fun p => V.ref p.2)))) :
    wpAny (model X.prog X.w) X.A (call (.builtin "sorted") [.ref l] [(Str.ofString "key", .ref fa)]) (EP X pins σ Q) E s := by
  obtain ⟨its, rv, pl, hz⟩ := I.list hS
  have ei := vals_refs rv
  subst ei
  have hl64 : (qs.map Value.ref).length < 64 := by rw [List.length_map]; exact h64
  have h64' : (qs.map Value.ref).length ≤ sizeLine := Nat.le_trans (Nat.le_of_lt hl64) (by decide)
  refine call_function_entry_kw kind_sorted plain_sorted entry_sorted (ksk_s1 _ _) ?_
  unfold Builtin.«sorted»
  refine wpAny_bind (m := checkCount "sorted" 1 1 _) (wpAny_pure ?_)
  refine wpAny_bind (collect_list pl.isList ?_ h64')
  refine wpAny_bind (wpAny_newList ?_ h64')
  have up : ∀ b o, s.heap.get? b = some o → ((s.heap.push (seqObj "list" #[] 0)).update s.heap.objs.size (Obj.mapSeq (· ++ (qs.map Value.ref).toArray))).get? b = some o := fun b o q =>
    ((Heap.SameBut.update (s.heap.push (seqObj "list" #[] 0)) s.heap.objs.size _).2 b (Nat.ne_of_lt (Heap.lt_size q))).trans (Heap.get?_push_of_some _ q)
  have hsz : ((s.heap.push (seqObj "list" #[] 0)).update s.heap.objs.size (Obj.mapSeq (· ++ (qs.map Value.ref).toArray))).objs.size = s.heap.objs.size + 1 := by rw [Heap.size_update, size_push']
  generalize (s.heap.push (seqObj "list" #[] 0)).update s.heap.objs.size (Obj.mapSeq (· ++ (qs.map Value.ref).toArray)) = h1 at up hsz
  have I1 : Inv X pins σ H { s with heap := h1.push (seqObj "list" (qs.map Value.ref).toArray 0) } := I.kept (t' := s.toks) fun b o q => Heap.get?_push_of_some _ (up b o q)
  have fr : H h1.objs.size = none := I.hok.fresh (by rw [hsz]; exact Nat.le_succ _)
  have fp : FpOk X pins H h1.objs.size := I.fpOk (by rw [hsz]; exact Nat.le_succ _) fr
  have yo : X.s₀.heap.objs.size ≤ h1.objs.size := Nat.le_trans I.sz (by rw [hsz]; exact Nat.le_succ _)
  have ea : (h1.push (seqObj "list" (qs.map Value.ref).toArray 0)).get? h1.objs.size = some (seqObj "list" (qs.map Value.ref).toArray 0) := Heap.get?_push_size _ rfl
  refine wpAny_bind (wpAny_holding (wpAny_call_entry_kw PyProof.Rows.slot_list_sort ⟨_, ea, rfl⟩ PyProof.Rows.entry_list_sort ?body (ksk_l1 _ _)))
  case body =>
    show wpAny (model X.prog X.w) X.A.in1.in1 (Builtin.«list.sort» ⟨[.ref h1.objs.size], [(Str.ofString "key", .ref fa)]⟩) _ _ _
    rw [ksk_t1]
    refine srt_tree (kz := kz) (s := { s with heap := h1.push (seqObj "list" (qs.map Value.ref).toArray 0) }) I1 fp ea (by rw [List.length_map]; exact hlen) hl64 (fun i v k hv hk => ?_) fun s2 out c I2 e2 ko => ⟨_, rfl, ?_⟩
    · rw [List.getElem?_map] at hv
      cases eq : qs[i]? with
      | none => rw [eq] at hv; cases hv
      | some q =>
        rw [eq] at hv
        cases hv
        exact turn i q k eq hk
    · obtain ⟨ps, hp, ho, hs⟩ := kout_refs ko
      have hpl : ps.length = qs.length := by
        rw [hp.length_eq, List.length_zip, hlen, Nat.min_self]
      refine wpAny_pure ⟨_, rfl, .ref h1.objs.size, _, I2.track (o := .lst (ps.map fun p => V.ref p.2)) fp yo ⟨?_, out.toList, c, ?_, ?_⟩, rfl, done _ ps fr hp hs⟩
      · rw [List.length_map, hpl]
        exact Nat.le_trans (Nat.le_of_lt h64) (by decide)
      · rw [ho]
        have z := refs_vals (ps.map Prod.snd)
        rw [List.map_map, List.map_map] at z
        exact z
      · rw [Array.toArray_toList]
        exact e2
end
end L2
namespace L2
open PySem PySem.Spec PyProof.Rows
def cxLam (X : Cx) (A : Around) (p : Str) (M : List Str) (scope : Scope) (qual : Str) (f c' : Addr) (s : Shared) (H : Hp) : Cx where
  prog := X.prog
  w := X.w
  K := X.K
  mg := X.mg
  base := X.base
  A := A.deeper (PySem.W.envX qual scope s.heap.objs.size f (.ref c') (closL X.env scope.names []))
  N := p :: M
  s₀ := s
  H₀ := H
  env := PySem.W.envX qual scope s.heap.objs.size f (.ref c') (closL X.env scope.names [])
  outer := X.stack
  stack := PySem.W.envX qual scope s.heap.objs.size f (.ref c') (closL X.env scope.names []) :: X.stack
  ex := []
  fn := fun _ => false
  calm := true
  pn := []
  xe := fun _ _ => False
abbrev CodeO (c' : Addr) (qual : Str) : HO := .ext fun h => h.CodeRec (.ref c') qual
section
variable {X : Cx} {pins : List (Addr × Obj)} {σ : St} {H : Hp} {A : Around} {p qual : Str} {M : List Str} {scope : Scope} {params : Arguments} {body : Expr} {pm ctv : Value} {c' f : Addr} {te : TE}
theorem lam_key (hA : A.frames = some X.stack) (hd : A.handled = none) (hdep : A.depth < recursionLimit) (S : CompOk X.env.scope scope) (nl : NL X.N M scope) (hp : scope.names.lookup p = some .local)
    (hco : scope.isCoroutine = false) (hgen : scope.isGenerator = false) (hbind : ∀ (cl : List (Str × Addr)) (pm cdv ctv u : Value), bindArgs (PySem.W.kla_fn "<lambda>" qual params body scope cl pm cdv ctv) ⟨[u], []⟩ = pure [(p, u)])
    (hb : ∀ f c' s H, PE (cxLam X A p M scope qual f c' s H) body te) {x : V} {u : Value} {k : Int} (rx : RelV x u) (hf : (f, PySem.W.kla_obj "<lambda>" qual params body scope (closL X.env scope.names []) pm c' ctv) ∈ pins)
    (hcr : H c' = some (CodeO c' qual)) (h : te (some x :: σ) H fun r H' => r = .int k ∧ H' = H) : KeyT X pins σ H A (.ref f) u k := by
  intro more s I
  have hcd : s.heap.CodeRec (.ref c') qual := (I.hok c' _ hcr).1
  have ho := (I.pin _ (List.mem_append_right _ (List.mem_append_left _ hf))).1
  have sub : ∀ x a, (closL X.env scope.names []).lookup x = some a → X.env.cells.lookup x = some a := fun x a e => by
    rcases closL_mem _ _ _ (PySem.mem_of_lookup e) with z | z
    · exact absurd z (by simp)
    · exact z
  have kin : ∀ x, scope.names.lookup x = some .free → X.env.kindOf x = some .cell ∨ X.env.kindOf x = some .free := fun x e => S.free (x, .free) (PySem.mem_of_lookup e) rfl
  have has : ∀ x a, scope.names.lookup x = some .free → X.env.cells.lookup x = some a → (closL X.env scope.names []).lookup x = some a := fun x a e ec => by
    obtain ⟨d, hd⟩ := lookup_of_mem (closL_has ec scope.names [] (PySem.mem_of_lookup e))
    have := sub x d hd
    rw [ec] at this
    cases this
    exact hd
  have nocell : ∀ x, scope.names.lookup x ≠ some .cell := fun x e => S.nocell _ (PySem.mem_of_lookup e) rfl
  refine wpAny_call (PySem.W.kla_callFunE hdep ho rfl hco hgen rfl hcd ?_)
  rw [hbind]
  refine wpAny_pure (wpAny_newFunctionEnv S.nocell (fun y hy => ?_) (fun h₁ hns hsb => ⟨?_, ?_⟩) S.kind)
  · rw [List.mem_singleton.mp hy]; exact hp
  · exact I.nolimit.keeps fun b o e => hsb.extBut b o (Nat.ne_of_lt (Heap.lt_size e)) (Heap.get?_push_of_some _ e)
  have old : ∀ b o, s.heap.get? b = some o → h₁.get? b = some o := fun b o e => hsb.extBut b o (Nat.ne_of_lt (Heap.lt_size e)) (Heap.get?_push_of_some _ e)
  have okY : (cxLam X A p M scope qual f c' s H).Ok := by
    refine ⟨I.ok.mod, S.kind, rfl, rfl, Nat.le_refl _, fun x y a h1 h2 => I.ok.inj x y a (sub x a h1) (sub y a h2), fun x hx => ?_, (fun x a h => nomatch h), fun _ => hd, Around.frames_deeper hA, .inr ⟨rfl, rfl⟩, (fun b hb' => nomatch hb'),
      I.bs, Nat.le_trans I.ok.bsz I.sz, (fun b o e hb' => nomatch hb'), (fun b hb' => nomatch hb'), I.stack, I.stkFree⟩
    have hf : scope.names.lookup x = some .free := by
      rcases hx with hx | hx
      · exact absurd hx (nocell x)
      · exact hx
    obtain ⟨a, ea⟩ := I.ok.has x (kin x hf)
    exact ⟨a, has x a hf ea⟩
  have IY : Inv (cxLam X A p M scope qual f c' s H) [] (some x :: σ) H { s with heap := h₁, toks := s.toks + [(p, u)].length } := by
    refine ⟨okY, rfl, I.bare, Un.kept old, ⟨_, hns, fun i y v e1 e2 e3 => ?_⟩, fun y a e => ?_, I.hok.fresh (Nat.le_refl _), fun y a e => I.freeC y a (sub y a e), (fun q hq => nomatch hq), I.hok.kept old, ?_⟩
    · cases i with
      | zero =>
        have e1' : some p = some y := e1
        have e2' : some (some x) = some (some v) := e2
        cases e1'
        cases e2'
        refine ⟨u, rx, .inl ⟨hp, ?_⟩⟩
        show List.lookup p [(p, u)] = some u
        simp
      | succ i =>
        have e0 : M[i]? = some y := e1
        have e2' : σ[i]? = some (some v) := e2
        have hf : scope.names.lookup y = some .free := by
          rcases e3 with e3 | e3 | e3
          · exact absurd e3 (nl.loc _ y e0)
          · exact absurd e3 (nocell y)
          · exact e3
        have hk := kin y hf
        obtain ⟨m, hn, hl⟩ := I.loc
        obtain ⟨z, rz, lk⟩ := hl i y v (nl.free _ y e0 hf) e2' (hk.elim (fun z => .inr (.inl z)) fun z => .inr (.inr z))
        refine ⟨z, rz, .inr ⟨.inr hf, ?_⟩⟩
        rcases lk with ⟨q, _⟩ | ⟨_, a, ea, o, eo, hdd⟩
        · rcases hk with hk | hk <;> (rw [hk] at q; cases q)
        · exact ⟨a, has y a hf ea, o, old a o eo, hdd⟩
    · obtain ⟨v, o, eo, hdd⟩ := I.cell y a (sub y a e)
      exact ⟨v, o, old a o eo, hdd⟩
    · show σ.length + 1 = M.length + 1
      rw [I.len, nl.len]
  refine PySem.W.kla_codeExpr (wpAny_mono (hb f c' s H [] _ (some x :: σ) H _ IY h) (fun r s2 h2 => ?_) fun _ _ z => z.elim)
  obtain ⟨v, H2, J, rv, hv, hH⟩ := h2
  subst hv hH
  exact ⟨rv, I.call' (ch := []) J.os J.base J.hok J.bare (fun b hb' => nomatch hb')⟩
end
end L2
namespace L2
open PySem PySem.Spec PyProof.Rows
def tbN (pos : Pos) (c' : Addr) : Array Value := #[rawInt pos.line, rawInt pos.col, .ref c']
def Hit (P : Addr) (pos : Pos) (qual : Str) (c' : Addr) (H : Hp) : Prop := H P = some (.tbl (tbN pos c')) ∧ H c' = some (CodeO c' qual)
def TbOk (P : Addr) (pos : Pos) (qual : Str) (H : Hp) : Prop := H P = some (.tbl #[]) ∨ ∃ c', Hit P pos qual c' H
def SameT (P : Addr) (H H' : Hp) : Prop := ∀ b o, b ≠ P → H b = some o → H' b = some o
theorem SameT.refl {P : Addr} (H : Hp) : SameT P H H := fun _ _ _ e => e
theorem SameT.trans {P : Addr} {H H1 H2 : Hp} (a : SameT P H H1) (b : SameT P H1 H2) : SameT P H H2 := fun c o n e => b c o n (a c o n e)
theorem Same.toT {P : Addr} {H H' : Hp} (a : Same H H') : SameT P H H' := fun b o _ e => a b o e
theorem SameT.free {P : Addr} {H H' : Hp} (a : SameT P H H') {l : Addr} (h : H' l = none) (hP : ∃ ps, H' P = some (.tbl ps)) : H l = none := by
  cases q : H l with
  | none => rfl
  | some o =>
    by_cases e : l = P
    · obtain ⟨ps, z⟩ := hP
      rw [e, z] at h; cases h
    · rw [a l o e q] at h; cases h
theorem SameT.upd_new {P : Addr} {H H' : Hp} {p : Addr} (s : SameT P H H') (h : H p = none) (o : HO) : SameT P H (upd H' p o) := fun b u n q => by rw [upd_ne (ne_of_none q h)]; exact s b u n q
theorem TbOk.at_ {P : Addr} {pos : Pos} {qual : Str} {H : Hp} (t : TbOk P pos qual H) : ∃ ps, H P = some (.tbl ps) := by
  rcases t with t | ⟨c, t, _⟩
  · exact ⟨_, t⟩
  · exact ⟨_, t⟩
theorem SameT.get {P : Addr} {pos : Pos} {qual : Str} {H H' : Hp} (a : SameT P H H') (t : TbOk P pos qual H) {b : Addr} {o : HO} (e : H b = some o) (n : ∀ ps, o ≠ .tbl ps) : H' b = some o := by
  obtain ⟨ps, z⟩ := t.at_
  exact a b o (ne_of e z (n ps)) e
theorem TbOk.same {P : Addr} {pos : Pos} {qual : Str} {H H' : Hp} (t : TbOk P pos qual H) (s : Same H H') : TbOk P pos qual H' := by
  rcases t with t | ⟨c, t, u⟩
  · exact .inl (s _ _ t)
  · exact .inr ⟨c, s _ _ t, s _ _ u⟩
theorem SameT.lst {K : PySem.W.Frag} {P : Addr} {pos : Pos} {qual : Str} {H H' : Hp} (a : SameT P H H') (t : TbOk P pos qual H) {b : Addr} {xs : List V} (h : SqL K H b xs) : SqL K H' b xs := by
  rcases h with (h | ⟨o, h⟩) | h
  · exact .inl (.inl (a.get t h fun _ z => nomatch z))
  · exact .inl (.inr ⟨o, a.get t h fun _ z => nomatch z⟩)
  · exact .inr h
theorem bat_keeps {h h' : Heap} {mg : Str → Option Value} {P : Addr} (b : h.BuiltinsAt mg P) (k : ∀ a o, h.get? a = some o → h'.get? a = some o) : h'.BuiltinsAt mg P := by
  obtain ⟨bm, o, b1, b2, b3, b4, b5, b6⟩ := b
  exact ⟨bm, o, b1, b2, b3, b4, k _ _ b5, b6⟩
theorem codeO_stable {c' : Addr} {qual : Str} : ∀ h1 h2 : Heap, h1.CodeRec (.ref c') qual → (∀ o, h1.get? c' = some o → h2.get? c' = some o) → h2.CodeRec (.ref c') qual := fun h1 h2 ⟨c, oc, vs, t, e, g, r⟩ k => by
  cases e
  exact ⟨_, oc, vs, t, rfl, k _ g, r⟩
section
variable {X : Cx} {pins : List (Addr × Obj)} {σ : St} {H : Hp} {s : Shared} {E : Value → Shared → Prop} {c P : Addr} {pos : Pos} {params : Arguments} {body : Expr} {scope : Scope} {Q : Value → Shared → Prop}
theorem lam_made (I : Inv X pins σ H s) (hcode : X.env.code = .ref c) (C : PySem.W.CodeHd X.base c P) (B : X.base.BuiltinsAt X.mg P) (T : TbOk P pos (X.env.qual ++ "<lambda>") H) (S : CompOk X.env.scope scope) (hdef : defaultsOf params X.env = ([], []))
    (q : ∀ f c' pm ctv H' s', SameT P H H' → Hit P pos (X.env.qual ++ "<lambda>") c' H' → Inv X (pins ++ [(f, PySem.W.kla_obj "<lambda>" (X.env.qual ++ "<lambda>") params body scope (closL X.env scope.names []) pm c' ctv)]) σ H' s' → Q (.ref f) s') :
    wpAny (model X.prog X.w) X.A (eval (.Lambda params body scope pos) X.env) Q E s := by
  have hcl := closOk S I.ok
  have hg := I.ok.mod.glob.keeps I.bk
  have hB := bat_keeps B I.bk
  obtain ⟨ps0, hP0⟩ := T.at_
  have hgP : mainGlobals ≠ P := fun z => by
    obtain ⟨o, es, ep, e, _⟩ := I.ok.mod.glob
    have := (I.bs _ o e).2
    rw [z, hP0] at this
    cases this
  refine PySem.W.kla_eval hdef ?_
  rcases T with T | ⟨c', T, U⟩
  · have hP : s.heap.get? P = some (PySem.W.tabObj #[]) := I.hok P _ T
    refine PySem.W.kla_makeFunction (mg := X.mg) hcl I.ok.glob hg hcode (C.keeps I.bk) hP trivial rfl hgP hB fun c' ctv h' tk hx hge hlt hrec htb => ?_
    have cn : H c' = none := I.hok.fresh hge
    have cP : c' ≠ P := Ne.symm (ne_of_none T cn)
    have new1 : ∀ b o, b ≠ P → s.heap.get? b = some o → (h'.push (PySem.W.kla_obj "<lambda>" (X.env.qual ++ "<lambda>") params body scope (closL X.env scope.names []) ((X.mg "__name__").getD .none) c' ctv)).get? b = some o := fun b o hb e => Heap.get?_push_of_some _ (hx b o hb e)
    have nP : ∀ b, H b = none → b ≠ P := fun b n z => by rw [z, T] at n; cases n
    have ups : ∀ b u, H b = some u → (∀ ps, u ≠ .tbl ps) → upd (upd H P (.tbl (tbN pos c'))) c' (CodeO c' (X.env.qual ++ "<lambda>")) b = some u := fun b u e nt => by
      rw [upd_ne (ne_of_none e cn), upd_ne (ne_of e T (nt _))]; exact e
    have hfresh : H h'.objs.size = none := I.hok.fresh (Nat.le_trans hge (Nat.le_of_lt hlt))
    have I1 : Inv X pins σ (upd (upd H P (.tbl (tbN pos c'))) c' (CodeO c' (X.env.qual ++ "<lambda>"))) { s with heap := h'.push (PySem.W.kla_obj "<lambda>" (X.env.qual ++ "<lambda>") params body scope (closL X.env scope.names []) ((X.mg "__name__").getD .none) c' ctv), toks := tk } := by
      refine I.un (t' := tk) ⟨fun b o e n _ _ => new1 b o (nP b n) e, fun b o e n _ _ => ⟨o.slots, new1 b o (nP b n) e⟩, fun b o e n _ => ?_, fun b o e _ => ?_, fun b xs e => ups b _ e (fun _ z => nomatch z), fun b o u e => ups b _ e (fun _ z => nomatch z), fun b ps e => ?_⟩ fun b u e => ?_
      · rw [upd_ne (Nat.ne_of_lt (Nat.lt_of_lt_of_le (Heap.lt_size e) hge)), upd_ne (nP b n)]; exact n
      · by_cases z : b = P
        · rw [z]; exact ⟨_, Heap.get?_push_of_some _ htb⟩
        · exact ⟨o, new1 b o z e⟩
      · by_cases z : b = P
        · rw [z, T] at e
          cases e
          refine ⟨tbN pos c', ?_⟩
          rw [z, upd_ne (Ne.symm cP), upd_same]
          simp
        · exact ⟨#[], by rw [upd_ne (ne_of_none e cn), upd_ne z, e]; simp⟩
      · by_cases z : b = c'
        · subst z
          rw [upd_same] at e
          cases e
          obtain ⟨c2, oc, vs, t, e2, g2, r2⟩ := hrec
          cases e2
          exact ⟨⟨_, oc, vs, t, rfl, Heap.get?_push_of_some _ g2, r2⟩, ⟨oc, Heap.get?_push_of_some _ g2⟩, codeO_stable⟩
        · rw [upd_ne z] at e
          by_cases z2 : b = P
          · subst z2
            rw [upd_same] at e
            cases e
            have q2 := Heap.get?_push_of_some (PySem.W.kla_obj "<lambda>" (X.env.qual ++ "<lambda>") params body scope (closL X.env scope.names []) ((X.mg "__name__").getD .none) c' ctv) htb
            rw [Array.empty_append] at q2
            exact q2
          · rw [upd_ne z2] at e
            refine (I.hok b u e).stay (fun d v hd r => new1 d v ?_ r) (fun d r => ups d _ r fun _ z => nomatch z) fun d xs r => ups d _ r fun _ z => nomatch z
            rcases hd with z3 | z3
            · rw [z3]; exact z2
            · exact ne_of z3 T fun z => nomatch z
    refine q _ c' ((X.mg "__name__").getD .none) ctv _ _ (fun b o n e => ?_) ⟨?_, upd_same⟩ (I1.pins_of fun p hp => ?_)
    · rw [upd_ne (ne_of_none e cn), upd_ne n]; exact e
    · rw [upd_ne (Ne.symm cP), upd_same]
    · rcases List.mem_append.mp hp with z | z
      · exact I1.pin p (List.mem_append_right _ z)
      · rw [List.mem_singleton.mp z]
        have fp := I.fpOk (H' := upd (upd H P (.tbl (tbN pos c'))) c' (CodeO c' (X.env.qual ++ "<lambda>"))) (b := h'.objs.size) (Nat.le_trans hge (Nat.le_of_lt hlt)) (by rw [upd_ne (Nat.ne_of_gt hlt), upd_ne (nP _ hfresh)]; exact hfresh)
        exact ⟨Heap.get?_push_size _ rfl, fp.1, fp.2.1, fp.2.2.1, fun v z => nomatch z⟩
  · have hP : s.heap.get? P = some (PySem.W.tabObj (tbN pos c')) := I.hok P _ T
    have am : codeAmong pos (tbN pos c').toList = some (.ref c') := by
      show codeAmong pos [rawInt pos.line, rawInt pos.col, .ref c'] = some (.ref c')
      simp [codeAmong, rawInt]
    refine PySem.W.kla_makeFunctionHit (mg := X.mg) hcl I.ok.glob hg hcode (C.keeps I.bk) hP trivial am hB fun ctv h' tk hk hsz => ?_
    have I1 : Inv X pins σ H { s with heap := h'.push (PySem.W.kla_obj "<lambda>" (X.env.qual ++ "<lambda>") params body scope (closL X.env scope.names []) ((X.mg "__name__").getD .none) c' ctv), toks := tk } := I.kept (t' := tk) fun b o e => Heap.get?_push_of_some _ (hk b o e)
    refine q _ c' ((X.mg "__name__").getD .none) ctv H _ (SameT.refl H) ⟨T, U⟩ (I1.pins_of fun p hp => ?_)
    rcases List.mem_append.mp hp with z | z
    · exact I1.pin p (List.mem_append_right _ z)
    · rw [List.mem_singleton.mp z]
      have fp := I.fpOk (H' := H) (b := h'.objs.size) hsz (I.hok.fresh hsz)
      exact ⟨Heap.get?_push_size _ rfl, fp.1, fp.2.1, fp.2.2.1, fun v z => nomatch z⟩
end
end L2
namespace L2
open PySem PySem.Spec PyProof.Rows
def tSortK (K : PySem.W.Frag) (P : Addr) (pos : Pos) (qual : Str) (tl tb : TE) : TE := fun σ H Q => tl σ H fun x H1 => ∃ (l : Addr) (qs : List Addr) (kz : List Int), x = .ref l ∧ SqL K H1 l (qs.map V.ref) ∧ kz.length = qs.length ∧ qs.length < 64 ∧ TbOk P pos qual H1 ∧
  ∀ H2 c', SameT P H1 H2 → Hit P pos qual c' H2 → (∀ (i : Nat) q k, qs[i]? = some q → kz[i]? = some k → tb (some (.ref q) :: σ) H2 fun r H' => r = .int k ∧ H' = H2) ∧
    ∀ D (ps : List (Int × Addr)), H2 D = none → ps.Perm (kz.zip qs) → ps.Pairwise (fun p q => p.1 ≤ q.1) → Q (.ref D) (upd H2 D (.lst (ps.map fun p => V.ref p.2)))
theorem pe_sortK {X : Cx} {c P : Addr} {k : Nat} {p : Str} {M : List Str} {scope : Scope} {params : Arguments} {body e : Expr} {p0 pos lpos kpos : Pos} {tl tb : TE} (hr : Room k X.A) (hc : X.calm = true) (hg : Gl X "sorted") (hm : X.mg "sorted" = none)
    (hcode : X.env.code = .ref c) (C : PySem.W.CodeHd X.base c P) (B : X.base.BuiltinsAt X.mg P) (S : CompOk X.env.scope scope) (nl : NL X.N M scope) (hp : scope.names.lookup p = some .local) (hco : scope.isCoroutine = false) (hgen : scope.isGenerator = false)
    (he : PE X e tl) (hb : ∀ A f c' s H, PE (cxLam X A p M scope (X.env.qual ++ "<lambda>") f c' s H) body tb)
    (hdef : defaultsOf params X.env = ([], []) := by rfl)
    (hbind : ∀ (cl : List (Str × Addr)) (pm cdv ctv u : Value), bindArgs (PySem.W.kla_fn "<lambda>" (X.env.qual ++ "<lambda>") params body scope cl pm cdv ctv) ⟨[u], []⟩ = pure [(p, u)] := by intro _ _ _ _ _; rfl)
    (hs : starEach [e] X.env = [(false, eval e X.env)] := by rfl) :
    PE X (.Call (.Name "sorted" p0) [e] [⟨some "key", .Lambda params body scope lpos, kpos⟩] pos) (tSortK X.K P lpos (X.env.qual ++ "<lambda>") tl tb) := by
  intro pins s σ H Q I h
  refine wpAny_Call_Name_kw (ld_blt I hg hm bt_sorted ?_ (by decide) (by decide))
  refine callWith_kw (thn (pa_cons he pa_nil hs pos pins s σ H (fun vs H1 => ∃ x, vs = [x] ∧ ∃ (l : Addr) (qs : List Addr) (kz : List Int), x = .ref l ∧ SqL X.K H1 l (qs.map V.ref) ∧ kz.length = qs.length ∧ qs.length < 64 ∧ TbOk P lpos (X.env.qual ++ "<lambda>") H1 ∧
    ∀ H2 c', SameT P H1 H2 → Hit P lpos (X.env.qual ++ "<lambda>") c' H2 → (∀ (i : Nat) q k, qs[i]? = some q → kz[i]? = some k → tb (some (.ref q) :: σ) H2 fun r H' => r = .int k ∧ H' = H2) ∧
      ∀ D (ps : List (Int × Addr)), H2 D = none → ps.Perm (kz.zip qs) → ps.Pairwise (fun p q => p.1 ≤ q.1) → Q (.ref D) (upd H2 D (.lst (ps.map fun p => V.ref p.2)))) I ?_) fun us s1 ⟨vs, H1, I1, r1, x, ev, l, qs, kz, ex, hS, hlen, h64, hT, q1⟩ => ?_) ?_ ?_ rfl rfl
  · show tl σ H fun x H1 => _
    have mono := h
    exact (show tl σ H fun x H1 => ∃ x', [x] = [x'] ∧ _ from by
      have e1 : (fun (x : V) (H1 : Hp) => ∃ x', [x] = [x'] ∧ ∃ (l : Addr) (qs : List Addr) (kz : List Int), x' = .ref l ∧ SqL X.K H1 l (qs.map V.ref) ∧ kz.length = qs.length ∧ qs.length < 64 ∧ TbOk P lpos (X.env.qual ++ "<lambda>") H1 ∧
    ∀ H2 c', SameT P H1 H2 → Hit P lpos (X.env.qual ++ "<lambda>") c' H2 → (∀ (i : Nat) q k, qs[i]? = some q → kz[i]? = some k → tb (some (.ref q) :: σ) H2 fun r H' => r = .int k ∧ H' = H2) ∧
      ∀ D (ps : List (Int × Addr)), H2 D = none → ps.Perm (kz.zip qs) → ps.Pairwise (fun p q => p.1 ≤ q.1) → Q (.ref D) (upd H2 D (.lst (ps.map fun p => V.ref p.2)))) = fun x H1 => ∃ (l : Addr) (qs : List Addr) (kz : List Int), x = .ref l ∧ SqL X.K H1 l (qs.map V.ref) ∧ kz.length = qs.length ∧ qs.length < 64 ∧ TbOk P lpos (X.env.qual ++ "<lambda>") H1 ∧
    ∀ H2 c', SameT P H1 H2 → Hit P lpos (X.env.qual ++ "<lambda>") c' H2 → (∀ (i : Nat) q k, qs[i]? = some q → kz[i]? = some k → tb (some (.ref q) :: σ) H2 fun r H' => r = .int k ∧ H' = H2) ∧
      ∀ D (ps : List (Int × Addr)), H2 D = none → ps.Perm (kz.zip qs) → ps.Pairwise (fun p q => p.1 ≤ q.1) → Q (.ref D) (upd H2 D (.lst (ps.map fun p => V.ref p.2))) := by
        funext x H1
        refine propext ⟨?_, ?_⟩
        · rintro ⟨x', z, r⟩
          injection z with z
          subst z
          exact r
        · intro r
          exact ⟨x, rfl, r⟩
      rw [e1]
      exact mono)
  · subst ev ex
    obtain ⟨u, rfl, ru⟩ := vals1 r1
    cases (show u = Value.ref l from ru)
    show wpAny _ _ (evalAll [do let v ← eval (.Lambda params body scope lpos) X.env; standAt pos; pure v]) _ _ s1
    refine wpAny_evalAll_cons (wpAny_bind (lam_made I1 hcode C B hT S hdef fun f c' pm ctv H2 s2 st hit I2 => wpAny_bind (wpAny_standAt (wpAny_pure (wpAny_evalAll_nil ?_)))))
    obtain ⟨q2, q3⟩ := q1 H2 c' st hit
    have fin := srt_call (E := X.xe) (Q := Q) (fa := f) (kz := kz) I2 (SameT.lst st hT hS) hlen h64 (fun i q k eq ek => lam_key (A := X.A.in1.in1) I2.ok.frames (I2.ok.hd hc) hr.depth S nl hp hco hgen hbind (hb X.A.in1.in1) (x := .ref q) rfl (List.mem_append_right _ (.head _)) hit.2 (q2 i q k eq ek)) fun D ps hD hp hs => q3 D ps hD hp hs
    exact thn fin fun r s3 ⟨v, H3, I3, rv, qv⟩ => ⟨v, H3, I3.unpinned, rv, qv⟩
  · show backTo pos (starEach [e] X.env) = (false, eval e X.env) :: _
    rw [hs]
    rfl
  · rw [hs]
    rfl
theorem Fun.okc {P : Program} {w : World} {K : PySem.W.Frag} {mg : Str → Option Value} {base : Heap} {x qual : Str} {st : Stmt} {f c : Addr} {fd : FuncData} {N ps : List Str} {k : Nat} {sp : Sp} (F : Fun K x qual st f fd) (hc : fd.code = .ref c) (S : FnScope N ps (defScope st)) (len : ∀ vs H Q E, sp vs H Q E → vs.length = ps.length)
    (hbody : ∀ (A : Around) (outer : List Env) (s : Shared) (H : Hp) (vs : List V) (Q : VK) (E : XK), Room k (A.deeper (envOfC qual (defScope st) s.heap.objs.size f (.ref c))) → sp vs H Q E →
      ∃ t, PSs (cxOf CX0 P w K mg base N qual (defScope st) f (.ref c) A outer s H E).nox (defBody st) t ∧ t { nx := fun _ H' => Q .non H', rt := Q } (start N vs) H) : FnOk P w K mg base CX0 (k + 1) f fd ps sp := by
  obtain ⟨oc, od, kV, doc, pm, an, cdv, ct, osl, rfl, lk, hcd⟩ := F.ex
  cases (show cdv = Value.ref c from hc)
  refine fn_of lk hcd S len fun A outer s H vs Q E hr hsp => ?_
  obtain ⟨t, h, q⟩ := hbody A outer s H vs Q E hr hsp
  exact ⟨t, h.nox, q⟩
end L2
namespace L2
open PySem PySem.W
noncomputable def stT (T : BT) (n k : Nat) (os : OsState) : SharedT := ⟨T, n, {}, Array.mk [], boot_drawn, k, os⟩
theorem run_app {tb : String → Option Builtin} {p : Program} {w : World} {m0 : Nat} {ann : Option Value} {env : Env} {q : Pos} {n N : Nat} {s s' : SharedT} {r : Shared} {l rest : List Stmt} {c : Code} {pos p' : Pos}
    (h : segRunT tb p w m0 ann 1 n s (piecesOf l env c pos [topFrame q]) = some (.next, s', c, p')) (k : topRun tb p w m0 ann N s'.abs (restOf rest env c p' [topFrame q]) = some r) : topRun tb p w m0 ann (n + N) s.abs (restOf (l ++ rest) env c pos [topFrame q]) = some r :=
  piece_app (segRun_of h) k
theorem left_run {p q : Program} {loose : List Str} {Xt : Shared → Bool} {α : Type} {Yf : Shared → α} {Ya : World → α} {N : Nat} {Tb Tf : Params → BT} {nb nf ka kf : Nat} {env : Env} {C : Code} {gs : List Stmt} {posA posB qp : Pos} {m0 : Nat} {ann : Option Value} {a b c : Nat}
    (e1 : opening p = plainProg p.main.scope.names) (h6 : Nat.ble 600 N = true) (e2 : ∀ s, fenceModules? p s = some s)
    (size : ∀ w : World, ((boot_heap w.params).isNs mainGlobals && (Array.mk [] : Array GenState).size == 0, (boot_heap w.params).objs.size, (boot_heap w.params).nsMap mainGlobals "__annotations__") = (true, m0, ann))
    (pre : ∀ (w : World) (os : OsState), topGo treeTable p w m0 ann a ⟨boot_heap w.params, Array.mk [], boot_drawn, boot_toks, os⟩ (topStub p) = some ((stT (Tb w.params) nb ka os).abs, ⟨denote treeTable (.body gs env), C, posA, [topFrame qp]⟩))
    (blk : ∀ (w : World) (os : OsState), segRun treeTable p w m0 ann 1 b (stT (Tb w.params) nb ka os).abs (blockOf gs env C posA [topFrame qp]) = some (.next, (stT (Tb w.params) nb ka os).abs, C, posB))
    (run : ∀ (w : World) (os : OsState), topRun treeTable p w m0 ann c (stT (Tb w.params) nb ka os).abs (restOf gs env C posB [topFrame qp]) = some (stT (Tf w.params) nf kf os).abs)
    (le : Nat.ble (a + (b + c)) N = true)
    (looks : ∀ w : World, (fun os => ((staticsOk (importedModules p.main.body) (boot_heap w.params) (absHeap (Tf w.params) nf {}) && namesBound p (absHeap (Tf w.params) nf {}) && gensDone ⟨absHeap (Tf w.params) nf {}, Array.mk [], boot_drawn, kf, os⟩ && laidKept (boot_heap w.params) (absHeap (Tf w.params) nf {})),
        openSeen q loose (importedModules p.main.body) Xt true ⟨absHeap (Tf w.params) nf {}, Array.mk [], boot_drawn, kf, os⟩, Yf ⟨absHeap (Tf w.params) nf {}, Array.mk [], boot_drawn, kf, os⟩)) = fun _ => (true, openGood q loose, Ya w)) : LeftO p q loose Xt Yf Ya N :=
  LeftO.of_pieces (H₁ := fun P => absHeap (Tf P) nf {}) (boot_open e1 h6 e2) size (fun w os => go_top (pre w os) (piece_block (blk w os) (run w os))) le looks
end L2
namespace L2
open PySem PySem.Spec PyProof.Rows
inductive DE (K : PySem.W.Frag) (H : Hp) : Nat → V → V → Bool → Prop
  | int (n : Nat) (i j : Int) : DE K H n (.int i) (.int j) (i == j)
  | bl (n : Nat) (i j : Bool) : DE K H n (.bl i) (.bl j) (i == j)
  | str (n : Nat) (i j : Str) : DE K H n (.str i) (.str j) (i == j)
  | tup {n : Nat} {a b : Addr} {xs ys : List V} (e : Nat → Bool) (ha : SqT K H a xs) (hb : SqT K H b ys) (h : ∀ (j : Nat) x y, xs[j]? = some x → ys[j]? = some y → DE K H n x y (e j)) :
      DE K H (n + 1) (.ref a) (.ref b) ((List.range (min xs.length ys.length)).all e && xs.length == ys.length)
  | lst {n : Nat} {a b : Addr} {xs ys : List V} (e : Nat → Bool) (ha : SqL K H a xs) (hb : SqL K H b ys) (hl : xs.length = ys.length) (h : ∀ (j : Nat) x y, xs[j]? = some x → ys[j]? = some y → DE K H n x y (e j)) :
      DE K H (n + 1) (.ref a) (.ref b) ((List.range xs.length).all e)
  | lstN {n : Nat} {a b : Addr} {xs ys : List V} (ha : SqL K H a xs) (hb : SqL K H b ys) (hl : xs.length ≠ ys.length) : DE K H (n + 1) (.ref a) (.ref b) false
section
variable {X : Cx} {pins : List (Addr × Obj)} {σ : St} {H : Hp} {s : Shared}
theorem DE.self (I : Inv X pins σ H s) {n : Nat} {x y : V} {k : Bool} (d : DE X.K H n x y k) : x = y → k = true := by
  induction d with
  | int n i j => intro e; cases e; simp
  | bl n i j => intro e; cases e; simp
  | str n i j => intro e; cases e; simp
  | @tup n a b xs ys e ha hb h ih =>
    intro z
    cases z
    have q := I.tuple_inj ha hb
    subst q
    rw [Bool.and_eq_true]
    refine ⟨List.all_eq_true.mpr fun j hj => ?_, by simp⟩
    rw [List.mem_range, Nat.min_self] at hj
    exact ih j _ _ (List.getElem?_eq_getElem hj) (List.getElem?_eq_getElem hj) rfl
  | @lst n a b xs ys e ha hb hl h ih =>
    intro z
    cases z
    have q := I.list_inj ha hb
    subst q
    refine List.all_eq_true.mpr fun j hj => ?_
    rw [List.mem_range] at hj
    exact ih j _ _ (List.getElem?_eq_getElem hj) (List.getElem?_eq_getElem hj) rfl
  | @lstN n a b xs ys ha hb hl =>
    intro z
    cases z
    exact absurd (congrArg List.length (I.list_inj ha hb)) hl
theorem vals_at {xs : List V} {its : List Value} (r : Vals xs its) {j : Nat} (hj : j < its.length) : ∃ x, xs[j]? = some x ∧ RelV x its[j] := by
  have hl := r.length
  obtain ⟨u, hu, ru⟩ := r.get (List.getElem?_eq_getElem (l := xs) (i := j) (by omega))
  rw [List.getElem?_eq_getElem hj] at hu
  cases hu
  exact ⟨_, List.getElem?_eq_getElem (by omega), ru⟩
theorem in1_units (A : Around) : A.in1.units = A.units + 1 := rfl
theorem DE.eqAt (I : Inv X pins σ H s) {n : Nat} {x y : V} {k : Bool} (d : DE X.K H n x y k) : ∀ (A : Around) (u v : Value), A.units + n < cLine → RelV x u → RelV y v → PySem.SeqAt.EqAt A s u v k := by
  induction d with
  | int n i j =>
    intro A u v _ ru rv
    obtain ⟨t, rfl⟩ := ru
    obtain ⟨t', rfl⟩ := rv
    exact PySem.SeqAt.EqAt.int_int _ _ _ _
  | bl n i j =>
    intro A u v _ ru rv
    cases (show u = Value.bool i from ru)
    cases (show v = Value.bool j from rv)
    exact PySem.SeqAt.EqAt.bool_bool _ _
  | str n i j =>
    intro A u v _ ru rv
    obtain ⟨t, rfl⟩ := ru
    obtain ⟨t', rfl⟩ := rv
    exact PySem.SeqAt.EqAt.str_str _ _ _ _
  | @tup n a b xs ys e ha hb h ih =>
    intro A u v hu ru rv
    cases (show u = Value.ref a from ru)
    cases (show v = Value.ref b from rv)
    by_cases hab : a = b
    · have q := (DE.tup e ha hb h).self I (by rw [hab])
      rw [q]
      subst hab
      exact PySem.SeqAt.EqAt.same _
    · obtain ⟨its, r1, p1, _⟩ := I.tuple ha
      obtain ⟨its2, r2, p2, _⟩ := I.tuple hb
      refine PySem.SeqAt.EqAt.of_refs hab ?_
      have q := PySem.SeqAt.RcAt.tuples (A := A) (e := e) (show s.heap.IsTuple a its.toArray from p1) (show s.heap.IsTuple b its2.toArray from p2) (by omega) (fun j h1 h2 => by
        obtain ⟨x, ex, rx⟩ := vals_at r1 (j := j) (by simpa using h1)
        obtain ⟨y, ey, ry⟩ := vals_at r2 (j := j) (by simpa using h2)
        rw [List.getElem_toArray, List.getElem_toArray]
        exact ih j x y ex ey A.in1 _ _ (by rw [in1_units]; omega) rx ry)
      rw [List.size_toArray, List.size_toArray, ← r1.length, ← r2.length] at q
      exact q
  | @lst n a b xs ys e ha hb hl h ih =>
    intro A u v hu ru rv
    cases (show u = Value.ref a from ru)
    cases (show v = Value.ref b from rv)
    by_cases hab : a = b
    · have q := (DE.lst e ha hb hl h).self I (by rw [hab])
      rw [q]
      subst hab
      exact PySem.SeqAt.EqAt.same _
    · obtain ⟨its, r1, p1, _⟩ := I.list ha
      obtain ⟨its2, r2, p2, _⟩ := I.list hb
      refine PySem.SeqAt.EqAt.of_refs hab ?_
      have q := PySem.SeqAt.RcAt.lists (A := A) (e := e) p1.isList p2.isList (by rw [List.size_toArray, List.size_toArray, ← r1.length, ← r2.length]; exact hl) (by omega) (fun j h1 h2 => by
        obtain ⟨x, ex, rx⟩ := vals_at r1 (j := j) (by simpa using h1)
        obtain ⟨y, ey, ry⟩ := vals_at r2 (j := j) (by simpa using h2)
        rw [List.getElem_toArray, List.getElem_toArray]
        exact ih j x y ex ey A.in1 _ _ (by rw [in1_units]; omega) rx ry)
      rw [List.size_toArray, ← r1.length] at q
      exact q
  | @lstN n a b xs ys ha hb hl =>
    intro A u v hu ru rv
    cases (show u = Value.ref a from ru)
    cases (show v = Value.ref b from rv)
    have hab : a ≠ b := fun z => by subst z; exact hl (congrArg List.length (I.list_inj ha hb))
    obtain ⟨its, r1, p1, _⟩ := I.list ha
    obtain ⟨its2, r2, p2, _⟩ := I.list hb
    refine PySem.SeqAt.EqAt.of_refs hab (PySem.SeqAt.RcAt.lists_lengths p1.isList p2.isList ?_ (by omega))
    rw [List.size_toArray, List.size_toArray, ← r1.length, ← r2.length]
    simpa using hl
def rNeD (K : PySem.W.Frag) (n : Nat) : R2 := fun x y H Q => ∃ a b k, x = .ref a ∧ y = .ref b ∧ DE K H (n + 1) x y k ∧ Q (.bl (!k)) H
theorem op_neD {n : Nat} (hu : X.A.units + n + 1 < cLine) : OpR X (compareOp .NotEq) (rNeD X.K n) := by
  intro pins s σ H x y v u Q I rx ry h
  obtain ⟨a, b, k, rfl, rfl, d, q⟩ := h
  cases (show v = Value.ref a from rx)
  cases (show u = Value.ref b from ry)
  cases d with
  | @tup n a b xs ys e ha hb h =>
    obtain ⟨its, r1, p1, _⟩ := I.tuple ha
    obtain ⟨its2, r2, p2, _⟩ := I.tuple hb
    refine PySem.SeqAt.RcNeAt.tuples (e := e) (show s.heap.IsTuple a its.toArray from p1) (show s.heap.IsTuple b its2.toArray from p2) (by omega) (fun j h1 h2 => by
        obtain ⟨x, ex, rx⟩ := vals_at r1 (j := j) (by simpa using h1)
        obtain ⟨y, ey, ry⟩ := vals_at r2 (j := j) (by simpa using h2)
        rw [List.getElem_toArray, List.getElem_toArray]
        exact (h j x y ex ey).eqAt I X.A.in1 _ _ (by rw [in1_units]; omega) rx ry) X.prog X.w _ _ ?_
    rw [List.size_toArray, List.size_toArray, ← r1.length, ← r2.length]
    exact ⟨.bl _, H, I, rfl, q⟩
  | @lst n a b xs ys e ha hb hl h =>
    obtain ⟨its, r1, p1, _⟩ := I.list ha
    obtain ⟨its2, r2, p2, _⟩ := I.list hb
    refine PySem.SeqAt.RcNeAt.lists (e := e) p1.isList p2.isList (by rw [List.size_toArray, List.size_toArray, ← r1.length, ← r2.length]; exact hl) (by omega) (fun j h1 h2 => by
        obtain ⟨x, ex, rx⟩ := vals_at r1 (j := j) (by simpa using h1)
        obtain ⟨y, ey, ry⟩ := vals_at r2 (j := j) (by simpa using h2)
        rw [List.getElem_toArray, List.getElem_toArray]
        exact (h j x y ex ey).eqAt I X.A.in1 _ _ (by rw [in1_units]; omega) rx ry) X.prog X.w _ _ ?_
    rw [List.size_toArray, ← r1.length]
    exact ⟨.bl _, H, I, rfl, q⟩
  | @lstN n a b xs ys ha hb hl =>
    obtain ⟨its, r1, p1, _⟩ := I.list ha
    obtain ⟨its2, r2, p2, _⟩ := I.list hb
    exact PySem.SeqAt.RcNeAt.lists_lengths p1.isList p2.isList (by rw [List.size_toArray, List.size_toArray, ← r1.length, ← r2.length]; simpa using hl) (by omega) X.prog X.w _ _ ⟨.bl _, H, I, rfl, q⟩
end
end L2
namespace L2
open PySem PySem.Spec PyProof.Rows
section
variable {X : Cx}
theorem call_sum (hc : X.calm = true) : CallR X (.builtin "sum") (fun xs H Q => ∃ (a : Addr) (ns : List Int), xs = [.ref a] ∧ SqL X.K H a (ns.map V.int) ∧ Q (.int ns.sum) H) := by
  intro pins s σ H xs us Q I r h
  obtain ⟨a, ns, rfl, hS, q⟩ := h
  obtain ⟨u, rfl, ru⟩ := vals1 r
  cases (show u = Value.ref a from ru)
  obtain ⟨its, rv, p, hz⟩ := I.list hS
  have hi := intsAre_of rv
  obtain ⟨zs, e⟩ := (IntsAre.allInts hi).items
  have hl := p.isList
  rw [e] at hl
  refine sum_intListG (I.ok.hd hc) hl fun h' tk t' hk => ⟨.int ns.sum, H, I.kept hk, ⟨t', ?_⟩, q⟩
  have n1 := nums_intItems (xs := zs)
  rw [← e, show its.toArray.toList = its from rfl, IntsAre.numsOf hi] at n1
  rw [preSum_eq, List.take_of_length_le (by simp), ← n1]
section
variable {prog : Program} {w : World} {A : Around} {E : Value → Shared → Prop} {s : Shared} {d it : Addr} {od : Obj} {es : Array DictEntry} {ep i : Nat}
theorem ents_iter {Q : Value → Shared → Prop} (hd : (d == sysModules) = false) (ho : s.heap.get? d = some od) (hx : od.ExactDict) (hdat : od.data = .dict es ep)
    (hQ : Q (.ref s.heap.objs.size) { s with heap := s.heap.push { cls := .type "dict_keyiterator", data := .fields #[.ref d, .int 0 0, .int es.size 0, .int ep 0] } }) :
    wpAny (model prog w) A (pyIter (.ref d)) Q E s := by
  have ty : s.TypeIs (.ref d) "dict" := ⟨od, ho, hx.1⟩
  apply wpAny_pyIter_slot ty F.slot_dict_iter
  refine wpAny_call_entry F.slot_dict_iter ty F.entry_dict_iter ?body (F.args_dict_iter_1 _)
  case body =>
    unfold Builtin.«dict.__iter__»
    apply wpAny_bind
    unfold Builtin.Dict.dictSlotNone
    refine wpAny_bind (wpAny_notOrdered_dict ty (wpAny_pure (a := Value.ref d) ?_))
    show wpAny _ _ (Builtin.Dict.showsAll d >>= fun _ => _) _ _ s
    unfold Builtin.Dict.showsAll
    rw [hd, if_neg Bool.false_ne_true]
    refine wpAny_bind (wpAny_pure (wpAny_bind (wpAny_dictEntries ho hdat (wpAny_bind (wpAny_dictEpoch ho hdat ?_)))))
    refine wpAny_bind (wpAny_newObj_type (wpAny_pure ⟨_, rfl, "dict_keyiterator", _, ⟨_, Heap.get?_push_size _ rfl, rfl⟩, F.slot_dict_keyiterator_next.lookup, ?_⟩))
    simpa only [rawInt] using hQ
theorem ents_next {e : DictEntry} {Q : Option Value → Shared → Prop} (hit : s.heap.IsKeyIter it d i es.size ep) (ho : s.heap.get? d = some od) (hdat : od.data = .dict es ep) (hx : es[i]? = some e)
    (hQ : ∀ h', h'.IsKeyIter it d (i + 1) es.size ep → Heap.SameBut it s.heap h' → Q (some e.key) { s with heap := h' }) : wpAny (model prog w) A (pyNext (.ref it)) Q E s := by
  obtain ⟨oi, hoi, hci, hdi⟩ := id hit
  have ty := hit.typeIs
  have own : Builtin.Dict_items.ownsTuple "dict_keyiterator" = false := by decide
  unfold pyNext
  apply wpAny_bind
  apply wpAny_attempt
  refine wpAny_callSpecial?_slot (name := Str.ofString "__next__") ty F.slot_dict_keyiterator_next ?call
  case call =>
    refine wpAny_call_entry F.slot_dict_keyiterator_next ty F.entry_dict_keyiterator_next ?body (F.args_dict_keyiterator_next_1 _)
    case body =>
      refine wpAny_bind (wpAny_pure (wpAny_bind (wpAny_bind ?_)))
      refine wpAny_bind (wpAny_typeNameOfWhole_keyiter ty (wpAny_pure (wpAny_bind (wpAny_fieldsOf hoi hdi ?_))))
      simp only [own, Bool.false_eq_true, if_false]
      show wpAny _ _ (if (Value.ref d == Value.none) = true then _ else _) _ _ s
      rw [if_neg (fun z : (Value.ref d == Value.none) = true => Bool.false_ne_true z)]
      refine wpAny_bind (wpAny_pure (wpAny_bind (wpAny_dictEntries ho hdat ?_)))
      rw [if_neg (by simp)]
      refine wpAny_bind (wpAny_pure (wpAny_bind (wpAny_dictEpoch ho hdat ?_)))
      rw [if_neg (by simp)]
      apply wpAny_pure
      have neg : ¬ ((i : Int) < 0) := by omega
      simp only [neg, if_false, Int.toNat_natCast, hx]
      refine wpAny_bind (wpAny_bind (wpAny_typeNameOfWhole_keyiter ty (wpAny_pure (wpAny_bind (wpAny_isOneOf_keyiter ty ?_)))))
      show wpAny _ _ (setField (.ref it) 1 (rawInt ((i : Int) + 1)) >>= fun _ => _) _ _ s
      refine wpAny_bind (wpAny_setField hoi hdi (by simp) ?_)
      have nx : (s.heap.update it (Obj.mapFields (·.setIfInBounds 1 (rawInt ((i : Int) + 1))))).IsKeyIter it d (i + 1) es.size ep :=
        ⟨_, Heap.get?_update_self _ hoi (Obj.isFreed_of_fields (Obj.data_mapFields hdi _)), (Obj.cls_mapFields ..).trans hci, by rw [Obj.data_mapFields hdi]; simp [rawInt]⟩
      refine wpAny_bind (wpAny_holding (wpAny_bind (wpAny_isOneOf_keyiter (s := { s with heap := s.heap.update it (Obj.mapFields (·.setIfInBounds 1 (rawInt ((i : Int) + 1)))) }) nx.typeIs ?_)))
      show wpAny _ _ (pure e.key) _ _ _
      exact wpAny_pure (wpAny_pure ⟨_, rfl, wpAny_pure (hQ _ nx (Heap.SameBut.update ..))⟩)
theorem ents_end {Q : Option Value → Shared → Prop} (hh : A.handled = none) (hit : s.heap.IsKeyIter it d i es.size ep) (ho : s.heap.get? d = some od) (hdat : od.data = .dict es ep) (hx : es.size ≤ i)
    (hQ : ∀ h', Heap.ExtBut it s.heap h' → Q none { s with heap := h' }) : wpAny (model prog w) A (pyNext (.ref it)) Q E s := by
  obtain ⟨oi, hoi, hci, hdi⟩ := id hit
  have ty := hit.typeIs
  have own : Builtin.Dict_items.ownsTuple "dict_keyiterator" = false := by decide
  unfold pyNext
  apply wpAny_bind
  apply wpAny_attempt
  refine wpAny_callSpecial?_slot (name := Str.ofString "__next__") ty F.slot_dict_keyiterator_next ?call
  case call =>
    refine wpAny_call_entry F.slot_dict_keyiterator_next ty F.entry_dict_keyiterator_next ?body (F.args_dict_keyiterator_next_1 _)
    case body =>
      refine wpAny_bind (wpAny_pure (wpAny_bind (wpAny_bind ?_)))
      refine wpAny_bind (wpAny_typeNameOfWhole_keyiter ty (wpAny_pure (wpAny_bind (wpAny_fieldsOf hoi hdi ?_))))
      simp only [own, Bool.false_eq_true, if_false]
      show wpAny _ _ (if (Value.ref d == Value.none) = true then _ else _) _ _ s
      rw [if_neg (fun z : (Value.ref d == Value.none) = true => Bool.false_ne_true z)]
      refine wpAny_bind (wpAny_pure (wpAny_bind (wpAny_dictEntries ho hdat ?_)))
      rw [if_neg (by simp)]
      refine wpAny_bind (wpAny_pure (wpAny_bind (wpAny_dictEpoch ho hdat ?_)))
      rw [if_neg (by simp)]
      apply wpAny_pure
      have neg : ¬ ((i : Int) < 0) := by omega
      simp only [neg, if_false, Int.toNat_natCast, Array.getElem?_eq_none hx]
      refine wpAny_bind (wpAny_bind (wpAny_typeNameOfWhole_keyiter ty (wpAny_pure ?_)))
      show wpAny _ _ (setField (.ref it) 0 .none >>= fun _ => _) _ _ s
      refine wpAny_bind (wpAny_setField hoi hdi (by simp) ?_)
      show wpAny _ _ (newExc (.type "StopIteration") [] >>= fun _ => _) _ _ _
      apply wpAny_bind
      simp only [newExc, newTuple]
      refine wpAny_bind (wpAny_newObj_type (wpAny_bind (m := firstArgMember _ _) (wpAny_of_eq (a := Value.none) (by first | rfl | (simp only [firstArgMember]; rfl)) (wpAny_newObj_type ?_ (by size_fits)))) (by size_fits))
      simp only [raiseNew]
      refine wpAny_bind (wpAny_handled ?_)
      rw [show A.in1.handled = Option.none from hh]
      refine wpAny_bind (wpAny_pure (wpAny_throw ?thr))
      apply wpAny_bind
      refine wpAny_isInstance (T := "StopIteration") (b := true) ⟨_, Heap.get?_push_size _ rfl, rfl⟩ isSubtype_stop ?ends
      exact wpAny_pure (hQ _ (((Heap.SameBut.update ..).extBut.push _).push _))
end
def Itk (a : Addr) (o : Obj) (kvs : List (List Key × V)) : It :=
  ⟨fun i H => H a = some (.frz o (.dT kvs)) ∧ i < kvs.length, fun i H x H' => H' = H ∧ ∃ k v q, kvs[i]? = some (k, v) ∧ x = .ref q ∧ H q = some (.tup (k.map kV)), fun i H => H a = some (.frz o (.dT kvs)) ∧ kvs.length ≤ i⟩
theorem frz_dT {P : Program} {w : World} {H : Hp} {h : Heap} {a : Addr} {o : Obj} {kvs : List (List Key × V)} (ok : HOk P w H h) (e : H a = some (.frz o (.dT kvs))) :
    h.get? a = some o ∧ o.ExactDict ∧ ∃ es ep, o.data = .dict es ep ∧ es.size = kvs.length ∧ ∀ (i : Nat) k v, kvs[i]? = some (k, v) → ∃ q ent, es[i]? = some ent ∧ ent.key = .ref q ∧ H q = some (.tup (k.map kV)) := by
  obtain ⟨e1, z, y, xs, r, ob, es, ep, e2, ex, hd, he, nd⟩ := ok a _ e
  rw [e1] at e2
  cases e2
  have hl : kvs.length = xs.length := Paired.length r
  refine ⟨e1, ex, es, ep, hd, ?_, fun i k v hk => ?_⟩
  · rw [← Array.length_toList, he, List.length_map, hl]
  · have get : ∀ {l1 : List (List Key × V)} {l2 : List (List Key × Addr × Value)} {i : Nat} {k : List Key} {v : V}, Paired (fun (p : List Key × V) (q : List Key × Addr × Value) => p.1 = q.1 ∧ H q.2.1 = some (.tup (p.1.map kV)) ∧ RelV p.2 q.2.2) l1 l2 → l1[i]? = some (k, v) →
        ∃ q : List Key × Addr × Value, l2[i]? = some q ∧ H q.2.1 = some (.tup (k.map kV)) := by
      intro l1 l2 i k v r
      induction r generalizing i with
      | nil => intro z; simp at z
      | cons h t ih =>
        intro z
        cases i with
        | zero => simp at z; subst z; exact ⟨_, rfl, h.2.1⟩
        | succ j => exact ih (by simpa using z)
    obtain ⟨q, hq, ht⟩ := get r hk
    refine ⟨q.2.1, entryOfKey (tupleKind (mixKind P w)) q, ?_, rfl, ht⟩
    rw [← Array.getElem?_toList, he, List.getElem?_map, hq]
    rfl
theorem turn_keys {P : Program} {w : World} {K : PySem.W.Frag} {tg : Expr} (a it : Addr) (o : Obj) (kvs : List (List Key × V)) (es : Array DictEntry) (ep : Nat) (hd : o.data = .dict es ep) :
    Turn P w K tg (Itk a o kvs) [it] it (fun i h => h.IsKeyIter it a i es.size ep) where
  mem := by simp
  obj := fun i h st b hb => by
    have e : b = it := by simpa using hb
    subst e
    obtain ⟨o, e, c, d⟩ := st
    exact ⟨o, e, fun v z => by rw [d] at z; cases z⟩
  keep := fun i h h' st k => st.at fun o e => k it (by simp) o e
  item := by
    intro X hP hw hK hc i pins s σ H E I hf st hg
    subst hP hw hK
    obtain ⟨hH, hi⟩ := hg
    obtain ⟨e1, ex, es', ep', hd', hsz, get⟩ := frz_dT I.hok hH
    rw [hd] at hd'
    cases hd'
    obtain ⟨q, ent, hent, hkey, ht⟩ := get i _ _ (List.getElem?_eq_getElem hi)
    obtain ⟨f0, f1, f2, f3, f4, f5⟩ := hf it (by simp)
    refine ents_next st e1 hd hent fun h' st' sb => ?_
    have I1 : Inv X pins σ H { s with heap := h' } := I.turned (t' := s.toks) (fun b o hb e => (sb.2 b hb).trans e) f0 f1 f3 f4 f5
    obtain ⟨oo, e, c, d⟩ := id st'
    exact ⟨_, rfl, go_of (s := { s with heap := h' }) e c d (by decide) ⟨.ref q, H, I1, hkey, ⟨rfl, _, _, q, List.getElem?_eq_getElem hi, rfl, ht⟩, st', fun b hb => (hf b hb).1⟩⟩
  done := by
    intro X hP hw hK hc i pins s σ H E I hf st hg
    subst hP hw hK
    obtain ⟨hH, hi⟩ := hg
    obtain ⟨e1, ex, es', ep', hd', hsz, get⟩ := frz_dT I.hok hH
    rw [hd] at hd'
    cases hd'
    obtain ⟨f0, f1, f2, f3, f4, f5⟩ := hf it (by simp)
    exact ents_end (I.ok.hd hc) st e1 hd (by omega) fun h' eb => ⟨rfl, I.turned (t' := s.toks) (fun b o hb e => eb b o hb e) f0 f1 f3 f4 f5⟩
  self := fun _ _ _ _ _ st h => wpAny_pyIter_keyiter st h
theorem Inv.freeze {pins : List (Addr × Obj)} {σ : St} {H : Hp} {s : Shared} {a : Addr} {kvs : List (List Key × V)} (I : Inv X pins σ H s) (e : H a = some (.dT kvs)) : ∃ o, s.heap.get? a = some o ∧ Inv X pins σ (upd H a (.frz o (.dT kvs))) s := by
  have ok := I.hok a _ e
  obtain ⟨z, y, xs, r, ob, es, ep, e2, c⟩ := id ok
  refine ⟨ob, e2, ?_⟩
  refine I.write (x := a) (e := a) (h' := s.heap) (t' := s.toks) (by rw [e]; exact trivial) (.inl rfl) (fun _ _ _ q => q) ⟨_, e2⟩ ⟨e2, ?_⟩
  refine ok.stay (fun _ _ _ q => q) (fun b q => ?_) fun b ys q => ?_
  · rw [upd_ne (fun w => by rw [w, e] at q; cases q)]; exact q
  · rw [upd_ne (fun w => by rw [w, e] at q; cases q)]; exact q
def iKeys (tl : TE) : TI := fun σ H R => tl σ H fun x H1 => ∃ a kvs, x = .ref a ∧ ((H1 a = some (.dT kvs) ∧ ∀ o, R (Itk a o kvs) (upd H1 a (.frz o (.dT kvs)))) ∨ ∃ o, H1 a = some (.frz o (.dT kvs)) ∧ R (Itk a o kvs) H1)
theorem keys_it {pins : List (Addr × Obj)} {σ : St} {H : Hp} {s : Shared} {tg : Expr} {a : Addr} {o : Obj} {kvs : List (List Key × V)} {R : It → Hp → Prop} (I : Inv X pins σ H s) (e : H a = some (.frz o (.dT kvs))) (q : R (Itk a o kvs) H) :
    wpAny (model X.prog X.w) X.A (pyIter (.ref a)) (PIE X pins σ tg R) X.xe s := by
  obtain ⟨e1, ex, es, ep, hd, hsz, get⟩ := frz_dT I.hok e
  obtain ⟨_, _, y, _⟩ := I.hok a _ e
  refine ents_iter y e1 ex hd ?_
  refine ⟨s.heap.objs.size, [s.heap.objs.size], _, _, H, rfl, I.kept (t' := s.toks) fun b o e => Heap.get?_push_of_some _ e, turn_keys a _ o kvs es ep hd, ⟨_, Heap.get?_push_size _ rfl, rfl, rfl⟩, fun b hb => ?_, q⟩
  have e : b = s.heap.objs.size := by simpa using hb
  subst e
  exact I.fpOk (Nat.le_refl _) (I.hok.fresh (Nat.le_refl _))
theorem pi_keys {tg l : Expr} {tl : TE} (hl : PE X l tl) : PI X tg l (iKeys tl) := by
  intro pins s σ H R I h
  refine thn (hl pins s σ H _ I h) fun v s1 ⟨x, H1, I1, r1, q1⟩ => ?_
  obtain ⟨a, kvs, rfl, q1⟩ := q1
  cases (show v = Value.ref a from r1)
  rcases q1 with ⟨e, q⟩ | ⟨o, e, q⟩
  · obtain ⟨o, _, I2⟩ := I1.freeze e
    exact keys_it I2 upd_same (q o)
  · exact keys_it I1 e q
def ItR (K : PySem.W.Frag) (a : Addr) (xs : List V) : It :=
  ⟨fun i H => i < xs.length ∧ SqL K H a xs, fun i H x H' => H' = H ∧ xs[xs.length - 1 - i]? = some x, fun i H => xs.length ≤ i⟩
theorem turn_rev {P : Program} {w : World} {K : PySem.W.Frag} {tg : Expr} (a it : Addr) (xs : List V) : Turn P w K tg (ItR K a xs) [it] it (fun i h => i ≤ xs.length ∧ h.IsRevIter it a ((xs.length : Int) - 1 - (i : Int))) where
  mem := by simp
  obj := fun i h st b hb => by
    have e : b = it := by simpa using hb
    subst e
    obtain ⟨_, o, e, c, d⟩ := st
    exact ⟨o, e, fun v z => by rw [d] at z; cases z⟩
  keep := fun i h h' st k => ⟨st.1, st.2.at fun o e => k it (by simp) o e⟩
  item := by
    intro X hP hw hK hc i pins s σ H E I hf st hg
    subst hP hw hK
    obtain ⟨hi, hS⟩ := hg
    obtain ⟨_, st⟩ := st
    obtain ⟨its, rv, p, hz⟩ := I.list hS
    have hix : xs.length - 1 - i < xs.length := by omega
    obtain ⟨u, hu, ru⟩ := rv.get (List.getElem?_eq_getElem hix)
    have ei : (xs.length : Int) - 1 - (i : Int) = ((xs.length - 1 - i : Nat) : Int) := by omega
    rw [ei] at st
    obtain ⟨f0, f1, f2, f3, f4, f5⟩ := hf it (by simp)
    refine wpAny_pyNext_rev_item st p.isList (x := u) (by simpa using hu) fun h' st' sb => ?_
    have I1 : Inv X pins σ H { s with heap := h' } := I.turned (t' := s.toks) (fun b o hb e => (sb.2 b hb).trans e) f0 f1 f3 f4 f5
    obtain ⟨o, e, c, d⟩ := id st'
    refine ⟨u, rfl, go_of (s := { s with heap := h' }) e c d (by decide) ⟨_, H, I1, ru, ⟨rfl, List.getElem?_eq_getElem hix⟩, ⟨hi, ?_⟩, fun b hb => (hf b hb).1⟩⟩
    have ej : (xs.length : Int) - 1 - ((i + 1 : Nat) : Int) = ((xs.length - 1 - i : Nat) : Int) - 1 := by omega
    rw [ej]
    exact st'
  done := by
    intro X hP hw hK hc i pins s σ H E I hf st hg
    subst hP hw hK
    obtain ⟨hi, st⟩ := st
    have hg : xs.length ≤ i := hg
    have ei : (xs.length : Int) - 1 - (i : Int) = -1 := by omega
    rw [ei] at st
    obtain ⟨f0, f1, f2, f3, f4, f5⟩ := hf it (by simp)
    exact wpAny_pyNext_rev_end (I.ok.hd hc) st fun h' eb => ⟨rfl, I.turned (t' := s.toks) (fun b o hb e => eb b o hb e) f0 f1 f3 f4 f5⟩
  self := fun _ _ _ _ _ st h => wpAny_pyIter_revIter st.2 h
def iRev (K : PySem.W.Frag) (ta : TA) : TI := fun σ H R => ta σ H fun vs H1 => ∃ a xs, vs = [.ref a] ∧ SqL K H1 a xs ∧ R (ItR K a xs) H1
theorem bt_reversed : bootBuiltins "reversed" = some (.type "reversed") := by decide +kernel
theorem pi_rev {tg a : Expr} {ta : TA} {p pos : Pos} (hg : Gl X "reversed") (hm : X.mg "reversed" = none) (ha : PA X [a] ta) (hs : starEach [a] X.env = [(false, eval a X.env)] := by rfl) : PI X tg (.Call (.Name "reversed" p) [a] [] pos) (iRev X.K ta) := by
  intro pins s σ H R I h
  refine Call_ (ld_blt I hg hm bt_reversed (PyProof.Rows.callWith_type1 (thn (ha pos pins s σ H _ I h) fun us s1 ⟨vs, H1, I1, r1, q1⟩ => ?_) hs rfl))
  obtain ⟨b, xs, e, hS, q⟩ := q1
  subst e
  obtain ⟨u, rfl, ru⟩ := vals1 r1
  cases (show u = Value.ref b from ru)
  obtain ⟨its, rv, pl, hz⟩ := I1.list hS
  refine call_reversed_list pl.isList ?_
  have hsz : its.toArray.size = xs.length := by rw [List.size_toArray]; exact rv.length.symm
  rw [hsz]
  have st : Heap.IsRevIter (s1.heap.push (revObj b ((xs.length : Int) - 1))) s1.heap.objs.size b ((xs.length : Int) - 1 - ((0 : Nat) : Int)) := by
    rw [show (xs.length : Int) - 1 - ((0 : Nat) : Int) = (xs.length : Int) - 1 by omega]
    exact ⟨_, Heap.get?_push_size _ rfl, rfl, rfl⟩
  have I2 : Inv X pins σ H1 { s1 with heap := s1.heap.push (revObj b ((xs.length : Int) - 1)) } := I1.kept (t' := s1.toks) fun b o e => Heap.get?_push_of_some _ e
  refine wpAny_pyIter_revIter (s := { s1 with heap := s1.heap.push (revObj b ((xs.length : Int) - 1)) }) st ?_
  refine ⟨s1.heap.objs.size, [s1.heap.objs.size], _, _, H1, rfl, I2, turn_rev b _ xs, ⟨Nat.zero_le _, st⟩, fun c hc => ?_, q⟩
  have e : c = s1.heap.objs.size := by simpa using hc
  subst e
  exact I1.fpOk (Nat.le_refl _) (I1.hok.fresh (Nat.le_refl _))
end
theorem ix_tupK {X : Cx} {K : PySem.W.Frag} (h : X.K = K) : IxR X (rIxT K) := by subst h; exact ix_tup
theorem pg_tupK {X : Cx} {K : PySem.W.Frag} (hK : X.K = K) {pos : Pos} {es : List Expr} {k : Nat} {t : TGs} {n : Nat} (hc : X.calm = true) (h : PGs X es t)
    (hn : (assignEach es X.env).length = n := by rfl) (hst : (assignEach es X.env).findIdx? (·.1) = none := by rfl) : PG X (.Tuple es k pos) (gTup K n t) := by
  subst hK
  exact pg_tup hc h hn hst
theorem for_keys {a : Addr} {o : Obj} {kvs : List (List Key × V)} {g : TG} {tb : TS} {D : Ends} {σ : St} {H : Hp} (Pv : Nat → St → Hp → Prop) (h0 : Pv 0 σ H) (hl : ∀ i σ H, i ≤ kvs.length → Pv i σ H → H a = some (.frz o (.dT kvs)))
    (hs : ∀ i k v q σ H, kvs[i]? = some (k, v) → H q = some (.tup (k.map kV)) → Pv i σ H → g (.ref q) σ H fun σ2 H2 => tb { D with nx := Pv (i + 1), ct := Pv (i + 1), bk := D.nx } σ2 H2) (hd : ∀ σ H, Pv kvs.length σ H → D.nx σ H) :
    ∃ W : Nat → Nat → St → Hp → Prop, (∃ m, W 0 m σ H) ∧ ∀ i m σ H, W i m σ H →
      ((Itk a o kvs).stop i H ∧ D.nx σ H) ∨ ((Itk a o kvs).go i H ∧ ∃ N : St → Hp → Prop, (∀ σ' H', N σ' H' → ∃ m', m' < m ∧ W (i + 1) m' σ' H') ∧ ∀ x H', (Itk a o kvs).yld i H x H' → g x σ H' fun σ2 H2 => tb { D with nx := N, ct := N, bk := D.nx } σ2 H2) := by
  refine ⟨fun i m σ H => m = kvs.length - i ∧ i ≤ kvs.length ∧ Pv i σ H, ⟨kvs.length, by simp, Nat.zero_le _, h0⟩, ?_⟩
  rintro i m σ H ⟨rfl, hi, p⟩
  have q := hl i σ H hi p
  by_cases hlt : i < kvs.length
  · refine .inr ⟨⟨q, hlt⟩, Pv (i + 1), fun σ' H' p' => ⟨kvs.length - (i + 1), by omega, rfl, hlt, p'⟩, fun x H' y => ?_⟩
    obtain ⟨e, k, v, z, hk, ex, ht⟩ := y
    subst e ex
    exact hs i k v z σ _ hk ht p
  · have e : i = kvs.length := by omega
    subst e
    exact .inl ⟨⟨q, Nat.le_refl _⟩, hd σ H p⟩
end L2
namespace L2
open PySem PySem.Spec PyProof.Rows
theorem law_callT {Pg : Program} {w : World} {K : PySem.W.Frag} {mg mb : Str → Option Value} {CX : CXT} {k : Nat} {fa a P c : Addr} {fd : FuncData} {x : Str} {sp : Sp} {s₁ : Shared} {vs : List Value} {ns : List Int}
    (KX : K.In s₁.heap) (hns : s₁.heap.Ns mainGlobals mg) (hb : s₁.heap.Ns builtinsNs mb) (hbb : ∀ x : Str, x ≠ "__name__" → mb x = bootBuiltins x) (hlim : s₁.heap.NoLimit) (hg : s₁.gens = #[])
    (ha : s₁.heap.get? a = some { cls := .type "list", data := .seq vs.toArray }) (hi : IntsAre vs ns) (hl : ns.length ≤ sizeLine) (hr : Room k callerA)
    (hP : s₁.heap.get? P = some (PySem.W.tabObj #[])) (hC : PySem.W.CodeHd s₁.heap c P) (hB : ∃ bm ob, mg "__builtins__" = some (.ref bm) ∧ bm ≠ builtinsNs ∧ s₁.heap.get? bm = some ob ∧ ob.cls = .type "module" ∧ ob.dict = some builtinsNs ∧ ob.data = .plain)
    (hKP : K.lookup P = none) (hCK : ∀ h, K.In h → PySem.W.CodeHd h c P)
    (F : ∀ base : Heap, K.In base → base.Ns mainGlobals mg → PySem.W.CodeHd base c P → base.BuiltinsAt mg P → FnOk Pg w K mg base CX k fa fd [x] sp) (hbind : ∀ (s : Shared) (u : Value), BindsTo s fd ⟨[u], []⟩ [(x, u)])
    (hsp : ∀ H : Hp, H P = some (.tbl #[]) → SqL K H a (ns.map V.int) → sp [.ref a] H (fun v _ => v = .bl true) fun _ _ _ => False)
    (hCX : ∀ H e s', CX [] H s₁ (fun _ _ _ => False) e s' → False) :
    codeAny (model Pg w) callerA (.call (.ref fa) ⟨[.ref a], []⟩) (fun r s' => r = .ok (.ret (.bool true)) ∧ OldK s₁.heap s'.heap ∧ s'.os = s₁.os ∧ AllBare s'.gens) s₁ := by
  have rv := vals_ints hi
  have lenV := hi.length
  have haP : a ≠ P := fun z => by rw [z, hP] at ha; cases ha
  have core : ∀ H : Hp, H P = some (.tbl #[]) → (∀ b, b ≠ P → H b = none ∨ ∃ xs, b = a ∧ H b = some (.frz { cls := .type "list", data := .seq vs.toArray } (.lst xs))) → SqL K H a (ns.map V.int) → HOk Pg w H s₁.heap → (H a ≠ none → K.lookup a = none) →
      codeAny (model Pg w) callerA (.call (.ref fa) ⟨[.ref a], []⟩) (fun r s' => r = .ok (.ret (.bool true)) ∧ OldK s₁.heap s'.heap ∧ s'.os = s₁.os ∧ AllBare s'.gens) s₁ := by
    intro H hHP hO hS hok hK
    have base_of : ∀ {b : Addr} {o : Obj}, s₁.heap.get? b = some o → H b = none → (hidT s₁.heap H).get? b = some o := fun e n => hidT_get e n
    have free : ∀ {b : Addr} {o : Obj}, s₁.heap.get? b = some o → (∀ xs n, o.data ≠ .seq xs n) → b ≠ P → H b = none := fun {b o} e d nP => by
      rcases hO b nP with z | ⟨xs, z, _⟩
      · exact z
      · rw [z, ha] at e
        cases e
        exact absurd rfl (d _ _)
    have ndP : ∀ {b : Addr} {o : Obj} {es : Array DictEntry} {ep : Nat}, s₁.heap.get? b = some o → o.data = .dict es ep → b ≠ P := fun {b o es ep} e d z => by
      rw [z, hP] at e
      cases e
      have d' : Data.fields #[] = Data.dict es ep := d
      cases d'
    have nsK : ∀ {b : Addr} {m : Str → Option Value}, s₁.heap.Ns b m → (hidT s₁.heap H).Ns b m := fun {b m} ⟨o, es, ep, e, d, r⟩ => ⟨o, es, ep, base_of e (free e (fun xs n z => by rw [d] at z; cases z) (ndP e d)), d, r⟩
    have hKb : K.In (hidT s₁.heap H) := fun b o e => base_of (KX b o e) (by
      by_cases z : b = P
      · rw [z, hKP] at e; cases e
      · rcases hO b z with q | ⟨xs, q, r⟩
        · exact q
        · subst q
          rw [hK (by rw [r]; simp)] at e; cases e)
    have hM : Mod K mg (hidT s₁.heap H) := ⟨hKb, nsK hns, ⟨mb, nsK hb, hbb⟩, let ⟨mc, h1, h2⟩ := hlim; ⟨mc, nsK h1, h2⟩⟩
    have e0 : Env0 Pg w K mg (hidT s₁.heap H) callerA [] s₁ H := ⟨rfl, hM, fun b o e => of_hidT e, Nat.le_of_eq (hidT_size _ _), trivial, fun b hb => absurd (show b ∈ ([] : List Addr) from hb) (by simp), hok, .of_eq hg⟩
    have hBA : (hidT s₁.heap H).BuiltinsAt mg P := by
      obtain ⟨bm, ob, b1, b2, b3, b4, b5, b6⟩ := hB
      have nP : bm ≠ P := fun z => by rw [z, hP] at b3; cases b3; cases b4
      have nG : bm ≠ mainGlobals := fun z => by
        obtain ⟨o, es, ep, e, d, _⟩ := hns
        rw [z, e] at b3
        cases b3
        rw [d] at b6
        cases b6
      exact ⟨bm, ob, b1, b2, nG, nP, base_of b3 (free b3 (fun xs n z => by rw [b6] at z; cases z) nP), b4, b5, b6⟩
    refine codeAny_mono ((F _ hKb (nsK hns) (hCK _ hKb) hBA).run callerA [] s₁ H ⟨[.ref a], []⟩ [.ref a] [.ref a] _ _ hr e0 (hbind s₁ (.ref a)) (.cons rfl .nil) (hsp H hHP hS)) fun r s' h => ?_
    cases r with
    | error e => exact (hCX H e s' h).elim
    | ok fl =>
      cases fl with
      | next => exact False.elim h
      | brk => exact False.elim h
      | cont => exact False.elim h
      | ret u =>
        obtain ⟨v, H', os, bare, un, hok', r', q⟩ := h
        have q' : v = .bl true := q
        subst q'
        obtain rfl : u = Value.bool true := r'
        have keep : ∀ b o, b ≠ P → s₁.heap.get? b = some o → s'.heap.get? b = some o := fun b o nP e => by
          rcases hO b nP with z | ⟨xs, z1, z⟩
          · exact un.keep b o e z (by intro z; exact absurd (show b ∈ ([] : List Addr) from z) (by simp)) (by simp)
          · obtain ⟨e1, _⟩ := hok b _ z
            obtain ⟨e2, _⟩ := hok' b _ (un.frzs b _ _ z)
            rw [e] at e1; cases e1
            exact e2
        obtain ⟨more, hm⟩ := un.tbls P #[] hHP
        have hP' : s'.heap.get? P = some { cls := .none, data := .fields (#[] ++ more) } := hok' P _ hm
        refine ⟨rfl, ⟨fun b o e => ?_, fun b o e => ?_⟩, os, bare⟩
        · by_cases z : b = P
          · subst z
            rw [hP] at e
            cases e
            exact .inr (.inl ⟨(hC.tab hP).isCodeTable, rfl, #[], more, rfl, hP'⟩)
          · exact .inl (keep b o z e)
        · by_cases z : b = P
          · subst z; exact ⟨_, hP'⟩
          · exact ⟨o, keep b o z e⟩
  cases hk : K.lookup a with
  | some o =>
    have e := KX a o hk
    rw [ha] at e
    cases e
    refine core (fun b => if b = P then some (.tbl #[]) else none) (if_pos rfl) (fun b z => .inl (if_neg z)) (.inr ⟨_, vs.toArray, _, hk, rfl, rfl, rfl, by rw [List.size_toArray, lenV]; exact hl, by simpa using rv⟩) (fun b u z => ?_) fun z => absurd (if_neg haP) z
    by_cases hb : b = P
    · have z' := (if_pos hb).symm.trans z
      cases z'
      subst hb
      exact hP
    · have z' := (if_neg hb).symm.trans z
      cases z'
  | none =>
    refine core (fun b => if b = P then some (.tbl #[]) else if b = a then some (.frz { cls := .type "list", data := .seq vs.toArray } (.lst (ns.map V.int))) else none) (if_pos rfl) (fun b z => ?_) (.inl (.inr ⟨{ cls := .type "list", data := .seq vs.toArray }, (if_neg haP).trans (if_pos rfl)⟩)) (fun b u z => ?_) fun _ => hk
    · by_cases hb : b = a
      · exact .inr ⟨_, hb, (if_neg z).trans (if_pos hb)⟩
      · exact .inl ((if_neg z).trans (if_neg hb))
    · by_cases hb : b = P
      · have z' := (if_pos hb).symm.trans z
        cases z'
        subst hb
        exact hP
      · have z1 := (if_neg hb).symm.trans z
        by_cases hb2 : b = a
        · have z' := (if_pos hb2).symm.trans z1
          cases z'
          subst hb2
          exact ⟨ha, by rw [List.length_map]; exact hl, vs, _, rv, ha⟩
        · have z' := (if_neg hb2).symm.trans z1
          cases z'
theorem walk_ofT {l : PySem.W.OpenLaw} {n k : Nat} {q : Program} {loose : List Str} {XP : (Str → Option Value) → Heap → Prop} {YP : World → Heap → Prop} {d d0 : DefRec} {K : Params → PySem.W.Frag} {CX : World → CXT} {sp : World → Addr → Sp} {x x0 : Str}
    (hn : l.most = some n) (hn2 : n ≤ sizeLine) (hdf : d.params.defaults = []) (hr : Room k callerA)
    (h0 : (recsOf q).find? (fun e => e.name == x0) = some d0)
    (hY : ∀ (w : World) (h : Heap), YP w h → (K w.params).In h)
    (F : ∀ (w : World) (mg : Str → Option Value) (fa : Addr) (h : Heap), (K w.params).In h → h.Ns mainGlobals mg → mg d.name = some (.ref fa) →
      ∃ (fd : FuncData) (c P : Addr), (∀ (s : Shared) (u : Value), BindsTo s fd ⟨[u], []⟩ [(x, u)]) ∧ PySem.W.tabIn (K w.params) x0 = some (c, P) ∧ PySem.W.codeHdIn (K w.params) c P = true ∧ (K w.params).lookup P = none ∧
        ∀ base : Heap, (K w.params).In base → base.Ns mainGlobals mg → PySem.W.CodeHd base c P → base.BuiltinsAt mg P → FnOk l.prog w (K w.params) mg base (CX w) k fa fd [x] (sp w P))
    (hsp : ∀ (w : World) (H : Hp) (a P : Addr) (ns : List Int), ns.length ≤ n → H P = some (.tbl #[]) → SqL (K w.params) H a (ns.map V.int) → sp w P [.ref a] H (fun v _ => v = .bl true) fun _ _ _ => False)
    (hCX : ∀ (w : World) (H : Hp) (s : Shared) (e : Value) (s' : Shared), CX w [] H s (fun _ _ _ => False) e s' → False) :
    PySem.W.WalkO q loose XP YP l.row.toRowW d [] (fun f vs => PySem.call f vs) := by
  refine Att.attach_call hn hdf fun w s₀ s₁ mg mb fa o pm cd doc a vs ns G Y ho hd hcd hmg hobj hints hlen hg => ?_
  have KX := hY w _ Y
  obtain ⟨fd, c, P, hb, ht, hcd, hkp, hF⟩ := F w mg fa _ KX G.T.g hmg
  obtain ⟨hC, hP⟩ := PySem.W.tab_of G.T KX h0 ht
  exact law_callT KX G.T.g G.T.b G.T.builtins G.T.nolimit hg hobj hints (Nat.le_trans hlen hn2) hr hP hC G.T.bmain hkp (fun h X => PySem.W.codeHd_of_K X hcd) hF hb (fun H hO hS => hsp w H a P ns hlen hO hS) fun H e s' => hCX w H s₁ e s'
end L2
namespace L2
open PySem PySem.Spec PyProof.Rows
theorem call_maxL {X : Cx} (hc : X.calm = true) : CallR X (.builtin "max") (fun xs H Q => ∃ (a : Addr) (ns : List Int), xs = [.ref a] ∧ SqL X.K H a (ns.map V.int) ∧ ns ≠ [] ∧ ∀ M, M ∈ ns → (∀ n ∈ ns, n ≤ M) → Q (.int M) H) := by
  intro pins s σ H xs us Q I r h
  obtain ⟨a, ns, rfl, hS, hne, q⟩ := h
  obtain ⟨u, rfl, ru⟩ := vals1 r
  cases (show u = Value.ref a from ru)
  obtain ⟨its, rv, p, hz⟩ := I.list hS
  have hi := intsAre_of rv
  obtain ⟨zs, e⟩ := (IntsAre.allInts hi).items
  have hl := p.isList
  rw [e] at hl
  have hns : ns = zs.toList.map (·.1) := by
    have n1 := nums_intItems (xs := zs)
    rw [← e, show its.toArray.toList = its from rfl, IntsAre.numsOf hi] at n1
    exact n1
  have hsz : 0 < zs.size := by
    rcases Nat.eq_zero_or_pos zs.size with z | z
    · exfalso
      apply hne
      rw [hns]
      have : zs = #[] := Array.eq_empty_of_size_eq_zero z
      rw [this]
      rfl
    · exact z
  refine max_intList (I.ok.hd hc) hl hsz fun v h' tk hv hk => ?_
  obtain ⟨t, rfl⟩ := intItems_at hv
  obtain ⟨h1, h2⟩ := argBest_gt (numAt zs) (zs.size - 1)
  refine ⟨.int _, H, I.kept hk, ⟨t, rfl⟩, q _ ?_ fun n hn => ?_⟩
  · rw [hns, numAt_eq]; exact getD_mem (by rw [List.length_map, Array.length_toList]; omega)
  · rw [hns] at hn
    obtain ⟨j, hj, rfl⟩ := mem_getD hn
    rw [List.length_map, Array.length_toList] at hj
    rw [← numAt_eq]; exact h2 j (by omega)
theorem dT_get {P : Program} {w : World} {H : Hp} {h : Heap} {a : Addr} {kvs : List (List Key × V)} (ok : ObjOk P w H h a (.dT kvs)) :
    (a == sysModules) = false ∧ ∃ o, h.get? a = some o ∧ o.ExactDict ∧ ∃ es ep, o.data = .dict es ep ∧ es.size = kvs.length ∧ ∀ (i : Nat) k v, kvs[i]? = some (k, v) → ∃ q ent, es[i]? = some ent ∧ ent.key = .ref q ∧ H q = some (.tup (k.map kV)) := by
  obtain ⟨z, y, xs, r, ob, es, ep, e2, ex, hd, he, nd⟩ := ok
  have hl : kvs.length = xs.length := Paired.length r
  refine ⟨y, ob, e2, ex, es, ep, hd, ?_, fun i k v hk => ?_⟩
  · rw [← Array.length_toList, he, List.length_map, hl]
  · have get : ∀ {l1 : List (List Key × V)} {l2 : List (List Key × Addr × Value)} {i : Nat} {k : List Key} {v : V}, Paired (fun (p : List Key × V) (q : List Key × Addr × Value) => p.1 = q.1 ∧ H q.2.1 = some (.tup (p.1.map kV)) ∧ RelV p.2 q.2.2) l1 l2 → l1[i]? = some (k, v) →
        ∃ q : List Key × Addr × Value, l2[i]? = some q ∧ H q.2.1 = some (.tup (k.map kV)) := by
      intro l1 l2 i k v r
      induction r generalizing i with
      | nil => intro z; simp at z
      | cons h t ih =>
        intro z
        cases i with
        | zero => simp at z; subst z; exact ⟨_, rfl, h.2.1⟩
        | succ j => exact ih (by simpa using z)
    obtain ⟨q, hq, ht⟩ := get r hk
    refine ⟨q.2.1, entryOfKey (tupleKind (mixKind P w)) q, ?_, rfl, ht⟩
    rw [← Array.getElem?_toList, he, List.getElem?_map, hq]
    rfl
theorem keys_walk {P : Program} {w : World} {A : Around} (hh : A.handled = none) (it d : Addr) (hne : it ≠ d) (o : Obj) (es : Array DictEntry) (ep : Nat) (hd : o.data = .dict es ep) :
    Walks P w A it [it, d] [it] es.size (fun i v => ∃ ent, es[i]? = some ent ∧ ent.key = v) (fun i h => h.IsKeyIter it d i es.size ep ∧ h.get? d = some o) where
  sub := fun b hb => by rw [List.mem_singleton.mp hb]; exact .head _
  frame := fun i h h' st k => ⟨st.1.at fun o e => k it (.head _) o e, k d (.tail _ (.head _)) _ st.2⟩
  item := fun i s Q E hi st hQ => by
    refine ents_next st.1 st.2 hd (Array.getElem?_eq_getElem hi) fun h' st' sb => ?_
    exact hQ _ h' s.toks ⟨_, Array.getElem?_eq_getElem hi, rfl⟩ ⟨st', (sb.2 d (Ne.symm hne)).trans st.2⟩ fun b o hb e => (sb.2 b (fun z => hb (by rw [z]; exact .head _))).trans e
  done := fun s Q E st hQ => by
    refine ents_end hh st.1 st.2 hd (Nat.le_refl _) fun h' eb => ?_
    exact hQ h' s.toks fun b o hb e => eb b o (fun z => hb (by rw [z]; exact .head _)) e
  self := fun i s Q E st hQ => wpAny_pyIter_keyiter st.1 hQ
theorem keys_src {P : Program} {w : World} (d : Addr) (lo : (d == sysModules) = false) (o : Obj) (ex : o.ExactDict) (es : Array DictEntry) (ep : Nat) (hd : o.data = .dict es ep) :
    PySem.W.KdlSrc P w "dict" d d es.size (fun i v => ∃ ent, es[i]? = some ent ∧ ent.key = v) (fun h => h.get? d = some o) where
  type := fun s e => ⟨o, e, ex.1⟩
  there := fun h e => ⟨Heap.lt_size e, Heap.lt_size e⟩
  keep := fun h h' e k => k d (.inl rfl) o e
  notList := by decide
  notTuple := by decide
  hint := fun A E s Q e hq => PySem.W.kdl_hint_dict ⟨o, e, ex.1⟩ hq
  iter := fun A s hh e => ⟨_, _, (fun E Q hq => ents_iter lo e ex hd hq), keys_walk hh _ d (Nat.ne_of_gt (Heap.lt_size e)) o es ep hd, ⟨⟨_, Heap.get?_push_size _ rfl, rfl, rfl⟩, Heap.get?_push_of_some _ e⟩⟩
theorem call_listK {X : Cx} (hc : X.calm = true) : CallR X (.type "list") (fun xs H Q => ∃ (d : Addr) (kvs : List (List Key × V)), xs = [.ref d] ∧ (H d = some (.dT kvs) ∨ ∃ o, H d = some (.frz o (.dT kvs))) ∧
    ∀ (l : Addr) (qs : List Addr), H l = none → qs.length = kvs.length → (∀ (i : Nat) k v, kvs[i]? = some (k, v) → ∃ q, qs[i]? = some q ∧ H q = some (.tup (k.map kV))) → Q (.ref l) (upd H l (.lst (qs.map V.ref)))) := by
  intro pins s σ H xs us Q I r h
  obtain ⟨d, kvs, rfl, hD, q⟩ := h
  obtain ⟨u, rfl, ru⟩ := vals1 r
  cases (show u = Value.ref d from ru)
  have ok : ObjOk X.prog X.w H s.heap d (.dT kvs) := by
    rcases hD with e | ⟨o, e⟩
    · exact I.hok d _ e
    · exact (I.hok d _ e).2
  have hz : kvs.length ≤ sizeLine := ok.1
  obtain ⟨lo, o, e, ex, es, ep, hd, hsz, get⟩ := dT_get ok
  refine PySem.W.kdl_call (keys_src d lo o ex es ep hd) (I.ok.hd hc) e (by rw [hsz]; exact hz) fun h' tk acc c hk hl hacc => ?_
  have key : ∀ (i : Nat), i < kvs.length → ∃ q, acc.toList[i]? = some (Value.ref q) ∧ ∀ k v, kvs[i]? = some (k, v) → H q = some (.tup (k.map kV)) := fun i hi => by
    have hia : i < acc.size := by rw [hacc.1, hsz]; exact hi
    obtain ⟨ent, e1, e2⟩ := hacc.2 i _ (Array.getElem?_eq_getElem hia)
    obtain ⟨q, ent', e3, e4, e5⟩ := get i _ _ (List.getElem?_eq_getElem hi)
    rw [e1] at e3
    cases e3
    refine ⟨q, ?_, fun k v ek => ?_⟩
    · rw [Array.getElem?_toList, Array.getElem?_eq_getElem hia, ← e2, e4]
    · rw [List.getElem?_eq_getElem hi] at ek
      have ek := Option.some.inj ek
      have : kvs[i].1 = k := by rw [ek]
      rw [← this]
      exact e5
  have hla : acc.toList.length = kvs.length := by rw [Array.length_toList, hacc.1, hsz]
  have eacc : acc.toList = (acc.toList.map adr).map Value.ref := by
    refine List.ext_getElem? fun i => ?_
    rw [List.getElem?_map, List.getElem?_map]
    by_cases hi : i < kvs.length
    · obtain ⟨q, e1, _⟩ := key i hi
      rw [e1]
      rfl
    · rw [List.getElem?_eq_none (by omega)]
      rfl
  refine ⟨.ref s.heap.objs.size, _, I.laid (t' := tk) hk (Nat.le_refl _) (show ObjOk X.prog X.w _ h' _ (.lst ((acc.toList.map adr).map V.ref)) from ⟨?_, acc.toList, c, ?_, ?_⟩), rfl, q _ (acc.toList.map adr) (I.hok.fresh (Nat.le_refl _)) (by rw [List.length_map, hla]) fun i k v ek => ?_⟩
  · rw [List.length_map, List.length_map, hla]; exact hz
  · have z := refs_vals (acc.toList.map adr)
    rw [← eacc] at z
    exact z
  · rw [Array.toArray_toList]; exact hl
  · have hi := (List.getElem?_eq_some_iff.mp ek).1
    obtain ⟨q2, e1, e2⟩ := key i hi
    exact ⟨q2, by rw [List.getElem?_map, e1]; rfl, e2 k v ek⟩
end L2
namespace Fr
theorem gcd_turn (a b : Int) : Int.gcd b (a.fmod b) = Int.gcd a b := by
  rw [Int.fmod_def, Int.gcd_sub_mul_left_right, Int.gcd_comm]
theorem fmod_less {a b : Int} (hb : b ≠ 0) : (a.fmod b).natAbs < b.natAbs := by
  rcases Int.lt_or_gt_of_ne hb with h | h
  · have e : a.fmod b = -((-a).fmod (-b)) := by
      rw [Int.fmod_def, Int.fmod_def, Int.neg_fdiv_neg, Int.neg_mul]
      omega
    have h1 := Int.fmod_nonneg_of_pos (-a) (show (0 : Int) < -b by omega)
    have h2 := Int.fmod_lt_of_pos (-a) (show (0 : Int) < -b by omega)
    omega
  · have h1 := Int.fmod_nonneg_of_pos a h
    have h2 := Int.fmod_lt_of_pos a h
    omega
def dv (t b : Int) : Int := if b < 0 then -(Int.gcd t b : Int) else (Int.gcd t b : Int)
def sh (t b : Int) : Int × Int := (t.fdiv (dv t b), b.fdiv (dv t b))
structure IsFr (t b : Int) : Prop where
  pos : 0 < b
  red : Int.gcd t b = 1
theorem dv_natAbs (t b : Int) : (dv t b).natAbs = Int.gcd t b := by unfold dv; split <;> omega
theorem dv_ne {t b : Int} (hb : b ≠ 0) : dv t b ≠ 0 := by
  have := Int.gcd_pos_of_ne_zero_right t hb
  have e := dv_natAbs t b
  omega
theorem dv_dvd_left (t b : Int) : dv t b ∣ t := by
  have h := Int.gcd_dvd_left t b
  unfold dv
  split
  · exact Int.neg_dvd.mpr h
  · exact h
theorem dv_dvd_right (t b : Int) : dv t b ∣ b := by
  have h := Int.gcd_dvd_right t b
  unfold dv
  split
  · exact Int.neg_dvd.mpr h
  · exact h
theorem sh_fst (t b : Int) : (sh t b).1 * dv t b = t := Int.fdiv_mul_cancel (dv_dvd_left t b)
theorem sh_snd (t b : Int) : (sh t b).2 * dv t b = b := Int.fdiv_mul_cancel (dv_dvd_right t b)
theorem sh_cross (t b : Int) : (sh t b).1 * b = t * (sh t b).2 := by
  have h1 := sh_fst t b
  have h2 := sh_snd t b
  generalize (sh t b).1 = x at *
  generalize (sh t b).2 = y at *
  generalize dv t b = d at *
  rw [← h1, ← h2]
  rw [Int.mul_assoc x d y, Int.mul_comm d y]
theorem sh_pos {t b : Int} (hb : b ≠ 0) : 0 < (sh t b).2 := by
  have h2 := sh_snd t b
  have g := Int.gcd_pos_of_ne_zero_right t hb
  rcases Int.lt_or_gt_of_ne hb with h | h
  · have e : dv t b < 0 := by unfold dv; rw [if_pos h]; omega
    rcases (by omega : 0 < (sh t b).2 ∨ (sh t b).2 ≤ 0) with q | q
    · exact q
    · have := Int.mul_nonneg_of_nonpos_of_nonpos q (Int.le_of_lt e)
      omega
  · have e : 0 < dv t b := by unfold dv; rw [if_neg (by omega)]; omega
    rcases (by omega : 0 < (sh t b).2 ∨ (sh t b).2 ≤ 0) with q | q
    · exact q
    · have := Int.mul_nonpos_of_nonpos_of_nonneg q (Int.le_of_lt e)
      omega
theorem sh_red {t b : Int} (hb : b ≠ 0) : Int.gcd (sh t b).1 (sh t b).2 = 1 := by
  have h := Int.gcd_mul_right (sh t b).1 (dv t b) (sh t b).2
  rw [sh_fst, sh_snd, dv_natAbs] at h
  have g := Int.gcd_pos_of_ne_zero_right t hb
  have : 1 * Int.gcd t b = Int.gcd (sh t b).1 (sh t b).2 * Int.gcd t b := by omega
  exact (Nat.eq_of_mul_eq_mul_right g this).symm
theorem sh_ok {t b : Int} (hb : b ≠ 0) : IsFr (sh t b).1 (sh t b).2 := ⟨sh_pos hb, sh_red hb⟩
theorem cop {a b d : Int} (g : Int.gcd a b = 1) (h : b ∣ a * d) : b ∣ d := by
  have h1 := Int.natAbs_dvd_natAbs.mpr h
  rw [Int.natAbs_mul] at h1
  have h2 : Nat.Coprime b.natAbs a.natAbs := by
    show Nat.gcd b.natAbs a.natAbs = 1
    rw [Nat.gcd_comm]
    exact g
  exact Int.natAbs_dvd_natAbs.mp (h2.dvd_of_dvd_mul_left h1)
theorem unique {a b c d : Int} (p : IsFr a b) (q : IsFr c d) (e : a * d = c * b) : a = c ∧ b = d := by
  have pp := p.pos
  have qp := q.pos
  have h1 : b ∣ d := by
    have : b ∣ a * d := ⟨c, by rw [e, Int.mul_comm]⟩
    exact cop p.red this
  have h2 : d ∣ b := by
    have : d ∣ c * b := ⟨a, by rw [← e, Int.mul_comm]⟩
    exact cop q.red this
  have hbd : b = d := Int.dvd_antisymm (Int.le_of_lt pp) (Int.le_of_lt qp) h1 h2
  subst hbd
  exact ⟨Int.eq_of_mul_eq_mul_right (by omega) e, rfl⟩
end Fr
namespace Tb
structure Rw where
  t : Int
  b : Int
  w : Int
def T (B : Int) (r : Rw) : Int := r.t * (B / r.b)
def mx (x : Int) : Int := if 0 < x then x else 0
def S (B l0 l1 : Int) (rs : List Rw) : Int := (rs.map fun r => r.w * mx (T B r * l1 - l0 * B)).sum
def WT (B : Int) (rs : List Rw) : Int := (rs.map fun r => r.w * T B r).sum
def W (rs : List Rw) : Int := (rs.map (·.w)).sum
structure CM (B : Int) (rs : List Rw) : Prop where
  pos : 0 < B
  dv : ∀ r ∈ rs, 0 < r.b ∧ r.b ∣ B
theorem W_cons (r : Rw) (rs : List Rw) : W (r :: rs) = r.w + W rs := by simp [W]
theorem WT_cons (B : Int) (r : Rw) (rs : List Rw) : WT B (r :: rs) = r.w * T B r + WT B rs := by simp [WT]
theorem S_cons (B l0 l1 : Int) (r : Rw) (rs : List Rw) : S B l0 l1 (r :: rs) = r.w * mx (T B r * l1 - l0 * B) + S B l0 l1 rs := by simp [S]
theorem S_append (B l0 l1 : Int) (xs ys : List Rw) : S B l0 l1 (xs ++ ys) = S B l0 l1 xs + S B l0 l1 ys := by simp [S]
theorem W_append (xs ys : List Rw) : W (xs ++ ys) = W xs + W ys := by simp [W]
theorem cof {B b : Int} (hb : 0 < b) (hB : 0 < B) (h : b ∣ B) : ∃ c, 0 < c ∧ B = b * c ∧ B / b = c := by
  obtain ⟨c, e⟩ := h
  have hc : 0 < c := by
    rcases (by omega : 0 < c ∨ c ≤ 0) with z | z
    · exact z
    · have := Int.mul_nonpos_of_nonneg_of_nonpos (Int.le_of_lt hb) z
      omega
  refine ⟨c, hc, e, ?_⟩
  rw [e, Int.mul_comm, Int.mul_ediv_cancel _ (by omega)]
theorem T_mul {B : Int} {r : Rw} (hb : 0 < r.b) (hB : 0 < B) (h : r.b ∣ B) : T B r * r.b = r.t * B := by
  obtain ⟨c, hc, e, q⟩ := cof hb hB h
  unfold T
  rw [q, e]
  grind
theorem mul_pos_iff {c x : Int} (hc : 0 < c) : 0 < c * x ↔ 0 < x := by
  constructor
  · intro h
    rcases (by omega : 0 < x ∨ x ≤ 0) with z | z
    · exact z
    · have := Int.mul_nonpos_of_nonneg_of_nonpos (Int.le_of_lt hc) z
      omega
  · intro h
    exact Int.mul_pos hc h
theorem above_iff {B l0 l1 : Int} {r : Rw} (hb : 0 < r.b) (hB : 0 < B) (h : r.b ∣ B) : 0 < T B r * l1 - l0 * B ↔ l0 * r.b < r.t * l1 := by
  obtain ⟨c, hc, e, q⟩ := cof hb hB h
  have e2 : T B r * l1 - l0 * B = c * (r.t * l1 - l0 * r.b) := by
    unfold T
    rw [q, e]
    grind
  rw [e2, mul_pos_iff hc]
  omega
theorem mx_nn (x : Int) : 0 ≤ mx x := by unfold mx; split <;> omega
theorem mx_ge (x : Int) : x ≤ mx x := by unfold mx; split <;> omega
theorem S_hi {B l0 l1 ws tops : Int} (hw : 0 < ws) (hl : 0 < l1) (hc : l0 * (ws * B) = tops * l1) : ∀ {hi : List Rw}, (∀ r ∈ hi, tops ≤ T B r * ws) → ws * S B l0 l1 hi = l1 * (ws * WT B hi - tops * W hi)
  | [], _ => by simp [S, WT, W]
  | r :: hi, h => by
    have ih := S_hi hw hl hc (fun x hx => h x (List.mem_cons_of_mem _ hx))
    have hr := h r List.mem_cons_self
    have e : ws * (T B r * l1 - l0 * B) = l1 * (T B r * ws - tops) := by grind
    have m : mx (T B r * l1 - l0 * B) = T B r * l1 - l0 * B := by
      unfold mx
      split
      · rfl
      · rename_i n
        have h1 : 0 ≤ l1 * (T B r * ws - tops) := Int.mul_nonneg (Int.le_of_lt hl) (by omega)
        rw [← e] at h1
        rcases (by omega : T B r * l1 - l0 * B = 0 ∨ T B r * l1 - l0 * B < 0) with z | z
        · omega
        · have := Int.mul_neg_of_pos_of_neg hw z
          omega
    rw [S_cons, WT_cons, W_cons, m]
    have a1 : ws * (r.w * (T B r * l1 - l0 * B) + S B l0 l1 hi) = r.w * (ws * (T B r * l1 - l0 * B)) + ws * S B l0 l1 hi := by grind
    rw [a1, e, ih]
    grind
theorem S_lo {B l0 l1 ws tops : Int} (hw : 0 < ws) (hl : 0 < l1) (hc : l0 * (ws * B) = tops * l1) : ∀ {lo : List Rw}, (∀ r ∈ lo, T B r * ws ≤ tops) → S B l0 l1 lo = 0
  | [], _ => by simp [S]
  | r :: lo, h => by
    have ih := S_lo hw hl hc (fun x hx => h x (List.mem_cons_of_mem _ hx))
    have hr := h r List.mem_cons_self
    have e : ws * (T B r * l1 - l0 * B) = l1 * (T B r * ws - tops) := by grind
    have m : mx (T B r * l1 - l0 * B) = 0 := by
      unfold mx
      split
      · rename_i n
        have h1 := Int.mul_pos hw n
        have h2 : l1 * (T B r * ws - tops) ≤ 0 := Int.mul_nonpos_of_nonneg_of_nonpos (Int.le_of_lt hl) (by omega)
        omega
      · rfl
    rw [S_cons, m, ih]
    simp
theorem level_has {B l0 l1 ws tops P : Int} {lo hi : List Rw} (hw : 0 < ws) (hl : 0 < l1) (hc : l0 * (ws * B) = tops * l1) (ew : ws = W hi) (et : tops = WT B hi - P) (h1 : ∀ r ∈ hi, tops ≤ T B r * ws) (h2 : ∀ r ∈ lo, T B r * ws ≤ tops) :
    S B l0 l1 (lo ++ hi) = P * l1 := by
  have a := S_hi hw hl hc h1
  have b := S_lo hw hl hc h2
  rw [S_append, b, Int.zero_add]
  have : ws * S B l0 l1 hi = ws * (P * l1) := by rw [a, ← ew]; grind
  exact Int.eq_of_mul_eq_mul_left (by omega) this
theorem S_ge (B m0 m1 : Int) : ∀ {hi : List Rw}, (∀ r ∈ hi, 0 ≤ r.w) → m1 * WT B hi - m0 * B * W hi ≤ S B m0 m1 hi
  | [], _ => by simp [S, WT, W]
  | r :: hi, h => by
    have ih := S_ge B m0 m1 (fun x hx => h x (List.mem_cons_of_mem _ hx))
    have hr := h r List.mem_cons_self
    have g := Int.mul_le_mul_of_nonneg_left (mx_ge (T B r * m1 - m0 * B)) hr
    rw [S_cons, WT_cons, W_cons]
    have e : m1 * (r.w * T B r + WT B hi) - m0 * B * (r.w + W hi) = r.w * (T B r * m1 - m0 * B) + (m1 * WT B hi - m0 * B * W hi) := by grind
    rw [e]
    omega
theorem S_nn (B m0 m1 : Int) : ∀ {lo : List Rw}, (∀ r ∈ lo, 0 ≤ r.w) → 0 ≤ S B m0 m1 lo
  | [], _ => by simp [S]
  | r :: lo, h => by
    have ih := S_nn B m0 m1 (fun x hx => h x (List.mem_cons_of_mem _ hx))
    have g := Int.mul_nonneg (h r List.mem_cons_self) (mx_nn (T B r * m1 - m0 * B))
    rw [S_cons]
    omega
theorem lower_more {B l0 l1 m0 m1 ws tops P : Int} {lo hi : List Rw} (hB : 0 < B) (hw : 0 < ws) (hl : 0 < l1) (hc : l0 * (ws * B) = tops * l1) (ew : ws = W hi) (et : tops = WT B hi - P)
    (hp : ∀ r ∈ lo ++ hi, 0 ≤ r.w) (lt : m0 * l1 < l0 * m1) : P * m1 < S B m0 m1 (lo ++ hi) := by
  have a := S_ge B m0 m1 (hi := hi) (fun r hr => hp r (List.mem_append_right _ hr))
  have b := S_nn B m0 m1 (lo := lo) (fun r hr => hp r (List.mem_append_left _ hr))
  rw [S_append]
  have q := Int.mul_lt_mul_of_pos_left lt (Int.mul_pos hw hB)
  have e1 : ws * B * (m0 * l1) = l1 * (m0 * B * ws) := by grind
  have e2 : ws * B * (l0 * m1) = l1 * (m1 * tops) := by grind
  rw [e1, e2] at q
  have q2 : m0 * B * ws < m1 * tops := Int.lt_of_mul_lt_mul_left q (Int.le_of_lt hl)
  have e3 : m1 * WT B hi - m0 * B * W hi = m1 * tops + P * m1 - m0 * B * ws := by rw [← ew]; grind
  omega
def Le (x y : Rw) : Prop := x.t * y.b ≤ y.t * x.b
theorem T_mono {B : Int} {x y : Rw} (hB : 0 < B) (hx : 0 < x.b) (hy : 0 < y.b) (dx : x.b ∣ B) (dy : y.b ∣ B) (h : Le x y) : T B x ≤ T B y := by
  have e1 := T_mul hx hB dx
  have e2 := T_mul hy hB dy
  have g := Int.mul_le_mul_of_nonneg_left h (Int.le_of_lt hB)
  have k : (x.b * y.b) * T B x ≤ (x.b * y.b) * T B y := by
    have a1 : (x.b * y.b) * T B x = B * (x.t * y.b) := by grind
    have a2 : (x.b * y.b) * T B y = B * (y.t * x.b) := by grind
    rw [a1, a2]
    exact g
  exact Int.le_of_mul_le_mul_left k (Int.mul_pos hx hy)
structure Lp (B P : Int) (rs : List Rw) (i : Nat) (tops ws : Int) : Prop where
  le : i ≤ rs.length
  ew : ws = W (rs.drop (rs.length - i))
  et : tops = WT B (rs.drop (rs.length - i)) - P
  hi : 0 < i → ∀ r ∈ rs.drop (rs.length - i), tops ≤ T B r * ws
  z : P = 0 → i ≤ 1
theorem Lp.start {B P : Int} {rs : List Rw} (e : 0 ≤ P) : Lp B P rs 0 (-P) 0 := by
  refine ⟨Nat.zero_le _, ?_, ?_, fun h => absurd h (by omega), fun _ => by omega⟩
  · simp [W]
  · simp [WT]
structure Tab (B : Int) (rs : List Rw) : Prop where
  cm : CM B rs
  w : ∀ r ∈ rs, 1 ≤ r.w
  so : rs.Pairwise Le
theorem W_pos : ∀ {rs : List Rw}, (∀ r ∈ rs, 1 ≤ r.w) → rs ≠ [] → 0 < W rs
  | [], _, h => absurd rfl h
  | [r], h, _ => by
    have := h r List.mem_cons_self
    simp [W]
    omega
  | r :: s :: rs, h, _ => by
    have := h r List.mem_cons_self
    have q := W_pos (rs := s :: rs) (fun x hx => h x (List.mem_cons_of_mem _ hx)) (by simp)
    rw [W_cons]
    omega
theorem drop_next {rs : List Rw} {i : Nat} (h : i < rs.length) : ∃ r, rs[rs.length - 1 - i]? = some r ∧ rs.drop (rs.length - (i + 1)) = r :: rs.drop (rs.length - i) ∧ r ∈ rs := by
  have hk : rs.length - 1 - i < rs.length := by omega
  refine ⟨rs[rs.length - 1 - i], List.getElem?_eq_getElem hk, ?_, List.getElem_mem hk⟩
  have e1 : rs.length - (i + 1) = rs.length - 1 - i := by omega
  have e2 : rs.length - i = rs.length - 1 - i + 1 := by omega
  rw [e1, e2]
  exact List.drop_eq_getElem_cons hk
theorem Tab.mono {B : Int} {rs : List Rw} (tb : Tab B rs) {x y : Rw} (hx : x ∈ rs) (hy : y ∈ rs) (h : Le x y) : T B x ≤ T B y :=
  T_mono tb.cm.pos (tb.cm.dv x hx).1 (tb.cm.dv y hy).1 (tb.cm.dv x hx).2 (tb.cm.dv y hy).2 h
theorem Lp.ws_pos {B P tops ws : Int} {rs : List Rw} {i : Nat} (tb : Tab B rs) (l : Lp B P rs i tops ws) (h : 0 < i) : 0 < ws := by
  rw [l.ew]
  have := l.le
  refine W_pos (fun r hr => tb.w r (List.mem_of_mem_drop hr)) ?_
  intro e
  have := congrArg List.length e
  simp at this
  omega
theorem Lp.next {B P tops ws : Int} {rs : List Rw} {i : Nat} {r : Rw} (tb : Tab B rs) (hP : 0 ≤ P) (l : Lp B P rs i tops ws) (hi : i < rs.length) (hr : rs[rs.length - 1 - i]? = some r) (go : ¬ (0 < ws ∧ T B r * ws ≤ tops)) :
    Lp B P rs (i + 1) (tops + r.w * T B r) (ws + r.w) := by
  obtain ⟨r', e1, e2, hm⟩ := drop_next hi
  rw [hr] at e1
  cases e1
  have hw := tb.w r hm
  have last : tops ≤ T B r * ws := by
    by_cases h0 : 0 < i
    · have := l.ws_pos tb h0
      omega
    · have z : i = 0 := by omega
      subst z
      have a := l.ew
      have b := l.et
      simp [W] at a
      simp [WT] at b
      rw [a, b]
      omega
  have mine : tops + r.w * T B r ≤ T B r * (ws + r.w) := by
    have : T B r * (ws + r.w) = T B r * ws + r.w * T B r := by grind
    omega
  have wp : 0 < ws + r.w := by
    by_cases h0 : 0 < i
    · have := l.ws_pos tb h0
      omega
    · have z : i = 0 := by omega
      subst z
      have a := l.ew
      simp [W] at a
      omega
  refine ⟨hi, ?_, ?_, fun _ x hx => ?_, fun p0 => ?_⟩
  · rw [e2, W_cons, ← l.ew]; omega
  · rw [e2, WT_cons, l.et]; omega
  · rw [e2] at hx
    rcases List.mem_cons.mp hx with z | z
    · subst z; exact mine
    · have pw : (r :: rs.drop (rs.length - i)).Pairwise Le := by
        rw [← e2]
        exact tb.so.sublist (List.drop_sublist _ _)
      have le := (List.pairwise_cons.mp pw).1 x z
      have tm := tb.mono hm (List.mem_of_mem_drop z) le
      have := Int.mul_le_mul_of_nonneg_right tm (Int.le_of_lt wp)
      omega
  · have k := l.z p0
    rcases (by omega : i = 0 ∨ i = 1) with z | z
    · omega
    · exfalso
      subst z
      apply go
      have wp1 := l.ws_pos tb (by decide)
      refine ⟨wp1, ?_⟩
      obtain ⟨r2, f1, f2, fm⟩ := drop_next (rs := rs) (i := 0) (by omega)
      have f3 : rs.drop (rs.length - 1) = [r2] := by
        have : rs.drop (rs.length - 0) = [] := by simp
        rw [f2, this]
      have a := l.ew
      have b := l.et
      rw [f3] at a b
      simp [W] at a
      simp [WT] at b
      have pw : (r :: rs.drop (rs.length - 1)).Pairwise Le := by
        rw [← e2]
        exact tb.so.sublist (List.drop_sublist _ _)
      have le := (List.pairwise_cons.mp pw).1 r2 (by rw [f3]; exact List.mem_cons_self)
      have tm := tb.mono hm fm le
      have := Int.mul_le_mul_of_nonneg_right tm (Int.le_of_lt wp1)
      rw [b, a] at *
      have e : T B r2 * r2.w = r2.w * T B r2 := Int.mul_comm _ _
      omega
structure Lv (B P l0 l1 : Int) (rs : List Rw) : Prop where
  pos : 0 < l1
  has : S B l0 l1 rs = P * l1
  more : ∀ m0 m1 : Int, m0 * l1 < l0 * m1 → P * m1 < S B m0 m1 rs
theorem Lp.ends {B P tops ws l0 l1 : Int} {rs : List Rw} {i : Nat} (tb : Tab B rs) (l : Lp B P rs i tops ws) (h0 : 0 < i) (stop : i = rs.length ∨ ∃ r, rs[rs.length - 1 - i]? = some r ∧ i < rs.length ∧ T B r * ws ≤ tops)
    (hl : 0 < l1) (hc : l0 * (ws * B) = tops * l1) : Lv B P l0 l1 rs := by
  have wp := l.ws_pos tb h0
  have e : rs = rs.take (rs.length - i) ++ rs.drop (rs.length - i) := (List.take_append_drop _ _).symm
  have lo : ∀ r ∈ rs.take (rs.length - i), T B r * ws ≤ tops := by
    rcases stop with z | ⟨r, hr, hi, ht⟩
    · subst z
      simp
    · intro x hx
      obtain ⟨j, hj, ex⟩ := List.mem_iff_getElem.mp hx
      rw [List.length_take] at hj
      rw [List.getElem_take] at ex
      have hk : rs.length - 1 - i < rs.length := by omega
      rw [List.getElem?_eq_getElem hk] at hr
      have er := Option.some.inj hr
      have tm : T B x ≤ T B r := by
        by_cases ej : j = rs.length - 1 - i
        · subst ej
          rw [← ex, ← er]
          exact Int.le_refl _
        · have le := List.pairwise_iff_getElem.mp tb.so j (rs.length - 1 - i) (by omega) hk (by omega)
          rw [ex, er] at le
          exact tb.mono (by rw [← ex]; exact List.getElem_mem _) (by rw [← er]; exact List.getElem_mem _) le
      have := Int.mul_le_mul_of_nonneg_right tm (Int.le_of_lt wp)
      omega
  refine ⟨hl, ?_, fun m0 m1 lt => ?_⟩
  · rw [e]
    exact level_has wp hl hc l.ew l.et (l.hi h0) lo
  · rw [e]
    exact lower_more tb.cm.pos wp hl hc l.ew l.et (fun r hr => by rw [← e] at hr; have := tb.w r hr; omega) lt
theorem Lp.zero {B tops ws : Int} {rs : List Rw} {i : Nat} (tb : Tab B rs) (fr : ∀ r ∈ rs, Fr.IsFr r.t r.b) (l : Lp B 0 rs i tops ws) (h0 : 0 < i) : ∃ r, rs[rs.length - 1]? = some r ∧ (Fr.sh tops (ws * B)) = (r.t, r.b) := by
  have k := l.z rfl
  have z : i = 1 := by omega
  subst z
  have hle := l.le
  obtain ⟨r2, f1, f2, fm⟩ := drop_next (rs := rs) (i := 0) (by omega)
  have f3 : rs.drop (rs.length - 1) = [r2] := by
    have : rs.drop (rs.length - 0) = [] := by simp
    rw [f2, this]
  have a := l.ew
  have b := l.et
  rw [f3] at a b
  simp [W] at a
  simp [WT] at b
  have hw := tb.w r2 fm
  have hB := tb.cm.pos
  have hb := (tb.cm.dv r2 fm).1
  refine ⟨r2, by simpa using f1, ?_⟩
  have ne : ws * B ≠ 0 := Int.ne_of_gt (Int.mul_pos (by omega) hB)
  have cr := Fr.sh_cross tops (ws * B)
  have tm := T_mul hb hB (tb.cm.dv r2 fm).2
  have ok := Fr.sh_ok (t := tops) ne
  have q : (Fr.sh tops (ws * B)).1 * r2.b = r2.t * (Fr.sh tops (ws * B)).2 := by
    generalize (Fr.sh tops (ws * B)).1 = x at *
    generalize (Fr.sh tops (ws * B)).2 = y at *
    rw [a, b] at cr
    have : (r2.w * B) * (x * r2.b) = (r2.w * B) * (r2.t * y) := by grind
    exact Int.eq_of_mul_eq_mul_left (Int.ne_of_gt (Int.mul_pos (by omega) hB)) this
  obtain ⟨u1, u2⟩ := Fr.unique ok (fr r2 fm) q
  exact Prod.ext u1 u2
end Tb
namespace Tb
def Wt (ps : List Rw) (t b : Int) : Int := (ps.map fun r => if r.t = t ∧ r.b = b then r.w else 0).sum
def Has (ps : List Rw) (t b : Int) : Prop := ∃ p ∈ ps, p.t = t ∧ p.b = b
def Lt (x y : Rw) : Prop := x.t * y.b < y.t * x.b
structure IsTab (ps ys : List Rw) : Prop where
  lt : ys.Pairwise Lt
  fr : ∀ y ∈ ys, Fr.IsFr y.t y.b
  has : ∀ t b, Has ys t b ↔ Has ps t b
  d : ∃ d, 0 < d ∧ ∀ y ∈ ys, Wt ps y.t y.b = y.w * d
  one : ∀ e : Int, (∀ y ∈ ys, e ∣ y.w) → e ∣ 1
theorem Wt_nil (t b : Int) : Wt [] t b = 0 := rfl
theorem Wt_cons (r : Rw) (ps : List Rw) (t b : Int) : Wt (r :: ps) t b = (if r.t = t ∧ r.b = b then r.w else 0) + Wt ps t b := by simp [Wt]
theorem Wt_append (ps qs : List Rw) (t b : Int) : Wt (ps ++ qs) t b = Wt ps t b + Wt qs t b := by simp [Wt]
theorem Has_append {ps qs : List Rw} {t b : Int} : Has (ps ++ qs) t b ↔ Has ps t b ∨ Has qs t b := by
  constructor
  · rintro ⟨p, hp, e⟩
    rcases List.mem_append.mp hp with z | z
    · exact .inl ⟨p, z, e⟩
    · exact .inr ⟨p, z, e⟩
  · rintro (⟨p, hp, e⟩ | ⟨p, hp, e⟩)
    · exact ⟨p, List.mem_append_left _ hp, e⟩
    · exact ⟨p, List.mem_append_right _ hp, e⟩
theorem Has_cons {r : Rw} {ps : List Rw} {t b : Int} : Has (r :: ps) t b ↔ (r.t = t ∧ r.b = b) ∨ Has ps t b := by
  constructor
  · rintro ⟨p, hp, e⟩
    rcases List.mem_cons.mp hp with z | z
    · subst z; exact .inl e
    · exact .inr ⟨p, z, e⟩
  · rintro (e | ⟨p, hp, e⟩)
    · exact ⟨r, List.mem_cons_self, e⟩
    · exact ⟨p, List.mem_cons_of_mem _ hp, e⟩
theorem Has_nil {t b : Int} : ¬ Has [] t b := by rintro ⟨p, hp, _⟩; cases hp
theorem Wt_zero : ∀ {ps : List Rw} {t b : Int}, ¬ Has ps t b → Wt ps t b = 0
  | [], _, _, _ => rfl
  | r :: ps, t, b, h => by
    rw [Wt_cons, if_neg fun e => h (Has_cons.mpr (.inl e)), Wt_zero fun e => h (Has_cons.mpr (.inr e))]
    rfl
theorem Wt_nn : ∀ {ps : List Rw} (t b : Int), (∀ r ∈ ps, 1 ≤ r.w) → 0 ≤ Wt ps t b
  | [], _, _, _ => Int.le_refl 0
  | r :: ps, t, b, h => by
    have := Wt_nn t b fun x hx => h x (List.mem_cons_of_mem _ hx)
    have hr := h r List.mem_cons_self
    rw [Wt_cons]
    split <;> omega
theorem Wt_pos : ∀ {ps : List Rw} {t b : Int}, (∀ r ∈ ps, 1 ≤ r.w) → Has ps t b → 1 ≤ Wt ps t b
  | [], _, _, _, h => absurd h Has_nil
  | r :: ps, t, b, h, q => by
    have hr := h r List.mem_cons_self
    have hn := Wt_nn t b fun x hx => h x (List.mem_cons_of_mem _ hx)
    rw [Wt_cons]
    split
    · omega
    · rename_i ne
      rcases Has_cons.mp q with z | z
      · exact absurd z ne
      · have := Wt_pos (fun x hx => h x (List.mem_cons_of_mem _ hx)) z
        omega
theorem Wt_le : ∀ {ps : List Rw} (t b : Int), (∀ r ∈ ps, 1 ≤ r.w) → Wt ps t b ≤ W ps
  | [], _, _, _ => Int.le_refl 0
  | r :: ps, t, b, h => by
    have hr := h r List.mem_cons_self
    have := Wt_le t b fun x hx => h x (List.mem_cons_of_mem _ hx)
    rw [Wt_cons, W_cons]
    split <;> omega
theorem Lt_irr {x y : Rw} (h : Lt x y) (e1 : x.t = y.t) (e2 : x.b = y.b) : False := by
  unfold Lt at h
  rw [e1, e2] at h
  omega
theorem key_mono {t b u c m : Int} (hb : 0 < b) (hc : 0 < c) (bm : b ≤ m) (cm : c ≤ m) (lt : t * c < u * b) : (t * (m * m)).fdiv b < (u * (m * m)).fdiv c := by
  have hm : 0 < m := by omega
  rw [Int.fdiv_eq_ediv_of_nonneg _ (Int.le_of_lt hb), Int.fdiv_eq_ediv_of_nonneg _ (Int.le_of_lt hc)]
  have k1 : (t * (m * m)) / b * b ≤ t * (m * m) := Int.ediv_mul_le _ (Int.ne_of_gt hb)
  have hbc : b * c ≤ m * m := Int.mul_le_mul bm cm (Int.le_of_lt hc) (Int.le_of_lt hm)
  have h1 : (t * c + 1) * (m * m) ≤ u * b * (m * m) := Int.mul_le_mul_of_nonneg_right (by omega) (Int.le_of_lt (Int.mul_pos hm hm))
  suffices h : (t * (m * m)) / b + 1 ≤ (u * (m * m)) / c by omega
  refine (Int.le_ediv_iff_mul_le hc).mpr ?_
  have h2 : b * (((t * (m * m)) / b + 1) * c) ≤ b * (u * (m * m)) := by
    have e1 : b * (((t * (m * m)) / b + 1) * c) = c * ((t * (m * m)) / b * b) + b * c := by grind
    have e2 : b * (u * (m * m)) = u * b * (m * m) := by grind
    have e3 : (t * c + 1) * (m * m) = c * (t * (m * m)) + m * m := by grind
    have h3 := Int.mul_le_mul_of_nonneg_left k1 (Int.le_of_lt hc)
    omega
  exact Int.le_of_mul_le_mul_left h2 hb
def gcdL (ns : List Int) : Int := ns.foldl (fun d n => ((Int.gcd d n : Nat) : Int)) 0
theorem gcdL_snoc (ns : List Int) (n : Int) : gcdL (ns ++ [n]) = ((Int.gcd (gcdL ns) n : Nat) : Int) := by unfold gcdL; rw [List.foldl_append]; rfl
theorem gcd_fold : ∀ (ns : List Int) (d : Int), (ns.foldl (fun d n => ((Int.gcd d n : Nat) : Int)) d ∣ d) ∧ (∀ n ∈ ns, ns.foldl (fun d n => ((Int.gcd d n : Nat) : Int)) d ∣ n) ∧ ∀ e : Int, e ∣ d → (∀ n ∈ ns, e ∣ n) → e ∣ ns.foldl (fun d n => ((Int.gcd d n : Nat) : Int)) d
  | [], d => ⟨Int.dvd_refl d, (fun _ h => nomatch h), fun e h _ => h⟩
  | n :: ns, d => by
    obtain ⟨a, b, c⟩ := gcd_fold ns ((Int.gcd d n : Nat) : Int)
    refine ⟨Int.dvd_trans a (Int.gcd_dvd_left d n), fun k hk => ?_, fun e he hn => c e (Int.dvd_coe_gcd he (hn n List.mem_cons_self)) fun k hk => hn k (List.mem_cons_of_mem _ hk)⟩
    rcases List.mem_cons.mp hk with z | z
    · subst z; exact Int.dvd_trans a (Int.gcd_dvd_right d k)
    · exact b k z
theorem gcdL_dvd {ns : List Int} {n : Int} (h : n ∈ ns) : gcdL ns ∣ n := (gcd_fold ns 0).2.1 n h
theorem gcdL_great {ns : List Int} {e : Int} (h : ∀ n ∈ ns, e ∣ n) : e ∣ gcdL ns := (gcd_fold ns 0).2.2 e (Int.dvd_zero e) h
theorem gcdL_nn : ∀ (ns : List Int) (d : Int), 0 ≤ d → 0 ≤ ns.foldl (fun d n => ((Int.gcd d n : Nat) : Int)) d
  | [], _, h => h
  | n :: ns, d, _ => gcdL_nn ns _ (Int.natCast_nonneg _)
theorem gcdL_pos {ns : List Int} {n : Int} (h : n ∈ ns) (hn : 1 ≤ n) : 0 < gcdL ns := by
  have h0 : 0 ≤ gcdL ns := gcdL_nn ns 0 (Int.le_refl 0)
  rcases (by omega : 0 < gcdL ns ∨ gcdL ns = 0) with z | z
  · exact z
  · have := gcdL_dvd h
    rw [z] at this
    have := Int.zero_dvd.mp this
    omega
end Tb
set_option maxHeartbeats 4000000
namespace TD
open PySem L2
open Builtin.Int (intBits)
structure Row where
  p : Addr
  q : Addr
  t : Int
  b : Int
  w : Int
def Row.r (x : Row) : Tb.Rw := ⟨x.t, x.b, x.w⟩
def RowAt (H : Hp) (x : Row) : Prop := H x.p = some (.tup [.ref x.q, .int x.w]) ∧ H x.q = some (.tup [.int x.t, .int x.b])
def refs (xs : List Row) : List V := xs.map fun x => V.ref x.p
structure TabAt (H : Hp) (a : Addr) (xs : List Row) : Prop where
  lst : H a = some (.lst (refs xs))
  rows : ∀ x ∈ xs, RowAt H x
def rws (xs : List Row) : List Tb.Rw := xs.map Row.r
theorem RowAt.same {H H' : Hp} {x : Row} (s : Same H H') (h : RowAt H x) : RowAt H' x := ⟨s _ _ h.1, s _ _ h.2⟩
theorem TabAt.same {H H' : Hp} {a : Addr} {xs : List Row} (s : Same H H') (h : TabAt H a xs) : TabAt H' a xs := ⟨s _ _ h.lst, fun x hx => (h.rows x hx).same s⟩
theorem refs_length (xs : List Row) : (refs xs).length = xs.length := List.length_map _
theorem rws_length (xs : List Row) : (rws xs).length = xs.length := List.length_map _
theorem refs_at {xs : List Row} {i : Nat} {v : V} (h : (refs xs)[i]? = some v) : ∃ x, xs[i]? = some x ∧ v = .ref x.p := by
  unfold refs at h
  rw [List.getElem?_map] at h
  cases e : xs[i]? with
  | none => rw [e] at h; cases h
  | some x => rw [e] at h; cases h; exact ⟨x, rfl, rfl⟩
theorem refs_snoc (xs : List Row) (y : Row) : refs (xs ++ [y]) = refs xs ++ [V.ref y.p] := by unfold refs; rw [List.map_append]; rfl
theorem rws_snoc (xs : List Row) (y : Row) : rws (xs ++ [y]) = rws xs ++ [y.r] := by unfold rws; rw [List.map_append]; rfl
theorem rws_append (xs ys : List Row) : rws (xs ++ ys) = rws xs ++ rws ys := by unfold rws; rw [List.map_append]
theorem take_snoc {α : Type} {xs : List α} {i : Nat} {x : α} (h : xs[i]? = some x) : xs.take (i + 1) = xs.take i ++ [x] := by
  rw [List.take_add_one, h]
  rfl
theorem RowAt.over {H : Hp} {a : Addr} {xs zs : List V} {x : Row} (h : RowAt H x) (e : H a = some (.lst xs)) : RowAt (upd H a (.lst zs)) x :=
  ⟨by rw [upd_ne (ne_of h.1 e fun z => nomatch z)]; exact h.1, by rw [upd_ne (ne_of h.2 e fun z => nomatch z)]; exact h.2⟩
theorem sz1 : 1 ≤ sizeLine := Nat.le_of_lt (small1000 (by decide))
theorem sz2 : 2 ≤ sizeLine := Nat.le_of_lt (small1000 (by decide))
theorem sz3 : 3 ≤ sizeLine := Nat.le_of_lt (small1000 (by decide))
theorem mulOk {m n : Nat} {x y : Int} (hx : intBits x ≤ m) (hy : intBits y ≤ n) (h : m + n ≤ 134217728) : CMulB x y := Nat.le_trans (Nat.add_le_add hx hy) h
theorem kit_same {K : PySem.W.Frag} (T : String) : PySem.W.kitOne K (.type T) (.type T) = some true := by
  unfold PySem.W.kitOne
  rw [if_pos (beq_self_eq_true _)]
theorem kit_int_bool {K : PySem.W.Frag} : PySem.W.kitOne K (.type "int") (.type "bool") = some false := by rfl
structure Rs where
  q : Addr
  t : Int
  b : Int
def rrefs (rs : List Rs) : List V := rs.map fun r => V.ref r.q
def LtR (x y : Rs) : Prop := x.t * y.b < y.t * x.b
def LeR (x y : Rs) : Prop := x.t * y.b ≤ y.t * x.b
def keyR (r : Rs) : List Key := [.inl r.t, .inl r.b]
def RsAt (H : Hp) (r : Rs) : Prop := H r.q = some (.tup [.int r.t, .int r.b])
theorem rrefs_length (rs : List Rs) : (rrefs rs).length = rs.length := List.length_map _
theorem rrefs_q (rs : List Rs) : rrefs rs = (rs.map (·.q)).map V.ref := by unfold rrefs; rw [List.map_map]; rfl
theorem rrefs_at {rs : List Rs} {i : Nat} {v : V} (h : (rrefs rs)[i]? = some v) : ∃ x, rs[i]? = some x ∧ v = .ref x.q := by
  unfold rrefs at h
  rw [List.getElem?_map] at h
  cases e : rs[i]? with
  | none => rw [e] at h; cases h
  | some x => rw [e] at h; cases h; exact ⟨x, rfl, rfl⟩
theorem keyR_eq {x : Rs} {t b : Int} : keyR x = [.inl t, .inl b] ↔ x.t = t ∧ x.b = b := by
  unfold keyR
  constructor
  · intro h
    injection h with h1 h2
    injection h2 with h2 _
    injection h1 with h1
    injection h2 with h2
    exact ⟨h1, h2⟩
  · rintro ⟨rfl, rfl⟩; rfl
theorem le_lt {x y : Rs} (fx : Fr.IsFr x.t x.b) (fy : Fr.IsFr y.t y.b) (h : LeR x y) (ne : keyR x ≠ keyR y) : LtR x y := by
  unfold LeR at h
  unfold LtR
  rcases (by omega : x.t * y.b < y.t * x.b ∨ x.t * y.b = y.t * x.b) with z | z
  · exact z
  · obtain ⟨e1, e2⟩ := Fr.unique fx fy z
    exact absurd (keyR_eq.mpr ⟨e1, e2⟩) ne
structure Dk (ps : List Tb.Rw) (kvs : List (List Key × V)) : Prop where
  nd : (kvs.map (·.1)).Nodup
  en : ∀ kv ∈ kvs, ∃ t b, kv = ([.inl t, .inl b], .int (Tb.Wt ps t b)) ∧ Tb.Has ps t b
  all : ∀ t b, Tb.Has ps t b → ([Sum.inl t, Sum.inl b] : List Key) ∈ kvs.map (·.1)
theorem Dk.nil : Dk [] [] := ⟨List.nodup_nil, (fun _ h => nomatch h), fun t b h => absurd h Tb.Has_nil⟩
theorem valV_mem {kvs : List (List Key × V)} {k : List Key} {v : V} (h : valV kvs k = some v) : (k, v) ∈ kvs := by
  unfold valV at h
  cases e : kvs.find? fun kv => decide (kv.1 = k) with
  | none => rw [e] at h; cases h
  | some kv =>
    rw [e] at h
    have h1 : kv.2 = v := Option.some.inj h
    have h2 := List.find?_some e
    have h3 : kv.1 = k := of_decide_eq_true h2
    rw [← h1, ← h3]
    exact List.mem_of_find?_eq_some e
theorem key_inj {t b t' b' : Int} (h : ([Sum.inl t, Sum.inl b] : List Key) = [.inl t', .inl b']) : t = t' ∧ b = b' := by
  injection h with h1 h2
  injection h2 with h2 _
  injection h1 with h1
  injection h2 with h2
  exact ⟨h1, h2⟩
theorem Dk.val {ps : List Tb.Rw} {kvs : List (List Key × V)} (d : Dk ps kvs) {t b : Int} (h : Tb.Has ps t b) : valV kvs [.inl t, .inl b] = some (.int (Tb.Wt ps t b)) := by
  cases e : valV kvs [.inl t, .inl b] with
  | none => exact absurd (d.all t b h) (valV_not e)
  | some v =>
    obtain ⟨t', b', e2, _⟩ := d.en _ (valV_mem e)
    injection e2 with e3 e4
    obtain ⟨rfl, rfl⟩ := key_inj e3
    rw [e4]
theorem Dk.get {ps : List Tb.Rw} {kvs : List (List Key × V)} (d : Dk ps kvs) (t b : Int) : (valV kvs [.inl t, .inl b]).getD (.int 0) = .int (Tb.Wt ps t b) := by
  by_cases h : Tb.Has ps t b
  · rw [d.val h]; rfl
  · cases e : valV kvs [.inl t, .inl b] with
    | none => rw [Tb.Wt_zero h]; rfl
    | some v =>
      obtain ⟨t', b', e2, h2⟩ := d.en _ (valV_mem e)
      injection e2 with e3 e4
      obtain ⟨rfl, rfl⟩ := key_inj e3
      exact absurd h2 h
theorem putK_mem {kvs : List (List Key × V)} {k : List Key} {v : V} {kv : List Key × V} (h : kv ∈ putK kvs k v) : kv = (k, v) ∨ (kv ∈ kvs ∧ kv.1 ≠ k) := by
  unfold putK at h
  split at h
  · obtain ⟨x, hx, e⟩ := List.mem_map.mp h
    split at e
    · rename_i ek
      left
      rw [← e, ek]
    · rename_i ek
      right
      rw [← e]
      exact ⟨hx, ek⟩
  · rename_i na
    rcases List.mem_append.mp h with z | z
    · right
      refine ⟨z, fun ek => na ?_⟩
      exact List.any_eq_true.mpr ⟨kv, z, decide_eq_true ek⟩
    · exact .inl (by simpa using z)
theorem putK_keys {kvs : List (List Key × V)} {k : List Key} {v : V} : (putK kvs k v).map (·.1) = if (kvs.any fun kv => decide (kv.1 = k)) = true then kvs.map (·.1) else kvs.map (·.1) ++ [k] := by
  unfold putK
  split
  · rw [List.map_map]
    refine List.map_congr_left fun x _ => ?_
    show (if x.1 = k then (x.1, v) else x).1 = x.1
    split <;> rfl
  · rw [List.map_append]; rfl
theorem Dk.put {ps : List Tb.Rw} {kvs : List (List Key × V)} (d : Dk ps kvs) (x : Tb.Rw) : Dk (ps ++ [x]) (putK kvs [.inl x.t, .inl x.b] (.int (Tb.Wt ps x.t x.b + x.w))) := by
  have hx : ∀ t b, Tb.Wt [x] t b = if x.t = t ∧ x.b = b then x.w else 0 := fun t b => by rw [Tb.Wt_cons, Tb.Wt_nil, Int.add_zero]
  refine ⟨?_, fun kv hkv => ?_, fun t b h => ?_⟩
  · rw [putK_keys]
    split
    · exact d.nd
    · rename_i na
      refine List.nodup_append.mpr ⟨d.nd, List.nodup_cons.mpr ⟨List.not_mem_nil, List.nodup_nil⟩, fun y hy z hz => ?_⟩
      rw [List.mem_singleton.mp hz]
      rintro rfl
      obtain ⟨kv, hkv, e⟩ := List.mem_map.mp hy
      exact na (List.any_eq_true.mpr ⟨kv, hkv, decide_eq_true e⟩)
  · rcases putK_mem hkv with z | ⟨z, ne⟩
    · refine ⟨x.t, x.b, ?_, Tb.Has_append.mpr (.inr ⟨x, List.mem_cons_self, rfl, rfl⟩)⟩
      rw [z, Tb.Wt_append, hx, if_pos ⟨rfl, rfl⟩]
    · obtain ⟨t, b, e, h⟩ := d.en kv z
      refine ⟨t, b, ?_, Tb.Has_append.mpr (.inl h)⟩
      rw [Tb.Wt_append, hx, if_neg ?_, Int.add_zero]
      · exact e
      · rintro ⟨rfl, rfl⟩
        exact ne (by rw [e])
  · rw [putK_keys]
    have key : ([Sum.inl t, Sum.inl b] : List Key) ∈ kvs.map (·.1) ∨ ([Sum.inl t, Sum.inl b] : List Key) = [.inl x.t, .inl x.b] := by
      rcases Tb.Has_append.mp h with z | ⟨p, hp, e1, e2⟩
      · exact .inl (d.all t b z)
      · right
        rw [List.mem_singleton.mp hp] at e1 e2
        rw [e1, e2]
    split
    · rename_i ya
      rcases key with z | z
      · exact z
      · obtain ⟨kv, hkv, e⟩ := List.any_eq_true.mp ya
        rw [z, ← of_decide_eq_true e]
        exact List.mem_map.mpr ⟨kv, hkv, rfl⟩
    · rcases key with z | z
      · exact List.mem_append_left _ z
      · rw [z]; exact List.mem_append_right _ (.head _)
def wOf (kv : List Key × V) : Int := match kv.2 with | .int w => w | _ => 0
def divOf (kvs : List (List Key × V)) : Int := Tb.gcdL (kvs.map wOf)
theorem Dk.wOf {ps : List Tb.Rw} {kvs : List (List Key × V)} (d : Dk ps kvs) {t b : Int} (h : Tb.Has ps t b) : Tb.Wt ps t b ∈ kvs.map TD.wOf := by
  have m := valV_mem (d.val h)
  exact List.mem_map.mpr ⟨_, m, rfl⟩
theorem Dk.ne {ps : List Tb.Rw} {kvs : List (List Key × V)} (d : Dk ps kvs) (h : ps ≠ []) : kvs ≠ [] := by
  cases ps with
  | nil => exact absurd rfl h
  | cons p ps =>
    intro e
    have := d.all p.t p.b (Tb.Has_cons.mpr (.inl ⟨rfl, rfl⟩))
    rw [e] at this
    cases this
theorem Dk.div_pos {ps : List Tb.Rw} {kvs : List (List Key × V)} (d : Dk ps kvs) (h : ps ≠ []) (hw : ∀ p ∈ ps, 1 ≤ p.w) : 0 < divOf kvs := by
  cases ps with
  | nil => exact absurd rfl h
  | cons p ps =>
    have hp : Tb.Has (p :: ps) p.t p.b := Tb.Has_cons.mpr (.inl ⟨rfl, rfl⟩)
    exact Tb.gcdL_pos (d.wOf hp) (Tb.Wt_pos hw hp)
theorem part_by {w d : Int} (hd : 0 < d) (hw : 1 ≤ w) (h : d ∣ w) : w = w.fdiv d * d ∧ 1 ≤ w.fdiv d ∧ w.fdiv d ≤ w := by
  obtain ⟨c, e⟩ := h
  have ec : w.fdiv d = c := by
    have h := Int.mul_fdiv_cancel_left (a := d) c (Int.ne_of_gt hd)
    rw [← e] at h
    exact h
  rw [ec]
  have cp : 0 < c := by
    rcases (by omega : 0 < c ∨ c ≤ 0) with z | z
    · exact z
    · have := Int.mul_nonpos_of_nonneg_of_nonpos (Int.le_of_lt hd) z
      omega
  have := Int.mul_le_mul_of_nonneg_right (show (1 : Int) ≤ d by omega) (Int.le_of_lt cp)
  refine ⟨by rw [e, Int.mul_comm], by omega, by omega⟩
theorem mk_tab {ps : List Tb.Rw} {kvs : List (List Key × V)} {rs : List Rs} {ys : List Row} (d : Dk ps kvs) (hw : ∀ p ∈ ps, 1 ≤ p.w) (hf : ∀ p ∈ ps, Fr.IsFr p.t p.b) (hne : ps ≠ []) (pr : (rs.map keyR).Perm (kvs.map (·.1))) (so : rs.Pairwise LtR)
    (ey : ys.map (fun y => Rs.mk y.q y.t y.b) = rs) (yw : ∀ y ∈ ys, y.w = (Tb.Wt ps y.t y.b).fdiv (divOf kvs)) : Tb.IsTab ps (rws ys) ∧ ∀ y ∈ ys, 1 ≤ y.w ∧ y.w ≤ Tb.Wt ps y.t y.b := by
  have dp := d.div_pos hne hw
  have yk : ∀ y ∈ ys, Tb.Has ps y.t y.b := fun y hy => by
    have h1 : keyR (Rs.mk y.q y.t y.b) ∈ rs.map keyR := by
      rw [← ey]
      exact List.mem_map.mpr ⟨_, List.mem_map.mpr ⟨y, hy, rfl⟩, rfl⟩
    obtain ⟨kv, hkv, e⟩ := List.mem_map.mp (pr.mem_iff.mp h1)
    obtain ⟨t, b, e2, h⟩ := d.en kv hkv
    rw [e2] at e
    obtain ⟨e3, e4⟩ := keyR_eq.mp e.symm
    have e3 : y.t = t := e3
    have e4 : y.b = b := e4
    rw [e3, e4]
    exact h
  have pb : ∀ y ∈ ys, Tb.Wt ps y.t y.b = y.w * divOf kvs ∧ 1 ≤ y.w ∧ y.w ≤ Tb.Wt ps y.t y.b := fun y hy => by
    rw [yw y hy]
    exact part_by dp (Tb.Wt_pos hw (yk y hy)) (Tb.gcdL_dvd (d.wOf (yk y hy)))
  have back : ∀ t b, Tb.Has ps t b → ∃ y ∈ ys, y.t = t ∧ y.b = b := fun t b h => by
    obtain ⟨r, hr, e⟩ := List.mem_map.mp (pr.mem_iff.mpr (d.all t b h))
    rw [← ey] at hr
    obtain ⟨y, hy, rfl⟩ := List.mem_map.mp hr
    exact ⟨y, hy, keyR_eq.mp e⟩
  refine ⟨⟨?_, fun y hy => ?_, fun t b => ?_, ⟨divOf kvs, dp, fun y hy => ?_⟩, fun e he => ?_⟩, fun y hy => (pb y hy).2⟩
  · have h : (ys.map fun y => Rs.mk y.q y.t y.b).Pairwise LtR := by rw [ey]; exact so
    unfold rws
    rw [List.pairwise_map] at h ⊢
    exact h
  · obtain ⟨z, hz, rfl⟩ := List.mem_map.mp hy
    obtain ⟨p, hp, e1, e2⟩ := yk z hz
    have := hf p hp
    rw [e1, e2] at this
    exact this
  · constructor
    · rintro ⟨y, hy, rfl, rfl⟩
      obtain ⟨z, hz, rfl⟩ := List.mem_map.mp hy
      exact yk z hz
    · intro h
      obtain ⟨y, hy, e1, e2⟩ := back t b h
      exact ⟨y.r, List.mem_map.mpr ⟨y, hy, rfl⟩, e1, e2⟩
  · obtain ⟨z, hz, rfl⟩ := List.mem_map.mp hy
    exact (pb z hz).1
  · have g : e * divOf kvs ∣ divOf kvs := by
      refine Tb.gcdL_great fun n hn => ?_
      obtain ⟨kv, hkv, rfl⟩ := List.mem_map.mp hn
      obtain ⟨t, b, e2, h⟩ := d.en kv hkv
      obtain ⟨y, hy, rfl, rfl⟩ := back t b h
      have q := (pb y hy).1
      have q2 := he y.r (List.mem_map.mpr ⟨y, hy, rfl⟩)
      rw [e2]
      show e * divOf kvs ∣ Tb.Wt ps y.t y.b
      rw [q]
      exact Int.mul_dvd_mul_right _ q2
    have g2 : e * divOf kvs ∣ 1 * divOf kvs := by rw [Int.one_mul]; exact g
    exact Int.dvd_of_mul_dvd_mul_right (Int.ne_of_gt dp) g2
theorem perm_lift {α β : Type} {f : α → β} : ∀ {x m : List β}, x.Perm m → ∀ l : List α, x = l.map f → ∃ l' : List α, l'.Perm l ∧ m = l'.map f := by
  intro x m h
  induction h with
  | nil => intro l e; exact ⟨l, .refl _, e⟩
  | cons a p ih =>
    intro l e
    cases l with
    | nil => cases e
    | cons b l =>
      injection e with e1 e2
      obtain ⟨l', p', e'⟩ := ih l e2
      exact ⟨b :: l', p'.cons b, by rw [List.map_cons, ← e1, ← e']⟩
  | swap a b t =>
    intro l e
    match l, e with
    | c :: d :: l, e =>
      injection e with e1 e2
      injection e2 with e2 e3
      exact ⟨d :: c :: l, .swap .., by rw [List.map_cons, List.map_cons, ← e1, ← e2, ← e3]⟩
  | trans p q ih1 ih2 =>
    intro l e
    obtain ⟨l1, p1, e1⟩ := ih1 l e
    obtain ⟨l2, p2, e2⟩ := ih2 l1 e1
    exact ⟨l2, p2.trans p1, e2⟩
def keyN (m : Int) (r : Rs) : Int := (r.t * (m * m)).fdiv r.b
theorem zip_keys {β : Type} (f : Rs → β) (g : Rs → Addr) : ∀ rs : List Rs, (rs.map f).zip (rs.map g) = rs.map fun r => (f r, g r)
  | [] => rfl
  | r :: rs => by simp [zip_keys f g rs]
theorem rise_of {m : Int} {rs : List Rs} {ps : List (Int × Addr)} (hp : ps.Perm ((rs.map (keyN m)).zip (rs.map (·.q)))) (hs : ps.Pairwise fun p q => p.1 ≤ q.1) (nd : (rs.map keyR).Nodup) (fr : ∀ r ∈ rs, Fr.IsFr r.t r.b) (hm : ∀ r ∈ rs, r.b ≤ m) :
    ∃ rs' : List Rs, rs'.Perm rs ∧ ps.map (fun p => V.ref p.2) = rrefs rs' ∧ rs'.Pairwise LtR := by
  rw [zip_keys] at hp
  obtain ⟨rs', p', e⟩ := perm_lift hp.symm rs rfl
  refine ⟨rs', p', ?_, ?_⟩
  · rw [e, List.map_map]; rfl
  · have nd' : (rs'.map keyR).Nodup := (p'.map keyR).nodup_iff.mpr nd
    rw [e, List.pairwise_map] at hs
    have nd2 : rs'.Pairwise fun x y => keyR x ≠ keyR y := List.pairwise_map.mp nd'
    refine (hs.and nd2).imp_of_mem fun {x y} hx hy h => ?_
    have fx := fr x (p'.mem_iff.mp hx)
    have fy := fr y (p'.mem_iff.mp hy)
    refine le_lt fx fy ?_ h.2
    unfold LeR
    rcases (by omega : x.t * y.b ≤ y.t * x.b ∨ y.t * x.b < x.t * y.b) with z | z
    · exact z
    · have := Tb.key_mono fy.pos fx.pos (hm y (p'.mem_iff.mp hy)) (hm x (p'.mem_iff.mp hx)) z
      have h1 : keyN m x ≤ keyN m y := h.1
      unfold keyN at h1
      omega
end TD
namespace L2
open PySem PySem.Spec PyProof.Rows
end L2
namespace TD
open PySem L2
open Builtin.Int (intBits)
def lcmStep (m n : Int) : Int := m * (n.fdiv ((Int.gcd m n : Nat) : Int))
def lcmL (ns : List Int) : Int := ns.foldl lcmStep 1
theorem lcmStep_ok {m n : Int} (hm : 0 < m) (hn : 0 < n) : 0 < lcmStep m n ∧ m ∣ lcmStep m n ∧ n ∣ lcmStep m n := by
  have hg : 0 < ((Int.gcd m n : Nat) : Int) := by have := Int.gcd_pos_of_ne_zero_right m (Int.ne_of_gt hn); omega
  obtain ⟨c, hc⟩ := Int.gcd_dvd_right m n
  obtain ⟨d, hd⟩ := Int.gcd_dvd_left m n
  have e : n.fdiv ((Int.gcd m n : Nat) : Int) = c := by
    have h := Int.mul_fdiv_cancel_left (a := ((Int.gcd m n : Nat) : Int)) c (by omega)
    rw [← hc] at h
    exact h
  have cp : 0 < c := by
    rcases (by omega : 0 < c ∨ c ≤ 0) with z | z
    · exact z
    · have := Int.mul_nonpos_of_nonneg_of_nonpos (Int.le_of_lt hg) z
      omega
  unfold lcmStep
  rw [e]
  refine ⟨Int.mul_pos hm cp, ⟨c, rfl⟩, ⟨d, ?_⟩⟩
  generalize ((Int.gcd m n : Nat) : Int) = g at *
  rw [hc, hd]
  grind
theorem lcm_fold : ∀ (ns : List Int) (m : Int), 0 < m → (∀ n ∈ ns, 0 < n) → 0 < ns.foldl lcmStep m ∧ m ∣ ns.foldl lcmStep m ∧ ∀ n ∈ ns, n ∣ ns.foldl lcmStep m
  | [], m, hm, _ => ⟨hm, Int.dvd_refl m, fun _ h => nomatch h⟩
  | n :: ns, m, hm, h => by
    obtain ⟨a, b, c⟩ := lcmStep_ok hm (h n List.mem_cons_self)
    obtain ⟨x, y, z⟩ := lcm_fold ns (lcmStep m n) a fun k hk => h k (List.mem_cons_of_mem _ hk)
    refine ⟨x, Int.dvd_trans b y, fun k hk => ?_⟩
    rcases List.mem_cons.mp hk with e | e
    · subst e; exact Int.dvd_trans c y
    · exact z k e
theorem lcmL_ok {ns : List Int} (h : ∀ n ∈ ns, 0 < n) : 0 < lcmL ns ∧ ∀ n ∈ ns, n ∣ lcmL ns := by
  obtain ⟨a, _, c⟩ := lcm_fold ns 1 (by decide) h
  exact ⟨a, c⟩
theorem lcm_bits : ∀ (ns : List Int) (m : Int) (k : Nat), intBits m ≤ k → intBits (ns.foldl lcmStep m) ≤ k + (ns.map intBits).sum
  | [], m, k, h => by simpa using h
  | n :: ns, m, k, h => by
    have h1 : intBits (lcmStep m n) ≤ k + intBits n := PySem.intBits_mul_le h (PySem.intBits_fdiv_le (Nat.le_refl _))
    have := lcm_bits ns (lcmStep m n) _ h1
    simp only [List.map_cons, List.sum_cons]
    show intBits (ns.foldl lcmStep (lcmStep m n)) ≤ _
    omega
theorem lcmL_bits (ns : List Int) : intBits (lcmL ns) ≤ 1 + (ns.map intBits).sum := lcm_bits ns 1 1 (by decide)
theorem lcmL_snoc (ns : List Int) (n : Int) : lcmL (ns ++ [n]) = lcmStep (lcmL ns) n := by unfold lcmL; rw [List.foldl_append]; rfl
theorem sum_take_le (ns : List Int) (i : Nat) : ((ns.take i).map intBits).sum ≤ (ns.map intBits).sum := by
  have e : ns.map intBits = (ns.take i).map intBits ++ (ns.drop i).map intBits := by rw [← List.map_append, List.take_append_drop]
  rw [e, List.sum_append]
  omega
theorem sum_nat_le {k : Nat} : ∀ {l : List Nat}, (∀ n ∈ l, n ≤ k) → l.sum ≤ k * l.length
  | [], _ => by simp
  | n :: l, h => by
    have a := sum_nat_le (l := l) fun m hm => h m (List.mem_cons_of_mem _ hm)
    have b := h n List.mem_cons_self
    simp only [List.sum_cons, List.length_cons]
    rw [Nat.mul_add, Nat.mul_one]
    omega
def spCd : Sp := fun vs H Q _ => ∃ a b : Int, vs = [.int a, .int b] ∧ Q (.int ((Int.gcd a b : Nat) : Int)) H
def spShare : Sp := fun vs H Q _ => ∃ t b : Int, vs = [.int t, .int b] ∧ b ≠ 0 ∧ intBits b ≤ 9000 ∧ ∀ p H', Same H H' → H' p = some (.tup [.int (Fr.sh t b).1, .int (Fr.sh t b).2]) → Q (.ref p) H'
structure Sz (a b c d : Int) : Prop where
  a : intBits a ≤ 10000
  b : intBits b ≤ 10000
  c : intBits c ≤ 10000
  d : intBits d ≤ 10000
def spBelow (K : PySem.W.Frag) : Sp := fun vs H Q _ => ∃ p q a b c d, vs = [.ref p, .ref q] ∧ SqT K H p [.int a, .int b] ∧ SqT K H q [.int c, .int d] ∧ Sz a b c d ∧ Q (.bl (decide (a * d < c * b))) H
def spCM (K : PySem.W.Frag) : Sp := fun vs H Q _ => ∃ (a : Addr) (ns : List Int), vs = [.ref a] ∧ SqL K H a (ns.map V.int) ∧ (∀ n ∈ ns, 0 < n) ∧ (∀ n ∈ ns, intBits n ≤ 9000) ∧ (ns.map intBits).sum ≤ 200000 ∧ Q (.int (lcmL ns)) H
def wsum (xs : List Row) : Int := (xs.map Row.w).sum
def spAW : Sp := fun vs H Q _ => ∃ (a : Addr) (xs : List Row), vs = [.ref a] ∧ TabAt H a xs ∧ xs.length ≤ 1000 ∧ ∀ H', Same H H' → Q (.int (wsum xs)) H'
def lamQ : Str := ("rising" : Str) ++ ".<locals>." ++ "<lambda>"
def spRise (K : PySem.W.Frag) (P : Addr) (lp : Pos) : Sp := fun vs H Q _ => ∃ (a : Addr) (rs : List Rs), vs = [.ref a] ∧ SqL K H a (rrefs rs) ∧ rs ≠ [] ∧ rs.length < 64 ∧ (∀ r ∈ rs, RsAt H r ∧ Fr.IsFr r.t r.b ∧ intBits r.t ≤ 4000 ∧ intBits r.b ≤ 4000) ∧ (rs.map keyR).Nodup ∧ TbOk P lp lamQ H ∧
  ∀ (D : Addr) (H' : Hp) (rs' : List Rs), SameT P H H' → TbOk P lp lamQ H' → H' D = some (.lst (rrefs rs')) → rs'.Perm rs → rs'.Pairwise LtR → Q (.ref D) H'
def m300 : Int := 2 ^ 4000
def PB (xs : List Row) : Prop := ∀ x ∈ xs, Fr.IsFr x.t x.b ∧ intBits x.t ≤ 4000 ∧ intBits x.b ≤ 4000 ∧ 1 ≤ x.w ∧ x.w ≤ m300
structure Out (ps : List Tb.Rw) (ys : List Row) : Prop where
  tab : Tb.IsTab ps (rws ys)
  w : ∀ y ∈ ys, 1 ≤ y.w ∧ y.w ≤ Tb.Wt ps y.t y.b
def spForm (P : Addr) (lp : Pos) : Sp := fun vs H Q _ => ∃ (a : Addr) (xs : List Row), vs = [.ref a] ∧ TabAt H a xs ∧ xs ≠ [] ∧ xs.length < 64 ∧ PB xs ∧ TbOk P lp lamQ H ∧
  ∀ (r : Addr) (H' : Hp) (ys : List Row), SameT P H H' → TbOk P lp lamQ H' → H r = none → TabAt H' r ys → Out (rws xs) ys → ys.length ≤ xs.length → Q (.ref r) H'
theorem PB.ps {xs : List Row} (h : PB xs) : (∀ p ∈ rws xs, 1 ≤ p.w) ∧ ∀ p ∈ rws xs, Fr.IsFr p.t p.b := by
  refine ⟨fun p hp => ?_, fun p hp => ?_⟩ <;>
  · obtain ⟨x, hx, rfl⟩ := List.mem_map.mp hp
    first | exact (h x hx).2.2.2.1 | exact (h x hx).1
theorem wsum_W (xs : List Row) : wsum xs = Tb.W (rws xs) := by
  unfold wsum Tb.W rws
  rw [List.map_map]
  rfl
theorem W_le {m : Int} (hm : 0 ≤ m) : ∀ {ps : List Tb.Rw}, (∀ p ∈ ps, 1 ≤ p.w ∧ p.w ≤ m) → 0 ≤ Tb.W ps ∧ Tb.W ps ≤ m * (ps.length : Int)
  | [], _ => by simp [Tb.W]
  | p :: ps, h => by
    obtain ⟨a, b⟩ := W_le hm (ps := ps) fun y hy => h y (List.mem_cons_of_mem _ hy)
    obtain ⟨c, d⟩ := h p List.mem_cons_self
    have f : m * ((p :: ps).length : Int) = m + m * (ps.length : Int) := by rw [List.length_cons]; grind
    rw [Tb.W_cons]
    omega
theorem Out.key {ps : List Tb.Rw} {ys : List Row} (o : Out ps ys) {y : Row} (hy : y ∈ ys) : ∃ p ∈ ps, p.t = y.t ∧ p.b = y.b := (o.tab.has y.t y.b).mp ⟨y.r, List.mem_map.mpr ⟨y, hy, rfl⟩, rfl, rfl⟩
theorem Out.ne {ps : List Tb.Rw} {ys : List Row} (o : Out ps ys) (h : ps ≠ []) : ys ≠ [] := by
  rintro rfl
  cases ps with
  | nil => exact h rfl
  | cons p ps => exact Tb.Has_nil ((o.tab.has p.t p.b).mpr (Tb.Has_cons.mpr (.inl ⟨rfl, rfl⟩)))
theorem div_bits {ps : List Tb.Rw} {kvs : List (List Key × V)} (d : Dk ps kvs) (hne : ps ≠ []) (hw : ∀ p ∈ ps, 1 ≤ p.w ∧ p.w ≤ m300) (hl : ps.length ≤ 1000) : intBits (divOf kvs) ≤ 9000 := by
  have dp := d.div_pos hne fun p hp => (hw p hp).1
  cases ps with
  | nil => exact absurd rfl hne
  | cons p ps =>
    have hp : Tb.Has (p :: ps) p.t p.b := Tb.Has_cons.mpr (.inl ⟨rfl, rfl⟩)
    have w1 := Tb.Wt_pos (fun p hp => (hw p hp).1) hp
    have w2 := Tb.Wt_le p.t p.b (ps := p :: ps) fun p hp => (hw p hp).1
    have w3 := (W_le (by decide) hw).2
    have dv := Int.le_of_dvd (by omega) (Tb.gcdL_dvd (d.wOf hp))
    have dv : divOf kvs ≤ Tb.Wt (p :: ps) p.t p.b := dv
    refine PySem.intBits_le_iff.mpr ?_
    have e : m300 * (((p :: ps).length : Nat) : Int) ≤ m300 * 1000 := Int.mul_le_mul_of_nonneg_left (by omega) (by decide)
    have e2 : m300 * 1000 < ((2 ^ 9000 : Nat) : Int) := by decide +kernel
    omega
end TD
namespace Sd
structure Fq (t b N k : Int) : Prop where
  fr : Fr.IsFr t b
  dv : b ∣ N
  lo : -(k * b) ≤ t
  hi : t ≤ k * b
theorem mul_le_r {a b c : Int} (h : a ≤ b) (hc : 0 ≤ c) : a * c ≤ b * c := Int.mul_le_mul_of_nonneg_right h hc
theorem Fq.mono {t b N k N' k' : Int} (f : Fq t b N k) (h : N ∣ N') (hk : k ≤ k') : Fq t b N' k' := by
  have p := Int.le_of_lt f.fr.pos
  have e := mul_le_r hk p
  exact ⟨f.fr, Int.dvd_trans f.dv h, by have := f.lo; omega, by have := f.hi; omega⟩
theorem sh_dvd {t b u N : Int} (hb : 0 < b) (e : t * N = u * b) : (Fr.sh t b).2 ∣ N := by
  have hn : b ≠ 0 := Int.ne_of_gt hb
  have cr := Fr.sh_cross t b
  refine Fr.cop (a := (Fr.sh t b).1) (Fr.sh_red hn) ⟨u, ?_⟩
  have h : (Fr.sh t b).1 * N * b = (Fr.sh t b).2 * u * b := by
    have h1 : (Fr.sh t b).1 * N * b = ((Fr.sh t b).1 * b) * N := by grind
    have h2 : (Fr.sh t b).2 * u * b = (Fr.sh t b).2 * (u * b) := by grind
    rw [h1, h2, cr, ← e]
    grind
  exact Int.eq_of_mul_eq_mul_right hn h
theorem sh_fq {t b u N k : Int} (hb : 0 < b) (e : t * N = u * b) (lo : -(k * b) ≤ t) (hi : t ≤ k * b) : Fq (Fr.sh t b).1 (Fr.sh t b).2 N k := by
  have hn : b ≠ 0 := Int.ne_of_gt hb
  have cr := Fr.sh_cross t b
  have yp := Int.le_of_lt (Fr.sh_pos (t := t) hn)
  refine ⟨Fr.sh_ok hn, sh_dvd hb e, ?_, ?_⟩
  · have h := mul_le_r lo yp
    rw [← cr] at h
    refine Int.le_of_mul_le_mul_right (a := b) ?_ hb
    have : -(k * (Fr.sh t b).2) * b = -(k * b) * (Fr.sh t b).2 := by grind
    rw [this]
    exact h
  · have h := mul_le_r hi yp
    rw [← cr] at h
    refine Int.le_of_mul_le_mul_right (a := b) ?_ hb
    have : k * (Fr.sh t b).2 * b = k * b * (Fr.sh t b).2 := by grind
    rw [this]
    exact h
abbrev FQ (x : Int × Int) (N k : Int) : Prop := Fq x.1 x.2 N k
inductive Sd where
  | en (v : Int)
  | st (p : Int) (rs : List (Int × Sd))
inductive Ok : Sd → Nat → Nat → Prop
  | en {v : Int} {d m : Nat} (h0 : 0 ≤ v) (h9 : v ≤ 1000000000) (hm : 1 ≤ m) : Ok (.en v) d m
  | st {p : Int} {rs : List (Int × Sd)} {d m : Nat} {f : Int × Sd → Nat} (h0 : 0 ≤ p) (h9 : p ≤ 1000000000) (ne : rs ≠ []) (l4 : rs.length ≤ 4) (w : ∀ r ∈ rs, 1 ≤ r.1 ∧ r.1 ≤ 1000) (sub : ∀ r ∈ rs, Ok r.2 d (f r)) (hk : (rs.map f).sum ≤ m) : Ok (.st p rs) (d + 1) m
def wtot (rs : List (Int × Sd)) : Int := (rs.map (·.1)).sum
def prodL : List Int → Int
  | [] => 1
  | n :: ns => n * prodL ns
theorem prodL_pos : ∀ {l : List Int}, (∀ n ∈ l, 0 < n) → 0 < prodL l
  | [], _ => by decide
  | n :: l, h => Int.mul_pos (h n List.mem_cons_self) (prodL_pos fun m hm => h m (List.mem_cons_of_mem _ hm))
theorem prodL_dvd : ∀ {l : List Int} {n : Int}, n ∈ l → n ∣ prodL l
  | m :: l, n, h => by
    rcases List.mem_cons.mp h with e | e
    · subst e; exact ⟨_, rfl⟩
    · exact Int.dvd_trans (prodL_dvd e) ⟨m, by show m * prodL l = prodL l * m; grind⟩
theorem pow_pos2 (n : Nat) : (0 : Int) < 2 ^ n := Int.pow_pos (by decide)
theorem prodL_le {e : Nat} : ∀ {l : List Int}, (∀ n ∈ l, 0 < n ∧ n ≤ 2 ^ e) → prodL l ≤ 2 ^ (l.length * e)
  | [], _ => by simp [prodL]
  | n :: l, h => by
    have ih := prodL_le (l := l) fun m hm => h m (List.mem_cons_of_mem _ hm)
    have hn := h n List.mem_cons_self
    have pp := prodL_pos (l := l) fun m hm => (h m (List.mem_cons_of_mem _ hm)).1
    show n * prodL l ≤ _
    rw [List.length_cons, Nat.succ_mul, Nat.add_comm, Int.pow_add]
    exact Int.le_trans (Int.mul_le_mul_of_nonneg_right hn.2 (Int.le_of_lt pp)) (Int.mul_le_mul_of_nonneg_left ih (Int.le_of_lt (pow_pos2 e)))
theorem sum_w : ∀ {rs : List (Int × Sd)}, (∀ r ∈ rs, 1 ≤ r.1 ∧ r.1 ≤ 1000) → (rs.length : Int) ≤ wtot rs ∧ wtot rs ≤ 1000 * (rs.length : Int)
  | [], _ => by decide
  | r :: rs, h => by
    have ih := sum_w (rs := rs) fun x hx => h x (List.mem_cons_of_mem _ hx)
    have hr := h r List.mem_cons_self
    have e : wtot (r :: rs) = r.1 + wtot rs := by unfold wtot; rw [List.map_cons, List.sum_cons]
    rw [e, List.length_cons]
    push_cast
    omega
theorem pow_le2 {a b : Nat} (h : a ≤ b) : (2 : Int) ^ a ≤ 2 ^ b := by
  obtain ⟨c, rfl⟩ := Nat.exists_eq_add_of_le h
  rw [Int.pow_add]
  have h1 : (1 : Int) ≤ 2 ^ c := by have := pow_pos2 c; omega
  have := Int.mul_le_mul_of_nonneg_left h1 (Int.le_of_lt (pow_pos2 a))
  omega
theorem wt_pos {rs : List (Int × Sd)} (ne : rs ≠ []) (w : ∀ r ∈ rs, 1 ≤ r.1 ∧ r.1 ≤ 1000) (l4 : rs.length ≤ 4) : 1 ≤ wtot rs ∧ wtot rs ≤ 4000 := by
  have := sum_w w
  have : 0 < rs.length := List.length_pos_iff.mpr ne
  omega
theorem Ok.m1 {s : Sd} {d m : Nat} (ok : Ok s d m) : 1 ≤ m := by
  induction ok with
  | en _ _ h => exact h
  | @st p rs d m k h0 h9 ne l4 w sub hk ih =>
    cases rs with
    | nil => exact absurd rfl ne
    | cons r rs =>
      have h1 := ih r List.mem_cons_self
      rw [List.map_cons, List.sum_cons] at hk
      omega
theorem f_le {α : Type} {f : α → Nat} {m : Nat} : ∀ {l : List α}, (l.map f).sum ≤ m → ∀ x ∈ l, f x ≤ m
  | y :: l, h, x, hx => by
    rw [List.map_cons, List.sum_cons] at h
    rcases List.mem_cons.mp hx with e | e
    · subst e; omega
    · exact f_le (l := l) (by omega) x e
def kB : Nat → Int
  | 0 => 2147483648
  | d + 1 => 1000000000 + 4 * kB d
structure Lv (l : Int × Int) : Prop where
  fr : Fr.IsFr l.1 l.2
  b : l.2 ≤ 2 ^ 10
  lo : -(2147483648 * l.2) ≤ l.1
  hi : l.1 ≤ 2147483648 * l.2
theorem Lv.fq {l : Int × Int} (h : Lv l) : FQ l l.2 2147483648 := ⟨h.fr, Int.dvd_refl _, h.lo, h.hi⟩
theorem fr1 (v : Int) : Fr.IsFr v 1 := ⟨by decide, by simp⟩
end Sd
namespace L2
open PySem PySem.Spec PyProof.Rows
theorem range_all (bs : List Bool) : (List.range bs.length).all (fun i => bs.getD i false) = bs.all id := by
  rw [Bool.eq_iff_iff]
  simp only [List.all_eq_true, List.mem_range]
  constructor
  · intro h b hb
    obtain ⟨i, hi, e⟩ := List.mem_iff_getElem.mp hb
    have q := h i hi
    rw [getD_at hi, e] at q
    exact q
  · intro h i hi
    rw [getD_at hi]
    exact h _ (List.getElem_mem hi)
section
variable {X : Cx} {K : PySem.W.Frag}
theorem bls_at {us : List Value} {bs : List Bool} (h : Vals (bs.map V.bl) us) {i : Nat} {v : Value} (e : us[i]? = some v) : v = .bool (bs.getD i false) := by
  have hl := h.length
  rw [List.length_map] at hl
  have hi : i < us.length := (List.getElem?_eq_some_iff.mp e).1
  have e2 : (bs.map V.bl)[i]? = some (.bl (bs.getD i false)) := by
    rw [List.getElem?_map, List.getElem?_eq_getElem (by omega), getD_at (by omega)]
    rfl
  obtain ⟨u, hu, r⟩ := h.get e2
  rw [e] at hu
  cases hu
  exact r
theorem call_allL (hK : X.K = K) (hc : X.calm = true) : CallR X (.builtin "all") (fun xs H Q => ∃ (a : Addr) (bs : List Bool), xs = [.ref a] ∧ SqL K H a (bs.map V.bl) ∧ Q (.bl (bs.all id)) H) := by
  subst hK
  intro pins s σ H xs us Q I r h
  obtain ⟨a, bs, rfl, hS, q⟩ := h
  obtain ⟨u, rfl, ru⟩ := vals1 r
  cases (show u = Value.ref a from ru)
  obtain ⟨its, rv, pl, hz⟩ := I.list hS
  have lt : a < s.heap.objs.size := by obtain ⟨o, e, _⟩ := pl.isList; exact Heap.lt_size e
  have hl := rv.length
  rw [List.length_map] at hl
  refine call_all_walk (wpAny_pyIter_list pl.isList ⟨s.heap.objs.size, _, _, _, _, _, fun i => bs.getD i false, rfl, Walks.list (A := X.A.in1) (I.ok.hd hc) s.heap.objs.size a (Nat.ne_of_lt lt) its.toArray, ⟨⟨_, Heap.get?_push_size _ rfl, rfl, rfl⟩, pl.isList.push _⟩, ?_, fun h' tk hk => ?_⟩)
  · intro i v s' Q' E' hv hQ
    have e := bls_at rv (i := i) (v := v) (by simpa using hv)
    rw [e]
    exact wpAny_truthy_bool hQ
  · refine ⟨.bl (bs.all id), H, I.kept (t' := tk) fun b o e => hk b o (fun z => ?_) (Heap.get?_push_of_some _ e), ?_, q⟩
    · rw [List.mem_singleton.mp z] at e
      exact absurd (Heap.lt_size e) (Nat.lt_irrefl _)
    · show Value.bool _ = Value.bool _
      rw [List.size_toArray, ← hl, range_all]
end
end L2
namespace L2
open PySem PySem.Spec PyProof.Rows
structure ClsM (K : PySem.W.Frag) (C : Addr) (m : Str) (f : Addr) : Prop where
  ga : PySem.W.specialIn K (.ref C) "__getattribute__" = some (some (.builtin "type.__getattribute__"))
  rd : PySem.W.readsIn K C (.type "type") = true
  at_ : PySem.W.findCls K (.ref C) (.type "type") m = some (.val (.ref f))
  hd : PySem.W.handedIn (.ref f) = true
  kp : PySem.W.keepIn K (.ref f) = true
section
variable {X : Cx} {CX : CXT} {C f : Addr} {fd : FuncData} {k : Nat} {x m : Str} {ps : List Str} {ds : List Value} {dvs : List V} {sp : Sp} {E : XK} {e : Expr} {es : List Expr} {t : TA} {p apos pos : Pos}
theorem pe_clsm {pl : Sem Bool} (hg : Gl X x) (hm : X.mg x = some (.ref C)) (c : ClsM X.K C m f) (F : FnOk X.prog X.w X.K X.mg X.base CX k f fd ps sp) (hr : Room k X.A) (hb : Binds X.K fd ps ds) (hd : Vals dvs ds) (hx : Passes CX X E) (ha : PA X (e :: es) t)
    (hdb : (x == ("__debug__" : Str)) = false := by decide)
    (hst : starEach (e :: es) X.env = (false, eval e X.env) :: starEach es X.env := by rfl) (hpl : (backTo pos (starEach es X.env)).any (·.1) = false := by rfl)
    (ht : eval (.Call (.Attribute (.Name x p) m apos) (e :: es) [] pos) X.env = (do
      let ov ← eval (.Name x p) X.env
      standAt apos.atName
      let (f, first) ← holding [ov] (getMethod ov m pl)
      callWith pos f first (backTo pos (starEach (e :: es) X.env)) (backToKw pos (keywordEach [] X.env))) := by rfl) :
    PE X (.Call (.Attribute (.Name x p) m apos) (e :: es) [] pos) (tCall sp dvs E t) := by
  intro pins s σ H Q I h
  refine PySem.W.methodCall_KW (pl := pl) (ld_glob I hg hm ?_ hdb) ht
  refine PySem.W.method_cls I.kIn c.ga (PySem.W.cls_value I.kIn c.rd c.at_ c.hd ?_)
  have I2 := I.tok (s.toks + 1)
  refine PySem.W.callWith_K (first := []) (h₀ := X.base) I.ok.mod.kin c.kp (thn (ha pos pins _ σ H _ I2 h) fun us s1 ⟨vs, H1, I1, r, q⟩ => ⟨I1.kIn, ?_⟩) hst hpl
  exact run_fn F hr hb hd hx I1 r q
theorem pe_either {e : Expr} {t u : TE} (h1 : PE X e t) (h2 : PE X e u) : PE X e (fun σ H Q => t σ H Q ∨ u σ H Q) := fun pins s σ H Q I h => h.elim (h1 pins s σ H Q I) (h2 pins s σ H Q I)
theorem call_isinstC {K : PySem.W.Frag} (hK : X.K = K) : CallR X (.builtin "isinstance") (fun xs H Q => ∃ (x : V) (C : Addr) (t : Value) (b : Bool), xs = [x, .ref C] ∧ TyOf K H x t ∧ PySem.W.kitOne K t (.ref C) = some b ∧ Q (.bl b) H) := by
  subst hK
  intro pins s σ H xs us Q I r h
  obtain ⟨x, C, t, b, rfl, ty, e, q⟩ := h
  obtain ⟨u, w', rfl, rx, rt⟩ := vals2 r
  cases (show w' = Value.ref C from rt)
  exact isinst_ok I rx ty e fun tk => ⟨.bl b, H, I.tok _, rfl, q⟩
end
end L2
namespace L2
open PySem PySem.Spec PyProof.Rows
def CXr (P : Program) (w : World) : CXT := fun outer H s E e s' =>
  ∃ (a : Addr) (cls a0 : Value) (H' : Hp) (B : Heap), e = .ref a ∧ s'.os = s.os ∧ AllBare s'.gens ∧ Un (frs outer) [] H H' s.heap s'.heap ∧ HOk P w H' s'.heap ∧ Heap.FlyingW B outer a cls a0 s'.heap ∧
    (∀ b o, s.heap.get? b = some o → b ∉ frs outer → ∃ o', B.get? b = some o') ∧ (∀ b u, H' b = some u → ∃ o', B.get? b = some o') ∧ E cls none H'
section
variable {P : Program} {w : World} {H H' : Hp} {B h0 h1 h2 : Heap} {fs : List Addr}
theorem same_by (b1 : B.StaysIn h1) (b2 : B.StaysIn h2) {b : Addr} {o : Obj} (q : h1.get? b = some o) (x : ∃ o', B.get? b = some o') : h2.get? b = some o := by
  obtain ⟨o', e⟩ := x
  have := b1 b o' e
  rw [q] at this
  cases this
  exact b2 b _ e
theorem un_fly (u : Un fs [] H H' h0 h1) (b1 : B.StaysIn h1) (b2 : B.StaysIn h2) (up : h1.UpToSlots h2) (nf : ∀ b ∈ fs, ∃ o, h1.get? b = some o ∧ ∀ vs, o.data ≠ .fields vs)
    (hB : ∀ b o, h0.get? b = some o → b ∉ fs → ∃ o', B.get? b = some o') : Un fs [] H H' h0 h2 := by
  refine ⟨fun b o q n hb hx => same_by b1 b2 (u.keep b o q n hb hx) (hB b o q hb), fun b o q n hb hx => ?_, u.free, fun b o q hx => ?_, u.tups, u.frzs, u.tbls⟩
  · obtain ⟨sl, e⟩ := u.slot b o q n hb hx
    obtain ⟨o1, e1, d1⟩ := nf b hb
    rw [e] at e1
    cases e1
    obtain ⟨sl2, e2⟩ := up b _ e d1
    exact ⟨sl2, e2⟩
  · by_cases hb : b ∈ fs
    · obtain ⟨o1, e1, d1⟩ := nf b hb
      obtain ⟨sl2, e2⟩ := up b _ e1 d1
      exact ⟨_, e2⟩
    · obtain ⟨o1, e1⟩ := hB b o q hb
      exact ⟨_, b2 b _ e1⟩
theorem hok_fly (x : HOk P w H h1) (b1 : B.StaysIn h1) (b2 : B.StaysIn h2) (hH : ∀ b u, H b = some u → ∃ o', B.get? b = some o') : HOk P w H h2 := fun a o e =>
  (x a o e).stay (fun b u hb q => same_by b1 b2 q (by
    rcases hb with rfl | hb
    · exact hH _ _ e
    · exact hH _ _ hb)) (fun _ q => q) fun _ _ q => q
end
theorem obj_some {P : Program} {w : World} {H : Hp} {h : Heap} {b : Addr} {u : HO} (x : ObjOk P w H h b u) (z : h.get? b = none) : False := by
  cases u with
  | lst xs => obtain ⟨_, _, _, _, e⟩ := x; rw [z] at e; cases e
  | tup xs => obtain ⟨_, _, _, _, e, _⟩ := x; rw [z] at e; cases e
  | dK kvs => obtain ⟨_, _, _, _, o, _, _, e, _⟩ := x; rw [z] at e; cases e
  | dT kvs => obtain ⟨_, _, _, _, o, _, _, e, _⟩ := x; rw [z] at e; cases e
  | set S n => obtain ⟨o, _, _, _, e, _⟩ := x; rw [z] at e; cases e
  | ins C dx fs => obtain ⟨_, _, _, e, _⟩ := x; rw [z] at e; cases e
  | own y => obtain ⟨_, e⟩ := x; rw [z] at e; cases e
  | xd fs => obtain ⟨_, ⟨_, _, _, e, _⟩, _⟩ := x; rw [z] at e; cases e
  | rng lo hi => obtain ⟨_, _, _, e⟩ := x; rw [z] at e; cases e
  | frz ob v => obtain ⟨e, _⟩ := x; rw [z] at e; cases e
  | tbl ps => have e := (show h.get? b = some _ from x); rw [z] at e; cases e
  | met f y => have e := (show h.get? b = some _ from x); rw [z] at e; cases e
  | ext φ => obtain ⟨_, ⟨_, e⟩, _⟩ := x; rw [z] at e; cases e
theorem mem_frs {env : Env} {outer : List Env} {L b : Addr} (hf : env.frame = some L) : b ∈ frs (env :: outer) ↔ b = L ∨ b ∈ frs outer := by
  unfold frs
  rw [List.filterMap_cons, hf]
  exact List.mem_cons
structure XCls (K : PySem.W.Frag) (C : Addr) : Prop where
  isx : PySem.W.excIn K C ([.type "ValueError", .type "Exception", .type "BaseException", .type "object"]) "ValueError.__new__" = true
section
variable {X : Cx}
def Throws (X : Cx) (E : XK) : Prop := ∀ (pins : List (Addr × Obj)) (σ : St) (H : Hp) (s : Shared) (h' : Heap) (e : Addr) (cls : Value) (args : List Value), Inv X pins σ H s → Heap.MadeExcOf s.heap h' e cls args → E cls none H →
  X.xe (.ref e) { s with heap := h' }
end
section
variable {P : Program} {w : World} {K : PySem.W.Frag} {mg : Str → Option Value} {base : Heap} {N : List Str} {qual : Str} {scope : Scope} {f : Addr} {cd : Value} {A : Around} {outer : List Env} {s : Shared} {H : Hp} {E : XK}
theorem throws_cx : Throws (cxOf (CXr P w) P w K mg base N qual scope f cd A outer s H E) E := by
  intro pins σ H1 s1 h' e cls args I mk hE
  have hfr := I.ok.frames
  have hst := I.stack
  have nsz : ∀ b o, s.heap.get? b = some o → b ≠ s.heap.objs.size := fun b o q z => absurd (Heap.lt_size q) (by rw [z]; exact Nat.lt_irrefl _)
  have hide : ∀ b o, s1.heap.get? b = some o → b ∉ frs (envOfC qual scope s.heap.objs.size f cd :: outer) → (PySem.W.hideAll s1.heap (frs (envOfC qual scope s.heap.objs.size f cd :: outer))).get? b = some o := fun b o q hb => PySem.W.hideAll_get _ q hb
  have inS : ∀ b o, s.heap.get? b = some o → b ∉ frs outer → ∃ o', (PySem.W.hideAll s1.heap (frs (envOfC qual scope s.heap.objs.size f cd :: outer))).get? b = some o' := fun b o q hb => by
    obtain ⟨o', e'⟩ := I.base.there b o q (by show b ∉ ([] : List Addr); simp)
    exact ⟨o', hide b o' e' fun z => ((mem_frs rfl).mp z).elim (nsz b o q) hb⟩
  have inH : ∀ b u, H1 b = some u → ∃ o', (PySem.W.hideAll s1.heap (frs (envOfC qual scope s.heap.objs.size f cd :: outer))).get? b = some o' := fun b u q => by
    have lt := I.hok.lt q
    obtain ⟨o', e'⟩ : ∃ o', s1.heap.get? b = some o' := by
      have := I.hok b u q
      cases z : s1.heap.get? b with
      | some o' => exact ⟨o', rfl⟩
      | none => exact (obj_some this z).elim
    refine ⟨o', hide b o' e' fun z => ?_⟩
    have := I.stkFree b z
    rw [q] at this
    cases this
  show wpAny (model P w) (A.deeper (envOfC qual scope s.heap.objs.size f cd)) (leaving (envOfC qual scope s.heap.objs.size f cd) (.ref e)) _ _ _
  refine wpAny_leaves_madeW (h := s1.heap) (base := PySem.W.hideAll s1.heap (frs (envOfC qual scope s.heap.objs.size f cd :: outer))) hfr rfl (fun b o q => PySem.W.of_hideAll _ q)
    (PySem.W.funFrames_hide hst fun env he b hb => List.mem_filterMap.mpr ⟨env, he, hb⟩) mk fun h'' t fl _ _ up => ?_
  have b1 : Heap.StaysIn (PySem.W.hideAll s1.heap (frs (envOfC qual scope s.heap.objs.size f cd :: outer))) h' := fun b o q => mk.keeps _ _ (PySem.W.of_hideAll _ q)
  refine ⟨e, cls, .ref t, H1, _, rfl, I.os, I.bare, ?_, hok_fly (I.hok.kept mk.keeps) b1 fl.1 inH, fl, inS, inH, hE⟩
  have u1 : Un (frs outer) [] H H1 s.heap h' := Un.trans (show Un (frs outer) [] H H1 s.heap s1.heap from I.base) (Un.kept mk.keeps)
  refine un_fly u1 b1 fl.1 up (fun b hb => ?_) inS
  obtain ⟨_, o, ho, hd⟩ := I.funs.mem hb
  exact ⟨o, mk.keeps _ _ ho, hd⟩
end
end L2
namespace L2
open PySem PySem.Spec PySem.Calls PyProof.Rows PySem.W Builtin Builtin.ObjectAttr Builtin.Getset_descriptor
def IsX (a : Addr) (cls : Value) (h : Heap) : Prop := ∃ o, h.get? a = some o ∧ o.cls = cls
theorem IsX.ty {a : Addr} {cls : Value} {h : Heap} {M : Model} (x : IsX a cls h) : Looks M h (typeOf (.ref a)) cls := by
  obtain ⟨o, e, rfl⟩ := x
  exact (Looks.ld e).andThen .now
structure XTy (K : Frag) (D : Addr) : Prop where
  ga : findIn K (.ref D) "__getattribute__" = some (some (.builtin "BaseException.__getattribute__"))
  gt : findIn K (.ref D) "__getattr__" = some none
  mb : mroIn K D (.type "BaseException") = some true
  cl : (clsIn K D).isSome = true
  fi : findIn K (.ref D) "__class__" = some (some (.builtin "object.__class__"))
  sp : specialIn K (.builtin "object.__class__") "__get__" = some (some (.builtin "getset_descriptor.__get__"))
  tk : takesIn K (.builtin "object.__class__") = some true
  mr : mroIn K D (.type "object") = some true
section
variable {prog : Program} {w : World} {A : Around} {E : Value → Shared → Prop} {s : Shared} {K : Frag} {a D : Addr}
theorem looks_descr {M : Model} {h : Heap} (k : K.In h) (x : XTy K D) : Looks M h (find (.ref a) (.ref D) "__class__") (.bind (.builtin "getset_descriptor.__get__") (.builtin "object.__class__")) := by
  have l3 : Looks M h (dataDescriptor? (some (.builtin "object.__class__")) (some (.builtin "getset_descriptor.__get__"))) (some (.builtin "getset_descriptor.__get__", .builtin "object.__class__")) := (looks_takesIn (M := M) k x.tk).andThen .now
  exact (looks_findIn (M := M) k x.fi).andThen ((looks_specialIn (M := M) k x.sp).andThen (l3.andThen (Looks.tag .now)))
theorem descr_ret {R : Result → Shared → Prop} (k : K.In s.heap) (i : IsX a (.ref D) s.heap) (hm : mroIn K D (.type "object") = some true) (h : R (.ok (.ret (.ref D))) s) :
    codeAny (model prog w) A (.call (.builtin "getset_descriptor.__get__") ⟨[.builtin "object.__class__", .ref a, .ref D], []⟩) R s := by
  obtain ⟨hh, gg, dr, tt, os⟩ := s
  have ly := i.ty (M := model prog w)
  have lm := looks_mroIn (M := model prog w) k hm
  refine codeAny_call_builtin KF.slot_gs.plain KF.entry_gs (KF.slot_gs.check _ _ _ _ _ _ _ _ KF.type_class (KF.args_gs _ _ _) ?_)
  unfold Builtin.«getset_descriptor.__get__»
  unfold descrGet
  rw [dga_obj]
  refine wpAny_bind (wpAny_pure ?_)
  unfold descrGetter
  unfold descrCheckInstance descrNameAndClass
  unfold isInstance
  simp only [KF.owner_class]
  repeat lk
  refine ⟨Code.quiet_builtin _ (by decide +kernel), codeAny_builtin KF.entry_class ?_⟩
  unfold Builtin.«object.__class__»
  unfold shownTypeOf
  repeat lk
  exact h
theorem exc_body {tk : Tok} {Q : Fin → Shared → Prop} (k : K.In s.heap) (i : IsX a (.ref D) s.heap) (x : XTy K D) (h : Q (.done (.ret (.ref D))) s) :
    wpAny (model prog w) A (Builtin.«object.__getattribute__» ⟨[.ref a, .str "__class__" tk], []⟩) Q E s := by
  obtain ⟨hh, gg, dr, tt, os⟩ := s
  have ly := i.ty (M := model prog w)
  have lf := looks_descr (M := model prog w) (a := a) k x
  have e1 : slotArgs "__getattribute__" 1 ⟨[.ref a, .str "__class__" tk], []⟩ = pure (.ref a, [.str "__class__" tk]) := rfl
  unfold Builtin.«object.__getattribute__»
  rw [e1]
  refine wpAny_bind (wpAny_pure ?_)
  refine wpAny_bind (wpAny_pure (wpAny_bind (ly.at (wpAny_bind (lf.at ?_)))))
  show wpAny _ _ (bindTo (.builtin "getset_descriptor.__get__") (.builtin "object.__class__") (.ref a) (.ref D)) _ _ _
  unfold bindTo
  first
    | exact wpAny_bind (wpAny_holding (wpAny_call (descr_ret k i x.mr (wpAny_pure h))))
    | exact wpAny_bind (wpAny_call (descr_ret k i x.mr (wpAny_pure h)))
    | exact wpAny_pure ⟨Code.quiet_call _ _, descr_ret k i x.mr h⟩
theorem exc_check {nameV : Value} {Q : Unit → Shared → Prop} {M : Model} (k : K.In s.heap) (i : IsX a (.ref D) s.heap) (x : XTy K D) (hq : Q () s) : wpAny M A (checkBuiltinCall "BaseException.__getattribute__" ⟨[.ref a, nameV], []⟩) Q E s := by
  obtain ⟨hh, gg, dr, tt, os⟩ := s
  have ly := i.ty (M := M)
  have lm := looks_mroIn (M := M) k x.mb
  have hki : builtinKind "BaseException.__getattribute__" = some .slot := by decide +kernel
  have hsp : splitId "BaseException.__getattribute__" = some ("BaseException", "__getattribute__") := by decide +kernel
  have ha := PySem.F.args_bexc_ga (.ref a) nameV
  simp only [checkBuiltinCall, hki, hsp]
  unfold isInstance
  refine wpAny_bind (wpAny_bind (ly.at (lm.at ?_)))
  repeat (any_goals (first | assumption | wp_step))
theorem descr_class {Q : Option Value → Shared → Prop} (k : K.In s.heap) (i : IsX a (.ref D) s.heap) (x : XTy K D) (h : Q (some (.ref D)) { s with toks := s.toks + 1 }) : wpAny (model prog w) A (getAttr? (.ref a) "__class__") Q E s := by
  obtain ⟨hh, gg, dr, tt, os⟩ := s
  have ly := i.ty (M := model prog w)
  have lga := looks_findIn (M := model prog w) k x.ga
  have lgt := looks_findIn (M := model prog w) k x.gt
  unfold getAttr? getAttrBy?
  unfold getAttrBy
  refine wpAny_bind (wpAny_mkText (wpAny_bind (wpAny_attempt (wpAny_holding (wpAny_bind (ly.at (wpAny_bind (lga.at ?_))))))))
  show wpAny _ _ (getAttrByItsOwn _ _ _ _ _ _) _ _ _
  unfold getAttrByItsOwn
  refine wpAny_bind (lgt.at ?_)
  refine wpAny_bind (wpAny_attempt (wpAny_holding ?_))
  show wpAny _ _ (boundAndCalled _ _ _) _ _ _
  unfold boundAndCalled
  rw [PySem.F.attr_ValueError.ga.bind (.ref a)]
  refine wpAny_bind (wpAny_pure (wpAny_call (codeAny_call_builtin PySem.F.attr_ValueError.ga.plain PySem.F.entry_bexc_ga (exc_check (s := ⟨hh, gg, dr, tt + 1, os⟩) k i x (exc_body (s := ⟨hh, gg, dr, tt + 1, os⟩) k i x ?_)))))
  refine handed_on rfl ?_
  exact wpAny_pure h
theorem kitx_exc (x : XTy K D) : KitX K (.ref a) (.ref D) (IsX a (.ref D)) where
  ty := fun _ _ _ i => i.ty
  it := fun M h k _ => by
    obtain ⟨cd, hc⟩ := Option.isSome_iff_exists.mp x.cl
    unfold clsIn at hc
    split at hc
    case h_2 => cases hc
    case h_1 c' d' cd' sl' ho =>
      intro A' Q' E' s' k' q
      unfold isType
      unfold loadHead
      exact wpAny_bind (wpAny_loadPart (k' _ _ (k _ _ ho)) (wpAny_pure q))
  ne := fun h tp dd its n sl k htp => by
    obtain ⟨cd, hc⟩ := Option.isSome_iff_exists.mp x.cl
    refine Bool.eq_false_iff.mpr fun q => ?_
    obtain rfl : D = tp := Value.ref.inj (beq_iff_eq.mp q)
    unfold clsIn at hc
    split at hc
    case h_2 => cases hc
    case h_1 c' d' cd' sl' ho =>
      have z := (k _ _ ho).symm.trans htp
      cases z
  ca := fun k i q => descr_class k i x q
end
section
variable {X : Cx}
theorem call_isX {K : Frag} (hK : X.K = K) : CallR X (.builtin "isinstance") (fun xs H Q => ∃ (a D : Addr) (c : V) (u : Value) (b : Bool), xs = [.ref a, c] ∧ (∀ u', RelV c u' → u' = u) ∧ H a = some (.ext (IsX a (.ref D))) ∧ XTy K D ∧ kitOne K (.ref D) u = some b ∧ Q (.bl b) H) := by
  subst hK
  rintro pins s σ H vs us Q I r ⟨a, D, c, u, b, rfl, hu, ha, xt, e, q⟩
  obtain ⟨u1, u2, rfl, r1, r2⟩ := vals2 r
  obtain rfl : u1 = Value.ref a := r1
  obtain rfl := hu u2 r2
  obtain ⟨i, _⟩ := (show ObjOk X.prog X.w H s.heap a (.ext (IsX a (.ref D))) from I.hok a _ ha)
  exact kia_one (kitx_exc xt) I.kIn i e (fun z => nomatch z) fun tk => ⟨.bl b, H, I.tok _, rfl, q⟩
end
end L2
namespace L2
open PySem PySem.Spec PySem.W PyProof.Rows
section
variable {X : Cx}
end
end L2
namespace L2
open PySem PySem.Spec PyProof.Rows
section
variable {X : Cx}
end
end L2
namespace L2
open PySem PySem.Spec PyProof.Rows
section
variable {X : Cx} {tg : Expr}
end
end L2
namespace PySem
namespace F
end F
end PySem
namespace L2
open PySem PySem.Spec PyProof.Rows
section
variable {X : Cx}
end
end L2
namespace L2
open PySem PySem.Spec PyProof.Rows
theorem gyes {i : Nat} {v : V} {τ : St} {H : Hp} {A B : St → Hp → Prop} (h : A (τ.set i (some v)) H) : gName i v τ H (fun τ2 H2 => tYes τ2 H2 (fun b H3 => if b = true then A τ2 H3 else B τ2 H3)) := tyes_if (τ := τ.set i (some v)) (A := A (τ.set i (some v))) (B := B (τ.set i (some v))) h
theorem for_rev {K : PySem.W.Frag} {a : Addr} {xs : List V} {g : TG} {tb : TS} {D : Ends} {σ : St} {H : Hp} (Pv : Nat → St → Hp → Prop) (h0 : Pv 0 σ H) (hl : ∀ i σ H, i ≤ xs.length → Pv i σ H → SqL K H a xs)
    (hs : ∀ i x σ H, i < xs.length → xs[xs.length - 1 - i]? = some x → Pv i σ H → g x σ H fun σ2 H2 => tb { D with nx := Pv (i + 1), ct := Pv (i + 1), bk := D.nx } σ2 H2) (hd : ∀ σ H, Pv xs.length σ H → D.nx σ H) :
    ∃ W : Nat → Nat → St → Hp → Prop, (∃ m, W 0 m σ H) ∧ ∀ i m σ H, W i m σ H →
      ((ItR K a xs).stop i H ∧ D.nx σ H) ∨ ((ItR K a xs).go i H ∧ ∃ N : St → Hp → Prop, (∀ σ' H', N σ' H' → ∃ m', m' < m ∧ W (i + 1) m' σ' H') ∧ ∀ x H', (ItR K a xs).yld i H x H' → g x σ H' fun σ2 H2 => tb { D with nx := N, ct := N, bk := D.nx } σ2 H2) := by
  refine ⟨fun i m σ H => m = xs.length - i ∧ i ≤ xs.length ∧ Pv i σ H, ⟨xs.length, by simp, Nat.zero_le _, h0⟩, ?_⟩
  rintro i m σ H ⟨rfl, hi, p⟩
  have q := hl i σ H hi p
  by_cases hlt : i < xs.length
  · refine .inr ⟨⟨hlt, q⟩, Pv (i + 1), fun σ' H' p' => ⟨xs.length - (i + 1), by omega, rfl, hlt, p'⟩, fun x H' y => ?_⟩
    obtain ⟨e, y⟩ := y
    subst e
    exact hs i x σ _ hlt y p
  · have e : i = xs.length := by omega
    subst e
    exact .inl ⟨Nat.le_refl _, hd σ H p⟩
end L2
namespace TD
open PySem L2
open Builtin.Int (intBits)
abbrev Tq (H : Hp) (p : Addr) (x : Int × Int) : Prop := H p = some (.tup [.int x.1, .int x.2])
structure Z4 (x : Int × Int) : Prop where
  t : intBits x.1 ≤ 4400
  b : intBits x.2 ≤ 4400
  p : 0 < x.2
abbrev Is (ns : List Int) : List V := ns.map V.int
theorem is_length (ns : List Int) : (Is ns).length = ns.length := List.length_map _
theorem is_snoc (xs : List Int) (y : Int) : Is (xs ++ [y]) = Is xs ++ [V.int y] := by show (xs ++ [y]).map V.int = _; rw [List.map_append]; rfl
def spWh : Sp := fun vs H Q _ => ∃ i : Int, vs = [.int i] ∧ ∀ p H', Same H H' → Tq H' p (i, 1) → Q (.ref p) H'
def spLs (K : PySem.W.Frag) : Sp := fun vs H Q _ => ∃ p q a b c d, vs = [.ref p, .ref q] ∧ SqT K H p [.int a, .int b] ∧ SqT K H q [.int c, .int d] ∧ Sz a b c d ∧ (c * b < a * d → Q (.ref q) H) ∧ (¬ c * b < a * d → Q (.ref p) H)
theorem bits_of {x : Int} {k : Nat} (h0 : -(2 ^ k) < x) (h1 : x < 2 ^ k) : intBits x ≤ k := by
  refine PySem.intBits_le_iff.mpr ?_
  have e : ((2 ^ k : Nat) : Int) = 2 ^ k := by push_cast; rfl
  omega
theorem fq_bits {t b N k : Int} {n j : Nat} (f : Sd.Fq t b N k) (hN : 0 < N) (hn : N ≤ 2 ^ n) (k0 : 0 ≤ k) (hj : k ≤ 2 ^ j) : intBits b ≤ n + 1 ∧ intBits t ≤ n + j + 1 := by
  have bp := f.fr.pos
  have bl := Int.le_of_dvd hN f.dv
  have e1 : b ≤ 2 ^ n := Int.le_trans bl hn
  have e2 : k * b ≤ 2 ^ j * 2 ^ n := Int.le_trans (Int.mul_le_mul_of_nonneg_right hj (Int.le_of_lt bp)) (Int.mul_le_mul_of_nonneg_left e1 (Int.le_of_lt (Sd.pow_pos2 j)))
  rw [← Int.pow_add, Nat.add_comm] at e2
  have p1 : (2 : Int) ^ (n + 1) = 2 * 2 ^ n := by rw [Int.pow_succ]; omega
  have p2 : (2 : Int) ^ (n + j + 1) = 2 * 2 ^ (n + j) := by rw [Int.pow_succ]; omega
  have q1 := Sd.pow_pos2 n
  have q2 := Sd.pow_pos2 (n + j)
  have l := f.lo
  have h := f.hi
  exact ⟨bits_of (by omega) (by omega), bits_of (by omega) (by omega)⟩
structure GT (xs : List Row) (n : Nat) (W M k : Int) : Prop where
  ne : xs ≠ []
  len : xs.length ≤ n
  w1 : ∀ x ∈ xs, 1 ≤ x.w
  ws : wsum xs ≤ W
  mp : 0 < M
  fq : ∀ x ∈ xs, Sd.Fq x.t x.b M k
structure Cp (n : Nat) (W M k : Int) : Prop where
  n : n ≤ 12
  w : W ≤ 2 ^ 600
  m : M ≤ 2 ^ 1600
  k0 : 0 ≤ k
  k : k ≤ 2 ^ 1600
theorem wsum_pos {xs : List Row} (w1 : ∀ x ∈ xs, 1 ≤ x.w) : ∀ {x : Row}, x ∈ xs → x.w ≤ wsum xs := by
  induction xs with
  | nil => intro x h; cases h
  | cons y ys ih =>
    intro x hx
    have e : wsum (y :: ys) = y.w + wsum ys := by unfold wsum; rw [List.map_cons, List.sum_cons]
    have y1 := w1 y List.mem_cons_self
    have n0 : 0 ≤ wsum ys := by
      clear ih hx
      induction ys with
      | nil => exact Int.le_refl _
      | cons z zs ih =>
        have e : wsum (z :: zs) = z.w + wsum zs := by unfold wsum; rw [List.map_cons, List.sum_cons]
        have z1 := w1 z (List.mem_cons_of_mem _ List.mem_cons_self)
        have := ih (fun x hx => by
          rcases List.mem_cons.mp hx with h | h
          · subst h; exact y1
          · exact w1 x (List.mem_cons_of_mem _ (List.mem_cons_of_mem _ h))) (by unfold wsum; rw [List.map_cons, List.sum_cons])
        omega
    rcases List.mem_cons.mp hx with h | h
    · subst h; omega
    · have := ih (fun x hx => w1 x (List.mem_cons_of_mem _ hx)) h
      omega
theorem GT.bits {xs : List Row} {n : Nat} {W M k : Int} (g : GT xs n W M k) (c : Cp n W M k) {x : Row} (hx : x ∈ xs) : intBits x.b ≤ 1601 ∧ intBits x.t ≤ 3201 := by
  have := fq_bits (g.fq x hx) g.mp c.m c.k0 c.k
  omega
theorem GT.pb {xs : List Row} {n : Nat} {W M k : Int} (g : GT xs n W M k) (c : Cp n W M k) : PB xs := fun x hx => by
  have b := g.bits c hx
  have w := wsum_pos g.w1 hx
  have w2 := g.ws
  have w3 := c.w
  have e : (2 : Int) ^ 600 ≤ m300 := by decide +kernel
  exact ⟨(g.fq x hx).fr, by omega, by omega, g.w1 x hx, by omega⟩
theorem GT.tot {xs : List Row} {n : Nat} {W M k : Int} (g : GT xs n W M k) : 1 ≤ wsum xs := by
  cases xs with
  | nil => exact absurd rfl g.ne
  | cons x xs =>
    have := wsum_pos g.w1 (x := x) List.mem_cons_self
    have := g.w1 x List.mem_cons_self
    omega
def TpAt (H : Hp) (a : Addr) (xs : List Row) : Prop := H a = some (.tup (refs xs)) ∧ ∀ x ∈ xs, RowAt H x
theorem TpAt.same {H H' : Hp} {a : Addr} {xs : List Row} (s : Same H H') (h : TpAt H a xs) : TpAt H' a xs := ⟨s _ _ h.1, fun x hx => (h.2 x hx).same s⟩
def be : Nat → Nat
  | 0 => 1
  | d + 1 => be d + (12 * (d + 1) + 1)
def ka : Nat → Nat
  | 0 => 30
  | d + 1 => ka d + (12 * (d + 1) + 1) * 12 + 1
def wB (d m : Nat) : Int := 2 ^ ((12 * d + 1) * m)
def kK (d : Nat) : Int := 2 ^ ka d
theorem cp_of {d m : Nat} {M : Int} (hd : d ≤ 4) (hm : m ≤ 12) (hM : M ≤ 2 ^ (be d * m)) : Cp m (wB d m) M (kK d) := by
  have b : be d ≤ 125 := by
    rcases (by omega : d = 0 ∨ d = 1 ∨ d = 2 ∨ d = 3 ∨ d = 4) with z | z | z | z | z <;> subst z <;> decide
  have a : ka d ≤ 1600 := by
    rcases (by omega : d = 0 ∨ d = 1 ∨ d = 2 ∨ d = 3 ∨ d = 4) with z | z | z | z | z <;> subst z <;> decide
  refine ⟨hm, Sd.pow_le2 ?_, Int.le_trans hM (Sd.pow_le2 ?_), Int.le_of_lt (Sd.pow_pos2 _), Sd.pow_le2 a⟩
  · calc (12 * d + 1) * m ≤ 49 * m := Nat.mul_le_mul_right _ (by omega)
      _ ≤ 49 * 12 := Nat.mul_le_mul_left _ hm
      _ ≤ 600 := by decide
  · calc be d * m ≤ 125 * m := Nat.mul_le_mul_right _ b
      _ ≤ 125 * 12 := Nat.mul_le_mul_left _ hm
      _ ≤ 1600 := by decide
end TD
namespace Fr
theorem sh_is {x y t b : Int} (f : IsFr x y) (hb : b ≠ 0) (e : x * b = t * y) : (x, y) = sh t b := by
  have q := sh_ok (t := t) hb
  have c2 := sh_cross t b
  generalize (sh t b) = z at *
  obtain ⟨z1, z2⟩ := z
  have k : b * (x * z2) = b * (z1 * y) := by
    have k1 : b * (x * z2) = (x * b) * z2 := by grind
    have k2 : b * (z1 * y) = (z1 * b) * y := by grind
    rw [k1, k2, c2, e]
    grind
  obtain ⟨a, c⟩ := unique f q (Int.eq_of_mul_eq_mul_left hb k)
  rw [a, c]
end Fr
namespace Tb
def PS (B : Int) (ps : List (Int × Int)) : Int := (ps.map fun p => p.1 * (B / p.2)).sum
structure IsQ (ps : List (Int × Int)) (t b : Int) : Prop where
  pos : 0 < b
  eq : ∀ B, 0 < B → (∀ p ∈ ps, 0 < p.2 ∧ p.2 ∣ B) → t * B = b * PS B ps
theorem PS_cons (B : Int) (p : Int × Int) (ps : List (Int × Int)) : PS B (p :: ps) = p.1 * (B / p.2) + PS B ps := by simp [PS]
theorem PS_append (B : Int) (ps qs : List (Int × Int)) : PS B (ps ++ qs) = PS B ps + PS B qs := by simp [PS]
theorem IsQ.nil : IsQ [] 0 1 := ⟨by decide, fun B _ _ => by simp [PS]⟩
theorem IsQ.snoc {ps : List (Int × Int)} {t b n d : Int} (h : IsQ ps t b) (hd : 0 < d) : IsQ (ps ++ [(n, d)]) (t * d + n * b) (b * d) := by
  refine ⟨Int.mul_pos h.pos hd, fun B hB q => ?_⟩
  have e := h.eq B hB fun p hp => q p (List.mem_append_left _ hp)
  obtain ⟨c, _, e1, e2⟩ := cof hd hB (q (n, d) (by simp)).2
  rw [PS_append, PS_cons]
  show _ = b * d * (PS B ps + (n * (B / d) + PS B []))
  rw [e2]
  have z : PS B [] = 0 := rfl
  rw [z]
  have k : (t * d + n * b) * B = (t * B) * d + n * b * B := by grind
  rw [k, e]
  conv => lhs; rw [e1]
  grind
def capR (l0 l1 : Int) (r : Rw) : Rw := if l0 * r.b < r.t * l1 then ⟨l0, l1, r.w⟩ else r
end Tb
namespace TD
open PySem L2
open Builtin.Int (intBits)
structure Ent where
  p : Addr
  w : Int
  a : Addr
  ys : List Row
def EntAt (H : Hp) (e : Ent) : Prop := H e.p = some (.tup [.int e.w, .ref e.a]) ∧ TabAt H e.a e.ys
def erefs (es : List Ent) : List V := es.map fun e => V.ref e.p
structure EntsAt (H : Hp) (a : Addr) (es : List Ent) : Prop where
  lst : H a = some (.lst (erefs es))
  ents : ∀ e ∈ es, EntAt H e
theorem EntAt.same {H H' : Hp} {e : Ent} (s : Same H H') (h : EntAt H e) : EntAt H' e := ⟨s _ _ h.1, h.2.same s⟩
theorem EntsAt.same {H H' : Hp} {a : Addr} {es : List Ent} (s : Same H H') (h : EntsAt H a es) : EntsAt H' a es := ⟨s _ _ h.lst, fun e he => (h.ents e he).same s⟩
theorem erefs_length (es : List Ent) : (erefs es).length = es.length := List.length_map _
theorem erefs_at {es : List Ent} {i : Nat} {v : V} (h : (erefs es)[i]? = some v) : ∃ x, es[i]? = some x ∧ v = .ref x.p := by
  unfold erefs at h
  rw [List.getElem?_map] at h
  cases e : es[i]? with
  | none => rw [e] at h; cases h
  | some x => rw [e] at h; cases h; exact ⟨x, rfl, rfl⟩
theorem erefs_snoc (xs : List Ent) (y : Ent) : erefs (xs ++ [y]) = erefs xs ++ [V.ref y.p] := by unfold erefs; rw [List.map_append]; rfl
def fac (S : Int) (e : Ent) : Int := e.w * S.fdiv (wsum e.ys)
def partsOf (S : Int) (es : List Ent) : List Tb.Rw := es.flatMap fun e => e.ys.map fun y => ⟨y.t, y.b, fac S e * y.w⟩
def tots (es : List Ent) : List Int := es.map fun e => wsum e.ys
theorem partsOf_snoc (S : Int) (es : List Ent) (e : Ent) : partsOf S (es ++ [e]) = partsOf S es ++ e.ys.map fun y => ⟨y.t, y.b, fac S e * y.w⟩ := by
  unfold partsOf
  rw [List.flatMap_append]
  simp
def lcmB (xs : List Row) : Int := lcmL (xs.map Row.b)
theorem lcmStep_sh {m n : Int} (hn : 0 < n) : lcmStep m n = m * (Fr.sh m n).2 := by
  unfold lcmStep Fr.sh Fr.dv
  rw [if_neg (by omega)]
theorem lcmStep_dvd {m n M : Int} (hn : 0 < n) (h1 : m ∣ M) (h2 : n ∣ M) : lcmStep m n ∣ M := by
  rw [lcmStep_sh hn]
  obtain ⟨a, ea⟩ := h1
  obtain ⟨b, eb⟩ := h2
  have d1 := Fr.sh_fst m n
  have d2 := Fr.sh_snd m n
  have dn := Fr.dv_ne (t := m) (Int.ne_of_gt hn)
  have h : (Fr.sh m n).2 ∣ (Fr.sh m n).1 * a := by
    refine ⟨b, Int.eq_of_mul_eq_mul_right dn ?_⟩
    have e1 : (Fr.sh m n).1 * a * Fr.dv m n = ((Fr.sh m n).1 * Fr.dv m n) * a := by grind
    have e2 : (Fr.sh m n).2 * b * Fr.dv m n = ((Fr.sh m n).2 * Fr.dv m n) * b := by grind
    rw [e1, e2, d1, d2, ← ea, ← eb]
  obtain ⟨c, hc⟩ := Fr.cop (Fr.sh_red (t := m) (Int.ne_of_gt hn)) h
  exact ⟨c, by rw [ea, hc]; grind⟩
theorem lcm_fold_dvd : ∀ (ns : List Int) (m M : Int), (∀ n ∈ ns, 0 < n) → m ∣ M → (∀ n ∈ ns, n ∣ M) → ns.foldl lcmStep m ∣ M
  | [], _, _, _, h, _ => h
  | n :: ns, m, M, hp, h, hd => lcm_fold_dvd ns _ M (fun k hk => hp k (List.mem_cons_of_mem _ hk)) (lcmStep_dvd (hp n List.mem_cons_self) h (hd n List.mem_cons_self)) fun k hk => hd k (List.mem_cons_of_mem _ hk)
theorem lcmL_dvd {ns : List Int} {M : Int} (hp : ∀ n ∈ ns, 0 < n) (hd : ∀ n ∈ ns, n ∣ M) : lcmL ns ∣ M := lcm_fold_dvd ns 1 M hp ⟨M, (Int.one_mul _).symm⟩ hd
theorem lcmL_le {ns : List Int} (hp : ∀ n ∈ ns, 0 < n) : lcmL ns ≤ Sd.prodL ns := Int.le_of_dvd (Sd.prodL_pos hp) (lcmL_dvd hp fun n hn => Sd.prodL_dvd hn)
theorem GT.bp {xs : List Row} {n : Nat} {W M k : Int} (g : GT xs n W M k) : ∀ b ∈ xs.map Row.b, 0 < b := fun b hb => by
  obtain ⟨x, hx, rfl⟩ := List.mem_map.mp hb
  exact (g.fq x hx).fr.pos
theorem GT.lcm {xs : List Row} {n : Nat} {W M k : Int} (g : GT xs n W M k) : 0 < lcmB xs ∧ lcmB xs ∣ M ∧ ∀ x ∈ xs, x.b ∣ lcmB xs := by
  obtain ⟨a, b⟩ := lcmL_ok g.bp
  exact ⟨a, lcmL_dvd g.bp fun b hb => by obtain ⟨x, hx, rfl⟩ := List.mem_map.mp hb; exact (g.fq x hx).dv, fun x hx => b _ (List.mem_map.mpr ⟨x, hx, rfl⟩)⟩
theorem GT.own {xs : List Row} {n : Nat} {W M k : Int} (g : GT xs n W M k) : GT xs n W (lcmB xs) k ∧ lcmB xs ≤ M := by
  obtain ⟨a, b, c⟩ := g.lcm
  exact ⟨⟨g.ne, g.len, g.w1, g.ws, a, fun x hx => ⟨(g.fq x hx).fr, c x hx, (g.fq x hx).lo, (g.fq x hx).hi⟩⟩, Int.le_of_dvd g.mp b⟩
theorem one_key {r : Tb.Rw} (hr : 1 ≤ r.w) : ∀ {ys : List Tb.Rw}, ys.Pairwise Tb.Lt → (ys.map fun y => if r.t = y.t ∧ r.b = y.b then r.w else 0).sum ≤ r.w
  | [], _ => by show (0 : Int) ≤ r.w; omega
  | y :: ys, h => by
    obtain ⟨h1, h2⟩ := List.pairwise_cons.mp h
    rw [List.map_cons, List.sum_cons]
    by_cases e : r.t = y.t ∧ r.b = y.b
    · rw [if_pos e]
      have z : (ys.map fun y => if r.t = y.t ∧ r.b = y.b then r.w else 0).sum = 0 := by
        have : ∀ zs : List Tb.Rw, (∀ z ∈ zs, Tb.Lt y z) → (zs.map fun y => if r.t = y.t ∧ r.b = y.b then r.w else 0).sum = 0 := by
          intro zs
          induction zs with
          | nil => intro _; rfl
          | cons z zs ih =>
            intro hz
            rw [List.map_cons, List.sum_cons, ih fun x hx => hz x (List.mem_cons_of_mem _ hx), if_neg fun q => Tb.Lt_irr (hz z List.mem_cons_self) (e.1.symm.trans q.1) (e.2.symm.trans q.2)]
            rfl
        exact this ys h1
      omega
    · rw [if_neg e]
      have := one_key hr h2
      omega
theorem sum_Wt {ys : List Tb.Rw} (so : ys.Pairwise Tb.Lt) : ∀ {ps : List Tb.Rw}, (∀ r ∈ ps, 1 ≤ r.w) → (ys.map fun y => Tb.Wt ps y.t y.b).sum ≤ Tb.W ps
  | [], _ => by
    have : ∀ zs : List Tb.Rw, (zs.map fun y => Tb.Wt [] y.t y.b).sum = 0 := by
      intro zs
      induction zs with
      | nil => rfl
      | cons z zs ih => rw [List.map_cons, List.sum_cons, ih]; rfl
    rw [this]
    exact Int.le_refl _
  | r :: ps, h => by
    have ih := sum_Wt so (ps := ps) fun x hx => h x (List.mem_cons_of_mem _ hx)
    have k := one_key (h r List.mem_cons_self) so
    have e : ∀ zs : List Tb.Rw, (zs.map fun y => Tb.Wt (r :: ps) y.t y.b).sum = (zs.map fun y => if r.t = y.t ∧ r.b = y.b then r.w else 0).sum + (zs.map fun y => Tb.Wt ps y.t y.b).sum := by
      intro zs
      induction zs with
      | nil => rfl
      | cons z zs ih =>
        rw [List.map_cons, List.sum_cons, List.map_cons, List.sum_cons, List.map_cons, List.sum_cons, ih, Tb.Wt_cons]
        omega
    rw [e, Tb.W_cons]
    omega
theorem Out.sum {ps : List Tb.Rw} {ys : List Row} (o : Out ps ys) (h : ∀ r ∈ ps, 1 ≤ r.w) : wsum ys ≤ Tb.W ps := by
  have s := sum_Wt o.tab.lt h
  have le : ∀ zs : List Row, (∀ y ∈ zs, y.w ≤ Tb.Wt ps y.t y.b) → wsum zs ≤ ((rws zs).map fun y => Tb.Wt ps y.t y.b).sum := by
    intro zs
    induction zs with
    | nil => intro _; exact Int.le_refl _
    | cons z zs ih =>
      intro hz
      have e : wsum (z :: zs) = z.w + wsum zs := by unfold wsum; rw [List.map_cons, List.sum_cons]
      have e2 : rws (z :: zs) = z.r :: rws zs := rfl
      rw [e, e2, List.map_cons, List.sum_cons]
      have h1 := hz z List.mem_cons_self
      have h2 := ih fun y hy => hz y (List.mem_cons_of_mem _ hy)
      have h3 : Tb.Wt ps z.r.t z.r.b = Tb.Wt ps z.t z.b := rfl
      omega
  exact Int.le_trans (le ys fun y hy => (o.w y hy).2) s
structure GM (es : List Ent) (k0 : Nat) (W0 kk : Int) : Prop where
  ne : es ≠ []
  len : es.length ≤ 4
  k : k0 ≤ 12
  n : es.length * k0 ≤ 48
  w : ∀ e ∈ es, 1 ≤ e.w ∧ e.w ≤ 1000
  g : ∀ e ∈ es, GT e.ys k0 W0 (lcmB e.ys) kk
  c : ∀ e ∈ es, Cp k0 W0 (lcmB e.ys) kk
theorem GM.tp {es : List Ent} {k0 : Nat} {W0 kk : Int} (g : GM es k0 W0 kk) : ∀ n ∈ tots es, 0 < n ∧ n ≤ 2 ^ 600 := fun n hn => by
  obtain ⟨e, he, rfl⟩ := List.mem_map.mp hn
  have := (g.g e he).tot
  have := (g.g e he).ws
  have := (g.c e he).w
  omega
theorem GM.tb {es : List Ent} {k0 : Nat} {W0 kk : Int} (g : GM es k0 W0 kk) : (∀ n ∈ tots es, intBits n ≤ 601) ∧ ((tots es).map intBits).sum ≤ 2404 := by
  have e1 : ∀ n ∈ tots es, intBits n ≤ 601 := fun n hn => by
    have := g.tp n hn
    have p1 : (2 : Int) ^ 601 = 2 * 2 ^ 600 := by rw [Int.pow_succ]; omega
    have q1 := Sd.pow_pos2 600
    exact bits_of (by omega) (by omega)
  have h := sum_nat_le (k := 601) (l := (tots es).map intBits) fun n hn => by
    obtain ⟨z, hz, rfl⟩ := List.mem_map.mp hn
    exact e1 z hz
  have l := g.len
  have e : ((tots es).map intBits).length = es.length := by rw [List.length_map]; unfold tots; rw [List.length_map]
  rw [e] at h
  exact ⟨e1, by omega⟩
theorem GM.S {es : List Ent} {k0 : Nat} {W0 kk : Int} (g : GM es k0 W0 kk) : 0 < lcmL (tots es) ∧ lcmL (tots es) ≤ 2 ^ 2400 ∧ intBits (lcmL (tots es)) ≤ 2405 ∧ ∀ e ∈ es, wsum e.ys ∣ lcmL (tots es) := by
  have tp : ∀ n ∈ tots es, 0 < n := fun n hn => (g.tp n hn).1
  obtain ⟨a, b⟩ := lcmL_ok tp
  have l := g.len
  have pl := Sd.prodL_le (e := 600) g.tp
  have e : (tots es).length = es.length := by unfold tots; rw [List.length_map]
  rw [e] at pl
  have hb := lcmL_bits (tots es)
  have := g.tb.2
  exact ⟨a, Int.le_trans (Int.le_trans (lcmL_le tp) pl) (Sd.pow_le2 (by omega)), by omega, fun e he => b _ (List.mem_map.mpr ⟨e, he, rfl⟩)⟩
theorem fac_ws {S : Int} {e : Ent} (hp : 1 ≤ wsum e.ys) (d : wsum e.ys ∣ S) : fac S e * wsum e.ys = e.w * S := by
  unfold fac
  obtain ⟨s, es⟩ := d
  have q1 : S.fdiv (wsum e.ys) = s := by rw [es]; exact Int.mul_fdiv_cancel_left _ (by omega)
  rw [q1, es]
  grind
theorem fac_pos {S : Int} {e : Ent} (hw : 1 ≤ e.w) (hp : 1 ≤ wsum e.ys) (hS : 0 < S) (d : wsum e.ys ∣ S) : 1 ≤ fac S e := by
  have h := fac_ws hp d
  have p : 0 < e.w * S := Int.mul_pos (by omega) hS
  rcases Int.lt_or_le 0 (fac S e) with z | z
  · omega
  · have := Int.mul_nonpos_of_nonpos_of_nonneg z (show (0 : Int) ≤ wsum e.ys by omega)
    omega
theorem GM.part {es : List Ent} {k0 : Nat} {W0 kk : Int} (g : GM es k0 W0 kk) {e : Ent} (he : e ∈ es) {y : Row} (hy : y ∈ e.ys) : 1 ≤ fac (lcmL (tots es)) e * y.w ∧ fac (lcmL (tots es)) e * y.w ≤ 1000 * lcmL (tots es) := by
  obtain ⟨Sp, _, _, Sd'⟩ := g.S
  have ge := g.g e he
  have w := g.w e he
  have f1 := fac_pos w.1 ge.tot Sp (Sd' e he)
  have y1 := ge.w1 y hy
  have y2 := wsum_pos ge.w1 hy
  have a := fac_ws ge.tot (Sd' e he)
  have b := Int.mul_le_mul_of_nonneg_left y2 (show 0 ≤ fac (lcmL (tots es)) e by omega)
  have c := Int.mul_le_mul_of_nonneg_right w.2 (Int.le_of_lt Sp)
  have d : 1 * 1 ≤ fac (lcmL (tots es)) e * y.w := Int.mul_le_mul f1 y1 (by decide) (by omega)
  omega
theorem GM.pb {es : List Ent} {k0 : Nat} {W0 kk : Int} (g : GM es k0 W0 kk) {e : Ent} (he : e ∈ es) {y : Row} (hy : y ∈ e.ys) : Fr.IsFr y.t y.b ∧ intBits y.t ≤ 4000 ∧ intBits y.b ≤ 4000 ∧ 1 ≤ fac (lcmL (tots es)) e * y.w ∧ fac (lcmL (tots es)) e * y.w ≤ m300 := by
  have b := (g.g e he).bits (g.c e he) hy
  have p := g.part he hy
  have s := g.S.2.1
  have m : (1000 : Int) * 2 ^ 2400 ≤ m300 := by decide +kernel
  exact ⟨((g.g e he).fq y hy).fr, by omega, by omega, p.1, by omega⟩
theorem W_parts {S : Int} : ∀ {es : List Ent}, (∀ e ∈ es, 1 ≤ wsum e.ys ∧ wsum e.ys ∣ S ∧ e.w ≤ 1000) → 0 ≤ S → Tb.W (partsOf S es) ≤ 1000 * (es.length : Int) * S
  | [], _, _ => by show (0 : Int) ≤ _; simp
  | e :: es, h, hS => by
    have ih := W_parts (es := es) (fun x hx => h x (List.mem_cons_of_mem _ hx)) hS
    obtain ⟨h1, h2, h3⟩ := h e List.mem_cons_self
    have e1 : partsOf S (e :: es) = (e.ys.map fun y => ⟨y.t, y.b, fac S e * y.w⟩) ++ partsOf S es := rfl
    have e2 : ∀ zs : List Row, Tb.W (zs.map fun y => (⟨y.t, y.b, fac S e * y.w⟩ : Tb.Rw)) = fac S e * wsum zs := by
      intro zs
      induction zs with
      | nil => show (0 : Int) = _ * 0; simp
      | cons z zs ih =>
        have e : wsum (z :: zs) = z.w + wsum zs := by unfold wsum; rw [List.map_cons, List.sum_cons]
        rw [List.map_cons, Tb.W_cons, ih, e, Int.mul_add]
    rw [e1, Tb.W_append, e2, fac_ws h1 h2, List.length_cons]
    have := Int.mul_le_mul_of_nonneg_right h3 hS
    push_cast
    have e3 : 1000 * ((es.length : Int) + 1) * S = 1000 * (es.length : Int) * S + 1000 * S := by grind
    rw [e3]
    omega
theorem parts_key {S : Int} {es : List Ent} {t b : Int} (h : Tb.Has (partsOf S es) t b) : ∃ e ∈ es, ∃ y ∈ e.ys, y.t = t ∧ y.b = b := by
  obtain ⟨p, hp, e1, e2⟩ := h
  obtain ⟨e, he, hq⟩ := List.mem_flatMap.mp hp
  obtain ⟨y, hy, rfl⟩ := List.mem_map.mp hq
  exact ⟨e, he, y, hy, e1, e2⟩
theorem GM.out {es : List Ent} {k0 : Nat} {W0 kk : Int} {ys : List Row} (g : GM es k0 W0 kk) (o : Out (partsOf (lcmL (tots es)) es) ys) (hl : ys.length ≤ es.length * k0) :
    GT ys (es.length * k0) (4000 * Sd.prodL (tots es)) (Sd.prodL (es.map fun e => lcmB e.ys)) kk := by
  obtain ⟨Sp, _, _, Sd'⟩ := g.S
  have tp : ∀ n ∈ tots es, 0 < n := fun n hn => (g.tp n hn).1
  have pw : ∀ r ∈ partsOf (lcmL (tots es)) es, 1 ≤ r.w := fun r hr => by
    obtain ⟨e, he, hq⟩ := List.mem_flatMap.mp hr
    obtain ⟨y, hy, rfl⟩ := List.mem_map.mp hq
    exact (g.part he hy).1
  have pne : partsOf (lcmL (tots es)) es ≠ [] := by
    cases es with
    | nil => exact absurd rfl g.ne
    | cons e es =>
      intro z
      have h1 := (List.append_eq_nil_iff.mp (show (e.ys.map fun y => (⟨y.t, y.b, fac _ e * y.w⟩ : Tb.Rw)) ++ partsOf _ es = [] from z)).1
      exact (g.g e List.mem_cons_self).ne (List.map_eq_nil_iff.mp h1)
  have wp := W_parts (S := lcmL (tots es)) (es := es) (fun e he => ⟨(g.g e he).tot, Sd' e he, (g.w e he).2⟩) (Int.le_of_lt Sp)
  have sl := lcmL_le tp
  have l := g.len
  have mpos : ∀ n ∈ es.map (fun e => lcmB e.ys), 0 < n := fun n hn => by
    obtain ⟨e, he, rfl⟩ := List.mem_map.mp hn
    exact (g.g e he).mp
  refine ⟨o.ne pne, hl, fun y hy => (o.w y hy).1, ?_, Sd.prodL_pos mpos, fun y hy => ?_⟩
  · have a := o.sum pw
    have b : 1000 * (es.length : Int) * lcmL (tots es) ≤ 4000 * lcmL (tots es) := Int.mul_le_mul_of_nonneg_right (by omega) (Int.le_of_lt Sp)
    omega
  · obtain ⟨p, hp, e1, e2⟩ := o.key hy
    obtain ⟨e, he, z, hz, e3, e4⟩ := parts_key ⟨p, hp, e1, e2⟩
    have f := (g.g e he).fq z hz
    rw [e3, e4] at f
    exact Sd.Fq.mono f (Sd.prodL_dvd (List.mem_map.mpr ⟨e, he, rfl⟩)) (Int.le_refl _)
end TD
namespace TD
open PySem L2
open Builtin.Int (intBits)
theorem GT.cm {xs : List Row} {n : Nat} {W M k : Int} (g : GT xs n W M k) : Tb.CM (lcmB xs) (rws xs) := by
  obtain ⟨a, b, c⟩ := g.lcm
  refine ⟨a, fun r hr => ?_⟩
  obtain ⟨x, hx, rfl⟩ := List.mem_map.mp hr
  exact ⟨(g.fq x hx).fr.pos, c x hx⟩
theorem GT.tab {xs : List Row} {n : Nat} {W M k : Int} (g : GT xs n W M k) (so : (rws xs).Pairwise Tb.Lt) : Tb.Tab (lcmB xs) (rws xs) :=
  ⟨g.cm, fun r hr => by obtain ⟨x, hx, rfl⟩ := List.mem_map.mp hr; exact g.w1 x hx, so.imp fun h => Int.le_of_lt h⟩
theorem T_le {B k : Int} {r : Tb.Rw} (hb : 0 < r.b) (hB : 0 < B) (d : r.b ∣ B) (lo : -(k * r.b) ≤ r.t) (hi : r.t ≤ k * r.b) : -(k * B) ≤ Tb.T B r ∧ Tb.T B r ≤ k * B := by
  obtain ⟨c, hc, e, q⟩ := Tb.cof hb hB d
  unfold Tb.T
  rw [q, e]
  have h1 := Int.mul_le_mul_of_nonneg_right lo (Int.le_of_lt hc)
  have h2 := Int.mul_le_mul_of_nonneg_right hi (Int.le_of_lt hc)
  have e1 : -(k * r.b) * c = -(k * (r.b * c)) := by grind
  have e2 : k * r.b * c = k * (r.b * c) := by grind
  rw [e1] at h1
  rw [e2] at h2
  exact ⟨h1, h2⟩
theorem WT_le {B k : Int} (kB : 0 ≤ k * B) : ∀ {rs : List Tb.Rw}, (∀ r ∈ rs, 1 ≤ r.w ∧ -(k * B) ≤ Tb.T B r ∧ Tb.T B r ≤ k * B) → -(k * B * Tb.W rs) ≤ Tb.WT B rs ∧ Tb.WT B rs ≤ k * B * Tb.W rs
  | [], _ => by simp [Tb.W, Tb.WT]
  | r :: rs, h => by
    obtain ⟨a, b⟩ := WT_le kB (rs := rs) fun x hx => h x (List.mem_cons_of_mem _ hx)
    obtain ⟨w1, l, u⟩ := h r List.mem_cons_self
    rw [Tb.WT_cons, Tb.W_cons]
    have h1 := Int.mul_le_mul_of_nonneg_left l (show 0 ≤ r.w by omega)
    have h2 := Int.mul_le_mul_of_nonneg_left u (show 0 ≤ r.w by omega)
    have e1 : r.w * -(k * B) = -(k * B * r.w) := by grind
    have e2 : r.w * (k * B) = k * B * r.w := by grind
    have e3 : k * B * (r.w + Tb.W rs) = k * B * r.w + k * B * Tb.W rs := by grind
    rw [e1] at h1
    rw [e2] at h2
    rw [e3]
    omega
theorem W_drop {rs : List Tb.Rw} (h : ∀ r ∈ rs, 1 ≤ r.w) (j : Nat) : 0 ≤ Tb.W (rs.drop j) ∧ Tb.W (rs.drop j) ≤ Tb.W rs := by
  have nn : ∀ zs : List Tb.Rw, (∀ r ∈ zs, 1 ≤ r.w) → 0 ≤ Tb.W zs := by
    intro zs
    induction zs with
    | nil => intro _; exact Int.le_refl _
    | cons z zs ih =>
      intro hz
      rw [Tb.W_cons]
      have := hz z List.mem_cons_self
      have := ih fun x hx => hz x (List.mem_cons_of_mem _ hx)
      omega
  have e : Tb.W rs = Tb.W (rs.take j) + Tb.W (rs.drop j) := by rw [← Tb.W_append, List.take_append_drop]
  have a := nn (rs.take j) fun r hr => h r (List.mem_of_mem_take hr)
  have b := nn (rs.drop j) fun r hr => h r (List.mem_of_mem_drop hr)
  omega
theorem GT.lp {xs : List Row} {n : Nat} {W M k p tops ws : Int} {i : Nat} (g : GT xs n W M k) (k0 : 0 ≤ k) (p0 : 0 ≤ p) (l : Tb.Lp (lcmB xs) (p * Tb.W (rws xs) * lcmB xs) (rws xs) i tops ws) :
    0 ≤ ws ∧ ws ≤ wsum xs ∧ -((p + k) * wsum xs * lcmB xs) ≤ tops ∧ tops ≤ (p + k) * wsum xs * lcmB xs := by
  have cm := g.cm
  have Bp := cm.pos
  have w1 : ∀ r ∈ rws xs, 1 ≤ r.w := fun r hr => by obtain ⟨x, hx, rfl⟩ := List.mem_map.mp hr; exact g.w1 x hx
  have wd := W_drop w1 ((rws xs).length - i)
  have kB : 0 ≤ k * lcmB xs := Int.mul_nonneg k0 (Int.le_of_lt Bp)
  have wt := WT_le kB (rs := (rws xs).drop ((rws xs).length - i)) fun r hr => by
    obtain ⟨x, hx, rfl⟩ := List.mem_map.mp (List.mem_of_mem_drop hr)
    have f := g.fq x hx
    exact ⟨g.w1 x hx, T_le (r := x.r) f.fr.pos Bp (g.lcm.2.2 x hx) f.lo f.hi⟩
  have ew := l.ew
  have et := l.et
  rw [← ew] at wd wt
  have m := Int.mul_le_mul_of_nonneg_left wd.2 kB
  have P0 : 0 ≤ p * Tb.W (rws xs) * lcmB xs := Int.mul_nonneg (Int.mul_nonneg p0 (by omega)) (Int.le_of_lt Bp)
  have e : (p + k) * wsum xs * lcmB xs = p * Tb.W (rws xs) * lcmB xs + k * lcmB xs * Tb.W (rws xs) := by rw [wsum_W]; grind
  rw [e, wsum_W]
  exact ⟨wd.1, wd.2, by omega, by omega⟩
theorem lev_fq {tops ws B k : Int} (hw : 1 ≤ ws) (hB : 0 < B) (k0 : 0 ≤ k) (lo : -(k * B) ≤ tops) (hi : tops ≤ k * B) : Sd.FQ (Fr.sh tops (ws * B)) (ws * B) k := by
  have p : 0 < ws * B := Int.mul_pos (by omega) hB
  have kb : 0 ≤ k * B := Int.mul_nonneg k0 (Int.le_of_lt hB)
  have e : k * (ws * B) = k * B * ws := by grind
  have h : k * B * 1 ≤ k * B * ws := Int.mul_le_mul_of_nonneg_left hw kb
  exact Sd.sh_fq (u := tops) p rfl (by rw [e]; omega) (by rw [e]; omega)
def spLF2 : Sp := fun vs H Q _ => ∃ (a : Addr) (xs : List Row) (p : Int) (n : Nat) (W k : Int), vs = [.ref a, .int p] ∧ TabAt H a xs ∧ GT xs n W (lcmB xs) k ∧ Cp n W (lcmB xs) k ∧ (rws xs).Pairwise Tb.Lt ∧ 0 ≤ p ∧ p ≤ 1000000000 ∧
  ∀ (r : Addr) (H' : Hp) (l : Int × Int) (u : Int), Same H H' → Tq H' r l → 1 ≤ u → u ≤ wsum xs → Sd.FQ l (u * lcmB xs) ((p + k) * wsum xs) → Tb.Lv (lcmB xs) (p * Tb.W (rws xs) * lcmB xs) l.1 l.2 (rws xs) → Q (.ref r) H'
theorem cap_gt {xs ys : List Row} {n : Nat} {W M k l0 l1 : Int} (g : GT xs n W M k) (f : Sd.Fq l0 l1 M k) (o : Out ((rws xs).map (Tb.capR l0 l1)) ys) (hl : ys.length ≤ xs.length) : GT ys n W M k := by
  have cw : ∀ r : Tb.Rw, (Tb.capR l0 l1 r).w = r.w := fun r => by unfold Tb.capR; split <;> rfl
  have pw : ∀ r ∈ (rws xs).map (Tb.capR l0 l1), 1 ≤ r.w := fun r hr => by
    obtain ⟨p, hp, rfl⟩ := List.mem_map.mp hr
    obtain ⟨x, hx, rfl⟩ := List.mem_map.mp hp
    rw [cw]
    exact g.w1 x hx
  have eW : ∀ rs : List Tb.Rw, Tb.W (rs.map (Tb.capR l0 l1)) = Tb.W rs := by
    intro rs
    induction rs with
    | nil => rfl
    | cons r rs ih => rw [List.map_cons, Tb.W_cons, Tb.W_cons, ih, cw]
  have s := o.sum pw
  rw [eW, ← wsum_W] at s
  refine ⟨o.ne fun z => g.ne (List.map_eq_nil_iff.mp (List.map_eq_nil_iff.mp z)), Nat.le_trans hl g.len, fun y hy => (o.w y hy).1, Int.le_trans s g.ws, g.mp, fun y hy => ?_⟩
  obtain ⟨p, hp, e1, e2⟩ := o.key hy
  obtain ⟨q, hq, rfl⟩ := List.mem_map.mp hp
  obtain ⟨x, hx, rfl⟩ := List.mem_map.mp hq
  rw [← e1, ← e2]
  unfold Tb.capR
  split
  · exact f
  · exact g.fq x hx
theorem cap_pb {xs ys : List Row} {n : Nat} {W M k l0 l1 : Int} (g : GT xs n W M k) (c : Cp n W M k) (f : Sd.Fq l0 l1 M k) (e : rws ys = (rws xs).map (Tb.capR l0 l1)) : PB ys := fun y hy => by
  have m : y.r ∈ (rws xs).map (Tb.capR l0 l1) := by rw [← e]; exact List.mem_map.mpr ⟨y, hy, rfl⟩
  obtain ⟨p, hp, ep⟩ := List.mem_map.mp m
  obtain ⟨x, hx, rfl⟩ := List.mem_map.mp hp
  have pb := g.pb c x hx
  have lb := fq_bits f g.mp c.m c.k0 c.k
  unfold Tb.capR at ep
  by_cases cc : l0 * x.r.b < x.r.t * l1
  · rw [if_pos cc] at ep
    have e1 : l0 = y.t := congrArg Tb.Rw.t ep
    have e2 : l1 = y.b := congrArg Tb.Rw.b ep
    have e3 : x.w = y.w := congrArg Tb.Rw.w ep
    rw [← e1, ← e2, ← e3]
    exact ⟨f.fr, by omega, by omega, pb.2.2.2.1, pb.2.2.2.2⟩
  · rw [if_neg cc] at ep
    have e1 : x.t = y.t := congrArg Tb.Rw.t ep
    have e2 : x.b = y.b := congrArg Tb.Rw.b ep
    have e3 : x.w = y.w := congrArg Tb.Rw.w ep
    rw [← e1, ← e2, ← e3]
    exact pb
def spCap2 (Pt : Addr) (lp : Pos) : Sp := fun vs H Q _ => ∃ (a l : Addr) (xs : List Row) (x : Int × Int) (n : Nat) (W M k : Int), vs = [.ref a, .ref l] ∧ TabAt H a xs ∧ GT xs n W M k ∧ Cp n W M k ∧ Tq H l x ∧ Sd.FQ x M k ∧ TbOk Pt lp lamQ H ∧
  ∀ (r : Addr) (H' : Hp) (ys : List Row), SameT Pt H H' → TbOk Pt lp lamQ H' → H r = none → TabAt H' r ys → GT ys n W M k → Out ((rws xs).map (Tb.capR x.1 x.2)) ys → Q (.ref r) H'
def spMix2 (Pt : Addr) (lp : Pos) : Sp := fun vs H Q _ => ∃ (a : Addr) (es : List Ent) (k0 : Nat) (W0 kk : Int), vs = [.ref a] ∧ EntsAt H a es ∧ GM es k0 W0 kk ∧ TbOk Pt lp lamQ H ∧
  ∀ (r : Addr) (H' : Hp) (ys : List Row), SameT Pt H H' → TbOk Pt lp lamQ H' → H r = none → TabAt H' r ys → GT ys (es.length * k0) (4000 * Sd.prodL (tots es)) (Sd.prodL (es.map fun e => lcmB e.ys)) kk → Out (partsOf (lcmL (tots es)) es) ys → ys.length ≤ (partsOf (lcmL (tots es)) es).length → Q (.ref r) H'
def GS2 (xs : List Row) (d m : Nat) : Prop := GT xs m (wB d m) (lcmB xs) (kK d) ∧ lcmB xs ≤ 2 ^ (be d * m)
theorem GS2.up {xs : List Row} {d k : Nat} (h : GS2 xs d k) (hk : k ≤ 12) : GS2 xs d 12 := by
  obtain ⟨g, l⟩ := h
  have a : wB d k ≤ wB d 12 := Sd.pow_le2 (Nat.mul_le_mul_left _ hk)
  exact ⟨⟨g.ne, Nat.le_trans g.len hk, g.w1, Int.le_trans g.ws a, g.mp, g.fq⟩, Int.le_trans l (Sd.pow_le2 (Nat.mul_le_mul_left _ hk))⟩
inductive Ae (d : Nat) (f : Int × Sd.Sd → Nat) : List Ent → List (Int × Sd.Sd) → Prop
  | nil : Ae d f [] []
  | cons {e : Ent} {t : Int × Sd.Sd} {es : List Ent} {rs : List (Int × Sd.Sd)} (g : GS2 e.ys d (f t)) (h : Ae d f es rs) : Ae d f (e :: es) (t :: rs)
theorem Ae.snoc {d : Nat} {f : Int × Sd.Sd → Nat} {es : List Ent} {rs : List (Int × Sd.Sd)} (h : Ae d f es rs) {e : Ent} {t : Int × Sd.Sd} (g : GS2 e.ys d (f t)) : Ae d f (es ++ [e]) (rs ++ [t]) := by
  induction h with
  | nil => exact .cons g .nil
  | cons g' _ ih => exact .cons g' ih
structure AeB (d n : Nat) (es : List Ent) : Prop where
  t0 : 0 < Sd.prodL (tots es)
  t : Sd.prodL (tots es) ≤ 2 ^ ((12 * d + 1) * n)
  l : Sd.prodL (es.map fun e => lcmB e.ys) ≤ 2 ^ (be d * n)
  p : ∀ S, (partsOf S es).length ≤ n
theorem Ae.b {d : Nat} {f : Int × Sd.Sd → Nat} {es : List Ent} {rs : List (Int × Sd.Sd)} (h : Ae d f es rs) : AeB d (rs.map f).sum es := by
  induction h with
  | nil => exact ⟨by decide, by show (1 : Int) ≤ _; simp, by show (1 : Int) ≤ _; simp, fun _ => Nat.zero_le _⟩
  | @cons e t es rs g _ ih =>
    have a := g.1.tot
    have b := g.1.ws
    unfold wB at b
    have c := g.1.mp
    have e1 : tots (e :: es) = wsum e.ys :: tots es := rfl
    have lp : 0 < Sd.prodL (es.map fun e => lcmB e.ys) ∨ True := .inr trivial
    rw [List.map_cons, List.sum_cons]
    refine ⟨?_, ?_, ?_, fun S => ?_⟩
    · rw [e1]; exact Int.mul_pos (by omega) ih.t0
    · rw [e1, Nat.mul_add, Int.pow_add]
      exact Int.le_trans (Int.mul_le_mul_of_nonneg_right b (Int.le_of_lt ih.t0)) (Int.mul_le_mul_of_nonneg_left ih.t (Int.le_of_lt (Sd.pow_pos2 _)))
    · rw [List.map_cons, Nat.mul_add, Int.pow_add]
      exact Int.le_trans (Int.mul_le_mul_of_nonneg_left ih.l (Int.le_of_lt c)) (Int.mul_le_mul_of_nonneg_right g.2 (Int.le_of_lt (Sd.pow_pos2 _)))
    · have e2 : partsOf S (e :: es) = (e.ys.map fun y => ⟨y.t, y.b, fac S e * y.w⟩) ++ partsOf S es := rfl
      rw [e2, List.length_append, List.length_map]
      have := g.1.len
      have := ih.p S
      omega
theorem Ae.all {d : Nat} {f : Int × Sd.Sd → Nat} {es : List Ent} {rs : List (Int × Sd.Sd)} (h : Ae d f es rs) (hf : ∀ t ∈ rs, f t ≤ 12) : ∀ e ∈ es, GS2 e.ys d 12 := by
  induction h with
  | nil => intro e he; cases he
  | @cons e t es rs g _ ih =>
    intro x hx
    rcases List.mem_cons.mp hx with z | z
    · subst z; exact g.up (hf t List.mem_cons_self)
    · exact ih (fun u hu => hf u (List.mem_cons_of_mem _ hu)) x z
theorem gm_of {es : List Ent} {d : Nat} (hd : d ≤ 4) (ne : es ≠ []) (l4 : es.length ≤ 4) (w : ∀ e ∈ es, 1 ≤ e.w ∧ e.w ≤ 1000) (g : ∀ e ∈ es, GS2 e.ys d 12) : GM es 12 (wB d 12) (kK d) :=
  ⟨ne, l4, by decide, by omega, w, fun e he => (g e he).1, fun e he => cp_of hd (by decide) (g e he).2⟩
structure Mx (es : List Ent) (ys : List Row) (d m : Nat) : Prop where
  g : GT ys m (wB (d + 1) m) (lcmB ys) (kK d)
  l : lcmB ys ≤ 2 ^ (be d * m)
theorem mx_of {es : List Ent} {ys : List Row} {d m n n0 : Nat} (ab : AeB d n es) (hn : n ≤ m) (hm1 : 1 ≤ m) (o : ys.length ≤ n) (h : GT ys n0 (4000 * Sd.prodL (tots es)) (Sd.prodL (es.map fun e => lcmB e.ys)) (kK d)) : Mx es ys d m := by
  have x2 : (12 * d + 1) * n ≤ (12 * d + 1) * m := Nat.mul_le_mul_left _ hn
  have x3 : 12 + (12 * d + 1) * m ≤ (12 * (d + 1) + 1) * m := by
    have : (12 * (d + 1) + 1) * m = 12 * m + (12 * d + 1) * m := by rw [show 12 * (d + 1) + 1 = 12 + (12 * d + 1) by omega, Nat.add_mul]
    omega
  have y2 : be d * n ≤ be d * m := Nat.mul_le_mul_left _ hn
  have W1 : 4000 * Sd.prodL (tots es) ≤ wB (d + 1) m := by
    have a : 4000 * Sd.prodL (tots es) ≤ 2 ^ 12 * Sd.prodL (tots es) := Int.mul_le_mul_of_nonneg_right (by decide) (Int.le_of_lt ab.t0)
    have b : (2 : Int) ^ 12 * Sd.prodL (tots es) ≤ 2 ^ 12 * 2 ^ ((12 * d + 1) * n) := Int.mul_le_mul_of_nonneg_left ab.t (by decide)
    rw [← Int.pow_add] at b
    have c : (2 : Int) ^ (12 + (12 * d + 1) * n) ≤ wB (d + 1) m := Sd.pow_le2 (by omega)
    omega
  obtain ⟨o1, o2⟩ := h.own
  have M1 : lcmB ys ≤ 2 ^ (be d * m) := Int.le_trans (Int.le_trans o2 ab.l) (Sd.pow_le2 (by omega))
  exact ⟨⟨o1.ne, Nat.le_trans o hn, o1.w1, Int.le_trans o1.ws W1, o1.mp, o1.fq⟩, M1⟩
theorem Mx.cp {es : List Ent} {ys : List Row} {d m : Nat} (x : Mx es ys d m) (hd : d + 1 ≤ 4) (hm : m ≤ 12) : Cp m (wB (d + 1) m) (lcmB ys) (kK d) := by
  have a := cp_of (d := d) (by omega) hm x.l
  have b := cp_of (d := d + 1) (m := m) (M := 1) hd hm (by have := Sd.pow_pos2 (be (d + 1) * m); omega)
  exact ⟨hm, b.w, a.m, a.k0, a.k⟩
theorem k30 (d : Nat) : (1000000000 : Int) ≤ kK d := by
  have h : 30 ≤ ka d := by
    induction d with
    | zero => exact Nat.le_refl _
    | succ d ih => show 30 ≤ ka d + (12 * (d + 1) + 1) * 12 + 1; omega
  have := Sd.pow_le2 h
  have e : (2 : Int) ^ 30 = 1073741824 := by decide
  unfold kK
  omega
structure Lx (ys : List Row) (l : Int × Int) (M k : Int) (d m : Nat) : Prop where
  g : GT ys m (wB (d + 1) m) M k
  c : Cp m (wB (d + 1) m) M k
  f : Sd.FQ l M k
  m : M ≤ 2 ^ (be (d + 1) * m)
  k : k ≤ kK (d + 1)
theorem lx_of {es : List Ent} {ys : List Row} {d m : Nat} {p u : Int} {l : Int × Int} (x : Mx es ys d m) (hd : d + 1 ≤ 4) (hm : m ≤ 12) (p0 : 0 ≤ p) (p9 : p ≤ 1000000000) (u1 : 1 ≤ u) (u2 : u ≤ wsum ys) (f : Sd.FQ l (u * lcmB ys) ((p + kK d) * wsum ys)) :
    Lx ys l (u * lcmB ys) ((p + kK d) * wsum ys) d m := by
  have kp := Sd.pow_pos2 (ka d)
  have kp : 0 < kK d := kp
  have k9 := k30 d
  have ws := x.g.ws
  have w1 := x.g.tot
  have mp := x.g.mp
  have wp : (0 : Int) < wB (d + 1) m := Sd.pow_pos2 _
  have kk : kK d ≤ (p + kK d) * wsum ys := by
    have a : (p + kK d) * 1 ≤ (p + kK d) * wsum ys := Int.mul_le_mul_of_nonneg_left w1 (by omega)
    omega
  have M1 : u * lcmB ys ≤ 2 ^ (be (d + 1) * m) := by
    have a : u * lcmB ys ≤ wB (d + 1) m * 2 ^ (be d * m) := Int.le_trans (Int.mul_le_mul_of_nonneg_right (Int.le_trans u2 ws) (Int.le_of_lt mp)) (Int.mul_le_mul_of_nonneg_left x.l (Int.le_of_lt wp))
    unfold wB at a
    rw [← Int.pow_add] at a
    refine Int.le_trans a (Sd.pow_le2 ?_)
    have e : be (d + 1) * m = be d * m + (12 * (d + 1) + 1) * m := by rw [← Nat.add_mul]; rfl
    omega
  have K1 : (p + kK d) * wsum ys ≤ kK (d + 1) := by
    have a : (p + kK d) * wsum ys ≤ (2 * kK d) * wB (d + 1) m := Int.le_trans (Int.mul_le_mul_of_nonneg_right (by omega) (by omega)) (Int.mul_le_mul_of_nonneg_left ws (by omega))
    have e : (2 * kK d) * wB (d + 1) m = 2 ^ (ka d + 1 + (12 * (d + 1) + 1) * m) := by
      unfold kK wB
      rw [Int.pow_add, Int.pow_succ]
      grind
    rw [e] at a
    refine Int.le_trans a (Sd.pow_le2 ?_)
    show _ ≤ ka d + (12 * (d + 1) + 1) * 12 + 1
    have := Nat.mul_le_mul_left (12 * (d + 1) + 1) hm
    omega
  have c1 := cp_of (d := d + 1) hd hm M1
  refine ⟨⟨x.g.ne, x.g.len, x.g.w1, x.g.ws, Int.mul_pos (by omega) mp, fun y hy => Sd.Fq.mono (x.g.fq y hy) ⟨u, by grind⟩ kk⟩, ⟨hm, c1.w, c1.m, by omega, Int.le_trans K1 c1.k⟩, f, M1, K1⟩
theorem gs_of {ys zs : List Row} {l : Int × Int} {M k : Int} {d m : Nat} (x : Lx ys l M k d m) (g : GT zs m (wB (d + 1) m) M k) : GS2 zs (d + 1) m := by
  obtain ⟨a, b⟩ := g.own
  exact ⟨⟨a.ne, a.len, a.w1, a.ws, a.mp, fun y hy => Sd.Fq.mono (a.fq y hy) (Int.dvd_refl _) x.k⟩, Int.le_trans b x.m⟩
end TD
namespace Sd
def V (x : Int × Int) : Rat := (x.1 : Rat) / (x.2 : Rat)
def mxr (a b : Rat) : Rat := if a < b then b else a
def rb (l : Rat) : Nat → Sd → Rat
  | 0, _ => 0
  | _ + 1, .en v => mxr l (v : Rat)
  | n + 1, .st p rs => mxr l (rs.foldl (fun a r => a + (r.1 : Rat) / (wtot rs : Rat) * rb l n r.2) (-(p : Rat)))
def opr (l : Rat) : Nat → Sd → Rat
  | 0, _ => 0
  | _ + 1, .en v => (v : Rat)
  | n + 1, .st p rs => rs.foldl (fun a r => a + (r.1 : Rat) / (wtot rs : Rat) * rb l n r.2) (-(p : Rat))
theorem rb_opr (l : Rat) (n : Nat) (s : Sd) : rb l (n + 1) s = mxr l (opr l (n + 1) s) := by cases s <;> rfl
theorem castpos {b : Int} (h : 0 < b) : (0 : Rat) < (b : Rat) := by exact_mod_cast h
theorem castne {b : Int} (h : 0 < b) : (b : Rat) ≠ 0 := by have := castpos h; grind
theorem V_lt {x y : Int × Int} (hx : 0 < x.2) (hy : 0 < y.2) : x.1 * y.2 < y.1 * x.2 ↔ V x < V y := by
  have p1 := castpos hx
  have p2 := castpos hy
  have n1 := castne hx
  have n2 := castne hy
  have e1 : V x * (x.2 : Rat) = (x.1 : Rat) := by unfold V; grind
  have e2 : V y * (y.2 : Rat) = (y.1 : Rat) := by unfold V; grind
  have pp : (0 : Rat) < (x.2 : Rat) * (y.2 : Rat) := Rat.mul_pos p1 p2
  have c : x.1 * y.2 < y.1 * x.2 ↔ (x.1 : Rat) * (y.2 : Rat) < (y.1 : Rat) * (x.2 : Rat) := by
    constructor
    · intro h; exact_mod_cast h
    · intro h; exact_mod_cast h
  rw [c, ← e1, ← e2]
  constructor
  · intro h
    by_cases z : V x < V y
    · exact z
    · have := Rat.mul_le_mul_of_nonneg_right (Rat.not_lt.mp z) (c := (x.2 : Rat) * (y.2 : Rat)) (by grind)
      grind
  · intro h
    have := Rat.mul_lt_mul_of_pos_right h pp
    grind
theorem V_inj {x y : Int × Int} (fx : Fr.IsFr x.1 x.2) (fy : Fr.IsFr y.1 y.2) (h : V x = V y) : x = y := by
  have n1 := castne fx.pos
  have n2 := castne fy.pos
  have c : (x.1 : Rat) * (y.2 : Rat) = (y.1 : Rat) * (x.2 : Rat) := by unfold V at h; grind
  have c' : x.1 * y.2 = y.1 * x.2 := by exact_mod_cast c
  have e := Fr.sh_is fx (Int.ne_of_gt fy.pos) c'
  have e2 := Fr.sh_is fy (Int.ne_of_gt fy.pos) (rfl : y.1 * y.2 = y.1 * y.2)
  exact e.trans e2.symm
def cv (r : Tb.Rw) : Rat := (r.t : Rat) / (r.b : Rat)
def up (l : Rat) (ys : List Tb.Rw) : Rat := (ys.map fun r => (r.w : Rat) * (mxr l (cv r) - l)).sum
def totr (ys : List Tb.Rw) : Rat := (ys.map fun r => (r.w : Rat)).sum
theorem up_nil (l : Rat) : up l [] = 0 := rfl
theorem up_cons (l : Rat) (r : Tb.Rw) (ys : List Tb.Rw) : up l (r :: ys) = (r.w : Rat) * (mxr l (cv r) - l) + up l ys := by unfold up; rw [List.map_cons, List.sum_cons]
theorem totr_cons (r : Tb.Rw) (ys : List Tb.Rw) : totr (r :: ys) = (r.w : Rat) + totr ys := by unfold totr; rw [List.map_cons, List.sum_cons]
theorem up_append (l : Rat) (xs ys : List Tb.Rw) : up l (xs ++ ys) = up l xs + up l ys := by unfold up; rw [List.map_append, List.sum_append]
theorem totr_append (xs ys : List Tb.Rw) : totr (xs ++ ys) = totr xs + totr ys := by unfold totr; rw [List.map_append, List.sum_append]
theorem totr_W : ∀ ys : List Tb.Rw, totr ys = ((Tb.W ys : Int) : Rat)
  | [] => rfl
  | r :: ys => by rw [totr_cons, Tb.W_cons, totr_W ys]; push_cast; rfl
theorem one_sum {f : Int → Int → Rat} {r : Tb.Rw} : ∀ {ys : List Tb.Rw}, ys.Pairwise Tb.Lt → ((ys.map fun y => (((if r.t = y.t ∧ r.b = y.b then r.w else 0 : Int)) : Rat) * f y.t y.b).sum = if (∃ y ∈ ys, y.t = r.t ∧ y.b = r.b) then (r.w : Rat) * f r.t r.b else 0)
  | [], _ => by simp
  | y :: ys, so => by
    obtain ⟨h1, h2⟩ := List.pairwise_cons.mp so
    rw [List.map_cons, List.sum_cons, one_sum (f := f) (r := r) h2]
    by_cases e : r.t = y.t ∧ r.b = y.b
    · have no : ¬ ∃ z ∈ ys, z.t = r.t ∧ z.b = r.b := by
        rintro ⟨z, hz, e1, e2⟩
        exact Tb.Lt_irr (h1 z hz) (by omega) (by omega)
      rw [if_pos e, if_neg no, if_pos ⟨y, List.mem_cons_self, e.1.symm, e.2.symm⟩, ← e.1, ← e.2]
      grind
    · rw [if_neg e]
      by_cases h : ∃ z ∈ ys, z.t = r.t ∧ z.b = r.b
      · obtain ⟨z, hz, ez⟩ := h
        rw [if_pos ⟨z, hz, ez⟩, if_pos ⟨z, List.mem_cons_of_mem _ hz, ez⟩]
        push_cast
        grind
      · rw [if_neg h, if_neg]
        · push_cast
          grind
        · rintro ⟨z, hz, ez⟩
          rcases List.mem_cons.mp hz with w | w
          · subst w; exact e ⟨ez.1.symm, ez.2.symm⟩
          · exact h ⟨z, w, ez⟩
theorem sum_add {α : Type} {f g : α → Rat} : ∀ l : List α, (l.map fun x => f x + g x).sum = (l.map f).sum + (l.map g).sum
  | [] => by show (0 : Rat) = 0 + 0; grind
  | x :: l => by rw [List.map_cons, List.sum_cons, sum_add l, List.map_cons, List.sum_cons, List.map_cons, List.sum_cons]; grind
theorem sum_mul {α : Type} {f : α → Rat} (d : Rat) : ∀ l : List α, (l.map fun x => d * f x).sum = d * (l.map f).sum
  | [] => by simp
  | x :: l => by rw [List.map_cons, List.sum_cons, sum_mul d l, List.map_cons, List.sum_cons]; grind
theorem prop_sum {ys : List Tb.Rw} (so : ys.Pairwise Tb.Lt) (f : Int → Int → Rat) : ∀ {ps : List Tb.Rw}, (∀ r ∈ ps, Tb.Has ys r.t r.b) → (ps.map fun r => (r.w : Rat) * f r.t r.b).sum = (ys.map fun y => ((Tb.Wt ps y.t y.b : Int) : Rat) * f y.t y.b).sum
  | [], _ => by
    have e : (ys.map fun y => ((Tb.Wt [] y.t y.b : Int) : Rat) * f y.t y.b) = ys.map fun y => (0 : Rat) * f y.t y.b := List.map_congr_left fun y _ => rfl
    rw [e, sum_mul]
    simp
  | r :: ps, h => by
    rw [List.map_cons, List.sum_cons, prop_sum so f fun x hx => h x (List.mem_cons_of_mem _ hx)]
    have e : (ys.map fun y => ((Tb.Wt (r :: ps) y.t y.b : Int) : Rat) * f y.t y.b) = ys.map fun y => (((if r.t = y.t ∧ r.b = y.b then r.w else 0 : Int)) : Rat) * f y.t y.b + ((Tb.Wt ps y.t y.b : Int) : Rat) * f y.t y.b := List.map_congr_left fun y _ => by
      rw [Tb.Wt_cons]
      push_cast
      grind
    rw [e, sum_add, one_sum so, if_pos]
    obtain ⟨y, hy, e1, e2⟩ := h r List.mem_cons_self
    exact ⟨y, hy, e1, e2⟩
theorem tab_prop {ps ys : List Tb.Rw} (h : Tb.IsTab ps ys) : ∃ d : Rat, 0 < d ∧ (∀ l, up l ps = d * up l ys) ∧ totr ps = d * totr ys := by
  obtain ⟨d, d0, hd⟩ := h.d
  have hh : ∀ r ∈ ps, Tb.Has ys r.t r.b := fun r hr => (h.has r.t r.b).mpr ⟨r, hr, rfl, rfl⟩
  have key : ∀ f : Int → Int → Rat, (ps.map fun r => (r.w : Rat) * f r.t r.b).sum = (d : Rat) * (ys.map fun y => (y.w : Rat) * f y.t y.b).sum := fun f => by
    rw [prop_sum h.lt f hh, ← sum_mul]
    congr 1
    refine List.map_congr_left fun y hy => ?_
    rw [hd y hy]
    push_cast
    grind
  refine ⟨(d : Rat), castpos d0, fun l => key fun t b => mxr l ((t : Rat) / (b : Rat)) - l, ?_⟩
  have k1 := key fun _ _ => 1
  unfold totr
  have e : ∀ l : List Tb.Rw, (l.map fun r => (r.w : Rat) * 1) = l.map fun r => (r.w : Rat) := fun l => List.map_congr_left fun r _ => by grind
  rw [e, e] at k1
  exact k1
theorem up_anti {l l' : Rat} (h : l ≤ l') : ∀ {ys : List Tb.Rw}, (∀ r ∈ ys, 1 ≤ r.w) → up l' ys ≤ up l ys
  | [], _ => by rw [up_nil, up_nil]; grind
  | r :: ys, hw => by
    have a := up_anti h (ys := ys) fun x hx => hw x (List.mem_cons_of_mem _ hx)
    have w := castpos (show 0 < r.w by have := hw r List.mem_cons_self; omega)
    have m : mxr l' (cv r) - l' ≤ mxr l (cv r) - l := by unfold mxr; split <;> split <;> grind
    have b := Rat.mul_le_mul_of_nonneg_left m (c := (r.w : Rat)) (by grind)
    rw [up_cons, up_cons]
    grind
theorem totr_pos {ys : List Tb.Rw} (ne : ys ≠ []) (h : ∀ r ∈ ys, 1 ≤ r.w) : 0 < totr ys := by
  rw [totr_W]
  exact castpos (Tb.W_pos h ne)
theorem cv_cap {l0 l1 : Int} (hl : 0 < l1) {r : Tb.Rw} (hb : 0 < r.b) : cv (Tb.capR l0 l1 r) = (if V (l0, l1) < cv r then V (l0, l1) else cv r) ∧ (Tb.capR l0 l1 r).w = r.w := by
  have e := V_lt (x := (l0, l1)) (y := (r.t, r.b)) hl hb
  have e : l0 * r.b < r.t * l1 ↔ V (l0, l1) < cv r := e
  unfold Tb.capR
  by_cases h : l0 * r.b < r.t * l1
  · rw [if_pos h, if_pos (e.mp h)]
    exact ⟨rfl, rfl⟩
  · rw [if_neg h, if_neg (fun z => h (e.mpr z))]
    exact ⟨rfl, rfl⟩
theorem up_cap {l0 l1 : Int} (hl : 0 < l1) {l : Rat} : ∀ {ys : List Tb.Rw}, (∀ r ∈ ys, 0 < r.b) → up l (ys.map (Tb.capR l0 l1)) = (if l < V (l0, l1) then up l ys - up (V (l0, l1)) ys else 0) ∧ totr (ys.map (Tb.capR l0 l1)) = totr ys
  | [], _ => by
    constructor
    · simp only [List.map_nil, up_nil]; split <;> grind
    · rfl
  | r :: ys, h => by
    obtain ⟨a, b⟩ := up_cap (l0 := l0) hl (l := l) (ys := ys) fun x hx => h x (List.mem_cons_of_mem _ hx)
    obtain ⟨c, d⟩ := cv_cap (l0 := l0) hl (h r List.mem_cons_self)
    rw [List.map_cons, up_cons, totr_cons, a, b, c, d, totr_cons, up_cons, up_cons]
    refine ⟨?_, rfl⟩
    unfold mxr
    by_cases h1 : l < V (l0, l1)
    · rw [if_pos h1, if_pos h1]
      by_cases h2 : V (l0, l1) < cv r
      · simp only [if_pos h2]
        rw [if_pos h1, if_pos (show l < cv r by grind)]
        grind
      · simp only [if_neg h2]
        by_cases h3 : l < cv r
        · rw [if_pos h3]; grind
        · rw [if_neg h3]; grind
    · rw [if_neg h1, if_neg h1]
      have : ¬ l < (if V (l0, l1) < cv r then V (l0, l1) else cv r) := by split <;> grind
      rw [if_neg this]
      grind
theorem S_up {B l0 l1 : Int} (hB : 0 < B) (hl : 0 < l1) : ∀ {ys : List Tb.Rw}, (∀ r ∈ ys, 0 < r.b ∧ r.b ∣ B) → ((Tb.S B l0 l1 ys : Int) : Rat) = (B : Rat) * (l1 : Rat) * up (V (l0, l1)) ys
  | [], _ => by rw [up_nil]; show ((0 : Int) : Rat) = _; push_cast; grind
  | r :: ys, h => by
    have a := S_up (l0 := l0) hB hl (ys := ys) fun x hx => h x (List.mem_cons_of_mem _ hx)
    obtain ⟨hb, dv⟩ := h r List.mem_cons_self
    have tm := Tb.T_mul hb hB dv
    have ai := Tb.above_iff (l0 := l0) (l1 := l1) hb hB dv
    have e := V_lt (x := (l0, l1)) (y := (r.t, r.b)) hl hb
    have e : l0 * r.b < r.t * l1 ↔ V (l0, l1) < cv r := e
    have n1 := castne hB
    have n2 := castne hl
    have n3 := castne hb
    have tm' : ((Tb.T B r : Int) : Rat) * (r.b : Rat) = (r.t : Rat) * (B : Rat) := by exact_mod_cast tm
    rw [Tb.S_cons, up_cons]
    push_cast
    rw [a]
    unfold Tb.mx mxr
    by_cases c : V (l0, l1) < cv r
    · rw [if_pos (ai.mpr (e.mpr c)), if_pos c]
      push_cast
      unfold V cv
      have t2 : ((Tb.T B r : Int) : Rat) = (r.t : Rat) * (B : Rat) / (r.b : Rat) := by grind
      rw [t2]
      grind
    · rw [if_neg (fun z => c (e.mp (ai.mp z))), if_neg c]
      push_cast
      grind
structure LvR (p : Int) (L : Rat) (ys : List Tb.Rw) : Prop where
  has : up L ys = (p : Rat) * totr ys
  more : ∀ m : Rat, m < L → (p : Rat) * totr ys < up m ys
theorem V_rat (m : Rat) : V (m.num, (m.den : Int)) = m := by
  unfold V
  show (m.num : Rat) / ((m.den : Int) : Rat) = m
  rw [← Rat.divInt_eq_div, Rat.num_divInt_den]
theorem lv_rat {B p l0 l1 : Int} {ys : List Tb.Rw} (hB : 0 < B) (h : ∀ r ∈ ys, 0 < r.b ∧ r.b ∣ B) (L : Tb.Lv B (p * Tb.W ys * B) l0 l1 ys) : LvR p (V (l0, l1)) ys := by
  have n1 := castne hB
  have n2 := castne L.pos
  have q1 := castpos hB
  constructor
  · have a := S_up (l0 := l0) hB L.pos h
    rw [L.has] at a
    push_cast at a
    rw [totr_W]
    grind
  · intro m hm
    have mp : (0 : Int) < (m.den : Int) := by exact_mod_cast m.den_pos
    have lt := (V_lt (x := (m.num, (m.den : Int))) (y := (l0, l1)) mp L.pos).mpr (by rw [V_rat]; exact hm)
    have b := L.more m.num m.den lt
    have a := S_up (l0 := m.num) hB mp h
    rw [V_rat] at a
    have b' : ((p * Tb.W ys * B * (m.den : Int) : Int) : Rat) < ((Tb.S B m.num m.den ys : Int) : Rat) := by exact_mod_cast b
    rw [a] at b'
    push_cast at b'
    have q2 := castpos mp
    push_cast at q2
    have q3 : (0 : Rat) < (B : Rat) * (m.den : Rat) := Rat.mul_pos q1 q2
    rw [totr_W]
    by_cases z : (p : Rat) * ((Tb.W ys : Int) : Rat) < up m ys
    · exact z
    · have := Rat.mul_le_mul_of_nonneg_right (Rat.not_lt.mp z) (c := (B : Rat) * (m.den : Rat)) (by grind)
      grind
end Sd
namespace Sd
open TD
structure Mt (s : Sd) (d : Nat) (lv : Int × Int) (ys : List Tb.Rw) : Prop where
  a : ∀ n, d < n → ∀ l : Rat, (rb l n s - l) * totr ys = up l ys
  b : ∀ l : Rat, 0 < up l ys ↔ l < V lv
  c : ∀ n, d < n → opr (V lv) n s = V lv
  t : 0 < totr ys
inductive Al (d : Nat) : List Ent → List (Int × Sd) → Prop
  | nil : Al d [] []
  | cons {e : Ent} {t : Int × Sd} {es : List Ent} {rs : List (Int × Sd)} (w : e.w = t.1) (m : ∃ lv, Mt t.2 d lv (rws e.ys)) (h : Al d es rs) : Al d (e :: es) (t :: rs)
theorem Al.snoc {d : Nat} {es : List Ent} {rs : List (Int × Sd)} (h : Al d es rs) {e : Ent} {t : Int × Sd} (w : e.w = t.1) (m : ∃ lv, Mt t.2 d lv (rws e.ys)) : Al d (es ++ [e]) (rs ++ [t]) := by
  induction h with
  | nil => exact .cons w m .nil
  | cons w' m' _ ih => exact .cons w' m' ih
theorem up_scale (l : Rat) (k : Int) : ∀ ys : List Row, up l (ys.map fun y => ⟨y.t, y.b, k * y.w⟩) = (k : Rat) * up l (rws ys) ∧ totr (ys.map fun y => (⟨y.t, y.b, k * y.w⟩ : Tb.Rw)) = (k : Rat) * totr (rws ys)
  | [] => by
    constructor
    · show (0 : Rat) = (k : Rat) * 0; grind
    · show (0 : Rat) = (k : Rat) * 0; grind
  | y :: ys => by
    obtain ⟨a, b⟩ := up_scale l k ys
    have e : rws (y :: ys) = y.r :: rws ys := rfl
    rw [List.map_cons, up_cons, totr_cons, a, b, e, up_cons, totr_cons]
    have e2 : cv y.r = cv ⟨y.t, y.b, k * y.w⟩ := rfl
    have e3 : y.r.w = y.w := rfl
    rw [e2, e3]
    push_cast
    constructor <;> grind
theorem parts_up {S : Int} {d n : Nat} (hn : d < n) (l : Rat) {es : List Ent} {rs : List (Int × Sd)} (al : Al d es rs) : (∀ e ∈ es, 1 ≤ wsum e.ys ∧ wsum e.ys ∣ S) →
    up l (partsOf S es) = (S : Rat) * (rs.map fun t => (t.1 : Rat) * (rb l n t.2 - l)).sum ∧ totr (partsOf S es) = (S : Rat) * ((wtot rs : Int) : Rat) := by
  induction al with
  | nil =>
    intro _
    constructor
    · show (0 : Rat) = (S : Rat) * 0; grind
    · show (0 : Rat) = (S : Rat) * ((0 : Int) : Rat); push_cast; grind
  | @cons e t es rs w m _ ih =>
    intro h
    obtain ⟨a, b⟩ := ih fun x hx => h x (List.mem_cons_of_mem _ hx)
    obtain ⟨h1, h2⟩ := h e List.mem_cons_self
    obtain ⟨lv, mt⟩ := m
    have ef := fac_ws h1 h2
    have ew : totr (rws e.ys) = ((wsum e.ys : Int) : Rat) := by rw [totr_W, wsum_W]
    have ef' : ((fac S e : Int) : Rat) * totr (rws e.ys) = (t.1 : Rat) * (S : Rat) := by
      rw [ew, ← w]
      exact_mod_cast ef
    have ma := mt.a n hn l
    have pe : partsOf S (e :: es) = (e.ys.map fun y => (⟨y.t, y.b, fac S e * y.w⟩ : Tb.Rw)) ++ partsOf S es := rfl
    obtain ⟨u1, u2⟩ := up_scale l (fac S e) e.ys
    have wt : wtot (t :: rs) = t.1 + wtot rs := by unfold wtot; rw [List.map_cons, List.sum_cons]
    rw [pe, up_append, totr_append, u1, u2, a, b, List.map_cons, List.sum_cons, wt, ← ma, ef']
    push_cast
    constructor
    · have : ((fac S e : Int) : Rat) * ((rb l n t.2 - l) * totr (rws e.ys)) = (rb l n t.2 - l) * (((fac S e : Int) : Rat) * totr (rws e.ys)) := by grind
      rw [this, ef']
      grind
    · grind
theorem fold_sum (W l : Rat) (n : Nat) : ∀ (rs : List (Int × Sd)) (z : Rat), rs.foldl (fun a r => a + (r.1 : Rat) / W * rb l n r.2) z = z + (rs.map fun r => (r.1 : Rat) / W * rb l n r.2).sum
  | [], z => by show z = z + 0; grind
  | r :: rs, z => by rw [List.foldl_cons, fold_sum W l n rs, List.map_cons, List.sum_cons]; grind
theorem share_sum {W : Rat} (hW : W ≠ 0) (l : Rat) (n : Nat) : ∀ rs : List (Int × Sd), (rs.map fun r => (r.1 : Rat) / W * rb l n r.2).sum = (rs.map fun t => (t.1 : Rat) * (rb l n t.2 - l)).sum / W + l * ((wtot rs : Int) : Rat) / W
  | [] => by show (0 : Rat) = 0 / W + l * ((0 : Int) : Rat) / W; push_cast; grind
  | r :: rs => by
    have wt : wtot (r :: rs) = r.1 + wtot rs := by unfold wtot; rw [List.map_cons, List.sum_cons]
    rw [List.map_cons, List.sum_cons, share_sum hW l n rs, List.map_cons, List.sum_cons, wt]
    push_cast
    grind
theorem opr_st {p : Int} {rs : List (Int × Sd)} (hW : 0 < wtot rs) (l : Rat) (n : Nat) : opr l (n + 1) (.st p rs) = l - (p : Rat) + (rs.map fun t => (t.1 : Rat) * (rb l n t.2 - l)).sum / ((wtot rs : Int) : Rat) := by
  have ne := castne hW
  show rs.foldl (fun a r => a + (r.1 : Rat) / (wtot rs : Rat) * rb l n r.2) (-(p : Rat)) = _
  rw [fold_sum, share_sum ne]
  grind
theorem mt_en (v : Int) (d : Nat) : Mt (.en v) d (v, 1) [⟨v, 1, 1⟩] := by
  have e1 : V (v, 1) = (v : Rat) := by unfold V; push_cast; grind
  have e2 : cv ⟨v, 1, 1⟩ = (v : Rat) := e1
  have e3 : totr [⟨v, 1, 1⟩] = 1 := by rw [totr_cons]; show ((1 : Int) : Rat) + 0 = 1; push_cast; grind
  have e4 : ∀ l : Rat, up l [⟨v, 1, 1⟩] = mxr l (v : Rat) - l := fun l => by rw [up_cons, e2, up_nil]; push_cast; grind
  refine ⟨fun n hn l => ?_, fun l => ?_, fun n hn => ?_, by rw [e3]; grind⟩
  · obtain ⟨n, rfl⟩ : ∃ k, n = k + 1 := ⟨n - 1, by omega⟩
    rw [e3, e4]
    show (mxr l (v : Rat) - l) * 1 = _
    grind
  · rw [e4, e1]
    unfold mxr
    split <;> grind
  · obtain ⟨n, rfl⟩ : ∃ k, n = k + 1 := ⟨n - 1, by omega⟩
    rw [e1]
    rfl
theorem mt_st {d : Nat} {es : List Ent} {rs : List (Int × Sd)} {S p : Int} {lv : Int × Int} {ys zs : List Tb.Rw} (al : Al d es rs) (hS : 0 < S) (hd : ∀ e ∈ es, 1 ≤ wsum e.ys ∧ wsum e.ys ∣ S) (hW : 0 < wtot rs) (o : Tb.IsTab (partsOf S es) ys) (ne : ys ≠ []) (hw : ∀ r ∈ ys, 1 ≤ r.w) (hb : ∀ r ∈ ys, 0 < r.b)
    (lp : 0 < lv.2) (L : LvR p (V lv) ys) (o2 : Tb.IsTab (ys.map (Tb.capR lv.1 lv.2)) zs) : Mt (.st p rs) (d + 1) lv zs := by
  obtain ⟨k1, k1p, u1, t1⟩ := tab_prop o
  obtain ⟨k2, k2p, u2, t2⟩ := tab_prop o2
  have Tp := totr_pos ne hw
  have Wp := castpos hW
  have Sp := castpos hS
  obtain ⟨_, tc⟩ := up_cap (l0 := lv.1) lp (l := 0) hb
  have t2' : totr ys = k2 * totr zs := by rw [← tc, t2]
  have op : ∀ n, d < n → ∀ l : Rat, opr l (n + 1) (.st p rs) = l - (p : Rat) + up l ys / totr ys := fun n hn l => by
    obtain ⟨a, b⟩ := parts_up hn l al hd
    rw [opr_st hW]
    rw [u1] at a
    rw [t1] at b
    have n1 : ((wtot rs : Int) : Rat) ≠ 0 := by grind
    have n2 : totr ys ≠ 0 := by grind
    have n3 : (S : Rat) ≠ 0 := by grind
    have n4 : k1 ≠ 0 := by grind
    have c : (rs.map fun t => (t.1 : Rat) * (rb l n t.2 - l)).sum * totr ys = up l ys * ((wtot rs : Int) : Rat) := by
      have e1 : (S : Rat) * ((rs.map fun t => (t.1 : Rat) * (rb l n t.2 - l)).sum * totr ys) * k1 = (S : Rat) * (up l ys * ((wtot rs : Int) : Rat)) * k1 := by grind
      grind
    grind
  have cap : ∀ l : Rat, k2 * up l zs = if l < V lv then up l ys - (p : Rat) * totr ys else 0 := fun l => by
    rw [← u2, (up_cap (l0 := lv.1) lp (l := l) hb).1]
    show (if l < V lv then up l ys - up (V lv) ys else 0) = _
    rw [L.has]
  have key : ∀ l : Rat, (mxr l (l - (p : Rat) + up l ys / totr ys) - l) * totr ys = if l < V lv then up l ys - (p : Rat) * totr ys else 0 := fun l => by
    have n2 : totr ys ≠ 0 := by grind
    have q : up l ys / totr ys * totr ys = up l ys := by grind
    by_cases h : l < V lv
    · have m := L.more l h
      have g : (p : Rat) < up l ys / totr ys := by
        by_cases z : (p : Rat) < up l ys / totr ys
        · exact z
        · have := Rat.mul_le_mul_of_nonneg_right (Rat.not_lt.mp z) (c := totr ys) (by grind)
          grind
      unfold mxr
      rw [if_pos h, if_pos (by grind)]
      grind
    · have m := up_anti (l := V lv) (l' := l) (by grind) hw
      rw [L.has] at m
      have g : ¬ (p : Rat) < up l ys / totr ys := fun z => by
        have := Rat.mul_lt_mul_of_pos_right z Tp
        grind
      unfold mxr
      rw [if_neg h, if_neg (by grind)]
      grind
  have tz : 0 < totr zs := by
    by_cases z : 0 < totr zs
    · exact z
    · have := Rat.mul_le_mul_of_nonneg_left (Rat.not_lt.mp z) (c := k2) (by grind)
      grind
  refine ⟨fun n hn l => ?_, fun l => ?_, fun n hn => ?_, tz⟩
  · obtain ⟨n, rfl⟩ : ∃ k, n = k + 1 := ⟨n - 1, by omega⟩
    rw [rb_opr, op n (by omega) l]
    have a := key l
    rw [← cap l, t2'] at a
    have n4 : k2 ≠ 0 := by grind
    rw [t2']
    grind
  · have c := cap l
    have n4 : k2 ≠ 0 := by grind
    by_cases h : l < V lv
    · have m := L.more l h
      rw [if_pos h] at c
      refine ⟨fun _ => h, fun _ => ?_⟩
      by_cases z : 0 < up l zs
      · exact z
      · have := Rat.mul_le_mul_of_nonneg_left (Rat.not_lt.mp z) (c := k2) (by grind)
        grind
    · rw [if_neg h] at c
      refine ⟨fun z => ?_, fun z => absurd z h⟩
      have := Rat.mul_lt_mul_of_pos_left z k2p
      grind
  · obtain ⟨n, rfl⟩ : ∃ k, n = k + 1 := ⟨n - 1, by omega⟩
    rw [op n (by omega), L.has]
    have n2 : totr ys ≠ 0 := by grind
    grind
def Rv (s : Sd) (d : Nat) (lv : Int × Int) : Prop := ∃ ys, Mt s d lv ys
theorem Rv.iff {s : Sd} {d : Nat} {lv : Int × Int} (h : Rv s d lv) {n : Nat} (hn : d < n) (l : Rat) : l < V lv ↔ l < rb l n s := by
  obtain ⟨ys, m⟩ := h
  rw [← m.b l, ← m.a n hn l]
  have t := m.t
  constructor
  · intro z
    by_cases y : l < rb l n s
    · exact y
    · have := Rat.mul_le_mul_of_nonneg_right (a := rb l n s - l) (b := 0) (c := totr ys) (by grind) (by grind)
      grind
  · intro z
    exact Rat.mul_pos (by grind) t
theorem rat_ext {a b : Rat} (h : ∀ l : Rat, l < a ↔ l < b) : a = b := by
  have h1 := h a
  have h2 := h b
  grind
theorem Rv.one {s : Sd} {d : Nat} {lv lw : Int × Int} (h : Rv s d lv) (h' : Rv s d lw) (f : Fr.IsFr lv.1 lv.2) (f' : Fr.IsFr lw.1 lw.2) : lv = lw :=
  V_inj f f' (rat_ext fun l => (h.iff (Nat.lt_succ_self d) l).trans (h'.iff (Nat.lt_succ_self d) l).symm)
end Sd
namespace Sd
structure Lw (l : Int × Int) : Prop where
  fr : Fr.IsFr l.1 l.2
  b : l.2 ≤ 2 ^ 1500
  lo : -(2 ^ 1530 * l.2) ≤ l.1
  hi : l.1 ≤ 2 ^ 1530 * l.2
theorem p30 : (1000000000 : Int) ≤ 2 ^ 1530 := by decide +kernel
theorem Lw.fq {l : Int × Int} (h : Lw l) : FQ l l.2 (2 ^ 1530) := ⟨h.fr, Int.dvd_refl _, h.lo, h.hi⟩
theorem Lv.lw {l : Int × Int} (h : Lv l) : Lw l := by
  have p := h.fr.pos
  have e : (2147483648 : Int) ≤ 2 ^ 1530 := by decide +kernel
  have f := mul_le_r e (Int.le_of_lt p)
  have := h.lo
  have := h.hi
  exact ⟨h.fr, Int.le_trans h.b (pow_le2 (by decide)), by omega, by omega⟩
end Sd
namespace TD
open PySem L2
open Builtin.Int (intBits)
end TD
namespace Sd
open TD
end Sd
namespace Sd
def nE : Nat → Sd → Int
  | 0, _ => 0
  | _ + 1, .en _ => 1
  | n + 1, .st _ rs => (rs.map fun r => nE n r.2).sum
def mxL (l : List Int) : Int := l.foldl max 0
def nS : Nat → Sd → Int
  | 0, _ => 0
  | _ + 1, .en _ => 0
  | n + 1, .st _ rs => 1 + mxL (rs.map fun r => nS n r.2)
theorem mxL_fold : ∀ (l : List Int) (a : Int), a ≤ l.foldl max a ∧ (∀ x ∈ l, x ≤ l.foldl max a) ∧ (l.foldl max a = a ∨ l.foldl max a ∈ l)
  | [], a => ⟨Int.le_refl _, (fun _ h => nomatch h), .inl rfl⟩
  | y :: l, a => by
    obtain ⟨h1, h2, h3⟩ := mxL_fold l (max a y)
    rw [List.foldl_cons]
    refine ⟨by omega, fun x hx => ?_, ?_⟩
    · rcases List.mem_cons.mp hx with e | e
      · subst e; omega
      · exact h2 x e
    · rcases h3 with e | e
      · rw [e]
        by_cases z : a ≤ y
        · right; rw [show max a y = y by omega]; exact List.mem_cons_self
        · left; omega
      · exact .inr (List.mem_cons_of_mem _ e)
theorem mxL_of {l : List Int} {M : Int} (h0 : ∀ x ∈ l, 0 ≤ x) (hm : M ∈ l) (hx : ∀ x ∈ l, x ≤ M) : M = mxL l := by
  obtain ⟨h1, h2, h3⟩ := mxL_fold l 0
  have a := h2 M hm
  unfold mxL
  rcases h3 with e | e
  · have := h0 M hm
    omega
  · have := hx _ e
    omega
theorem Ok.nE {s : Sd} {d m : Nat} (ok : Ok s d m) : ∀ n, d < n → nE n s ≤ (m : Int) := by
  induction ok with
  | en _ _ hm => intro n hn; obtain ⟨n, rfl⟩ : ∃ k, n = k + 1 := ⟨n - 1, by omega⟩; show (1 : Int) ≤ _; omega
  | @st p rs d m k h0 h9 ne l4 w sub hk ih =>
    intro n hn
    obtain ⟨n, rfl⟩ : ∃ k, n = k + 1 := ⟨n - 1, by omega⟩
    show (rs.map fun r => Sd.nE n r.2).sum ≤ _
    have key : ∀ l : List (Int × Sd), (∀ r ∈ l, r ∈ rs) → (l.map fun r => Sd.nE n r.2).sum ≤ (((l.map k).sum : Nat) : Int) := by
      intro l
      induction l with
      | nil => intro _; exact Int.le_refl _
      | cons r l ih2 =>
        intro h
        have a := ih2 fun x hx => h x (List.mem_cons_of_mem _ hx)
        have b := ih r (h r List.mem_cons_self) n (by omega)
        rw [List.map_cons, List.sum_cons, List.map_cons, List.sum_cons]
        push_cast
        omega
    have a := key rs fun r hr => hr
    omega
end Sd
namespace TD
open PySem L2
open Builtin.Int (intBits)
structure Cs where
  e : Addr
  s : Addr
def fB (n k : Int) (l cp : Addr) : List (Str × V) := [("end_count", .int n), ("stage_count", .int k), ("level", .ref l), ("cap_rows", .ref cp)]
def fE (n k : Int) (l cp : Addr) (v : Int) : List (Str × V) := [("end_count", .int n), ("stage_count", .int k), ("level", .ref l), ("cap_rows", .ref cp), ("worth", .int v)]
def fS (n k : Int) (l cp : Addr) (p : Int) (r : Addr) : List (Str × V) := [("end_count", .int n), ("stage_count", .int k), ("level", .ref l), ("cap_rows", .ref cp), ("price", .int p), ("rows", .ref r)]
structure SdV (H : Hp) (l cp : Addr) (s : Sd.Sd) (lq : Int × Int) (xs : List Row) (n k : Int) (d m : Nat) : Prop where
  lv : Tq H l lq
  caps : TpAt H cp xs
  gs : GS2 xs d m
  so : (rws xs).Pairwise Tb.Lt
  n1 : 1 ≤ n
  nm : n ≤ (m : Int)
  k0 : 0 ≤ k
  kd : k ≤ (d : Int)
  mt : Sd.Mt s d lq (rws xs)
  lw : Sd.Lw lq
  nx : n = Sd.nE (d + 1) s
  kx : k = Sd.nS (d + 1) s
inductive StAt (c : Cs) (H : Hp) : Addr → Sd.Sd → Nat → Nat → Prop
  | en {x dx l cp : Addr} {v n k : Int} {d m : Nat} {xs : List Row} (h : H x = some (.ins c.e dx (fE n k l cp v))) (vv : SdV H l cp (.en v) (v, 1) xs n k d m) (ok : Sd.Ok (.en v) d m) : StAt c H x (.en v) d m
  | st {x dx l cp r : Addr} {p n k : Int} {lv : Int × Int} {d m : Nat} {j : Int × Sd.Sd → Nat} {xs : List Row} {rs : List (Int × Sd.Sd)} {ps ys : List Addr} (h : H x = some (.ins c.s dx (fS n k l cp p r))) (vv : SdV H l cp (.st p rs) lv xs n k (d + 1) m) (g : H r = some (.tup (ps.map V.ref)))
      (lp : ps.length = rs.length) (ly : ys.length = rs.length) (row : ∀ (i : Nat) q y t, ps[i]? = some q → ys[i]? = some y → rs[i]? = some t → H q = some (.tup [.int t.1, .ref y])) (sub : ∀ (i : Nat) y t, ys[i]? = some y → rs[i]? = some t → StAt c H y t.2 d (j t))
      (p0 : 0 ≤ p) (p9 : p ≤ 1000000000) (ne : rs ≠ []) (l4 : rs.length ≤ 4) (w : ∀ r ∈ rs, 1 ≤ r.1 ∧ r.1 ≤ 1000) (hk : (rs.map j).sum ≤ m) : StAt c H x (.st p rs) (d + 1) m
def Kp (H H' : Hp) : Prop := ∀ b o, H b = some o → (∀ ps, o ≠ .tbl ps) → (∀ C dx, o ≠ .ins C dx []) → H' b = some o
theorem Same.kp {H H' : Hp} (s : Same H H') : Kp H H' := fun b o h _ _ => s b o h
theorem SameT.kp {P : Addr} {pos : Pos} {qual : Str} {H H' : Hp} (s : SameT P H H') (t : TbOk P pos qual H) : Kp H H' := fun b o h n _ => s.get t h n
theorem Kp.trans {H H1 H2 : Hp} (a : Kp H H1) (b : Kp H1 H2) : Kp H H2 := fun c o h n m => b c o (a c o h n m) n m
theorem Kp.tup {H H' : Hp} (k : Kp H H') {b : Addr} {xs : List V} (h : H b = some (.tup xs)) : H' b = some (.tup xs) := k _ _ h (fun _ z => nomatch z) (fun _ _ z => nomatch z)
theorem Kp.ins {H H' : Hp} (k : Kp H H') {b C dx : Addr} {f : Str × V} {fs : List (Str × V)} (h : H b = some (.ins C dx (f :: fs))) : H' b = some (.ins C dx (f :: fs)) := k _ _ h (fun _ z => nomatch z) (fun _ _ z => by injection z with _ _ z; exact nomatch z)
theorem Kp.lst {H H' : Hp} (k : Kp H H') {b : Addr} {xs : List V} (h : H b = some (.lst xs)) : H' b = some (.lst xs) := k _ _ h (fun _ z => nomatch z) (fun _ _ z => nomatch z)
theorem RowAt.kp {H H' : Hp} {x : Row} (s : Kp H H') (h : RowAt H x) : RowAt H' x := ⟨s.tup h.1, s.tup h.2⟩
theorem TpAt.kp {H H' : Hp} {a : Addr} {xs : List Row} (s : Kp H H') (h : TpAt H a xs) : TpAt H' a xs := ⟨s.tup h.1, fun x hx => (h.2 x hx).kp s⟩
theorem TabAt.kp {H H' : Hp} {a : Addr} {xs : List Row} (s : Kp H H') (h : TabAt H a xs) : TabAt H' a xs := ⟨s.lst h.lst, fun x hx => (h.rows x hx).kp s⟩
theorem SdV.kp {H H' : Hp} {l cp : Addr} {sd : Sd.Sd} {lv : Int × Int} {xs : List Row} {n k : Int} {d m : Nat} (s : Kp H H') (h : SdV H l cp sd lv xs n k d m) : SdV H' l cp sd lv xs n k d m := ⟨s.tup h.lv, h.caps.kp s, h.gs, h.so, h.n1, h.nm, h.k0, h.kd, h.mt, h.lw, h.nx, h.kx⟩
theorem StAt.kp {c : Cs} {H H' : Hp} {x : Addr} {s : Sd.Sd} {d m : Nat} (h : StAt c H x s d m) (k : Kp H H') : StAt c H' x s d m := by
  induction h with
  | en h vv ok => exact .en (k.ins h) (vv.kp k) ok
  | st h vv g lp ly row sub p0 p9 ne l4 w hk ih => exact .st (k.ins h) (vv.kp k) (k.tup g) lp ly (fun i q y t a b c => k.tup (row i q y t a b c)) ih p0 p9 ne l4 w hk
theorem StAt.same {c : Cs} {H H' : Hp} {x : Addr} {s : Sd.Sd} {d m : Nat} (k : Same H H') (h : StAt c H x s d m) : StAt c H' x s d m := h.kp (Same.kp k)
theorem at_len {α β : Type} {ys : List α} {rs : List β} (l : ys.length = rs.length) {r : β} (h : r ∈ rs) : ∃ (i : Nat) (y : α), ys[i]? = some y ∧ rs[i]? = some r := by
  obtain ⟨i, hi, e⟩ := List.getElem_of_mem h
  exact ⟨i, ys[i]'(by omega), List.getElem?_eq_getElem _, by rw [List.getElem?_eq_getElem hi, e]⟩
theorem StAt.ok {c : Cs} {H : Hp} {x : Addr} {s : Sd.Sd} {d m : Nat} (h : StAt c H x s d m) : Sd.Ok s d m := by
  induction h with
  | en _ _ ok => exact ok
  | st h vv g lp ly row sub p0 p9 ne l4 w hk ih => exact .st p0 p9 ne l4 w (fun r hr => by obtain ⟨i, y, a, b⟩ := at_len ly hr; exact ih i y r a b) hk
inductive ToAt (H : Hp) : Addr → Sd.Sd → Prop
  | en {a : Addr} {v : Int} (h : H a = some (.tup [.str "end", .int v])) : ToAt H a (.en v)
  | st {a r : Addr} {p : Int} {rs : List (Int × Sd.Sd)} {ps ys : List Addr} (h : H a = some (.tup [.str "stage", .int p, .ref r])) (g : H r = some (.tup (ps.map V.ref))) (lp : ps.length = rs.length) (ly : ys.length = rs.length)
      (row : ∀ (i : Nat) q y t, ps[i]? = some q → ys[i]? = some y → rs[i]? = some t → H q = some (.tup [.int t.1, .ref y])) (sub : ∀ (i : Nat) y t, ys[i]? = some y → rs[i]? = some t → ToAt H y t.2) : ToAt H a (.st p rs)
theorem ToAt.keep {H H' : Hp} {a : Addr} {s : Sd.Sd} (h : ToAt H a s) (k : ∀ b xs, H b = some (.tup xs) → H' b = some (.tup xs)) : ToAt H' a s := by
  induction h with
  | en h => exact .en (k _ _ h)
  | st h g lp ly row sub ih => exact .st (k _ _ h) (k _ _ g) lp ly (fun i q y t a b c => k _ _ (row i q y t a b c)) ih
theorem ToAt.kp {H H' : Hp} {a : Addr} {s : Sd.Sd} (h : ToAt H a s) (k : Kp H H') : ToAt H' a s := h.keep fun b xs e => k.tup e
theorem ToAt.same {H H' : Hp} {a : Addr} {s : Sd.Sd} (k : Same H H') (h : ToAt H a s) : ToAt H' a s := h.keep fun b xs e => k _ _ e
structure CK (K : PySem.W.Frag) (c : Cs) : Prop where
  ce : Cls K c.e
  cs : Cls K c.s
  e1 : NoAttr K c.e "end_count"
  e2 : NoAttr K c.e "stage_count"
  e3 : NoAttr K c.e "level"
  e4 : NoAttr K c.e "cap_rows"
  e5 : NoAttr K c.e "worth"
  s1 : NoAttr K c.s "end_count"
  s2 : NoAttr K c.s "stage_count"
  s3 : NoAttr K c.s "level"
  s4 : NoAttr K c.s "cap_rows"
  s5 : NoAttr K c.s "price"
  s6 : NoAttr K c.s "rows"
structure CT (K : PySem.W.Frag) (c : Cs) : Prop where
  hn : PySem.W.specialIn K (.builtin "object.__class__") "__get__" = some (some (.builtin "getset_descriptor.__get__"))
  htk : PySem.W.takesIn K (.builtin "object.__class__") = some true
  ea : PySem.W.findIn K (.ref c.e) "__class__" = some (some (.builtin "object.__class__"))
  em : PySem.W.mroIn K c.e (.type "object") = some true
  sa : PySem.W.findIn K (.ref c.s) "__class__" = some (some (.builtin "object.__class__"))
  sm : PySem.W.mroIn K c.s (.type "object") = some true
  ee : PySem.W.kitOne K (.ref c.e) (.ref c.e) = some true
  se : PySem.W.kitOne K (.ref c.s) (.ref c.e) = some false
  ss : PySem.W.kitOne K (.ref c.s) (.ref c.s) = some true
def spEnds (c : Cs) : Sp := fun vs H Q _ => ∃ (x : Addr) (s : Sd.Sd) (d m : Nat), vs = [.ref x] ∧ StAt c H x s d m ∧ ∀ n : Int, 1 ≤ n → n ≤ (m : Int) → n = Sd.nE (d + 1) s → Q (.int n) H
def spStgs (c : Cs) : Sp := fun vs H Q _ => ∃ (x : Addr) (s : Sd.Sd) (d m : Nat), vs = [.ref x] ∧ StAt c H x s d m ∧ ∀ k : Int, 0 ≤ k → k ≤ (d : Int) → k = Sd.nS (d + 1) s → Q (.int k) H
def spCaps (c : Cs) : Sp := fun vs H Q _ => ∃ (x : Addr) (s : Sd.Sd) (d m : Nat), vs = [.ref x] ∧ StAt c H x s d m ∧ ∀ (r : Addr) (H' : Hp) (xs : List Row), Same H H' → H r = none → TabAt H' r xs → GS2 xs d m → (rws xs).Pairwise Tb.Lt → (∃ lv, Sd.Mt s d lv (rws xs) ∧ Sd.Lw lv) → Q (.ref r) H'
def spStI (c : Cs) : Sp := fun vs H Q _ => ∃ (x dx C l a : Addr) (n k : Int) (xs : List Row), vs = [.ref x, .int n, .int k, .ref l, .ref a] ∧ (C = c.e ∨ C = c.s) ∧ H x = some (.ins C dx []) ∧ TabAt H a xs ∧
  ∀ (cp : Addr) (H' : Hp), H cp = none → (∀ b o, b ≠ x → H b = some o → H' b = some o) → H' x = some (.ins C dx (fB n k l cp)) → H' cp = some (.tup (refs xs)) → Q .non H'
structure RwAt (c : Cs) (H : Hp) (ps ys : List Addr) (rs : List (Int × Sd.Sd)) (d : Nat) (j : Int × Sd.Sd → Nat) : Prop where
  lp : ps.length = rs.length
  ly : ys.length = rs.length
  row : ∀ (i : Nat) q y t, ps[i]? = some q → ys[i]? = some y → rs[i]? = some t → H q = some (.tup [.int t.1, .ref y])
  sub : ∀ (i : Nat) y t, ys[i]? = some y → rs[i]? = some t → StAt c H y t.2 d (j t)
theorem RwAt.kp {c : Cs} {H H' : Hp} {ps ys : List Addr} {rs : List (Int × Sd.Sd)} {d : Nat} {j : Int × Sd.Sd → Nat} (h : RwAt c H ps ys rs d j) (k : Kp H H') : RwAt c H' ps ys rs d j := ⟨h.lp, h.ly, fun i q y t a b e => k.tup (h.row i q y t a b e), fun i y t a b => (h.sub i y t a b).kp k⟩
theorem RwAt.at_ {c : Cs} {H : Hp} {ps ys : List Addr} {rs : List (Int × Sd.Sd)} {d i : Nat} {j : Int × Sd.Sd → Nat} {v : V} (h : RwAt c H ps ys rs d j) (hv : (ps.map V.ref)[i]? = some v) : ∃ q y t, ps[i]? = some q ∧ ys[i]? = some y ∧ rs[i]? = some t ∧ v = .ref q ∧ H q = some (.tup [.int t.1, .ref y]) ∧ StAt c H y t.2 d (j t) ∧ t ∈ rs := by
  rw [List.getElem?_map] at hv
  cases e : ps[i]? with
  | none => rw [e] at hv; cases hv
  | some q =>
    rw [e] at hv
    cases hv
    have hi := (List.getElem?_eq_some_iff.mp e).1
    have l1 := h.lp
    have l2 := h.ly
    have ey : ys[i]? = some (ys[i]'(by omega)) := List.getElem?_eq_getElem _
    have er : rs[i]? = some (rs[i]'(by omega)) := List.getElem?_eq_getElem _
    exact ⟨q, _, _, rfl, ey, er, rfl, h.row i q _ _ e ey er, h.sub i _ _ ey er, List.mem_of_getElem? er⟩
theorem gs_end {p q : Addr} {v : Int} {d m : Nat} (h0 : 0 ≤ v) (h9 : v ≤ 1000000000) (hm : 1 ≤ m) : GS2 [⟨p, q, v, 1, 1⟩] d m := by
  have e : lcmB [⟨p, q, v, 1, 1⟩] = 1 := by show lcmL [1] = 1; decide
  have w1 : wsum [(⟨p, q, v, 1, 1⟩ : Row)] = 1 := rfl
  have wp := Sd.pow_pos2 ((12 * d + 1) * m)
  have bp := Sd.pow_pos2 (be d * m)
  have k9 := k30 d
  unfold GS2
  rw [e]
  refine ⟨⟨by simp, by show 1 ≤ m; exact hm, fun x hx => ?_, by rw [w1]; unfold wB; omega, by decide, fun x hx => ?_⟩, by omega⟩
  · rw [List.mem_singleton.mp hx]; exact Int.le_refl _
  · rw [List.mem_singleton.mp hx]
    exact ⟨Sd.fr1 v, Int.dvd_refl _, by show -(kK d * 1) ≤ v; omega, by show v ≤ kK d * 1; omega⟩
def SameX (x : Addr) (H H' : Hp) : Prop := ∀ b o, b ≠ x → H b = some o → H' b = some o
theorem SameX.kp {x C dx : Addr} {H H' : Hp} (s : SameX x H H') (hx : H x = some (.ins C dx [])) : Kp H H' := fun b o h _ n => s b o (fun e => by rw [e, hx] at h; cases h; exact n C dx rfl) h
theorem TbOk.sameX {P x C dx : Addr} {pos : Pos} {qual : Str} {fs : List (Str × V)} {H H' : Hp} (t : TbOk P pos qual H) (s : SameX x H H') (hx : H x = some (.ins C dx fs)) : TbOk P pos qual H' := by
  rcases t with t | ⟨c, t, u⟩
  · exact .inl (s _ _ (ne_of t hx fun z => nomatch z) t)
  · exact .inr ⟨c, s _ _ (ne_of t hx fun z => nomatch z) t, s _ _ (ne_of u hx fun z => by unfold CodeO at z; exact nomatch z) u⟩
theorem meth2 {c : Cs} {H H0 : Hp} {y : Addr} {s : Sd.Sd} {d m : Nat} {σ : St} {ta : TE} {nm : Str} {sp : Sp} {Q : VK} (st : StAt c H y s d m) (le : ∀ n k l cp v, (fE n k l cp v).lookup nm = none) (ls : ∀ n k l cp p r, (fS n k l cp p r).lookup nm = none) (hv : ∀ R : VK, R (.ref y) H → ta σ H0 R) (q : sp [.ref y] H Q E0) :
    tMeth c.e nm sp [] E0 ta tNil σ H0 Q ∨ tMeth c.s nm sp [] E0 ta tNil σ H0 Q := by
  cases st with
  | en h vv ok => exact .inl (hv _ ⟨y, _, _, rfl, h, le _ _ _ _ _, q⟩)
  | st h vv g lp ly row sub p0 p9 ne l4 w hk => exact .inr (hv _ ⟨y, _, _, rfl, h, ls _ _ _ _ _ _, q⟩)
def spCA1 (K : PySem.W.Frag) : Sp := fun vs H Q _ => ∃ (a : Addr) (ns : List Int) (k : Int), vs = [.ref a, .int k] ∧ SqL K H a (ns.map V.int) ∧ 0 ≤ k ∧ ∀ j, Q (.int j) H
def spMx1 : Sp := fun vs H Q _ => ∃ c k : Int, vs = [.int c, .int k] ∧ 0 ≤ k ∧ k ≤ 100000 ∧ ∀ j, 0 ≤ j → j < 2147483587 → Q (.int j) H
def pp : Nat → Nat → Nat
  | 0, _ => 2
  | d + 1, m => ((List.range 4).map fun i => if i + 1 ≤ m then 2 + (i + 1) * (1 + pp d (m / (i + 1))) else 2).foldl max 2
def spLaw12 (K : PySem.W.Frag) (Pt : Addr) (lp : Pos) : Sp := fun vs H Q _ => ∃ (a : Addr) (ns : List Int), vs = [.ref a] ∧ SqL K H a (ns.map V.int) ∧ ns.length ≤ 63 ∧ H Pt = some (.tbl #[]) ∧ ∀ H', Q (.bl true) H'
theorem lw_end {v : Int} (h0 : 0 ≤ v) (h9 : v ≤ 1000000000) : Sd.Lw (v, 1) := by
  have := Sd.p30
  exact ⟨Sd.fr1 v, Sd.pow_pos2 1500, by show -(2 ^ 1530 * 1) ≤ v; omega, by show v ≤ 2 ^ 1530 * 1; omega⟩
theorem be4 : ∀ d, d + 1 ≤ 4 → be (d + 1) ≤ 125 ∧ ka (d + 1) ≤ 1530
  | 0, _ => by decide
  | 1, _ => by decide
  | 2, _ => by decide
  | 3, _ => by decide
  | d + 4, h => by omega
theorem lw_of {ys : List Row} {l : Int × Int} {M k : Int} {d m : Nat} (x : Lx ys l M k d m) (hd : d + 1 ≤ 4) (hm : m ≤ 12) : Sd.Lw l := by
  obtain ⟨b1, b2⟩ := be4 d hd
  have a := Int.le_of_dvd x.g.mp x.f.dv
  have e : (2 : Int) ^ (be (d + 1) * m) ≤ 2 ^ 1500 := Sd.pow_le2 (Nat.le_trans (Nat.mul_le_mul b1 hm) (by decide))
  have g : k ≤ 2 ^ 1530 := Int.le_trans x.k (Sd.pow_le2 b2)
  have h := Sd.mul_le_r g (Int.le_of_lt x.f.fr.pos)
  have := x.f.lo
  have := x.f.hi
  exact ⟨x.f.fr, Int.le_trans a (Int.le_trans x.m e), by omega, by omega⟩
theorem al_mt {d : Nat} {es : List Ent} {rs : List (Int × Sd.Sd)} {p : Int} {lv : Int × Int} {ys zs : List Row} {n : Nat} {W k W0 kk : Int} {k0 : Nat} (al : Sd.Al d es rs) (gm : GM es k0 W0 kk) (hW : 0 < Sd.wtot rs) (o : Out (partsOf (lcmL (tots es)) es) ys) (g : GT ys n W (lcmB ys) k)
    (lp : 0 < lv.2) (L : Tb.Lv (lcmB ys) (p * Tb.W (rws ys) * lcmB ys) lv.1 lv.2 (rws ys)) (o2 : Out ((rws ys).map (Tb.capR lv.1 lv.2)) zs) : Sd.Mt (.st p rs) (d + 1) lv (rws zs) := by
  obtain ⟨S1, _, _, S2⟩ := gm.S
  have fr : ∀ r ∈ rws ys, 0 < r.b ∧ r.b ∣ lcmB ys := fun r hr => by
    obtain ⟨y, hy, rfl⟩ := List.mem_map.mp hr
    exact ⟨(g.fq y hy).fr.pos, (g.fq y hy).dv⟩
  refine Sd.mt_st al S1 (fun e he => ⟨(gm.g e he).tot, S2 e he⟩) hW o.tab (fun e => g.ne (List.map_eq_nil_iff.mp e)) (fun r hr => ?_) (fun r hr => (fr r hr).1) lp (Sd.lv_rat g.mp fr L) o2.tab
  obtain ⟨y, hy, rfl⟩ := List.mem_map.mp hr
  exact g.w1 y hy
end TD
namespace L2
open PySem PySem.Spec PyProof.Rows
abbrev tailV : List Value := [.type "ValueError", .type "Exception", .type "BaseException", .type "object"]
theorem XCls.obj {K : PySem.W.Frag} {h : Heap} {C : Addr} (x : XCls K C) (k : K.In h) : ∃ (bm : List Value) (N : Addr) (nm q : Str) (bs : List Value) (hdct : Bool) (sn : List Str) (sub : List Value) (ab : Bool) (col : Option Bool) (dd : Option Addr) (k0 k1 k2 k3 k5 : Option Value) (mN : Str → Option Value),
    h.get? C = some (excClassObj nm q C N bs bm hdct sn sub ab col dd k0 k1 k2 k3 k5 "ValueError.__new__") ∧ h.Ns N mN ∧ mN "__init__" = none ∧ OwnTail h tailV bm := by
  have z := x.isx
  unfold PySem.W.excIn at z
  split at z
  case h_2 => cases z
  case h_1 dd cd sl ho =>
    split at z
    case h_2 => cases z
    case h_1 C' bm k0 k1 k2 k3 n k5 hm hs =>
      simp only [Bool.and_eq_true, beq_iff_eq, Bool.not_eq_true'] at z
      obtain ⟨⟨⟨⟨⟨e1, e2⟩, hdel⟩, ht⟩, hok⟩, hni⟩ := z
      subst e1
      subst e2
      obtain ⟨nm, bs, mro, ns, qn, hd, sn, sub, ab, col, del⟩ := cd
      dsimp only at hm hdel hok hni
      subst hm
      subst hdel
      obtain ⟨l⟩ := sl
      obtain rfl : l = [k0, k1, k2, k3, some (.builtin "ValueError.__new__"), k5] := hs
      have g := k _ _ ho
      have nn := PySem.W.isNs_of_in k hok
      exact ⟨bm, ns, nm, qn, bs, hd, sn, sub, ab, col, dd, k0, k1, k2, k3, k5, _, g, .of_isNs nn, PySem.W.nsMap_none_of_in k hok hni, PySem.W.tail_of_in k ht⟩
theorem ps_raise {X : Cx} {x : Str} {C : Addr} {E : XK} {np cpos pos : Pos} (T : Throws X E) (hc : X.calm = true) (hg : Gl X x) (hm : X.mg x = some (.ref C)) (xc : XCls X.K C) (hd : (x == ("__debug__" : Str)) = false := by decide) :
    PS X (.Raise (some (.Call (.Name x np) [] [] cpos)) none pos) (fun _ _ H => E (.ref C) none H) := by
  intro pins s σ H D I h
  obtain ⟨bm, N, nm, q, bs, hdct, sn, sub, ab, col, dd, k0, k1, k2, k3, k5, mN, hC, hN, hni, TL⟩ := xc.obj I.kIn
  refine wpAny_Raise_call_subT (C := C) (nm := nm) (q := q) (N := N) (bs := bs) (bm := bm) (hdct := hdct) (sn := sn) (sub := sub) (ab := ab) (col := col) (dd := dd) (k0 := k0) (k1 := k1) (k2 := k2) (k3 := k3) (k5 := k5) PySem.F.excBase_ValueError (mN := mN)
    (TL.hasType PySem.F.excBase_ValueError.hasBase) (I.ok.hd hc) rfl hni (ld_glob I hg hm ⟨rfl, ?_⟩ hd)
  exact evalArgs_empty ⟨rfl, Nat.zero_le _, hC, hN, TL, fun h' e mk => T pins σ H s h' e _ _ I mk h⟩
section
variable {P : Program} {w : World} {K : PySem.W.Frag} {mg : Str → Option Value} {base : Heap}
theorem Fun.okX {x qual : Str} {st : Stmt} {f : Addr} {fd : FuncData} {N ps : List Str} {k : Nat} {sp : Sp} (F : Fun K x qual st f fd) (S : FnScope N ps (defScope st)) (len : ∀ vs H Q E, sp vs H Q E → vs.length = ps.length)
    (hbody : ∀ (cdv : Value) (A : Around) (outer : List Env) (s : Shared) (H : Hp) (vs : List V) (Q : VK) (E : XK), Room k (A.deeper (envOfC qual (defScope st) s.heap.objs.size f cdv)) → sp vs H Q E →
      ∃ t, PSs (cxOf (CXr P w) P w K mg base N qual (defScope st) f cdv A outer s H E) (defBody st) t ∧ t { nx := fun _ H' => Q .non H', rt := Q } (start N vs) H) : FnOk P w K mg base (CXr P w) (k + 1) f fd ps sp := by
  obtain ⟨oc, od, kV, doc, pm, an, cdv, ct, osl, rfl, lk, hcd⟩ := F.ex
  exact fn_of lk hcd S len fun A outer s H vs Q E hr hsp => hbody cdv A outer s H vs Q E hr hsp
def PS0 (X : Cx) (st : Stmt) (t : TS) : Prop :=
  ∀ (s : Shared) (σ : St) (H : Hp) (D : Ends), Inv X [] σ H s → t D σ H → wpAny (model X.prog X.w) X.A (exec st X.env) (SP X [] D) X.xe s
def PSs0 (X : Cx) (st : List Stmt) (t : TS) : Prop :=
  ∀ (s : Shared) (σ : St) (H : Hp) (D : Ends), Inv X [] σ H s → t D σ H → wpAny (model X.prog X.w) X.A (execs st X.env) (SP X [] D) X.xe s
theorem PSs.zero {X : Cx} {st : List Stmt} {t : TS} (h : PSs X st t) : PSs0 X st t := fun s σ H D I q => h [] s σ H D I q
theorem PS.zero {X : Cx} {st : Stmt} {t : TS} (h : PS X st t) : PS0 X st t := fun s σ H D I q => h [] s σ H D I q
theorem Fun.ok0 {x qual : Str} {st : Stmt} {f : Addr} {fd : FuncData} {N ps : List Str} {k : Nat} {sp : Sp} (F : Fun K x qual st f fd) (S : FnScope N ps (defScope st)) (len : ∀ vs H Q E, sp vs H Q E → vs.length = ps.length)
    (hbody : ∀ (cdv : Value) (A : Around) (outer : List Env) (s : Shared) (H : Hp) (vs : List V) (Q : VK) (E : XK), Room k (A.deeper (envOfC qual (defScope st) s.heap.objs.size f cdv)) → sp vs H Q E →
      ∃ t, PSs0 (cxOf CX0 P w K mg base N qual (defScope st) f cdv A outer s H E).nox (defBody st) t ∧ t { nx := fun _ H' => Q .non H', rt := Q } (start N vs) H) : FnOk P w K mg base CX0 (k + 1) f fd ps sp := by
  obtain ⟨oc, od, kV, doc, pm, an, cdv, ct, osl, rfl, lk, hcd⟩ := F.ex
  refine ⟨len, fun A outer s H args us vs Q E hr e0 hb r hsp => ?_⟩
  have hl := len _ _ _ _ hsp
  have KX : K.In s.heap := e0.mod.kin.keeps fun b o e => (e0.bs b o e).1
  have lim : s.heap.NoLimit := e0.mod.nolimit.keeps fun b o e => (e0.bs b o e).1
  have hkind : ∀ y ∈ ps.zip us, (defScope st).names.lookup y.1 = some .local ∨ ((defScope st).names.lookup y.1 = some .cell ∧ ((cellsFrom (s.heap.objs.size + 1) (defScope st).names []).lookup y.1).isSome = true) := fun ⟨n, v⟩ hy => by
    rcases S.par n (List.of_mem_zip hy).1 with q | q
    · exact .inl q
    · exact .inr ⟨q, PySem.W.cellsFrom_some _ _ _ (.inl q)⟩
  refine codeAny_call_function hr.depth (KX _ _ lk) rfl S.co S.gen rfl (PySem.W.codeRec_of KX hcd) (hb _ _ _ _ ?_)
  refine wpAny_newFunctionEnv_cells S.kind hkind fun env he s1 x => ?_
  subst he
  refine ⟨lim.keeps x.toInCall.keep, codeAny_func ?_⟩
  obtain ⟨t, ht, hq⟩ := hbody cdv A outer s H vs Q E (hr.deeper _) hsp
  have I : Inv (cxOf CX0 P w K mg base N qual (defScope st) f cdv A outer s H E) [] (start N vs) H s1 := inv_start S hr.hd e0 hl r x
  refine wpAny_mono (ht s1 (start N vs) H _ (I.wish _) hq) (fun fl s' hs => ?_) fun e s' hs => False.elim hs
  have hs := SP.unwish hs
  have fin : ∀ {σ' : St} {H' : Hp} {v : V} {u : Value}, Inv (cxOf CX0 P w K mg base N qual (defScope st) f cdv A outer s H E) [] σ' H' s' → RelV v u → Q v H' → CE outer P w H s Q u s' :=
    fun {σ' H' v u} J rv q => ⟨v, H', J.os, J.bare, J.base, J.hok, rv, q⟩
  cases fl with
  | ret u =>
    obtain ⟨v, σ', H', J, rv, q⟩ := hs
    exact fin J rv q
  | next =>
    obtain ⟨σ', H', J, q⟩ := hs
    exact fin (v := V.non) (u := Value.none) J rfl q
  | brk =>
    obtain ⟨_, _, _, q⟩ := hs
    exact False.elim q
  | cont =>
    obtain ⟨_, _, _, q⟩ := hs
    exact False.elim q
end
end L2
namespace L2
open PySem PySem.Spec PyProof.Rows
abbrev Cx.marked (X : Cx) (a : Addr) : Cx := { X with A := X.A.mark (some (.ref a)), calm := false, xe := fun _ _ => False }
def XeT (X : Cx) (G : Value → Hp → Prop) (e : Value) (s' : Shared) : Prop :=
  ∃ (a : Addr) (cls a0 : Value) (σ' : St) (H' : Hp) (B : Heap), e = .ref a ∧ Inv X [] σ' H' s' ∧ Heap.FlyingW B X.stack a cls a0 s'.heap ∧ (∀ b o, X.s₀.heap.get? b = some o → b ∉ X.fs → ∃ o', B.get? b = some o') ∧
    (∀ b u, H' b = some u → ∃ o', B.get? b = some o') ∧ G cls H'
section
variable {X : Cx} {σ : St} {H : Hp} {s : Shared} {a : Addr} {h' : Heap} {B : Heap}
theorem Inv.mark (I : Inv X [] σ H s) (a : Addr) : Inv (X.marked a) [] σ H s :=
  ⟨⟨I.ok.mod, I.ok.kind, I.ok.glob, I.ok.blt, I.ok.above, I.ok.inj, I.ok.has, I.ok.cab, fun z => Bool.noConfusion (show false = true from z), I.ok.frames, I.ok.stk, I.ok.exf, I.ok.bs, I.ok.bsz, I.ok.noex, I.ok.exfs, I.ok.funs, I.ok.frf⟩, I.os, I.bare, I.base, I.loc, I.cell, I.free, I.freeC, I.pin, I.hok, I.len⟩
theorem Inv.unmark (ok : X.Ok) (I : Inv (X.marked a) [] σ H s) : Inv X [] σ H s := ⟨ok, I.os, I.bare, I.base, I.loc, I.cell, I.free, I.freeC, I.pin, I.hok, I.len⟩
theorem Inv.fly (hex : X.ex = []) (hpn : X.pn = []) (I : Inv X [] σ H s) (b1 : B.StaysIn s.heap) (b2 : B.StaysIn h') (up : s.heap.UpToSlots h') (hB : ∀ b o, X.s₀.heap.get? b = some o → b ∉ X.fs → ∃ o', B.get? b = some o')
    (hH : ∀ b u, H b = some u → ∃ o', B.get? b = some o') : Inv X [] σ H { s with heap := h' } := by
  have cellK : ∀ c v, s.heap.IsCell c v → h'.IsCell c v := fun c v ⟨o, ho, hd⟩ => by
    obtain ⟨sl, e⟩ := up c o ho (fun vs z => by rw [hd] at z; cases z)
    exact ⟨_, e, hd⟩
  refine ⟨I.ok, I.os, I.bare, ?_, ?_, fun x c e => let ⟨v, z⟩ := I.cell x c e; ⟨v, cellK c v z⟩, I.free, I.freeC, fun p hp => ?_, hok_fly I.hok b1 b2 hH, I.len⟩
  · rw [hex]
    refine un_fly (by have := I.base; rw [hex] at this; exact this) b1 b2 up (fun b hb => ?_) hB
    obtain ⟨_, o, ho, hd⟩ := I.funs.mem hb
    exact ⟨o, ho, hd⟩
  · obtain ⟨m, hn, hl⟩ := I.loc
    refine ⟨m, up.ns hn, fun i x v e1 e2 e3 => ?_⟩
    obtain ⟨u, r, l⟩ := hl i x v e1 e2 e3
    refine ⟨u, r, ?_⟩
    rcases l with l | ⟨k, c, e, z⟩
    · exact .inl l
    · exact .inr ⟨k, c, e, cellK _ _ z⟩
  · rw [hpn] at hp
    exact absurd hp (by simp)
theorem Inv.trackX {o : HO} (hex : X.ex = []) (hpn : X.pn = []) (I : Inv X [] σ H s) (n : H a = none) (n0 : X.s₀.heap.get? a = none) (nL : a ≠ X.env.locals) (nC : ∀ x c, X.env.cells.lookup x = some c → c ≠ a) (new : ObjOk X.prog X.w (upd H a o) s.heap a o) :
    Inv X [] σ (upd H a o) s := by
  have ne : ∀ b u, H b = some u → b ≠ a := fun b u q z => by rw [z, n] at q; cases q
  have ne0 : ∀ b u, X.s₀.heap.get? b = some u → b ≠ a := fun b u q z => by rw [z, n0] at q; cases q
  refine ⟨I.ok, I.os, I.bare, ⟨I.base.keep, I.base.slot, fun b u q nb hx => ?_, I.base.there, fun b xs q => ?_, fun b ob u q => ?_, fun b ps q => ?_⟩, I.loc, I.cell, ?_, fun x c e => ?_, fun p hp => ?_, fun b u q => ?_, I.len⟩
  · rw [upd_ne (ne0 b u q)]; exact I.base.free b u q nb hx
  · have z := I.base.tups b xs q; rw [upd_ne (ne b _ z)]; exact z
  · have z := I.base.frzs b ob u q; rw [upd_ne (ne b _ z)]; exact z
  · obtain ⟨more, z⟩ := I.base.tbls b ps q; exact ⟨more, by rw [upd_ne (ne b _ z)]; exact z⟩
  · rw [upd_ne (Ne.symm nL)]; exact I.free
  · rw [upd_ne (nC x c e)]; exact I.freeC x c e
  · rw [hpn] at hp
    exact absurd hp (by simp)
  · by_cases z : b = a
    · subst z; rw [upd_same] at q; cases q; exact new
    · rw [upd_ne z] at q
      exact (I.hok b u q).stay (fun _ _ _ r => r) (fun c r => by rw [upd_ne (ne c _ r)]; exact r) fun c xs r => by rw [upd_ne (ne c _ r)]; exact r
theorem Inv.unbind {i : Nat} {n : Str} {pins : List (Addr × Obj)} {M : Model} {A : Around} {E : Value → Shared → Prop} {pos : Pos} {Q : Unit → Shared → Prop} (I : Inv X pins σ H s) (hN : X.N.Nodup) (hi : X.N[i]? = some n) (hk : X.env.scope.names.lookup n = some .local) (hf : X.fn n = true)
    (h : ∀ s', Inv X pins (σ.set i none) H s' → Q () s') : wpAny M A (do bindName X.env n .none; unbindBehindTheSuite X.env n pos) Q E s := by
  have hcls : (X.env.scope.kind == .class || (X.env.scope.kind == .module && X.env.locals != X.env.globals)) = false := by rw [I.ok.kind]; rfl
  refine wpAny_bind (wpAny_bindName (store_ok2 (v := V.non) I hN hi (.inl hk) rfl (fun s1 I1 _ => ?_) (.inl hf)))
  unfold unbindBehindTheSuite
  refine wpAny_onRaise ?_
  obtain ⟨m, hn, hl⟩ := id I1.loc
  have hiσ : i < σ.length := by rw [I.len]; exact (List.getElem?_eq_some_iff.mp hi).1
  obtain ⟨u, ru, lk⟩ := hl i n .non hi (by rw [List.getElem?_set_self hiσ]) (.inl hk)
  have hm : m n = some u := by
    rcases lk with ⟨_, e⟩ | ⟨k, _⟩
    · exact e
    · have hk' : X.env.kindOf n = some .local := hk
      rw [hk'] at k
      rcases k with k | k <;> cases k
  refine wpAny_unbindName_local hk hn hm hcls fun h2 u2 hn2 hs2 => ?_
  obtain ⟨oL, _, _, hoL, _⟩ := id hn
  have other : ∀ b o, s1.heap.get? b = some o → b ≠ X.env.locals → h2.get? b = some o := fun b o q nb => (hs2.2 b nb).trans q
  have gt : ∀ b o, X.s₀.heap.get? b = some o → b ≠ X.env.locals := fun b o q => Nat.ne_of_lt (Nat.lt_of_lt_of_le (Heap.lt_size q) I.ok.above)
  refine h _ ⟨I1.ok, I1.os, I1.bare, ⟨fun b o q nb hb hx => other b o (I1.base.keep b o q nb hb hx) (gt b o q), fun b o q nb hb hx => ?_, I1.base.free, fun b o q hx => ?_, I1.base.tups, I1.base.frzs, I1.base.tbls⟩, ⟨_, hn2, fun j y v e1 e2 e3 => ?_⟩, fun y c e => ?_, I1.free, I1.freeC, fun p hp => ?_, fun b ob e => ?_, by simpa using I.len⟩
  · obtain ⟨sl, e⟩ := I1.base.slot b o q nb hb hx
    exact ⟨sl, other b _ e (gt b o q)⟩
  · obtain ⟨o', e⟩ := I1.base.there b o q hx
    exact ⟨o', other b _ e (gt b o q)⟩
  · have hj : j ≠ i := by
      rintro rfl
      rw [List.getElem?_set_self hiσ] at e2
      cases e2
    rw [List.getElem?_set_ne (Ne.symm hj)] at e2
    obtain ⟨u', r', q⟩ := hl j y v e1 (by rw [List.getElem?_set_ne (Ne.symm hj)]; exact e2) e3
    refine ⟨u', r', ?_⟩
    rcases q with ⟨k, e⟩ | ⟨k, c, e, o, ho, hd⟩
    · refine .inl ⟨k, ?_⟩
      have : y ≠ n := fun e => hj (nodup_ix hN e1 (e ▸ hi))
      show (if y = n then u2 else m y) = some u'
      rw [if_neg this]
      exact e
    · exact .inr ⟨k, c, e, o, other c o ho (I1.cne y c e), hd⟩
  · obtain ⟨v, o, ho, hd⟩ := I1.cell y c e
    exact ⟨v, o, other c o ho (I1.cne y c e), hd⟩
  · obtain ⟨e, n', ne, nf, d⟩ := I1.pin p hp
    exact ⟨other _ _ e ne, n', ne, nf, d⟩
  · refine (I1.hok b ob e).stay (fun c w' hc q => other c w' q ?_) (fun _ q => q) fun _ _ q => q
    rintro rfl
    rcases hc with rfl | hc
    · rw [I1.free] at e; cases e
    · rw [I1.free] at hc; cases hc
end
section
variable {X : Cx}
theorem passes_try {G : Value → Hp → Prop} (hst : X.stack = X.env :: X.outer) (hf : X.env.frame = some X.env.locals) (hex : X.ex = []) (hpn : X.pn = []) : Passes (CXr X.prog X.w) (X.wish (XeT X G)) (fun cls _ H' => G cls H') := by
  rintro pins σ H s e s' I ⟨a, cls, a0, H', B, rfl, hos, hg, un, hok, fl, inB, inH, hE⟩
  have J := (I.unwish.pins_of (pins' := []) (fun p hp => absurd hp (by simp))).call' (s' := s') (H' := H') (ch := []) hos un hok hg (fun b z => absurd z (by simp))
  refine ⟨a, cls, a0, σ, H', B, rfl, J, fl, fun b o q hb => ?_, inH, hE⟩
  obtain ⟨o', e'⟩ := I.base.there b o q (by show b ∉ X.ex; rw [hex]; simp)
  refine inB b o' e' fun z => ?_
  have z' : b ∈ frs X.stack := z
  rw [hst] at z'
  rcases (mem_frs hf).mp z' with z' | z'
  · exact absurd z' (Nat.ne_of_lt (Nat.lt_of_lt_of_le (Heap.lt_size q) I.ok.above))
  · exact hb z'
def tTry (K : PySem.W.Frag) (C : Addr) (len i : Nat) (tb : (Value → Hp → Prop) → TS) (ts : Addr → TS) : TS := fun D σ H =>
  tb (fun cls H' => PySem.W.exmOne K cls (.ref C) = some true ∧ ∀ a, H' a = none → ts a { nx := fun σ' H'' => D.nx (σ'.set i none) H'', rt := D.rt, bk := fun σ' H'' => D.bk (σ'.set i none) H'', ct := fun σ' H'' => D.ct (σ'.set i none) H'' }
    ((List.replicate len none).set i (some (.ref a))) (upd H' a (.ext (IsX a cls)))) D σ H
theorem ps0_try {body suite : List Stmt} {b0 : Stmt} {x n : Str} {np hpos pos : Pos} {C : Addr} {i : Nat} {tb : (Value → Hp → Prop) → TS} {ts : Addr → TS} (hst : X.stack = X.env :: X.outer) (hf : X.env.frame = some X.env.locals) (hex : X.ex = []) (hpn : X.pn = [])
    (hN : X.N.Nodup) (hi : X.N[i]? = some n) (hk : X.env.scope.names.lookup n = some .local) (hfn : X.fn n = true) (hg : Gl X x) (hm : X.mg x = some (.ref C)) (hb : ∀ G, PSs (X.wish (XeT X G)) body (tb G)) (hs : ∀ a, PSs (X.marked a) (b0 :: suite) (ts a)) (hd : (x == ("__debug__" : Str)) = false := by decide) :
    PS0 X (.Try body [.ExceptHandler (some (.Name x np)) (some n) (b0 :: suite) hpos] [] [] pos) (tTry X.K C X.N.length i tb ts) := by
  intro s σ H D I h
  refine wpAny_Try_except (wpAny_mono (hb _ [] s σ H D (I.wish _) h) (fun fl s1 hq => ?_) fun e s1 hx => ?_)
  · have hq := SP.unwish hq
    cases fl with
    | next =>
      obtain ⟨σ', H', J, q⟩ := hq
      exact pss_nil [] s1 σ' H' D J q
    | brk => exact hq
    | cont => exact hq
    | ret u => exact hq
  · obtain ⟨a, cls, a0, σ', H', B, rfl, J, fl, inB, inH, hc, hG⟩ := hx
    rw [hst] at fl
    refine wpAny_looks_onW (by rw [J.ok.frames, hst]) hf fl fun h4 held up4 => ?_
    refine wpAny_landsW held fun h5 fl5 up5' => ?_
    have up5 := up4.trans up5'
    have J5 : Inv X [] σ' H' { s1 with heap := h5 } := J.fly hex hpn fl.1 fl5.1 up5 inB inH
    refine wpAny_handleBy_cons (codeAny_handlers_test (ld_glob (X := X.marked a) (J5.mark a) hg hm ?_ hd)) (by intro q; cases q)
    have kin : X.K.In h5 := J5.kIn
    obtain ⟨ob, hob, hobc⟩ := fl5.there
    have isx : IsX a cls h5 := ⟨ob, hob, hobc⟩
    refine (PySem.W.exm_one kin isx.ty hc).here ?_
    refine codeAny_handlers_suite_as ?_
    refine lands_againW fl5 fun h6 fl6 up6 => ?_
    have J6 : Inv X [] σ' H' { s1 with heap := h6 } := J.fly hex hpn fl.1 fl6.1 (up5.trans up6) inB inH
    obtain ⟨oe, ws, hoe, hoec, hoed, _⟩ := fl6.first
    have na : H' a = none := by
      cases z : H' a with
      | none => rfl
      | some u =>
        obtain ⟨o', e'⟩ := inH a u z
        have := fl6.2.1
        rw [e'] at this
        cases this
    have nL : a ≠ X.env.locals := fun z => by
      obtain ⟨m, ⟨o, es, ep, ho, hd', _⟩, _⟩ := J6.loc
      have ho : h6.get? X.env.locals = some o := ho
      rw [← z, hoe] at ho
      cases ho
      rw [hoed] at hd'
      cases hd'
    have n0 : X.s₀.heap.get? a = none := by
      cases z : X.s₀.heap.get? a with
      | none => rfl
      | some u =>
        by_cases ha : a ∈ X.fs
        · obtain ⟨_, o, ho, hd'⟩ := J6.funs.mem ha
          have ho : h6.get? a = some o := ho
          rw [hoe] at ho
          cases ho
          exact absurd hoed (hd' _)
        · obtain ⟨o', e'⟩ := inB a u z ha
          have := fl6.2.1
          rw [e'] at this
          cases this
    have nC : ∀ x c, X.env.cells.lookup x = some c → c ≠ a := fun x c e z => by
      obtain ⟨v, o, ho, hd'⟩ := J6.cell x c e
      have ho : h6.get? c = some o := ho
      rw [z, hoe] at ho
      cases ho
      rw [hoed] at hd'
      cases hd'
    have isx6 : IsX a cls h6 := ⟨oe, hoe, hoec⟩
    have J7 : Inv X [] σ' (upd H' a (.ext (IsX a cls))) { s1 with heap := h6 } := J6.trackX hex hpn na n0 nL nC ⟨isx6, ⟨oe, hoe⟩, fun h1 h2 ⟨o, e, c⟩ k => ⟨o, k o e, c⟩⟩
    have J8 : Inv X [] (List.replicate X.N.length none) (upd H' a (.ext (IsX a cls))) { s1 with heap := h6 } := J7.weak (by rw [List.length_replicate, J7.len]) fun j v e => by
      rw [List.getElem?_replicate] at e
      split at e <;> cases e
    refine store_ok2 (X := X.marked a) (v := V.ref a) (J8.mark a) hN hi (.inl hk) rfl (fun s9 J9 _ => ?_) (.inl hfn)
    refine wpAny_mono (hs a [] s9 _ _ _ J9 (hG a na)) (fun fl' s10 hq => ?_) fun _ _ z => False.elim z
    show wpAny _ X.A (do bindName X.env n .none; unbindBehindTheSuite X.env n hpos) _ _ s10
    cases fl' with
    | next =>
      obtain ⟨σ2, H2, K2, q⟩ := hq
      exact (K2.unmark I.ok).unbind hN hi hk hfn fun s' K3 => ⟨_, H2, K3, q⟩
    | brk =>
      obtain ⟨σ2, H2, K2, q⟩ := hq
      exact (K2.unmark I.ok).unbind hN hi hk hfn fun s' K3 => ⟨_, H2, K3, q⟩
    | cont =>
      obtain ⟨σ2, H2, K2, q⟩ := hq
      exact (K2.unmark I.ok).unbind hN hi hk hfn fun s' K3 => ⟨_, H2, K3, q⟩
    | ret u =>
      obtain ⟨v, σ2, H2, K2, r, q⟩ := hq
      exact (K2.unmark I.ok).unbind hN hi hk hfn fun s' K3 => ⟨v, _, H2, K3, r, q⟩
end
end L2
namespace L2
open PySem PySem.Spec PyProof.Rows
structure CalX (P : Program) (w : World) (K : PySem.W.Frag) (mg : Str → Option Value) (base : Heap) (n : Nat) (x : Str) (ps : List Str) (sp : Sp) (g : Addr) (gd : FuncData) : Prop where
  ok : FnOk P w K mg base (CXr P w) n g gd ps sp
  bi : Binds K gd ps []
  kp : PySem.W.keepIn K (.ref g) = true
  at_ : mg x = some (.ref g)
theorem CalX.up {P : Program} {w : World} {K : PySem.W.Frag} {mg : Str → Option Value} {base : Heap} {n m : Nat} {x : Str} {ps : List Str} {sp : Sp} {g : Addr} {gd : FuncData} (c : CalX P w K mg base n x ps sp g gd) (h : n ≤ m) : CalX P w K mg base m x ps sp g gd := ⟨c.ok.mono h, c.bi, c.kp, c.at_⟩
theorem passF {X : Cx} : Passes (CXr X.prog X.w) X E0 := fun _ _ _ _ _ _ _ ⟨_, _, _, _, _, _, _, _, _, _, _, _, _, h⟩ => False.elim h
theorem pe_callX {X : Cx} {n : Nat} {x : Str} {ps : List Str} {sp : Sp} {g : Addr} {gd : FuncData} {E : XK} {p pos : Pos} {e : Expr} {es : List Expr} {t : TA} (c : CalX X.prog X.w X.K X.mg X.base n x ps sp g gd) (hr : Room n X.A) (hx : Passes (CXr X.prog X.w) X E) (ha : PA X (e :: es) t) (hg : Gl X x := by rfl)
    (hd : (x == ("__debug__" : Str)) = false := by decide) (he : starEach (e :: es) X.env = (false, eval e X.env) :: starEach es X.env := by rfl) (hpl : (backTo pos (starEach es X.env)).any (·.1) = false := by rfl) :
    PE X (.Call (.Name x p) (e :: es) [] pos) (tCall sp [] E t) := pe_call c.ok hr hg c.at_ c.kp c.bi .nil hx ha hd he hpl
theorem PS.nox {X : Cx} {st : Stmt} {t : TS} (h : PS X.nox st t) : PS X st t := fun pins s σ H D I hw =>
  wpAny_mono (h pins s σ H D (I.wish _) hw) (fun _ _ q => q.unwish) fun _ _ z => False.elim z
theorem pss0_cons {X : Cx} {st : Stmt} {rest : List Stmt} {t u : TS} (hs : PS0 X st t) (hr : PSs0 X rest u) : PSs0 X (st :: rest) (tSeq t u) := by
  intro s σ H D I h
  refine wpAny_execs_cons (thn (hs s σ H _ I h) fun fl s1 hq => ?_)
  cases fl with
  | next =>
    obtain ⟨σ', H', J, q⟩ := hq
    exact hr s1 σ' H' D J q
  | brk => exact hq
  | cont => exact hq
  | ret u => exact hq
theorem vref {c : Addr} : ∀ u', RelV (.ref c) u' → u' = Value.ref c := fun _ h => h
theorem vty {T : String} : ∀ u', RelV (.ty T) u' → u' = Value.type T := fun _ h => h
end L2
namespace TD
open PySem L2
open Builtin.Int (intBits)
theorem TyOf.same {K : PySem.W.Frag} {H H' : Hp} {v : V} {t : Value} (s : Same H H') (h : TyOf K H v t) : TyOf K H' v t := by
  cases h with
  | non => exact .non
  | bl x => exact .bl x
  | int i => exact .int i
  | str x => exact .str x
  | flt x => exact .flt x
  | lst e => exact .lst (s _ _ e)
  | frz e => exact .frz (s _ _ e)
  | tup e => exact .tup (s _ _ e)
  | dK e => exact .dK (s _ _ e)
  | dT e => exact .dT (s _ _ e)
  | ins e a b c d f => exact .ins (s _ _ e) a b c d f
def Oth (H : Hp) (T : String) (v : V) : Prop := ∀ K : PySem.W.Frag, ∃ t, TyOf K H v t ∧ PySem.W.kitOne K t (.type T) = some false
theorem Oth.same {H H' : Hp} {T : String} {v : V} (s : Same H H') (h : Oth H T v) : Oth H' T v := fun K => let ⟨t, a, b⟩ := h K; ⟨t, TyOf.same s a, b⟩
theorem kit_bool_int {K : PySem.W.Frag} : PySem.W.kitOne K (.type "bool") (.type "int") = some true := by rfl
inductive IsW (H : Hp) (lo hi : Int) : V → Bool → Prop where
  | no {v : V} (h : Oth H "int" v) : IsW H lo hi v false
  | bl (c : Bool) : IsW H lo hi (.bl c) false
  | int (i : Int) : IsW H lo hi (.int i) (decide (lo ≤ i) && decide (i ≤ hi))
theorem IsW.same {H H' : Hp} {lo hi : Int} {v : V} {b : Bool} (s : Same H H') (h : IsW H lo hi v b) : IsW H' lo hi v b := by
  cases h with
  | no h => exact .no (h.same s)
  | bl c => exact .bl c
  | int i => exact .int i
theorem IsW.yes {H : Hp} {lo hi i : Int} (h1 : lo ≤ i) (h2 : i ≤ hi) : IsW H lo hi (.int i) true := by
  have h := IsW.int (H := H) (lo := lo) (hi := hi) i
  rw [decide_eq_true h1, decide_eq_true h2] at h
  exact h
theorem IsW.not {H : Hp} {lo hi i : Int} (h1 : i < lo ∨ hi < i) : IsW H lo hi (.int i) false := by
  have h := IsW.int (H := H) (lo := lo) (hi := hi) i
  have e : (decide (lo ≤ i) && decide (i ≤ hi)) = false := by
    rcases h1 with h1 | h1
    · rw [decide_eq_false (by omega)]; rfl
    · rw [decide_eq_false (p := i ≤ hi) (by omega), Bool.and_false]
  rw [e] at h
  exact h
def spIsWx : Sp := fun vs H Q _ => ∃ (v : V) (lo hi : Int) (b : Bool), vs = [v, .int lo, .int hi] ∧ IsW H lo hi v b ∧ Q (.bl b) H
theorem oth {H : Hp} {T : String} {v : V} {t : Value} (h1 : ∀ K : PySem.W.Frag, TyOf K H v t) (h2 : ∀ K : PySem.W.Frag, PySem.W.kitOne K t (.type T) = some false) : Oth H T v := fun K => ⟨t, h1 K, h2 K⟩
theorem TyOf.kp {K : PySem.W.Frag} {H H' : Hp} {v : V} {t : Value} (s : ∀ b o, H b = some o → (∀ ps, o ≠ .tbl ps) → H' b = some o) (h : TyOf K H v t) : TyOf K H' v t := by
  cases h with
  | non => exact .non
  | bl x => exact .bl x
  | int i => exact .int i
  | str x => exact .str x
  | flt x => exact .flt x
  | lst e => exact .lst (s _ _ e fun _ z => nomatch z)
  | frz e => exact .frz (s _ _ e fun _ z => nomatch z)
  | tup e => exact .tup (s _ _ e fun _ z => nomatch z)
  | dK e => exact .dK (s _ _ e fun _ z => nomatch z)
  | dT e => exact .dT (s _ _ e fun _ z => nomatch z)
  | ins e a b c d f => exact .ins (s _ _ e fun _ z => nomatch z) a b c d f
def Kt (H H' : Hp) : Prop := ∀ b o, H b = some o → (∀ ps, o ≠ .tbl ps) → H' b = some o
theorem Same.kt {H H' : Hp} (s : Same H H') : Kt H H' := fun b o h _ => s b o h
theorem SameT.kt {P : Addr} {pos : Pos} {qual : Str} {H H' : Hp} (s : SameT P H H') (t : TbOk P pos qual H) : Kt H H' := fun b o h n => s.get t h n
theorem Kt.trans {H H1 H2 : Hp} (a : Kt H H1) (b : Kt H1 H2) : Kt H H2 := fun c o h n => b c o (a c o h n) n
theorem Kt.kp {H H' : Hp} (k : Kt H H') : Kp H H' := fun b o h n _ => k b o h n
theorem Kt.refl (H : Hp) : Kt H H := fun _ _ h _ => h
theorem Kt.tup {H H' : Hp} (k : Kt H H') {b : Addr} {xs : List V} (h : H b = some (.tup xs)) : H' b = some (.tup xs) := k _ _ h fun _ z => nomatch z
theorem Kt.lst {H H' : Hp} (k : Kt H H') {b : Addr} {xs : List V} (h : H b = some (.lst xs)) : H' b = some (.lst xs) := k _ _ h fun _ z => nomatch z
theorem Oth.kt {H H' : Hp} {T : String} {v : V} (s : Kt H H') (h : Oth H T v) : Oth H' T v := fun K => let ⟨t, a, b⟩ := h K; ⟨t, TyOf.kp s a, b⟩
theorem IsW.kt {H H' : Hp} {lo hi : Int} {v : V} {b : Bool} (s : Kt H H') (h : IsW H lo hi v b) : IsW H' lo hi v b := by
  cases h with
  | no h => exact .no (h.kt s)
  | bl c => exact .bl c
  | int i => exact .int i
theorem IsW.inv {H : Hp} {lo hi : Int} {v : V} (h : IsW H lo hi v true) : ∃ i, v = .int i ∧ lo ≤ i ∧ i ≤ hi := by
  generalize hb : true = b at h
  cases h with
  | no h => cases hb
  | bl c => cases hb
  | int i =>
    have := hb.symm
    rw [Bool.and_eq_true, decide_eq_true_eq, decide_eq_true_eq] at this
    exact ⟨i, rfl, this⟩
structure CN (K : PySem.W.Frag) (c : Cs) : Prop where
  all : ∀ T ∈ ["tuple", "int", "NoneType", "str", "list"], PySem.W.kitOne K (.type T) (.ref c.e) = some false ∧ PySem.W.kitOne K (.type T) (.ref c.s) = some false
  et : PySem.W.kitOne K (.ref c.e) (.type "tuple") = some false
inductive IsSt (c : Cs) (K : PySem.W.Frag) (H : Hp) : V → Bool → Prop where
  | yes {x : Addr} {s : Sd.Sd} {d m : Nat} (h : StAt c H x s d m) : IsSt c K H (.ref x) true
  | no {v : V} {T : String} (h : TyOf K H v (.type T)) (ht : T ∈ ["tuple", "int", "NoneType", "str", "list"]) : IsSt c K H v false
inductive SRow (c : Cs) (K : PySem.W.Frag) (H : Hp) : V → Bool → Prop where
  | no {v : V} {t : Value} (h : TyOf K H v t) (hk : PySem.W.kitOne K t (.type "tuple") = some false) : SRow c K H v false
  | len {a : Addr} {xs : List V} (e : H a = some (.tup xs)) (hl : xs.length ≠ 2) : SRow c K H (.ref a) false
  | two {a : Addr} {x y : V} {b b2 : Bool} (e : H a = some (.tup [x, y])) (hx : IsW H 1 1000 x b) (hy : IsSt c K H y b2) : SRow c K H (.ref a) (b && b2)
inductive SRows (c : Cs) (K : PySem.W.Frag) (H : Hp) : V → Bool → Prop where
  | no {v : V} (h : Oth H "list" v) : SRows c K H v false
  | len {a : Addr} {xs : List V} (e : H a = some (.lst xs)) (hl : ¬ (1 ≤ xs.length ∧ xs.length ≤ 4)) : SRows c K H (.ref a) false
  | all {a : Addr} {xs : List V} {bs : List Bool} (e : H a = some (.lst xs)) (h1 : 1 ≤ xs.length) (h4 : xs.length ≤ 4) (hb : bs.length = xs.length) (h : ∀ (i : Nat) x, xs[i]? = some x → SRow c K H x (bs.getD i false)) : SRows c K H (.ref a) (bs.all id)
inductive Boxs (c : Cs) (K : PySem.W.Frag) (H : Hp) : V → Bool → Prop where
  | no {v : V} (h : Oth H "list" v) : Boxs c K H v false
  | len {a : Addr} {xs : List V} (e : H a = some (.lst xs)) (hl : ¬ (1 ≤ xs.length ∧ xs.length ≤ 6)) : Boxs c K H (.ref a) false
  | all {a : Addr} {xs : List V} {bs : List Bool} (e : H a = some (.lst xs)) (h1 : 1 ≤ xs.length) (h6 : xs.length ≤ 6) (hb : bs.length = xs.length) (h : ∀ (i : Nat) x, xs[i]? = some x → IsSt c K H x (bs.getD i false)) : Boxs c K H (.ref a) (bs.all id)
section
variable {c : Cs} {K : PySem.W.Frag} {H H' : Hp} {v : V} {b : Bool}
theorem IsSt.kt (s : Kt H H') (h : IsSt c K H v b) : IsSt c K H' v b := by
  cases h with
  | yes h => exact .yes (h.kp s.kp)
  | no h ht => exact .no (TyOf.kp s h) ht
theorem SRow.kt (s : Kt H H') (h : SRow c K H v b) : SRow c K H' v b := by
  cases h with
  | no h hk => exact .no (TyOf.kp s h) hk
  | len e hl => exact .len (s.tup e) hl
  | two e hx hy => exact .two (s.tup e) (hx.kt s) (hy.kt s)
theorem SRows.kt (s : Kt H H') (h : SRows c K H v b) : SRows c K H' v b := by
  cases h with
  | no h => exact .no (h.kt s)
  | len e hl => exact .len (s.lst e) hl
  | all e h1 h4 hb h => exact .all (s.lst e) h1 h4 hb fun i x hx => (h i x hx).kt s
theorem Boxs.kt (s : Kt H H') (h : Boxs c K H v b) : Boxs c K H' v b := by
  cases h with
  | no h => exact .no (h.kt s)
  | len e hl => exact .len (s.lst e) hl
  | all e h1 h6 hb h => exact .all (s.lst e) h1 h6 hb fun i x hx => (h i x hx).kt s
end
def spStX (c : Cs) (K : PySem.W.Frag) : Sp := fun vs H Q _ => ∃ (v : V) (b : Bool), vs = [v] ∧ IsSt c K H v b ∧ Q (.bl b) H
def spSRowX (c : Cs) (K : PySem.W.Frag) : Sp := fun vs H Q _ => ∃ (v : V) (b : Bool), vs = [v] ∧ SRow c K H v b ∧ Q (.bl b) H
def spSRowsX (c : Cs) (K : PySem.W.Frag) : Sp := fun vs H Q _ => ∃ (v : V) (b : Bool), vs = [v] ∧ SRows c K H v b ∧ ∀ H', Same H H' → Q (.bl b) H'
def spEIX (c : Cs) (C : Addr) : Sp := fun vs H Q E =>
  (∃ (x dx : Addr) (v : Int), vs = [.ref x, .int v] ∧ H x = some (.ins c.e dx []) ∧ 0 ≤ v ∧ v ≤ 1000000000 ∧ ∀ H' : Hp, (∀ b o, b ≠ x → H b = some o → H' b = some o) → (∀ d m : Nat, 1 ≤ m → StAt c H' x (.en v) d m) → Q .non H') ∨
  ∃ (x : Addr) (v : V), vs = [.ref x, v] ∧ IsW H 0 1000000000 v false ∧ E (.ref C) none H
structure GRow (c : Cs) (H : Hp) (a : Addr) (ps ys : List Addr) (rs : List (Int × Sd.Sd)) (d : Nat) (j : Int × Sd.Sd → Nat) : Prop where
  ha : H a = some (.lst (ps.map V.ref))
  R : RwAt c H ps ys rs d j
  ne : rs ≠ []
  l4 : rs.length ≤ 4
  ww : ∀ r ∈ rs, 1 ≤ r.1 ∧ r.1 ≤ 1000
def spSIX (c : Cs) (K : PySem.W.Frag) (C Pt : Addr) (lp : Pos) : Sp := fun vs H Q E =>
  (∃ (x dx a : Addr) (p : Int) (ps ys : List Addr) (rs : List (Int × Sd.Sd)) (d : Nat) (j : Int × Sd.Sd → Nat), vs = [.ref x, .int p, .ref a] ∧ H x = some (.ins c.s dx []) ∧ GRow c H a ps ys rs d j ∧ 0 ≤ p ∧ p ≤ 1000000000 ∧
    (((12 < Sd.nE (d + 1 + 1) (.st p rs) ∨ 4 < Sd.nS (d + 1 + 1) (.st p rs)) ∧ ∀ H', Same H H' → E (.ref C) none H') ∨
     ∃ m : Nat, (rs.map j).sum ≤ m ∧ m ≤ 12 ∧ d + 1 ≤ 4 ∧ TbOk Pt lp lamQ H ∧ ∀ H' : Hp, (∀ b o, b ≠ x → b ≠ Pt → H b = some o → H' b = some o) → TbOk Pt lp lamQ H' → StAt c H' x (.st p rs) (d + 1) m → Q .non H')) ∨
  ∃ (x : Addr) (v w : V), vs = [.ref x, v, w] ∧ (IsW H 0 1000000000 v false ∨ (IsW H 0 1000000000 v true ∧ SRows c K H w false)) ∧ ∀ H', Same H H' → E (.ref C) none H'
def spNB (c : Cs) (K : PySem.W.Frag) (C : Addr) : Sp := fun vs H Q E => ∃ (v : V) (b : Bool), vs = [v] ∧ Boxs c K H v b ∧ (b = true → ∀ H', Same H H' → Q .non H') ∧ (b = false → ∀ H', Same H H' → E (.ref C) none H')
end TD
namespace TD
open PySem L2
open Builtin.Int (intBits)
inductive Stg (c : Cs) (K : PySem.W.Frag) (H : Hp) : V → V → Bool → Prop where
  | price {v w : V} (h : IsW H 0 1000000000 v false) : Stg c K H v w false
  | rows {v w : V} (h : IsW H 0 1000000000 v true) (h2 : SRows c K H w false) : Stg c K H v w false
  | big {p : Int} {a : Addr} {ps ys : List Addr} {rs : List (Int × Sd.Sd)} {d : Nat} {j : Int × Sd.Sd → Nat} (p0 : 0 ≤ p) (p9 : p ≤ 1000000000) (g : GRow c H a ps ys rs d j) (h : 12 < Sd.nE (d + 1 + 1) (.st p rs) ∨ 4 < Sd.nS (d + 1 + 1) (.st p rs)) : Stg c K H (.int p) (.ref a) false
  | good {p : Int} {a : Addr} {ps ys : List Addr} {rs : List (Int × Sd.Sd)} {d m : Nat} {j : Int × Sd.Sd → Nat} (p0 : 0 ≤ p) (p9 : p ≤ 1000000000) (g : GRow c H a ps ys rs d j) (hm : (rs.map j).sum ≤ m) (m12 : m ≤ 12) (d4 : d + 1 ≤ 4) : Stg c K H (.int p) (.ref a) true
inductive Ask (c : Cs) (K : PySem.W.Frag) (H : Hp) : Str → V → V → Bool → Prop where
  | en {v w : V} {b : Bool} (h : IsW H 0 1000000000 v b) : Ask c K H "end" v w b
  | st {v w : V} {b : Bool} (h : Stg c K H v w b) : Ask c K H "stage" v w b
  | bx {v w : V} {b : Bool} (h : Boxs c K H v b) : Ask c K H "boxes" v w b
section
variable {c : Cs} {K : PySem.W.Frag} {H H' : Hp} {a : Addr} {ps ys : List Addr} {rs : List (Int × Sd.Sd)} {d : Nat} {j : Int × Sd.Sd → Nat}
theorem GRow.kt (s : Kt H H') (g : GRow c H a ps ys rs d j) : GRow c H' a ps ys rs d j := ⟨s.lst g.ha, g.R.kp s.kp, g.ne, g.l4, g.ww⟩
theorem Stg.kt (s : Kt H H') {v u : V} {b : Bool} (h : Stg c K H v u b) : Stg c K H' v u b := by
  cases h with
  | price h => exact .price (h.kt s)
  | rows h h2 => exact .rows (h.kt s) (h2.kt s)
  | big p0 p9 g h => exact .big p0 p9 (g.kt s) h
  | good p0 p9 g hm m12 d4 => exact .good p0 p9 (g.kt s) hm m12 d4
theorem Ask.kt (s : Kt H H') {z : Str} {v u : V} {b : Bool} (h : Ask c K H z v u b) : Ask c K H' z v u b := by
  cases h with
  | en h => exact .en (h.kt s)
  | st h => exact .st (h.kt s)
  | bx h => exact .bx (h.kt s)
theorem rw_of (tr : List (Addr × Addr × Int × Sd.Sd)) (h : ∀ r ∈ tr, H r.1 = some (.tup [.int r.2.2.1, .ref r.2.1]) ∧ StAt c H r.2.1 r.2.2.2 d (j r.2.2)) : RwAt c H (tr.map (·.1)) (tr.map (·.2.1)) (tr.map (·.2.2)) d j := by
  refine ⟨by simp, by simp, fun i q y t e1 e2 e3 => ?_, fun i y t e2 e3 => ?_⟩
  · rw [List.getElem?_map] at e1 e2 e3
    cases e : tr[i]? with
    | none => rw [e] at e1; cases e1
    | some r =>
      rw [e] at e1 e2 e3
      cases e1; cases e2; cases e3
      exact (h r (List.mem_of_getElem? e)).1
  · rw [List.getElem?_map] at e2 e3
    cases e : tr[i]? with
    | none => rw [e] at e2; cases e2
    | some r =>
      rw [e] at e2 e3
      cases e2; cases e3
      exact (h r (List.mem_of_getElem? e)).2
theorem gr_of {tr : List (Addr × Addr × Int × Sd.Sd)} (ha : H a = some (.lst ((tr.map (·.1)).map V.ref))) (h : ∀ r ∈ tr, H r.1 = some (.tup [.int r.2.2.1, .ref r.2.1]) ∧ StAt c H r.2.1 r.2.2.2 d (j r.2.2) ∧ 1 ≤ r.2.2.1 ∧ r.2.2.1 ≤ 1000) (ne : tr ≠ []) (l4 : tr.length ≤ 4) : GRow c H a (tr.map (·.1)) (tr.map (·.2.1)) (tr.map (·.2.2)) d j :=
  ⟨ha, rw_of tr fun r hr => ⟨(h r hr).1, (h r hr).2.1⟩, fun z => ne (List.map_eq_nil_iff.mp z), by simpa using l4, fun r hr => by
    obtain ⟨x, hx, rfl⟩ := List.mem_map.mp hr
    exact (h x hx).2.2⟩
theorem made {x dx : Addr} {o1 o2 : HO} (hx : H x = none) (hd : H dx = none) (kp : ∀ b o, b ≠ x → upd (upd H dx o1) x o2 b = some o → H' b = some o) : Same H H' := fun b o e => kp b o (ne_of_none e hx) (by rw [upd_ne (ne_of_none e hx), upd_ne (ne_of_none e hd)]; exact e)
theorem madeT {Pt x dx : Addr} {o1 o2 : HO} (hx : H x = none) (hd : H dx = none) (kp : ∀ b o, b ≠ x → b ≠ Pt → upd (upd H dx o1) x o2 b = some o → H' b = some o) : SameT Pt H H' := fun b o nP e => kp b o (ne_of_none e hx) nP (by rw [upd_ne (ne_of_none e hx), upd_ne (ne_of_none e hd)]; exact e)
theorem two_new {x dx : Addr} {o1 o2 : HO} (hx : H x = none) (hd : H dx = none) (ne : dx ≠ x) : Same H (upd (upd H dx o1) x o2) := (same_new hd o1).trans (same_new (by rw [upd_ne (Ne.symm ne)]; exact hx) o2)
end
def jM (M : Nat) (t : Int × Sd.Sd) : Nat := match t.2 with | .en _ => 1 | .st _ _ => M
def chSd : Nat → Sd.Sd
  | 0 => .en 3
  | k + 1 => .st (k : Int) [(1, chSd k)]
def wdSd : Nat → Sd.Sd
  | 0 => .st 1 [(1, .en 0), (2, .en 1), (3, .en 2), (4, .en 3)]
  | n + 1 => .st 1 [(1, .en 0), (2, .en 1), (3, .en 2), (2, wdSd n)]
def spThing : Sp := fun vs H Q _ => ∃ cc lo hi : Int, vs = [.int cc, .int lo, .int hi] ∧ 0 ≤ lo ∧ lo ≤ hi ∧ hi ≤ 1000000000 ∧ ∀ v b H', Same H H' → IsW H' lo hi v b → Q v H'
def spRefd (c : Cs) (K : PySem.W.Frag) (C Pt : Addr) (lp : Pos) : Sp := fun vs H Q _ => ∃ (z : Str) (v u : V) (b : Bool), vs = [.str z, v, u] ∧ Ask c K H z v u b ∧ TbOk Pt lp lamQ H ∧
  (b = true → ∀ H', SameT Pt H H' → TbOk Pt lp lamQ H' → Q .non H') ∧ (b = false → ∀ a H', SameT Pt H H' → TbOk Pt lp lamQ H' → H' a = some (.ext (IsX a (.ref C))) → Q (.ref a) H')
def spIs15 (c : Cs) (K : PySem.W.Frag) (Pt : Addr) (lp : Pos) : Sp := fun vs H Q _ => ∃ (z : Str) (v u : V) (b : Bool), vs = [.str z, v, u, .bl b] ∧ Ask c K H z v u b ∧ TbOk Pt lp lamQ H ∧ ∀ H', SameT Pt H H' → TbOk Pt lp lamQ H' → Q (.bl true) H'
def spChain (c : Cs) (Pt : Addr) (lp : Pos) : Sp := fun vs H Q _ => ∃ m : Nat, vs = [.int (m : Int)] ∧ m ≤ 4 ∧ TbOk Pt lp lamQ H ∧ ∀ x H', SameT Pt H H' → TbOk Pt lp lamQ H' → StAt c H' x (chSd m) m 1 → Q (.ref x) H'
def spWide (c : Cs) (Pt : Addr) (lp : Pos) (n : Nat) : Sp := fun vs H Q _ => vs = [.int (4 + 3 * (n : Int))] ∧ n ≤ 2 ∧ TbOk Pt lp lamQ H ∧ ∀ x H', SameT Pt H H' → TbOk Pt lp lamQ H' → StAt c H' x (wdSd n) (n + 1) (4 + 3 * n) → Q (.ref x) H'
def spRows15 (c : Cs) (K : PySem.W.Frag) : Sp := fun vs H Q _ => ∃ cc : Int, vs = [.int cc] ∧ ∀ v H', Same H H' → SRows c K H' v false → Q v H'
def spOne15 (Pt : Addr) (lp : Pos) : Sp := fun vs H Q _ => ∃ cc : Int, vs = [.int cc] ∧ TbOk Pt lp lamQ H ∧ ∀ H', SameT Pt H H' → TbOk Pt lp lamQ H' → Q (.bl true) H'
section
variable {c : Cs} {H H' : Hp}
theorem sdv_keep (kt : ∀ b xs, H b = some (.tup xs) → H' b = some (.tup xs)) {l cp : Addr} {sd : Sd.Sd} {lv : Int × Int} {xs : List Row} {n k : Int} {d m : Nat} (h : SdV H l cp sd lv xs n k d m) : SdV H' l cp sd lv xs n k d m :=
  ⟨kt _ _ h.lv, ⟨kt _ _ h.caps.1, fun x hx => ⟨kt _ _ (h.caps.2 x hx).1, kt _ _ (h.caps.2 x hx).2⟩⟩, h.gs, h.so, h.n1, h.nm, h.k0, h.kd, h.mt, h.lw, h.nx, h.kx⟩
theorem st_keep (kt : ∀ b xs, H b = some (.tup xs) → H' b = some (.tup xs)) (ki : ∀ b C dx f fs, H b = some (.ins C dx (f :: fs)) → H' b = some (.ins C dx (f :: fs))) {x : Addr} {s : Sd.Sd} {d m : Nat} (h : StAt c H x s d m) : StAt c H' x s d m := by
  induction h with
  | en h vv ok => exact .en (ki _ _ _ _ _ h) (sdv_keep kt vv) ok
  | st h vv g lp ly row sub p0 p9 ne l4 w hk ih => exact .st (ki _ _ _ _ _ h) (sdv_keep kt vv) (kt _ _ g) lp ly (fun i q y t a b c => kt _ _ (row i q y t a b c)) ih p0 p9 ne l4 w hk
theorem st_lst {D : Addr} {zs zs' : List V} (hD : H D = some (.lst zs)) {x : Addr} {s : Sd.Sd} {d m : Nat} (h : StAt c H x s d m) : StAt c (upd H D (.lst zs')) x s d m :=
  st_keep (fun b xs e => by rw [upd_ne (ne_of e hD fun z => nomatch z)]; exact e) (fun b C dx f fs e => by rw [upd_ne (ne_of e hD fun z => nomatch z)]; exact e) h
def ER (c : Cs) (H : Hp) (tr : List (Addr × Addr × Int × Sd.Sd)) : Prop := ∀ r ∈ tr, H r.1 = some (.tup [.int r.2.2.1, .ref r.2.1]) ∧ ∀ d m : Nat, 1 ≤ m → StAt c H r.2.1 r.2.2.2 d m
theorem ER.kt {tr : List (Addr × Addr × Int × Sd.Sd)} (s : Kt H H') (h : ER c H tr) : ER c H' tr := fun r hr => ⟨s.tup (h r hr).1, fun d m hm => ((h r hr).2 d m hm).kp s.kp⟩
theorem ER.lst {tr : List (Addr × Addr × Int × Sd.Sd)} {D : Addr} {zs zs' : List V} (hD : H D = some (.lst zs)) (h : ER c H tr) : ER c (upd H D (.lst zs')) tr := fun r hr => ⟨by rw [upd_ne (ne_of (h r hr).1 hD fun z => nomatch z)]; exact (h r hr).1, fun d m hm => st_lst hD ((h r hr).2 d m hm)⟩
theorem ER.snoc {tr : List (Addr × Addr × Int × Sd.Sd)} {r : Addr × Addr × Int × Sd.Sd} (h : ER c H tr) (h1 : H r.1 = some (.tup [.int r.2.2.1, .ref r.2.1])) (h2 : ∀ d m : Nat, 1 ≤ m → StAt c H r.2.1 r.2.2.2 d m) : ER c H (tr ++ [r]) := fun x hx => by
  rcases List.mem_append.mp hx with e | e
  · exact h x e
  · rw [List.mem_singleton.mp e]; exact ⟨h1, h2⟩
end
def trefs (tr : List (Addr × Addr × Int × Sd.Sd)) : List V := (tr.map (·.1)).map V.ref
theorem trefs_snoc (tr : List (Addr × Addr × Int × Sd.Sd)) (r : Addr × Addr × Int × Sd.Sd) : trefs (tr ++ [r]) = trefs tr ++ [V.ref r.1] := by unfold trefs; rw [List.map_append, List.map_append]; rfl
theorem trefs_len (tr : List (Addr × Addr × Int × Sd.Sd)) : (trefs tr).length = tr.length := by unfold trefs; rw [List.length_map, List.length_map]
theorem jM_1 (t : Int × Sd.Sd) : jM 1 t = 1 := by unfold jM; split <;> rfl
theorem jM_pos {M : Nat} (hM : 1 ≤ M) (t : Int × Sd.Sd) : 1 ≤ jM M t := by unfold jM; split <;> omega
def spWd (c : Cs) (Pt : Addr) (lp : Pos) : Nat → Sp
  | 0 => fun _ _ _ _ => False
  | n + 1 => spWide c Pt lp n
end TD
namespace L2
open PySem PySem.Spec PySem.Calls PyProof.Rows
section
variable {X : Cx}
end
end L2
namespace L2
open PySem PySem.Spec PyProof.Rows
theorem call_tuple_ofK {X : Cx} {K : PySem.W.Frag} (h : X.K = K) : CallR X (.type "tuple") (fun xs H Q => ∃ p ys, xs = [.ref p] ∧ ((SqL K H p ys ∧ ∀ l, H l = none → Q (.ref l) (upd H l (.tup ys))) ∨ (SqT K H p ys ∧ Q (.ref p) H))) := by subst h; exact call_tuple_of
end L2
namespace L2
open PySem PySem.Spec PyProof.Rows
structure QE (X : Cx) (e : Expr) (t : TE) : Prop where
  h : PE X e t
structure QT (X : Cx) (e : Expr) (t : TT) : Prop where
  h : PT X e t
structure QA (X : Cx) (es : List Expr) (t : TA) : Prop where
  h : PA X es t
structure QO (X : Cx) (e : Option Expr) (t : TO) : Prop where
  h : PO X e t
structure QP (X : Cx) (pos : Pos) (ks : List (Option Expr)) (vs : List Expr) (trs : List (TE × TE)) : Prop where
  h : PPs X pos ks vs trs
structure QS (X : Cx) (st : Stmt) (t : TS) : Prop where
  h : PS X st t
structure QSs (X : Cx) (st : List Stmt) (t : TS) : Prop where
  h : PSs X st t
section
variable {X : Cx} {pos pos' p p2 : Pos} {e a b : Expr} {es : List Expr} {te ta tb : TE} {t : TA} {x : Str} {st : Stmt} {rest : List Stmt} {ts us : TS}
theorem qv (i : Nat) {x : Str} {pos : Pos} (hN : X.N[i]? = some x := by rfl) (hv : Vis X.env.scope x := by first | exact Or.inl rfl | exact Or.inr (Or.inl rfl) | exact Or.inr (Or.inr rfl)) (hd : (x == ("__debug__" : Str)) = false := by decide)
    (hcd : (x == ("__classdict__" : Str)) = false := by decide) : QE X (.Name x pos) (tVar i) := ⟨pe_var hN hv hd hcd⟩
theorem qe_int {i : Int} {j : Nat} : QE X (.Constant (.int i) j pos) (tC (.int i)) := ⟨pe_int⟩
theorem qe_bl {c : Bool} {j : Nat} : QE X (.Constant (.bool c) j pos) (tC (.bl c)) := ⟨pe_bl⟩
theorem qe_non {j : Nat} : QE X (.Constant .none j pos) (tC .non) := ⟨pe_non⟩
theorem qe_str {y : Str} {j : Nat} : QE X (.Constant (.str y) j pos) (tC (.str y)) := ⟨pe_str⟩
theorem qe_op {op : Operator} {r : R2} (ho : OpR X (binaryOp op) r) (ha : QE X a ta) (hb : QE X b tb) : QE X (.BinOp a op b pos) (tOp r ta tb) := ⟨pe_op ho ha.h hb.h⟩
theorem qe_ix {r : R2} (hr : IxR X r) (ha : QE X a ta) (hb : QE X b tb) (hs : PlainIx b) : QE X (.Subscript a b pos) (tOp r ta tb) := ⟨pe_ix hr ha.h hb.h hs⟩
theorem qe_lst (h : QA X es t) : QE X (.List es pos) (tLst t) := ⟨pe_lst h.h⟩
theorem qe_tup {k : Nat} (h : QA X es t) : QE X (.Tuple es k pos) (tTup t) := ⟨pe_tup h.h⟩
theorem qa_nil : QA X [] tNil := ⟨pa_nil⟩
theorem qa_cons (ha : QE X e te) (hr : QA X es t) (hs : starEach (e :: es) X.env = (false, eval e X.env) :: starEach es X.env := by rfl) : QA X (e :: es) (tCons te t) := ⟨pa_cons ha.h hr.h hs⟩
theorem qe_dnewK : QE X (.Dict [] [] pos) tDNewK := ⟨pe_dnewK⟩
theorem qs_set {i : Nat} (hN : X.N.Nodup) (hi : X.N[i]? = some x) (hx : Loc X.env.scope x) (he : QE X e te) (hs : swapsWith e (some (.Name x pos')) pos.line X.env = pure false := by rfl) (hf : X.fn x = true ∨ X.env.scope.names.lookup x = some .local := by first | exact .inl rfl | exact .inr rfl | assumption) :
    QS X (.Assign [.Name x pos'] e pos) (tAsg te (gName i)) := ⟨ps_set hN hi hx he.h hs hf⟩
theorem qs_ret (he : QE X e te) : QS X (.Return (some e) pos) (tRet te) := ⟨ps_ret he.h⟩
theorem qss_one (h1 : QS X st ts) : QSs X [st] ts := ⟨pss_one h1.h⟩
theorem qss_cons (h1 : QS X st ts) (h2 : QSs X rest us) : QSs X (st :: rest) (tSeq ts us) := ⟨pss_cons h1.h h2.h⟩
end
end L2
namespace L2
open PySem PySem.Spec PyProof.Rows
structure QW (X : Cx) (e : Expr) (t : TT) : Prop where
  h : PW X e t
section
variable {X : Cx} {CX : CXT} {k n : Nat} {f C : Addr} {fd : FuncData} {ps : List Str} {sp : Sp} {dvs : List V} {ds : List Value} {E : XK} {x m name : Str} {p pos apos cpos : Pos} {a b e o : Expr} {es rest : List Expr} {ta tb te to : TE} {t : TA} {tA tB' : TT} {T id : String} {r : V → List V → Hp → VK → Prop}
theorem qe_callC {g : Addr} {gd : FuncData} (c : Cal X.prog X.w X.K X.mg X.base n x ps sp g gd) (hr : Room n X.A) (ha : QA X (e :: es) t) (hg : Gl X x := by rfl)
    (hd : (x == ("__debug__" : Str)) = false := by decide) (he : starEach (e :: es) X.env = (false, eval e X.env) :: starEach es X.env := by rfl) (hpl : (backTo pos (starEach es X.env)).any (·.1) = false := by rfl) :
    QE X (.Call (.Name x p) (e :: es) [] pos) (tCall sp [] E0 t) := ⟨pe_callC c hr ha.h hg hd he hpl⟩
theorem qe_make (M : Mk X.K C f) (F : FnOk X.prog X.w X.K X.mg X.base CX k f fd ps sp) (hr : Room (k + 1) X.A) (hg : Gl X x) (hm : X.mg x = some (.ref C)) (hb : Binds X.K fd ps ds) (hd : Vals dvs ds) (hx : Passes CX X E)
    (ha : QA X (e :: es) t) (hdb : (x == ("__debug__" : Str)) = false := by decide) (he : starEach (e :: es) X.env = (false, eval e X.env) :: starEach es X.env := by rfl) (hpl : (backTo pos (starEach es X.env)).any (·.1) = false := by rfl) :
    QE X (.Call (.Name x p) (e :: es) [] pos) (tMake C sp dvs E t) := ⟨pe_make M F hr hg hm hb hd hx ha.h hdb he hpl⟩
theorem QW.qt (h : QW X e tA) : QT X e tA := ⟨PW.pt h.h⟩
end
end L2
namespace K15
open PySem L2 TD
def top (i : Nat) : Stmt := PySem.Challenge.pw_lidprice_k15_what_makes_no_box.main.body.getD i (.Pass ⟨0, 0, 0, 0⟩)
def lamP : Pos := ⟨42, 30, 42, 72⟩
theorem sc_is_whole : FnScope ["thing", "least", "most"] ["thing", "least", "most"] (defScope (top 6)) := ⟨rfl, rfl, rfl, by decide +kernel, rfl, by decide +kernel, by decide +kernel⟩
theorem sc_common_divisor : FnScope ["one", "other", "rest"] ["one", "other"] (defScope (top 7)) := ⟨rfl, rfl, rfl, by decide +kernel, rfl, by decide +kernel, by decide +kernel⟩
theorem sc_common_multiple : FnScope ["numbers", "multiple", "number"] ["numbers"] (defScope (top 8)) := ⟨rfl, rfl, rfl, by decide +kernel, rfl, by decide +kernel, by decide +kernel⟩
theorem sc_share : FnScope ["top", "bottom", "divisor"] ["top", "bottom"] (defScope (top 9)) := ⟨rfl, rfl, rfl, by decide +kernel, rfl, by decide +kernel, by decide +kernel⟩
theorem sc_whole : FnScope ["number"] ["number"] (defScope (top 10)) := ⟨rfl, rfl, rfl, by decide +kernel, rfl, by decide +kernel, by decide +kernel⟩
theorem sc_below : FnScope ["one", "other"] ["one", "other"] (defScope (top 11)) := ⟨rfl, rfl, rfl, by decide +kernel, rfl, by decide +kernel, by decide +kernel⟩
theorem sc_lesser : FnScope ["one", "other"] ["one", "other"] (defScope (top 12)) := ⟨rfl, rfl, rfl, by decide +kernel, rfl, by decide +kernel, by decide +kernel⟩
theorem sc_rising : FnScope ["worths", "most", "scale"] ["worths"] (defScope (top 16)) := ⟨rfl, rfl, rfl, by decide +kernel, rfl, by decide +kernel, by decide +kernel⟩
theorem sc_in_form : FnScope ["rows", "weights", "worth", "weight", "divisor"] ["rows"] (defScope (top 17)) := ⟨rfl, rfl, rfl, by decide +kernel, rfl, by decide +kernel, by decide +kernel⟩
theorem sc_all_weights : FnScope ["table"] ["table"] (defScope (top 18)) := ⟨rfl, rfl, rfl, by decide +kernel, rfl, by decide +kernel, by decide +kernel⟩
theorem sc_capped : FnScope ["table", "level"] ["table", "level"] (defScope (top 19)) := ⟨rfl, rfl, rfl, by decide +kernel, rfl, by decide +kernel, by decide +kernel⟩
theorem sc_mixed : FnScope ["rows", "scale", "parts", "weight", "table", "factor"] ["rows"] (defScope (top 20)) := ⟨rfl, rfl, rfl, by decide +kernel, rfl, by decide +kernel, by decide +kernel⟩
theorem sc_level_for : FnScope ["table", "price", "bottom", "tops", "weights", "worth", "weight", "top"] ["table", "price"] (defScope (top 21)) := ⟨rfl, rfl, rfl, by decide +kernel, rfl, by decide +kernel, by decide +kernel⟩
theorem sc_is_stand : FnScope ["thing"] ["thing"] (defScope (top 31)) := ⟨rfl, rfl, rfl, by decide +kernel, rfl, by decide +kernel, by decide +kernel⟩
theorem sc_is_stage_row : FnScope ["row"] ["row"] (defScope (top 32)) := ⟨rfl, rfl, rfl, by decide +kernel, rfl, by decide +kernel, by decide +kernel⟩
theorem sc_is_stage_rows : FnScope ["rows"] ["rows"] (defScope (top 33)) := ⟨rfl, rfl, rfl, by decide +kernel, rfl, by decide +kernel, by decide +kernel⟩
theorem sc_need_boxes : FnScope ["boxes"] ["boxes"] (defScope (top 34)) := ⟨rfl, rfl, rfl, by decide +kernel, rfl, by decide +kernel, by decide +kernel⟩
theorem sc__law_cell_at : FnScope ["_law_script", "_law_k"] ["_law_script", "_law_k"] (defScope (top 36)) := ⟨rfl, rfl, rfl, by decide +kernel, rfl, by decide +kernel, by decide +kernel⟩
theorem sc__law_mixed : FnScope ["_law_cell", "_law_k", "_law_number"] ["_law_cell", "_law_k"] (defScope (top 37)) := ⟨rfl, rfl, rfl, by decide +kernel, rfl, by decide +kernel, by decide +kernel⟩
theorem sc__law_thing : FnScope ["_law_cell", "_law_low", "_law_high", "_law_number", "_law_some"] ["_law_cell", "_law_low", "_law_high"] (defScope (top 40)) := ⟨rfl, rfl, rfl, by decide +kernel, rfl, by decide +kernel, by decide +kernel⟩
theorem sc__law_is_number : FnScope ["_law_thing_here", "_law_low", "_law_high"] ["_law_thing_here", "_law_low", "_law_high"] (defScope (top 41)) := ⟨rfl, rfl, rfl, by decide +kernel, rfl, by decide +kernel, by decide +kernel⟩
theorem sc__law_refused : FnScope ["_law_what", "_law_one_here", "_law_other", "_law_caught", "e"] ["_law_what", "_law_one_here", "_law_other"] (defScope (top 42)) := ⟨rfl, rfl, rfl, by decide +kernel, rfl, by decide +kernel, by decide +kernel⟩
theorem sc__law_is : FnScope ["_law_what", "_law_one_here", "_law_other", "_law_good", "_law_caught"] ["_law_what", "_law_one_here", "_law_other", "_law_good"] (defScope (top 43)) := ⟨rfl, rfl, rfl, by decide +kernel, rfl, by decide +kernel, by decide +kernel⟩
theorem sc__law_chain : FnScope ["_law_many", "_law_stand", "_law_k"] ["_law_many"] (defScope (top 44)) := ⟨rfl, rfl, rfl, by decide +kernel, rfl, by decide +kernel, by decide +kernel⟩
theorem sc__law_wide : FnScope ["_law_many", "_law_rows_here"] ["_law_many"] (defScope (top 45)) := ⟨rfl, rfl, rfl, by decide +kernel, rfl, by decide +kernel, by decide +kernel⟩
theorem sc__law_rows : FnScope ["_law_cell", "_law_number", "_law_some"] ["_law_cell"] (defScope (top 46)) := ⟨rfl, rfl, rfl, by decide +kernel, rfl, by decide +kernel, by decide +kernel⟩
theorem sc__law_one : FnScope ["_law_cell", "_law_way", "_law_thing_here", "_law_rows_here", "_law_many", "_law_stands", "_law_at"] ["_law_cell"] (defScope (top 47)) := ⟨rfl, rfl, rfl, by decide +kernel, rfl, by decide +kernel, by decide +kernel⟩
theorem sc_law : FnScope ["_law_script", "_law_k"] ["_law_script"] (defScope (top 48)) := ⟨rfl, rfl, rfl, by decide +kernel, rfl, by decide +kernel, by decide +kernel⟩
theorem sc_Stand___init__ : FnScope ["self", "end_count", "stage_count", "level", "cap_rows"] ["self", "end_count", "stage_count", "level", "cap_rows"] (defScope (inClass (top 28) 0)) := ⟨rfl, rfl, rfl, by decide +kernel, rfl, by decide +kernel, by decide +kernel⟩
theorem sc_Stand_ends : FnScope ["self"] ["self"] (defScope (inClass (top 28) 1)) := ⟨rfl, rfl, rfl, by decide +kernel, rfl, by decide +kernel, by decide +kernel⟩
theorem sc_Stand_stages : FnScope ["self"] ["self"] (defScope (inClass (top 28) 2)) := ⟨rfl, rfl, rfl, by decide +kernel, rfl, by decide +kernel, by decide +kernel⟩
theorem sc_Stand_caps : FnScope ["self"] ["self"] (defScope (inClass (top 28) 4)) := ⟨rfl, rfl, rfl, by decide +kernel, rfl, by decide +kernel, by decide +kernel⟩
theorem sc_End___init__ : FnScope ["self", "worth"] ["self", "worth"] (defScope (inClass (top 29) 0)) := ⟨rfl, rfl, rfl, by decide +kernel, rfl, by decide +kernel, by decide +kernel⟩
theorem sc_Stage___init__ : FnScope ["self", "price", "rows", "end_count", "stage_count", "behind", "level"] ["self", "price", "rows"] (defScope (inClass (top 30) 0)) := ⟨rfl, rfl, rfl, by decide +kernel, rfl, by decide +kernel, by decide +kernel⟩
end K15
namespace K15
open PySem L2 TD
open Builtin.Int (intBits)
section
variable {P : Program} {w : World} {K : PySem.W.Frag} {mg : Str → Option Value} {base : Heap} {Pt : Addr}
theorem ok_common_divisor {n : Nat} {f : Addr} {fd : FuncData} (F : Fun K "common_divisor" "common_divisor" (top 7) f fd) (z_abs : mg "abs" = none) : FnOk P w K mg base CX0 (n + 1) f fd ["one", "other"] spCd := by
  refine F.ok sc_common_divisor (fun vs H Q E h => ?_) (fun cdv A outer s H vs Q E hr h => ?_)
  · obtain ⟨a, b, rfl, _⟩ := h
    rfl
  obtain ⟨a, b, rfl, q⟩ := h
  have nd := sc_common_divisor.nd
  refine ⟨_, (pss_cons (ps_while PassesOwn.never (pt_cmpR op_ne (pv 1) pe_int (nomark _)) (pss_cons (ps_set (i := 2) nd rfl (Or.inl rfl) (pe_op op_modN (pv 0) (pv 1))) (pss_cons (ps_set (i := 0) nd rfl (Or.inl rfl) (pv 1)) (pss_one (ps_set (i := 1) nd rfl (Or.inl rfl) (pv 2)))))) (pss_one (ps_ret (pe_callB call_abs rfl z_abs bt_abs (pa_cons (pv 0) pa_nil))))), ?_⟩
  refine while_by (fun σ H' => ∃ x y r, σ = [some (.int x), some (.int y), r] ∧ Int.gcd x y = Int.gcd a b ∧ H' = H) (fun σ _ => match σ with | [_, some (.int y), _] => y.natAbs | _ => 0) ⟨a, b, none, rfl, rfl, rfl⟩ (fun σ H' ⟨x, y, r, e, hg, eH⟩ => ?_) (fun σ H Q Q' hQ ⟨v, e, hs, k, ek, q⟩ => ⟨v, e, hs, k, ek, hQ _ _ q⟩)
  subst e eH
  refine ⟨_, rfl, rfl, _, rfl, ?_⟩
  by_cases hy : y = 0
  · subst hy
    refine ifF (by simp) ?_
    refine ⟨_, rfl, _, rfl, ?_⟩
    have e : (if x < 0 then -x else x) = ((Int.gcd a b : Nat) : Int) := by
      rw [← hg, Int.gcd_zero]
      split <;> omega
    rw [e]
    exact q
  · refine ifT (by simp [hy]) ?_
    refine ⟨_, rfl, _, rfl, x, y, rfl, rfl, hy, ?_⟩
    refine ⟨_, rfl, ?_⟩
    refine ⟨_, rfl, ?_⟩
    exact ⟨⟨y, x.fmod y, _, rfl, (Fr.gcd_turn x y).trans hg, rfl⟩, Fr.fmod_less hy⟩
theorem ok_share {n : Nat} {f : Addr} {fd : FuncData} (F : Fun K "share" "share" (top 9) f fd) {g_common_divisor : Addr} {gd_common_divisor : FuncData} (c_common_divisor : Cal P w K mg base n "common_divisor" ["one", "other"] spCd g_common_divisor gd_common_divisor) : FnOk P w K mg base CX0 (n + 1) f fd ["top", "bottom"] spShare := by
  refine F.ok sc_share (fun vs H Q E h => ?_) (fun cdv A outer s H vs Q E hr h => ?_)
  · obtain ⟨t, b, rfl, _⟩ := h
    rfl
  obtain ⟨t, b, rfl, hb, hz, q⟩ := h
  have nd := sc_share.nd
  refine ⟨_, (pss_cons (ps_set (i := 2) nd rfl (Or.inl rfl) (pe_callC c_common_divisor hr (pa_cons (pv 0) (pa_cons (pv 1) pa_nil)))) (pss_cons (ps_if (pt_cmpR op_lt (pv 1) pe_int (nomark _)) (pss_one (ps_set (i := 2) nd rfl (Or.inl rfl) (pe_un un_neg (pv 2)))) pss_nil) (pss_one (ps_ret (pe_tup (pa_cons (pe_op op_fdivB (pv 0) (pv 2)) (pa_cons (pe_op op_fdivB (pv 1) (pv 2)) pa_nil))))))), ?_⟩
  have hdz : intBits (Fr.dv t b) ≤ 9000 := PySem.intBits_le_of_natAbs (by rw [Fr.dv_natAbs]; exact Int.gcd_le_natAbs_right t hb) hz
  have hdn := Fr.dv_ne (t := t) hb
  refine ⟨_, rfl, _, rfl, t, b, rfl, ?_⟩
  refine ⟨_, rfl, _, _, rfl, rfl, _, rfl, ?_⟩
  refine ite2 (fun c => ?_) (fun c => ?_)
  · have e : -((Int.gcd t b : Nat) : Int) = Fr.dv t b := by unfold Fr.dv; rw [if_pos (of_decide_eq_true c)]
    unfold Fr.sh at q
    rw [← e] at q hdz hdn
    refine ⟨_, rfl, _, rfl, ?_⟩
    refine ⟨_, rfl, _, rfl, _, _, rfl, rfl, ⟨hdn, hdz⟩, _, rfl, _, rfl, _, _, rfl, rfl, ⟨hdn, hdz⟩, sz2, fun p hp => ?_⟩
    exact q p _ (same_new hp _) upd_same
  · have e : ((Int.gcd t b : Nat) : Int) = Fr.dv t b := by unfold Fr.dv; rw [if_neg (of_decide_eq_false (Bool.eq_false_iff.mpr c))]
    unfold Fr.sh at q
    rw [← e] at q hdz hdn
    refine ⟨_, rfl, _, rfl, _, _, rfl, rfl, ⟨hdn, hdz⟩, _, rfl, _, rfl, _, _, rfl, rfl, ⟨hdn, hdz⟩, sz2, fun p hp => ?_⟩
    exact q p _ (same_new hp _) upd_same
theorem ok_common_multiple {n : Nat} {f : Addr} {fd : FuncData} (F : Fun K "common_multiple" "common_multiple" (top 8) f fd) {g_common_divisor : Addr} {gd_common_divisor : FuncData} (c_common_divisor : Cal P w K mg base n "common_divisor" ["one", "other"] spCd g_common_divisor gd_common_divisor) : FnOk P w K mg base CX0 (n + 1) f fd ["numbers"] (spCM K) := by
  refine F.ok sc_common_multiple (fun vs H Q E h => ?_) (fun cdv A outer s H vs Q E hr h => ?_)
  · obtain ⟨a, ns, rfl, _⟩ := h
    rfl
  obtain ⟨a, ns, rfl, hS, hp, h9, hz, q⟩ := h
  have nd := sc_common_multiple.nd
  refine ⟨_, (pss_cons (ps_set (i := 1) nd rfl (Or.inl rfl) pe_int) (pss_cons (ps_for PassesOwn.never rfl (pi_list (pv 0)) (pg_name (i := 2) nd rfl (Or.inl rfl)) (pss_one (ps_set (i := 1) nd rfl (Or.inl rfl) (pe_op op_mulB (pv 1) (pe_op op_fdivB (pv 2) (pe_callC c_common_divisor hr (pa_cons (pv 1) (pa_cons (pv 2) pa_nil)))))))) (pss_one (ps_ret (pv 1))))), ?_⟩
  have hl : (ns.map V.int).length = ns.length := List.length_map _
  refine ⟨_, rfl, a, rfl, ⟨_, hS⟩, ?_⟩
  refine for_list (xs := ns.map V.int) (fun i σ H' => ∃ r, σ = [some (.ref a), some (.int (lcmL (ns.take i))), r] ∧ H' = H) ⟨none, rfl, rfl⟩ (fun i σ H' _ ⟨r, _, e⟩ => by subst e; exact hS) ?turn ?done
  case turn =>
    rintro i x σ H' hx ⟨r, rfl, rfl⟩
    rw [List.getElem?_map] at hx
    cases e : ns[i]? with
    | none => rw [e] at hx; cases hx
    | some n =>
      rw [e] at hx
      cases hx
      have hm := List.mem_of_getElem? e
      have hn := hp n hm
      have nz := h9 n hm
      have gz : intBits ((Int.gcd (lcmL (ns.take i)) n : Nat) : Int) ≤ 9000 := Nat.le_trans (PySem.intBits_le_of_natAbs (y := n) (by have := Int.gcd_le_natAbs_right (lcmL (ns.take i)) (Int.ne_of_gt hn); omega) (Nat.le_refl _)) (by omega)
      have gn : ((Int.gcd (lcmL (ns.take i)) n : Nat) : Int) ≠ 0 := by have := Int.gcd_pos_of_ne_zero_right (lcmL (ns.take i)) (Int.ne_of_gt hn); omega
      have lb := lcmL_bits (ns.take i)
      have st := sum_take_le ns i
      refine ⟨_, rfl, _, rfl, _, rfl, _, rfl, lcmL (ns.take i), n, rfl, _, _, rfl, rfl, ⟨gn, gz⟩, _, _, rfl, rfl, mulOk (m := 200001) (n := 9000) (by omega) (PySem.intBits_fdiv_le nz) (by decide), ?_⟩
      refine ⟨some (V.int n), ?_, rfl⟩
      rw [List.take_add_one, e]
      show _ = [some (V.ref a), some (V.int (lcmL (ns.take i ++ [n]))), some (V.int n)]
      rw [lcmL_snoc]
      rfl
  case done =>
    rintro σ H' ⟨r, rfl, rfl⟩
    rw [hl, List.take_length]
    exact ⟨_, rfl, q⟩
theorem ok_whole {n : Nat} {f : Addr} {fd : FuncData} (F : Fun K "whole" "whole" (top 10) f fd) : FnOk P w K mg base CX0 (n + 1) f fd ["number"] spWh := by
  refine F.ok sc_whole (fun vs H Q E h => ?_) (fun cdv A outer s H vs Q E hr h => ?_)
  · obtain ⟨t, rfl, _⟩ := h
    rfl
  obtain ⟨t, rfl, q⟩ := h
  have nd := sc_whole.nd
  refine ⟨_, (pss_one (ps_ret (pe_tup (pa_cons (pv 0) (pa_cons pe_int pa_nil))))), ?_⟩
  refine ⟨_, rfl, sz2, fun p hp => ?_⟩
  exact q p _ (same_new hp _) upd_same
theorem ok_below {n : Nat} {f : Addr} {fd : FuncData} (F : Fun K "below" "below" (top 11) f fd) : FnOk P w K mg base CX0 (n + 1) f fd ["one", "other"] (spBelow K) := by
  refine F.ok sc_below (fun vs H Q E h => ?_) (fun cdv A outer s H vs Q E hr h => ?_)
  · obtain ⟨p, q, a, b, c, d, rfl, _⟩ := h
    rfl
  obtain ⟨p, q, a, b, c, d, rfl, hp, hq, z, k⟩ := h
  have nd := sc_below.nd
  refine ⟨_, (pss_one (ps_ret (pe_cmpR op_lt (pe_op op_mulB (pe_ix ix_tup (pv 0) pe_int (fun _ _ => rfl)) (pe_ix ix_tup (pv 1) pe_int (fun _ _ => rfl))) (pe_op op_mulB (pe_ix ix_tup (pv 1) pe_int (fun _ _ => rfl)) (pe_ix ix_tup (pv 0) pe_int (fun _ _ => rfl))) (nomark _)))), ?_⟩
  exact ⟨_, rfl, p, _, _, _, rfl, rfl, hp, rfl, _, rfl, q, _, _, _, rfl, rfl, hq, rfl, _, _, rfl, rfl, mulOk z.a z.d (by decide), _, rfl, q, _, _, _, rfl, rfl, hq, rfl, _, rfl, p, _, _, _, rfl, rfl, hp, rfl, _, _, rfl, rfl, mulOk z.c z.b (by decide), _, _, rfl, rfl, k⟩
theorem ok_lesser {n : Nat} {f : Addr} {fd : FuncData} (F : Fun K "lesser" "lesser" (top 12) f fd) {g_below : Addr} {gd_below : FuncData} (c_below : Cal P w K mg base n "below" ["one", "other"] (spBelow K) g_below gd_below) : FnOk P w K mg base CX0 (n + 1) f fd ["one", "other"] (spLs K) := by
  refine F.ok sc_lesser (fun vs H Q E h => ?_) (fun cdv A outer s H vs Q E hr h => ?_)
  · obtain ⟨p, q, a, b, c, d, rfl, _⟩ := h
    rfl
  obtain ⟨p, q, a, b, c, d, rfl, hp, hq, z, k1, k2⟩ := h
  have nd := sc_lesser.nd
  refine ⟨_, (pss_one (ps_ret (pe_ifExp (pt_val (pe_callC c_below hr (pa_cons (pv 1) (pa_cons (pv 0) pa_nil)))) (pv 1) (pv 0)))), ?_⟩
  refine ⟨_, rfl, _, rfl, q, p, c, d, a, b, rfl, hq, hp, ⟨z.c, z.d, z.a, z.b⟩, _, rfl, ?_⟩
  by_cases cc : c * b < a * d
  · refine ifT (decide_eq_true cc) ?_
    exact ⟨_, rfl, k1 cc⟩
  · refine ifF (decide_eq_false cc) ?_
    exact ⟨_, rfl, k2 cc⟩
theorem ok_rising {n : Nat} {f c : Addr} {fd : FuncData} (F : Fun K "rising" "rising" (top 16) f fd) (hc : fd.code = .ref c) (hC : PySem.W.CodeHd base c Pt) (hB : base.BuiltinsAt mg Pt) (z_sorted : mg "sorted" = none) (z_max : mg "max" = none) : FnOk P w K mg base CX0 (n + 1) f fd ["worths"] (spRise K Pt lamP) := by
  refine F.okc hc sc_rising (fun vs H Q E h => ?_) (fun A outer s H vs Q E hr h => ?_)
  · obtain ⟨a, rs, rfl, _⟩ := h
    rfl
  obtain ⟨a, rs, rfl, hS, hne, h64, hrs, nd0, hT, q⟩ := h
  have nd := sc_rising.nd
  refine ⟨_, (pss_cons (ps_set (i := 1) nd rfl (Or.inl rfl) (pe_callB (call_maxL rfl) rfl z_max bt_max (pa_cons (pe_comp (ls := ["worth"]) (M := ["worths", "most", "scale"]) rfl (CompOk.of (by rfl)) (NL.of (by rfl)) (pi_list (pv 0)) (fun _ _ _ _ => ⟨(pg_name (i := 0) (nd_of (by rfl)) rfl (Or.inl rfl)), pts_nil, (pe_ix (ix_tupK (K := K) rfl) (pv 0) pe_int (fun _ _ => rfl))⟩)) pa_nil))) (pss_cons (ps_set (i := 2) nd rfl (Or.inr rfl) (pe_op op_mulB (pv 1) (pv 1))) (pss_one (ps_ret (pe_sortK (p := "worth") (M := ["worths", "most", "scale"]) hr rfl rfl z_sorted rfl hC hB (CompOk.of (by rfl)) (NL.of (by rfl)) rfl rfl rfl (pv 0) (fun _ _ _ _ _ => (pe_op op_fdivB (pe_op op_mulB (pe_ix (ix_tupK (K := K) rfl) (pv 0) pe_int (fun _ _ => rfl)) (pv 3)) (pe_ix (ix_tupK (K := K) rfl) (pv 0) pe_int (fun _ _ => rfl))))))))), ?_⟩
  have hlr := rrefs_length rs
  refine ⟨_, rfl, a, rfl, ⟨_, hS⟩, fun D hD => ?_⟩
  refine comp_list (xs := rrefs rs) (fun i τ H' => ∃ v0, τ = [v0, some (.ref a), none, none] ∧ Same H H' ∧ H' D = some (.lst ((rs.take i).map fun r => V.int r.b))) ⟨none, rfl, same_new hD _, upd_same⟩ ?keep ?turn ?done
  case keep =>
    rintro i τ H' hi ⟨v0, rfl, hs, _⟩
    exact hs.seq hS
  case turn =>
    rintro i m v τ H' hm hi hv ⟨v0, rfl, hs, hD'⟩
    obtain ⟨x, hx, rfl⟩ := rrefs_at hv
    have hr2 := hs _ _ (hrs x (List.mem_of_getElem? hx)).1
    unfold gName
    refine tyes_if ?_
    refine ⟨_, rfl, x.q, _, _, _, rfl, rfl, SqT.of hr2, rfl, ?_⟩
    refine comp_next hm hi hD' (by rw [List.length_map]; exact small1000 (Nat.le_trans (List.length_take_le _ _) (by omega))) ⟨_, rfl, hs.upd_new hD _, ?_⟩
    rw [upd_same, take_snoc hx, List.map_append]
    rfl
  case done =>
  rintro τ H1 ⟨v0, rfl, s1, hD1⟩
  rw [hlr, List.take_length] at hD1
  refine ⟨D, rs.map Rs.b, rfl, SqL.of (by rw [hD1, List.map_map]; rfl), fun e => hne (List.map_eq_nil_iff.mp e), fun mx hmx hmax => ?_⟩
  obtain ⟨r0, hr0, rfl⟩ := List.mem_map.mp hmx
  have z0 := (hrs r0 hr0).2.2.2
  refine ⟨_, rfl, _, rfl, _, _, rfl, rfl, mulOk z0 z0 (by decide), ?_⟩
  have zz : intBits (r0.b * r0.b) ≤ 8000 := PySem.intBits_mul_le z0 z0
  refine ⟨_, rfl, a, rs.map Rs.q, rs.map (keyN r0.b), rfl, by rw [← rrefs_q]; exact s1.seq hS, by rw [List.length_map, List.length_map], by rw [List.length_map]; exact h64, hT.same s1, fun H2 c' st hit => ⟨fun i qa kk eq ek => ?_, fun D2 ps hD2 hp hs => ?_⟩⟩
  · rw [List.getElem?_map] at eq ek
    cases er : rs[i]? with
    | none => rw [er] at eq; cases eq
    | some r =>
      rw [er] at eq ek
      cases eq
      cases ek
      obtain ⟨ra, rf, rt, rb⟩ := hrs r (List.mem_of_getElem? er)
      have ra2 : H2 r.q = some (.tup [.int r.t, .int r.b]) := st.get (hT.same s1) (s1 _ _ ra) fun _ z => nomatch z
      exact ⟨_, rfl, r.q, _, _, _, rfl, rfl, (SqT.of ra2), rfl, _, rfl, _, _, rfl, rfl, mulOk rt zz (by decide), _, rfl, r.q, _, _, _, rfl, rfl, (SqT.of ra2), rfl, _, _, rfl, rfl, ⟨Int.ne_of_gt rf.pos, Nat.le_trans rb (by decide)⟩, rfl, rfl⟩
  · obtain ⟨rs', pm, e, so⟩ := rise_of hp hs nd0 (fun r hr => (hrs r hr).2.1) (fun r hr => hmax _ (List.mem_map.mpr ⟨r, hr, rfl⟩))
    rw [e]
    have tb2 : TbOk Pt lamP lamQ H2 := .inr ⟨c', hit⟩
    exact q D2 _ rs' (((s1.toT).trans st).trans (Same.toT (same_new hD2 _))) (tb2.same (same_new hD2 _)) upd_same pm so
theorem rs_of {H : Hp} : ∀ {kvs : List (List Key × V)} {qs : List Addr}, qs.length = kvs.length → (∀ kv ∈ kvs, ∃ t b : Int, kv.1 = [.inl t, .inl b]) → (∀ (i : Nat) k v, kvs[i]? = some (k, v) → ∃ q, qs[i]? = some q ∧ H q = some (.tup (k.map kV))) →
    ∃ rs : List Rs, rrefs rs = qs.map V.ref ∧ rs.map keyR = kvs.map (·.1) ∧ ∀ r ∈ rs, RsAt H r
  | [], [], _, _, _ => ⟨[], rfl, rfl, fun _ h => nomatch h⟩
  | [], _ :: _, h, _, _ => by simp at h
  | _ :: _, [], h, _, _ => by simp at h
  | kv :: kvs, q :: qs, hl, hk, hq => by
    obtain ⟨rs, e1, e2, e3⟩ := rs_of (kvs := kvs) (qs := qs) (by simpa using hl) (fun x hx => hk x (List.mem_cons_of_mem _ hx)) fun i k v e => by
      obtain ⟨z, z1, z2⟩ := hq (i + 1) k v (by simpa using e)
      exact ⟨z, by simpa using z1, z2⟩
    obtain ⟨t, b, ek⟩ := hk kv List.mem_cons_self
    obtain ⟨z, z1, z2⟩ := hq 0 kv.1 kv.2 rfl
    have z1 : q = z := by simpa using z1
    subst z1
    refine ⟨⟨q, t, b⟩ :: rs, ?_, ?_, fun r hr => ?_⟩
    · show V.ref q :: rrefs rs = V.ref q :: qs.map V.ref
      rw [e1]
    · show keyR ⟨q, t, b⟩ :: rs.map keyR = kv.1 :: kvs.map (·.1)
      rw [e2, ek]
      rfl
    · rcases List.mem_cons.mp hr with e | e
      · subst e
        rw [ek] at z2
        exact z2
      · exact e3 r e
theorem key_good {xs : List Row} {kvs : List (List Key × V)} (pb : PB xs) (d : Dk (rws xs) kvs) {r : Rs} (h : keyR r ∈ kvs.map (·.1)) : Tb.Has (rws xs) r.t r.b ∧ Fr.IsFr r.t r.b ∧ intBits r.t ≤ 4000 ∧ intBits r.b ≤ 4000 := by
  obtain ⟨kv, hkv, e⟩ := List.mem_map.mp h
  obtain ⟨t, b, e2, hh⟩ := d.en kv hkv
  rw [e2] at e
  obtain ⟨e3, e4⟩ := keyR_eq.mp e.symm
  rw [e3, e4]
  refine ⟨hh, ?_⟩
  obtain ⟨p, hp, e5, e6⟩ := hh
  obtain ⟨x, hx, rfl⟩ := List.mem_map.mp hp
  have g := pb x hx
  have e5 : x.t = t := e5
  have e6 : x.b = b := e6
  rw [← e5, ← e6]
  exact ⟨g.1, g.2.1, g.2.2.1⟩
theorem ok_in_form {n : Nat} {f : Addr} {fd : FuncData} (F : Fun K "in_form" "in_form" (top 17) f fd) {g_rising : Addr} {gd_rising : FuncData} (c_rising : Cal P w K mg base n "rising" ["worths"] (spRise K Pt lamP) g_rising gd_rising) {g_common_divisor : Addr} {gd_common_divisor : FuncData} (c_common_divisor : Cal P w K mg base n "common_divisor" ["one", "other"] spCd g_common_divisor gd_common_divisor) (z_list : mg "list" = none) : FnOk P w K mg base CX0 (n + 1) f fd ["rows"] (spForm Pt lamP) := by
  refine F.ok sc_in_form (fun vs H Q E h => ?_) (fun cdv A outer s H vs Q E hr h => ?_)
  · obtain ⟨a, xs, rfl, _⟩ := h
    rfl
  obtain ⟨a, xs, rfl, hT, xne, xlen, pb, hTb, q⟩ := h
  have nd := sc_in_form.nd
  have hu := hu_of hr
  refine ⟨_, (pss_cons (ps_set (i := 1) nd rfl (Or.inr rfl) pe_dnewT) (pss_cons (ps_for PassesOwn.never rfl (pi_list (pv 0)) (pg_tup rfl (pgs_cons (pg_name (i := 2) nd rfl (Or.inl rfl)) (pgs_cons (pg_name (i := 3) nd rfl (Or.inl rfl)) pgs_nil))) (pss_one (ps_dput hu (pv 1) (pv 2) (pe_op op_add (pe_dget2 hu (pv 1) (pv 2) pe_int ⟨rfl, rfl, rfl, rfl⟩) (pv 3)) rfl))) (pss_cons (ps_set (i := 4) nd rfl (Or.inr rfl) pe_int) (pss_cons (ps_for PassesOwn.never rfl (pi_keys (pv 1)) (pg_name (i := 2) nd rfl (Or.inl rfl)) (pss_one (ps_set (i := 4) nd rfl (Or.inr rfl) (pe_callC c_common_divisor hr (pa_cons (pv 4) (pa_cons (pe_dget hu (pv 1) (pv 2) (fun _ _ => rfl)) pa_nil)))))) (pss_one (ps_ret (pe_comp (ls := ["worth"]) (M := ["rows", "weights", "worth#", "weight", "divisor"]) rfl (CompOk.of (by rfl)) (NL.of (by rfl)) (pi_list (pe_callC c_rising hr (pa_cons (pe_callTy (call_listK rfl) rfl z_list bt_list (pa_cons (pv 1) pa_nil)) pa_nil))) (fun _ _ _ _ => ⟨(pg_name (i := 0) (nd_of (by rfl)) rfl (Or.inl rfl)), pts_nil, (pe_tup (pa_cons (pv 0) (pa_cons (pe_op op_fdivB (pe_dget hu (pv 2) (pv 0) (fun _ _ => rfl)) (pv 5)) pa_nil)))⟩)))))))), ?_⟩
  have hlr := refs_length xs
  intro Dd hDd
  have n0 := same_new hDd (.dT [])
  refine ⟨_, rfl, a, rfl, ⟨_, SqL.of (hT.same n0).lst⟩, ?_⟩
  refine for_list (xs := refs xs) (fun i σ H' => ∃ kvs v2 v3, σ = [some (.ref a), some (.ref Dd), v2, v3, none] ∧ Same H H' ∧ H' Dd = some (.dT kvs) ∧ Dk (rws (xs.take i)) kvs ∧ kvs.length ≤ i) ⟨[], none, none, rfl, n0, upd_same, Dk.nil, Nat.le_refl _⟩ ?keep ?turn ?done
  case keep =>
    rintro i σ H' hi ⟨kvs, v2, v3, rfl, hs, _⟩
    exact SqL.of (hT.same hs).lst
  case turn =>
    rintro i v σ H' hv ⟨kvs, v2, v3, rfl, hs, hd, dk, kl⟩
    obtain ⟨x, hx, rfl⟩ := refs_at hv
    have hmem := List.mem_of_getElem? hx
    have hi := (List.getElem?_eq_some_iff.mp hx).1
    have hr := (hT.same hs).rows x hmem
    have hq : H' x.q = some (.tup (([.inl x.t, .inl x.b] : List Key).map kV)) := hr.2
    refine ⟨x.p, _, rfl, SqT.of hr.1, rfl, _, _, rfl, _, _, rfl, rfl, ?_⟩
    refine ⟨_, rfl, Dd, rfl, .inr ⟨_, .inl hd⟩, _, rfl, _, DGet.t hd hq, _, rfl, Tb.Wt (rws (xs.take i)) x.t x.b, x.w, dk.get x.t x.b, rfl, ?_⟩
    refine ⟨_, rfl, _, rfl, Dd, _, rfl, DPut.t hd hq (small1000 (by omega)), ?_⟩
    refine ⟨_, _, _, rfl, hs.upd_new hDd _, upd_same, ?_, ?_⟩
    · rw [take_snoc hx, rws_snoc]
      exact dk.put x.r
    · have := length_putK kvs [.inl x.t, .inl x.b] (.int (Tb.Wt (rws (xs.take i)) x.t x.b + x.w))
      exact Nat.le_trans this (by omega)
  case done =>
  rintro σ H1 ⟨kvs, v2, v3, rfl, s1, hd1, dk, kl⟩
  rw [hlr, List.take_length] at dk
  rw [hlr] at kl
  obtain ⟨hw1, hf1⟩ := pb.ps
  have pne : rws xs ≠ [] := fun e => xne (List.map_eq_nil_iff.mp e)
  have plen : (rws xs).length ≤ 1000 := by rw [rws_length]; omega
  have dpos := dk.div_pos pne hw1
  have dbits := div_bits dk pne (fun p hp => by obtain ⟨x, hx, rfl⟩ := List.mem_map.mp hp; exact ⟨(pb x hx).2.2.2.1, (pb x hx).2.2.2.2⟩) plen
  refine ⟨_, rfl, Dd, kvs, rfl, .inl ⟨hd1, fun o => ?_⟩⟩
  have s2 : Same H (upd H1 Dd (.frz o (.dT kvs))) := s1.upd_new hDd _
  have hfz : upd H1 Dd (.frz o (.dT kvs)) Dd = some (.frz o (.dT kvs)) := upd_same
  generalize upd H1 Dd (.frz o (.dT kvs)) = H2 at s2 hfz ⊢
  refine for_keys (fun i σ H' => ∃ d v2, σ = [some (.ref a), some (.ref Dd), v2, v3, some (.int d)] ∧ H' = H2 ∧ d = Tb.gcdL ((kvs.take i).map wOf)) ⟨0, _, rfl, rfl, rfl⟩ (fun i σ H' _ ⟨_, _, _, e, _⟩ => by rw [e]; exact hfz) ?turn3 ?done3
  case turn3 =>
    rintro i k v kq σ H' hk hkt ⟨d, v2, rfl, rfl, ed⟩
    obtain ⟨t, b, ekv, hh⟩ := dk.en _ (List.mem_of_getElem? hk)
    injection ekv with ek1 ek2
    subst ek1 ek2
    refine ⟨_, rfl, _, rfl, _, rfl, Dd, .int (Tb.Wt (rws xs) t b), rfl, .inr ⟨kvs, [.inl t, .inl b], kq, .inr ⟨o, hfz⟩, rfl, hkt, (dk.val hh).symm⟩, d, Tb.Wt (rws xs) t b, rfl, ?_⟩
    refine ⟨_, _, rfl, rfl, ?_⟩
    rw [take_snoc hk, List.map_append, ed]
    exact (Tb.gcdL_snoc _ _).symm
  case done3 =>
  rintro σ H3 ⟨d, v2, rfl, rfl, ed⟩
  rw [List.take_length] at ed
  have ed : d = divOf kvs := ed
  subst ed
  have kb : ∀ kv ∈ kvs, ∃ t b : Int, kv.1 = [.inl t, .inl b] := fun kv hkv => by
    obtain ⟨t, b, e, _⟩ := dk.en kv hkv
    exact ⟨t, b, by rw [e]⟩
  refine ⟨_, rfl, Dd, kvs, rfl, .inr ⟨o, hfz⟩, fun l qs hl hql hqs => ?_⟩
  obtain ⟨rs0, er1, er2, er3⟩ := rs_of hql kb hqs
  have n3 := same_new hl (.lst (qs.map V.ref))
  have s3 := s2.trans n3
  have rl0 : rs0.length = kvs.length := by simpa using congrArg List.length er2
  have kin0 : ∀ r ∈ rs0, keyR r ∈ kvs.map (·.1) := fun r hr => by rw [← er2]; exact List.mem_map.mpr ⟨r, hr, rfl⟩
  refine ⟨l, rs0, rfl, SqL.of (by rw [er1]; exact upd_same), ?_, by omega, fun r hr => ⟨n3 _ _ (er3 r hr), (key_good pb dk (kin0 r hr)).2⟩, by rw [er2]; exact dk.nd, hTb.same s3, fun R H4 rs st4 tb4 hR pm so => ?_⟩
  · rintro rfl
    exact dk.ne pne (List.length_eq_zero_iff.mp rl0.symm)
  have tb3 := hTb.same s3
  have hfz4 : H4 Dd = some (.frz o (.dT kvs)) := st4.get tb3 (n3 _ _ hfz) fun _ z => nomatch z
  have pmk : (rs.map keyR).Perm (kvs.map (·.1)) := by rw [← er2]; exact pm.map keyR
  have kin : ∀ r ∈ rs, keyR r ∈ kvs.map (·.1) := fun r hr => pmk.mem_iff.mp (List.mem_map.mpr ⟨r, hr, rfl⟩)
  have rat : ∀ r ∈ rs, RsAt H4 r := fun r hr => st4.get tb3 (n3 _ _ (er3 r (pm.mem_iff.mp hr))) fun _ z => nomatch z
  have rlen : rs.length = kvs.length := by rw [pm.length_eq, rl0]
  have sT : SameT Pt H H4 := (s3.toT).trans st4
  refine ⟨R, rfl, ⟨_, SqL.of hR⟩, fun D hD => ?_⟩
  refine comp_list (xs := rrefs rs) (fun i τ H' => ∃ v0 ys, τ = [v0, some (.ref a), some (.ref Dd), v2, v3, some (.int (divOf kvs))] ∧ Same H4 H' ∧ TabAt H' D ys ∧ ys.map (fun y => Rs.mk y.q y.t y.b) = rs.take i ∧ ∀ y ∈ ys, y.w = (Tb.Wt (rws xs) y.t y.b).fdiv (divOf kvs)) ⟨none, [], rfl, same_new hD _, ⟨upd_same, fun _ h => nomatch h⟩, rfl, (fun _ h => nomatch h)⟩ ?keep4 ?turn4 ?done4
  case keep4 =>
    rintro i τ H' hi ⟨v0, ys, rfl, hs, _⟩
    exact SqL.of (hs _ _ hR)
  case turn4 =>
    rintro i m v τ H' hm hi hv ⟨v0, ys, rfl, hs, hY, ey, yw⟩
    obtain ⟨r, hr, rfl⟩ := rrefs_at hv
    have hmem := List.mem_of_getElem? hr
    have hh := (key_good pb dk (kin r hmem)).1
    have rq : H' r.q = some (.tup [.int r.t, .int r.b]) := hs _ _ (rat r hmem)
    have ylen : ys.length ≤ 1000 := by
      have h := congrArg List.length ey
      rw [List.length_map, List.length_take] at h
      omega
    unfold gName
    refine tyes_if ?_
    refine ⟨_, rfl, _, rfl, _, rfl, Dd, .int (Tb.Wt (rws xs) r.t r.b), rfl, .inr ⟨kvs, [.inl r.t, .inl r.b], r.q, .inr ⟨o, hs _ _ hfz4⟩, rfl, rq, (dk.val hh).symm⟩, _, rfl, _, _, rfl, rfl, ⟨Int.ne_of_gt dpos, dbits⟩, sz2, fun p hp => ?_⟩
    have n1 := same_new hp (.tup [.ref r.q, .int ((Tb.Wt (rws xs) r.t r.b).fdiv (divOf kvs))])
    have hY1 := hY.same n1
    refine comp_next hm hi hY1.lst (by rw [refs_length]; exact small1000 ylen) ⟨_, ys ++ [⟨p, r.q, r.t, r.b, (Tb.Wt (rws xs) r.t r.b).fdiv (divOf kvs)⟩], rfl, (hs.trans n1).upd_new hD _, ⟨?_, ?_⟩, ?_, ?_⟩
    · rw [upd_same, refs_snoc]
    · intro y hy
      rcases List.mem_append.mp hy with z | z
      · exact (hY1.rows y z).over hY1.lst
      · rw [List.mem_singleton.mp z]
        exact RowAt.over ⟨upd_same, n1 _ _ rq⟩ hY1.lst
    · rw [List.map_append, ey, take_snoc hr]
      rfl
    · intro y hy
      rcases List.mem_append.mp hy with z | z
      · exact yw y z
      · rw [List.mem_singleton.mp z]
  case done4 =>
    rintro τ H5 ⟨v0, ys, rfl, s5, hY, ey, yw⟩
    rw [rrefs_length, List.take_length] at ey
    obtain ⟨tab, wok⟩ := mk_tab dk hw1 hf1 pne pmk so ey yw
    have yl : ys.length = rs.length := by rw [← ey, List.length_map]
    refine q D H5 ys (sT.trans (s5.toT)) (tb4.same s5) (sT.free hD tb4.at_) hY ⟨tab, wok⟩ (by omega)
theorem ok_all_weights {n : Nat} {f : Addr} {fd : FuncData} (F : Fun K "all_weights" "all_weights" (top 18) f fd) (z_sum : mg "sum" = none) : FnOk P w K mg base CX0 (n + 1) f fd ["table"] spAW := by
  refine F.ok sc_all_weights (fun vs H Q E h => ?_) (fun cdv A outer s H vs Q E hr h => ?_)
  · obtain ⟨a, xs, rfl, _⟩ := h
    rfl
  obtain ⟨a, xs, rfl, hT, hl, q⟩ := h
  have nd := sc_all_weights.nd
  refine ⟨_, (pss_one (ps_ret (pe_callB (call_sum rfl) rfl z_sum bt_sum (pa_cons (pe_comp (ls := ["worth", "weight"]) (M := ["table"]) rfl (CompOk.of (by rfl)) (NL.of (by rfl)) (pi_list (pv 0)) (fun _ _ _ _ => ⟨(pg_tupK (K := K) (n := 2) rfl rfl (pgs_cons (pg_name (i := 0) (nd_of (by rfl)) rfl (Or.inl rfl)) (pgs_cons (pg_name (i := 1) (nd_of (by rfl)) rfl (Or.inl rfl)) pgs_nil))), pts_nil, (pv 1)⟩)) pa_nil)))), ?_⟩
  have hlr := refs_length xs
  refine ⟨_, rfl, a, rfl, ⟨_, SqL.of hT.lst⟩, fun D hD => ?_⟩
  refine comp_list (xs := refs xs) (fun i τ H' => ∃ v0 v1, τ = [v0, v1, some (.ref a)] ∧ Same H H' ∧ H' D = some (.lst ((xs.take i).map fun x => V.int x.w))) ⟨none, none, rfl, same_new hD _, upd_same⟩ ?keep ?turn ?done
  case keep =>
    rintro i τ H' hi ⟨v0, v1, rfl, hs, _⟩
    exact SqL.of (hT.same hs).lst
  case turn =>
    rintro i m v τ H' hm hi hv ⟨v0, v1, rfl, hs, hD'⟩
    obtain ⟨x, hx, rfl⟩ := refs_at hv
    have hr := (hT.same hs).rows x (List.mem_of_getElem? hx)
    refine ⟨x.p, _, rfl, SqT.of hr.1, rfl, _, _, rfl, _, _, rfl, rfl, ?_⟩
    refine tyes_if ?_
    refine ⟨_, rfl, ?_⟩
    refine comp_next hm hi hD' (by rw [List.length_map]; exact small1000 (Nat.le_trans (List.length_take_le _ _) (by omega))) ⟨_, _, rfl, hs.upd_new hD _, ?_⟩
    rw [upd_same, take_snoc hx, List.map_append]
    rfl
  case done =>
    rintro τ H' ⟨v0, v1, rfl, hs, hD'⟩
    rw [hlr, List.take_length] at hD'
    refine ⟨D, xs.map Row.w, rfl, SqL.of (by rw [hD', List.map_map]; rfl), ?_⟩
    exact q H' hs
theorem ok_capped {n : Nat} {f : Addr} {fd : FuncData} (F : Fun K "capped" "capped" (top 19) f fd) {g_in_form : Addr} {gd_in_form : FuncData} (c_in_form : Cal P w K mg base n "in_form" ["rows"] (spForm Pt lamP) g_in_form gd_in_form) {g_lesser : Addr} {gd_lesser : FuncData} (c_lesser : Cal P w K mg base n "lesser" ["one", "other"] (spLs K) g_lesser gd_lesser) : FnOk P w K mg base CX0 (n + 1) f fd ["table", "level"] (spCap2 Pt lamP) := by
  refine F.ok sc_capped (fun vs H Q E h => ?_) (fun cdv A outer s H vs Q E hr h => ?_)
  · obtain ⟨a, l, xs, x0, n, W, M, kk, rfl, _⟩ := h
    rfl
  obtain ⟨a, l, xs, x0, n, W, M, kk, rfl, hT, g, c, hl, f, hTb, q⟩ := h
  have nd := sc_capped.nd
  refine ⟨_, (pss_one (ps_ret (pe_callC c_in_form hr (pa_cons (pe_comp (ls := ["worth", "weight"]) (M := ["table", "level"]) rfl (CompOk.of (by rfl)) (NL.of (by rfl)) (pi_list (pv 0)) (fun _ _ _ _ => ⟨(pg_tupK (K := K) (n := 2) rfl rfl (pgs_cons (pg_name (i := 0) (nd_of (by rfl)) rfl (Or.inl rfl)) (pgs_cons (pg_name (i := 1) (nd_of (by rfl)) rfl (Or.inl rfl)) pgs_nil))), pts_nil, (pe_tup (pa_cons (pe_callC c_lesser hr (pa_cons (pv 0) (pa_cons (pv 3) pa_nil))) (pa_cons (pv 1) pa_nil)))⟩)) pa_nil)))), ?_⟩
  obtain ⟨l0, l1⟩ := x0
  have hl : H l = some (.tup [.int l0, .int l1]) := hl
  have f : Sd.Fq l0 l1 M kk := f
  have lb := fq_bits f g.mp c.m c.k0 c.k
  have hlr := refs_length xs
  have glen := g.len
  have gn := c.n
  have ylen : ∀ {i : Nat} {ys : List Row}, rws ys = (rws (xs.take i)).map (Tb.capR l0 l1) → ys.length ≤ 12 := fun {i ys} e => by
    have h1 := congrArg List.length e
    rw [rws_length, List.length_map, rws_length, List.length_take] at h1
    omega
  refine ⟨_, rfl, a, rfl, ⟨_, SqL.of hT.lst⟩, fun D hD => ?_⟩
  refine comp_list (xs := refs xs) (fun i τ H' => ∃ v0 v1 ys, τ = [v0, v1, some (.ref a), some (.ref l)] ∧ Same H H' ∧ TabAt H' D ys ∧ rws ys = (rws (xs.take i)).map (Tb.capR l0 l1)) ⟨none, none, [], rfl, same_new hD _, ⟨upd_same, fun _ h => nomatch h⟩, rfl⟩ ?keep ?turn ?done
  case keep =>
    rintro i τ H' hi ⟨v0, v1, ys, rfl, hs, _⟩
    exact SqL.of (hT.same hs).lst
  case turn =>
    rintro i m v τ H' hm hi hv ⟨v0, v1, ys, rfl, hs, hY, ey⟩
    obtain ⟨x, hx, rfl⟩ := refs_at hv
    have hmem := List.mem_of_getElem? hx
    have hr := (hT.same hs).rows x hmem
    have xz := g.bits c hmem
    have yl := ylen ey
    refine ⟨x.p, _, rfl, SqT.of hr.1, rfl, _, _, rfl, _, _, rfl, rfl, ?_⟩
    refine tyes_if ?_
    refine ⟨_, rfl, _, rfl, x.q, l, x.t, x.b, l0, l1, rfl, SqT.of hr.2, SqT.of (hs _ _ hl), ⟨by omega, by omega, by omega, by omega⟩, fun c => ?_, fun c => ?_⟩
    ·
      refine ⟨_, rfl, sz2, fun p hp => ?_⟩
      have n1 := same_new hp (.tup [.ref l, .int x.w])
      have hY1 := hY.same n1
      refine comp_next hm hi hY1.lst (by rw [refs_length]; exact small1000 (by omega)) ⟨_, _, ys ++ [⟨p, l, l0, l1, x.w⟩], rfl, (hs.trans n1).upd_new hD _, ⟨?_, ?_⟩, ?_⟩
      · rw [upd_same, refs_snoc]
      · intro y hy
        rcases List.mem_append.mp hy with z | z
        · exact (hY1.rows y z).over hY1.lst
        · rw [List.mem_singleton.mp z]
          exact RowAt.over ⟨upd_same, n1 _ _ (hs _ _ hl)⟩ hY1.lst
      · rw [rws_snoc, ey, take_snoc hx, rws_snoc, List.map_append]
        show _ ++ [_] = _ ++ [Tb.capR l0 l1 x.r]
        unfold Tb.capR
        rw [if_pos (show l0 * x.r.b < x.r.t * l1 from c)]
        rfl
    ·
      refine ⟨_, rfl, sz2, fun p hp => ?_⟩
      have n1 := same_new hp (.tup [.ref x.q, .int x.w])
      have hY1 := hY.same n1
      refine comp_next hm hi hY1.lst (by rw [refs_length]; exact small1000 (by omega)) ⟨_, _, ys ++ [⟨p, x.q, x.t, x.b, x.w⟩], rfl, (hs.trans n1).upd_new hD _, ⟨?_, ?_⟩, ?_⟩
      · rw [upd_same, refs_snoc]
      · intro y hy
        rcases List.mem_append.mp hy with z | z
        · exact (hY1.rows y z).over hY1.lst
        · rw [List.mem_singleton.mp z]
          exact RowAt.over ⟨upd_same, n1 _ _ hr.2⟩ hY1.lst
      · rw [rws_snoc, ey, take_snoc hx, rws_snoc, List.map_append]
        show _ ++ [_] = _ ++ [Tb.capR l0 l1 x.r]
        unfold Tb.capR
        rw [if_neg (show ¬ l0 * x.r.b < x.r.t * l1 from c)]
        rfl
  case done =>
  rintro τ H1 ⟨v0, v1, ys, rfl, s1, hY, ey⟩
  have yl := ylen ey
  rw [hlr, List.take_length] at ey
  have el : ys.length = xs.length := by
    have h1 := congrArg List.length ey
    rw [rws_length, List.length_map, rws_length] at h1
    exact h1
  refine ⟨D, ys, rfl, hY, ?_, by omega, cap_pb g c f ey, hTb.same s1, fun r H5 zs s5 tb5 hr5 hZ o hzl => ?_⟩
  · rintro rfl
    exact g.ne (List.length_eq_zero_iff.mp el.symm)
  · rw [ey] at o
    exact q r H5 zs ((s1.toT).trans s5) tb5 (s1.free hr5) hZ (cap_gt g f o (by omega)) o
theorem _root_.TD.GM.wz {es : List Ent} {k0 : Nat} {W0 kk : Int} (g : GM es k0 W0 kk) {e : Ent} (he : e ∈ es) {y : Row} (hy : y ∈ e.ys) : intBits y.w ≤ 601 := by
  have ge := g.g e he
  have a := ge.w1 y hy
  have b := wsum_pos ge.w1 hy
  have c := ge.ws
  have d := (g.c e he).w
  have p1 : (2 : Int) ^ 601 = 2 * 2 ^ 600 := by rw [Int.pow_succ]; omega
  have q1 := Sd.pow_pos2 600
  exact bits_of (by omega) (by omega)
theorem ok_mixed {n : Nat} {f : Addr} {fd : FuncData} (F : Fun K "mixed" "mixed" (top 20) f fd) {g_in_form : Addr} {gd_in_form : FuncData} (c_in_form : Cal P w K mg base n "in_form" ["rows"] (spForm Pt lamP) g_in_form gd_in_form) {g_all_weights : Addr} {gd_all_weights : FuncData} (c_all_weights : Cal P w K mg base n "all_weights" ["table"] spAW g_all_weights gd_all_weights) {g_common_multiple : Addr} {gd_common_multiple : FuncData} (c_common_multiple : Cal P w K mg base n "common_multiple" ["numbers"] (spCM K) g_common_multiple gd_common_multiple) : FnOk P w K mg base CX0 (n + 1) f fd ["rows"] (spMix2 Pt lamP) := by
  refine F.ok sc_mixed (fun vs H Q E h => ?_) (fun cdv A outer s H vs Q E hr h => ?_)
  · obtain ⟨a, es, k0, W0, kk, rfl, _⟩ := h
    rfl
  obtain ⟨a, es, k0, W0, kk, rfl, hE, g, hTb, q⟩ := h
  have nd := sc_mixed.nd
  refine ⟨_, (pss_cons (ps_set (i := 1) nd rfl (Or.inl rfl) (pe_callC c_common_multiple hr (pa_cons (pe_comp (ls := ["weight", "table"]) (M := ["rows", "scale", "parts", "weight#", "table#", "factor"]) rfl (CompOk.of (by rfl)) (NL.of (by rfl)) (pi_list (pv 0)) (fun _ _ _ _ => ⟨(pg_tupK (K := K) (n := 2) rfl rfl (pgs_cons (pg_name (i := 0) (nd_of (by rfl)) rfl (Or.inl rfl)) (pgs_cons (pg_name (i := 1) (nd_of (by rfl)) rfl (Or.inl rfl)) pgs_nil))), pts_nil, (pe_callC c_all_weights hr (pa_cons (pv 1) pa_nil))⟩)) pa_nil))) (pss_cons (ps_set (i := 2) nd rfl (Or.inl rfl) (pe_lst pa_nil)) (pss_cons (ps_for PassesOwn.never rfl (pi_list (pv 0)) (pg_tup rfl (pgs_cons (pg_name (i := 3) nd rfl (Or.inl rfl)) (pgs_cons (pg_name (i := 4) nd rfl (Or.inl rfl)) pgs_nil))) (pss_cons (ps_set (i := 5) nd rfl (Or.inr rfl) (pe_op op_mulB (pv 3) (pe_op op_fdivB (pv 1) (pe_callC c_all_weights hr (pa_cons (pv 4) pa_nil))))) (pss_one (ps_expr (pe_bm PySem.F.plainAttrs_list PySem.F.slot_list_extend PySem.F.type_list_extend mt_extend (pv 2) (pa_cons (pe_comp (ls := ["worth", "inner"]) (M := ["rows", "scale", "parts", "weight", "table", "factor"]) rfl (CompOk.of (by rfl)) (NL.of (by rfl)) (pi_list (pv 4)) (fun _ _ _ _ => ⟨(pg_tupK (K := K) (n := 2) rfl rfl (pgs_cons (pg_name (i := 0) (nd_of (by rfl)) rfl (Or.inl rfl)) (pgs_cons (pg_name (i := 1) (nd_of (by rfl)) rfl (Or.inl rfl)) pgs_nil))), pts_nil, (pe_tup (pa_cons (pv 0) (pa_cons (pe_op op_mulB (pv 7) (pv 1)) pa_nil)))⟩)) pa_nil)))))) (pss_one (ps_ret (pe_callC c_in_form hr (pa_cons (pv 2) pa_nil))))))), ?_⟩
  have hlr := erefs_length es
  have glen := g.len
  have tpos : ∀ n ∈ tots es, 0 < n := fun n hn => (g.tp n hn).1
  have tb := g.tb
  obtain ⟨Sp, _, Sz, Sdv⟩ := g.S
  have k12 := g.k
  have n12 := g.n
  refine ⟨_, rfl, a, rfl, ⟨_, SqL.of hE.lst⟩, fun D hD => ?_⟩
  refine comp_list (xs := erefs es) (fun i τ H' => ∃ v0 v1, τ = [v0, v1, some (.ref a), none, none, none, none, none] ∧ Same H H' ∧ H' D = some (.lst ((es.take i).map fun e => V.int (wsum e.ys)))) ⟨none, none, rfl, same_new hD _, upd_same⟩ ?keep ?turn ?done
  case keep =>
    rintro i τ H' hi ⟨v0, v1, rfl, hs, _⟩
    exact SqL.of (hE.same hs).lst
  case turn =>
    rintro i m v τ H' hm hi hv ⟨v0, v1, rfl, hs, hD'⟩
    obtain ⟨e, he, rfl⟩ := erefs_at hv
    have hr := (hE.same hs).ents e (List.mem_of_getElem? he)
    have ge := g.g e (List.mem_of_getElem? he)
    refine ⟨e.p, _, rfl, SqT.of hr.1, rfl, _, _, rfl, _, _, rfl, rfl, ?_⟩
    refine tyes_if ?_
    refine ⟨_, rfl, e.a, e.ys, rfl, hr.2, by have := ge.len; omega, fun H2 s2 => ?_⟩
    refine comp_next hm hi (s2 _ _ hD') (by rw [List.length_map]; exact small1000 (Nat.le_trans (List.length_take_le _ _) (by omega))) ⟨_, _, rfl, (hs.trans s2).upd_new hD _, ?_⟩
    rw [upd_same, take_snoc he, List.map_append]
    rfl
  case done =>
  rintro τ H1 ⟨v0, v1, rfl, s1, hD1⟩
  rw [hlr, List.take_length] at hD1
  refine ⟨D, tots es, rfl, SqL.of (by rw [hD1]; unfold tots; rw [List.map_map]; rfl), tpos, fun n hn => Nat.le_trans (tb.1 n hn) (by decide), Nat.le_trans tb.2 (by decide), ?_⟩
  refine ⟨Nat.zero_le _, fun Rp hRp => ?_⟩
  have hRn : H Rp = none := s1.free hRp
  have s2 := s1.upd_new hRn (.lst [])
  refine ⟨_, rfl, a, rfl, ⟨_, SqL.of (hE.same s2).lst⟩, ?_⟩
  refine for_list (xs := erefs es) (fun i σ H' => ∃ v3 v4 v5 xs, σ = [some (.ref a), some (.int (lcmL (tots es))), some (.ref Rp), v3, v4, v5] ∧ Same H H' ∧ TabAt H' Rp xs ∧ rws xs = partsOf (lcmL (tots es)) (es.take i) ∧ PB xs ∧ xs.length ≤ i * k0) ⟨none, none, none, [], rfl, s2, ⟨upd_same, fun _ h => nomatch h⟩, rfl, (fun _ h => nomatch h), by rw [Nat.zero_mul]; exact Nat.le_refl _⟩ ?keep2 ?turn2 ?done2
  case keep2 =>
    rintro i σ H' hi ⟨v3, v4, v5, xs, rfl, hs, _⟩
    exact SqL.of (hE.same hs).lst
  case turn2 =>
    rintro i v σ H' hv ⟨v3, v4, v5, xs, rfl, hs, hX, ex, pb, xl⟩
    obtain ⟨e, he, rfl⟩ := erefs_at hv
    have hmem := List.mem_of_getElem? he
    have hi := (List.getElem?_eq_some_iff.mp he).1
    have hr := (hE.same hs).ents e hmem
    have ge := g.g e hmem
    have gw := g.w e hmem
    have gl := ge.len
    have gs := ge.tot
    have tz := tb.1 _ (List.mem_map.mpr ⟨e, hmem, rfl⟩)
    have wz : intBits e.w ≤ 64 := PySem.intBits_le_64 (by omega) (by omega)
    have fz : intBits (fac (lcmL (tots es)) e) ≤ 64 + 2405 := PySem.intBits_mul_le wz (PySem.intBits_fdiv_le Sz)
    refine ⟨e.p, _, rfl, SqT.of hr.1, rfl, _, _, rfl, _, _, rfl, rfl, ?_⟩
    refine ⟨_, rfl, _, rfl, _, rfl, e.a, e.ys, rfl, hr.2, by omega, fun H2 s2 => ?_⟩
    refine ⟨_, _, rfl, rfl, ⟨by omega, Nat.le_trans tz (by decide)⟩, _, _, rfl, rfl, mulOk (m := 64) (n := 2405) wz (PySem.intBits_fdiv_le Sz) (by decide), ?_⟩
    have hs2 := hs.trans s2
    have hr2 := hr.2.same s2
    refine ⟨_, rfl, .inl ⟨rfl, _, SqL.of (hX.same s2).lst⟩, _, rfl, e.a, rfl, ⟨_, SqL.of hr2.lst⟩, fun D2 hD2 => ?_⟩
    refine comp_list (xs := refs e.ys) (fun j τ H'' => ∃ v0 v1 zs, τ = [v0, v1, some (.ref a), some (.int (lcmL (tots es))), some (.ref Rp), some (.int e.w), some (.ref e.a), some (.int (fac (lcmL (tots es)) e))] ∧ Same H2 H'' ∧ TabAt H'' D2 zs ∧ rws zs = (e.ys.take j).map (fun y => ⟨y.t, y.b, fac (lcmL (tots es)) e * y.w⟩)) ⟨none, none, [], rfl, same_new hD2 _, ⟨upd_same, fun _ h => nomatch h⟩, rfl⟩ ?keep3 ?turn3 ?done3
    case keep3 =>
      rintro j τ H'' hj ⟨v0, v1, zs, rfl, hs3, _⟩
      exact SqL.of (hr2.same hs3).lst
    case turn3 =>
      rintro j m v τ H'' hm hj hv ⟨v0, v1, zs, rfl, hs3, hZ, ez⟩
      obtain ⟨y, hy, rfl⟩ := refs_at hv
      have hym := List.mem_of_getElem? hy
      have ry := (hr2.same hs3).rows y hym
      have yz := g.wz hmem hym
      have zl : zs.length ≤ 12 := by
        have h := congrArg List.length ez
        rw [rws_length, List.length_map, List.length_take] at h
        omega
      refine ⟨y.p, _, rfl, SqT.of ry.1, rfl, _, _, rfl, _, _, rfl, rfl, ?_⟩
      refine tyes_if ?_
      refine ⟨_, rfl, _, rfl, _, rfl, _, _, rfl, rfl, mulOk fz yz (by decide), sz2, fun p hp => ?_⟩
      have n1 := same_new hp (.tup [.ref y.q, .int (fac (lcmL (tots es)) e * y.w)])
      have hZ1 := hZ.same n1
      refine comp_next hm hj hZ1.lst (by rw [refs_length]; exact small1000 (by omega)) ⟨_, _, zs ++ [⟨p, y.q, y.t, y.b, fac (lcmL (tots es)) e * y.w⟩], rfl, (hs3.trans n1).upd_new hD2 _, ⟨?_, ?_⟩, ?_⟩
      · rw [upd_same, refs_snoc]
      · intro z hz
        rcases List.mem_append.mp hz with q1 | q1
        · exact (hZ1.rows z q1).over hZ1.lst
        · rw [List.mem_singleton.mp q1]
          exact RowAt.over ⟨upd_same, n1 _ _ ry.2⟩ hZ1.lst
      · rw [rws_snoc, ez, take_snoc hy, List.map_append]
        rfl
    case done3 =>
      rintro τ H3 ⟨v0, v1, zs, rfl, s3, hZ, ez⟩
      rw [refs_length, List.take_length] at ez
      have zl : zs.length = e.ys.length := by
        have h := congrArg List.length ez
        rw [rws_length, List.length_map] at h
        exact h
      have hX3 := hX.same (s2.trans s3)
      have il : i * k0 ≤ es.length * k0 := Nat.mul_le_mul_right _ (by omega)
      refine ⟨Rp, D2, refs xs, refs zs, rfl, rfl, hX3.lst, hZ.lst, by rw [refs_length, refs_length]; exact Nat.le_of_lt (small1000 (by omega)), ?_⟩
      have s4 : Same H (upd H3 Rp (.lst (refs xs ++ refs zs))) := (hs2.trans s3).upd_new hRn _
      refine ⟨_, _, _, xs ++ zs, rfl, s4, ⟨?_, ?_⟩, ?_, ?_, ?_⟩
      · rw [upd_same]
        unfold refs
        rw [List.map_append]
      · intro z hz
        rcases List.mem_append.mp hz with q1 | q1
        · exact (hX3.rows z q1).over hX3.lst
        · exact (hZ.rows z q1).over hX3.lst
      · rw [rws_append, ex, ez, take_snoc he, partsOf_snoc]
      · intro z hz
        rcases List.mem_append.mp hz with q1 | q1
        · exact pb z q1
        · have m : z.r ∈ rws zs := List.mem_map.mpr ⟨z, q1, rfl⟩
          rw [ez] at m
          obtain ⟨y, hy, ey⟩ := List.mem_map.mp m
          have e1 : y.t = z.t := congrArg Tb.Rw.t ey
          have e2 : y.b = z.b := congrArg Tb.Rw.b ey
          have e3 : fac (lcmL (tots es)) e * y.w = z.w := congrArg Tb.Rw.w ey
          rw [← e1, ← e2, ← e3]
          exact g.pb hmem hy
      · rw [List.length_append, Nat.succ_mul]
        omega
  case done2 =>
    rintro σ H4 ⟨v3, v4, v5, xs, rfl, s4, hX, ex, pb, xl⟩
    rw [hlr, List.take_length] at ex
    rw [hlr] at xl
    refine ⟨_, rfl, Rp, xs, rfl, hX, ?_, by omega, pb, hTb.same s4, fun r H5 ys s5 tb5 hr5 hY o hyl => ?_⟩
    · rintro rfl
      have ex : ([] : List Tb.Rw) = partsOf (lcmL (tots es)) es := ex
      cases hes : es with
      | nil => exact g.ne hes
      | cons e es' =>
        have ge := g.g e (by rw [hes]; exact List.mem_cons_self)
        cases hys : e.ys with
        | nil => exact ge.ne hys
        | cons y ys =>
          have z : Tb.Has (partsOf (lcmL (tots es)) es) y.t y.b := by
            rw [hes]
            exact Tb.Has_append.mpr (.inl ⟨⟨y.t, y.b, _⟩, List.mem_map.mpr ⟨y, by rw [hys]; exact List.mem_cons_self, rfl⟩, rfl, rfl⟩)
          rw [← ex] at z
          exact Tb.Has_nil z
    · rw [ex] at o
      exact q r H5 ys ((s4.toT).trans s5) tb5 (s4.free hr5) hY (g.out o (by omega)) o (by rw [← ex, rws_length]; exact hyl)
theorem ok_level_for {n : Nat} {f : Addr} {fd : FuncData} (F : Fun K "level_for" "level_for" (top 21) f fd) {g_share : Addr} {gd_share : FuncData} (c_share : Cal P w K mg base n "share" ["top", "bottom"] spShare g_share gd_share) {g_all_weights : Addr} {gd_all_weights : FuncData} (c_all_weights : Cal P w K mg base n "all_weights" ["table"] spAW g_all_weights gd_all_weights) {g_common_multiple : Addr} {gd_common_multiple : FuncData} (c_common_multiple : Cal P w K mg base n "common_multiple" ["numbers"] (spCM K) g_common_multiple gd_common_multiple) (z_reversed : mg "reversed" = none) : FnOk P w K mg base CX0 (n + 1) f fd ["table", "price"] spLF2 := by
  refine F.ok sc_level_for (fun vs H Q E h => ?_) (fun cdv A outer s H vs Q E hr h => ?_)
  · obtain ⟨a, xs, p, n, W, kk, rfl, _⟩ := h
    rfl
  obtain ⟨a, xs, p, n, W, kk, rfl, hT, g, c, so, p0, p9, q⟩ := h
  have nd := sc_level_for.nd
  refine ⟨_, (pss_cons (ps_set (i := 2) nd rfl (Or.inl rfl) (pe_callC c_common_multiple hr (pa_cons (pe_comp (ls := ["worth", "weight"]) (M := ["table", "price", "bottom", "tops", "weights", "worth#", "weight#", "top"]) rfl (CompOk.of (by rfl)) (NL.of (by rfl)) (pi_list (pv 0)) (fun _ _ _ _ => ⟨(pg_tupK (K := K) (n := 2) rfl rfl (pgs_cons (pg_name (i := 0) (nd_of (by rfl)) rfl (Or.inl rfl)) (pgs_cons (pg_name (i := 1) (nd_of (by rfl)) rfl (Or.inl rfl)) pgs_nil))), pts_nil, (pe_ix (ix_tupK (K := K) rfl) (pv 0) pe_int (fun _ _ => rfl))⟩)) pa_nil))) (pss_cons (ps_set (i := 3) nd rfl (Or.inl rfl) (pe_op op_mulB (pe_op op_mulB (pe_un un_neg (pv 1)) (pe_callC c_all_weights hr (pa_cons (pv 0) pa_nil))) (pv 2))) (pss_cons (ps_set (i := 4) nd rfl (Or.inl rfl) pe_int) (pss_cons (ps_for PassesOwn.never rfl (pi_rev rfl z_reversed (pa_cons (pv 0) pa_nil)) (pg_tup rfl (pgs_cons (pg_name (i := 5) nd rfl (Or.inl rfl)) (pgs_cons (pg_name (i := 6) nd rfl (Or.inl rfl)) pgs_nil))) (pss_cons (ps_set (i := 7) nd rfl (Or.inl rfl) (pe_op op_mulB (pe_ix ix_tup (pv 5) pe_int (fun _ _ => rfl)) (pe_op op_fdivB (pv 2) (pe_ix ix_tup (pv 5) pe_int (fun _ _ => rfl))))) (pss_cons (ps_if (PW.pt (pw_and (pt_cmpR op_gt (pv 4) pe_int (nomark _)) (pw_and1 (pt_cmpR op_le (pe_op op_mulB (pv 7) (pv 4)) (pv 3) (nomark _))))) (pss_one ps_break) pss_nil) (pss_cons (ps_set (i := 3) nd rfl (Or.inl rfl) (pe_op op_add (pv 3) (pe_op op_mulB (pv 6) (pv 7)))) (pss_one (ps_set (i := 4) nd rfl (Or.inl rfl) (pe_op op_add (pv 4) (pv 6)))))))) (pss_one (ps_ret (pe_callC c_share hr (pa_cons (pv 3) (pa_cons (pe_op op_mulB (pv 4) (pv 2)) pa_nil))))))))), ?_⟩
  have hlr := refs_length xs
  have hrl := rws_length xs
  have glen := g.len
  have gn := c.n
  have tab := g.tab so
  have wt1 := g.tot
  have wt2 := g.ws
  have wt3 := c.w
  have lm : 0 < lcmB xs ∧ lcmB xs ≤ 2 ^ 1600 := ⟨g.mp, c.m⟩
  have p601 : (2 : Int) ^ 601 = 2 * 2 ^ 600 := by rw [Int.pow_succ]; omega
  have p600 := Sd.pow_pos2 600
  have p1601 : (2 : Int) ^ 1601 = 2 * 2 ^ 1600 := by rw [Int.pow_succ]; omega
  have glz : intBits (lcmB xs) ≤ 1601 := bits_of (by omega) (by omega)
  have wsz : ∀ z : Int, 0 ≤ z → z ≤ wsum xs → intBits z ≤ 601 := fun z h1 h2 => bits_of (by omega) (by omega)
  have nz : 0 < xs.length := by
    rcases Nat.eq_zero_or_pos xs.length with z | z
    · exact absurd (List.length_eq_zero_iff.mp z) g.ne
    · exact z
  have b1 : ∀ x : Int, 0 ≤ x → x ≤ 1000000000 → intBits x ≤ 64 := fun x h1 h2 => PySem.intBits_le_64 (by omega) (by omega)
  have bpos : ∀ n ∈ xs.map Row.b, 0 < n := fun n hn => by
    obtain ⟨x, hx, rfl⟩ := List.mem_map.mp hn
    exact (g.fq x hx).fr.pos
  refine ⟨_, rfl, a, rfl, ⟨_, SqL.of hT.lst⟩, fun D hD => ?_⟩
  refine comp_list (xs := refs xs) (fun i τ H' => ∃ v0 v1, τ = [v0, v1, some (.ref a), some (.int p), none, none, none, none, none, none] ∧ Same H H' ∧ H' D = some (.lst ((xs.take i).map fun x => V.int x.b))) ⟨none, none, rfl, same_new hD _, upd_same⟩ ?keep ?turn ?done
  case keep =>
    rintro i τ H' hi ⟨v0, v1, rfl, hs, _⟩
    exact SqL.of (hT.same hs).lst
  case turn =>
    rintro i m v τ H' hm hi hv ⟨v0, v1, rfl, hs, hD'⟩
    obtain ⟨x, hx, rfl⟩ := refs_at hv
    have hr := (hT.same hs).rows x (List.mem_of_getElem? hx)
    refine ⟨x.p, _, rfl, SqT.of hr.1, rfl, _, _, rfl, _, _, rfl, rfl, ?_⟩
    refine tyes_if ?_
    refine ⟨_, rfl, x.q, _, _, _, rfl, rfl, SqT.of hr.2, rfl, ?_⟩
    refine comp_next hm hi hD' (by rw [List.length_map]; exact small1000 (Nat.le_trans (List.length_take_le _ _) (by omega))) ⟨_, _, rfl, hs.upd_new hD _, ?_⟩
    rw [upd_same, take_snoc hx, List.map_append]
    rfl
  case done =>
  rintro τ H1 ⟨v0, v1, rfl, s1, hD1⟩
  rw [hlr, List.take_length] at hD1
  have b9 : ∀ n ∈ xs.map Row.b, intBits n ≤ 1601 := fun n hn => by
    obtain ⟨x, hx, rfl⟩ := List.mem_map.mp hn
    exact (g.bits c hx).1
  have b10 : ((xs.map Row.b).map intBits).sum ≤ 200000 := by
    have h := sum_nat_le (k := 1601) (l := (xs.map Row.b).map intBits) fun n hn => by
      obtain ⟨z, hz, rfl⟩ := List.mem_map.mp hn
      exact b9 z hz
    rw [List.length_map, List.length_map] at h
    omega
  refine ⟨D, xs.map Row.b, rfl, SqL.of (by rw [hD1, List.map_map]; rfl), bpos, fun n hn => Nat.le_trans (b9 n hn) (by decide), b10, ?_⟩
  have hT1 := hT.same s1
  refine ⟨_, rfl, _, rfl, _, rfl, a, xs, rfl, hT1, by omega, fun H2 s2 => ⟨_, _, rfl, rfl, mulOk (m := 64) (n := 601) (PySem.intBits_neg_le (b1 p p0 p9)) (wsz _ (by omega) (Int.le_refl _)) (by decide), _, rfl, _, _, rfl, rfl, mulOk (m := 64 + 601) (n := 1601) (PySem.intBits_mul_le (PySem.intBits_neg_le (b1 p p0 p9)) (wsz _ (by omega) (Int.le_refl _))) glz (by decide), ?_⟩⟩
  have hT2 := hT1.same s2
  have gw2 := wt1
  rw [wsum_W] at gw2
  have P0 : 0 ≤ p * Tb.W (rws xs) * lcmB xs := Int.mul_nonneg (Int.mul_nonneg p0 (by omega)) (Int.le_of_lt tab.cm.pos)
  have fin : ∀ (i : Nat) (tops ws : Int) (v5 v6 v7 : Option V), 0 < i → Tb.Lp (lcmB xs) (p * Tb.W (rws xs) * lcmB xs) (rws xs) i tops ws →
      (i = (rws xs).length ∨ ∃ r, (rws xs)[(rws xs).length - 1 - i]? = some r ∧ i < (rws xs).length ∧ Tb.T (lcmB xs) r * ws ≤ tops) →
      tRet (tCall spShare [] E0 (tCons (tVar 3) (tCons (tOp (rI CMulB fun i j => .int (i * j)) (tVar 4) (tVar 2)) tNil))) { nx := fun _ H' => Q .non H', rt := Q } [some (.ref a), some (.int p), some (.int (lcmB xs)), some (.int tops), some (.int ws), v5, v6, v7] H2 := by
    intro i tops ws v5 v6 v7 hi L stop
    have wp := L.ws_pos tab hi
    obtain ⟨w0, wl, tlo, thi⟩ := g.lp c.k0 p0 L
    have wz := wsz ws w0 wl
    have ne : ws * lcmB xs ≠ 0 := Int.ne_of_gt (Int.mul_pos wp tab.cm.pos)
    refine ⟨_, rfl, _, rfl, _, rfl, _, _, rfl, rfl, mulOk wz glz (by decide), tops, ws * lcmB xs, rfl, ne, Nat.le_trans (PySem.intBits_mul_le wz glz) (by decide), fun r H' s' hr' => ?_⟩
    have kp : 0 ≤ (p + kk) * wsum xs := Int.mul_nonneg (by have := c.k0; omega) (by omega)
    exact q r H' (Fr.sh tops (ws * lcmB xs)) ws ((s1.trans s2).trans s') hr' (by omega) wl (lev_fq (by omega) lm.1 kp tlo thi) (L.ends tab hi stop (Fr.sh_pos ne) (Fr.sh_cross tops (ws * lcmB xs)))
  refine ⟨_, rfl, a, refs xs, rfl, SqL.of hT2.lst, ?_⟩
  refine for_rev (fun i σ H' => ∃ tops ws v5 v6 v7, σ = [some (.ref a), some (.int p), some (.int (lcmB xs)), some (.int tops), some (.int ws), v5, v6, v7] ∧ H' = H2 ∧ Tb.Lp (lcmB xs) (p * Tb.W (rws xs) * lcmB xs) (rws xs) i tops ws) ?start (fun i σ H' _ ⟨_, _, _, _, _, _, e, _⟩ => by subst e; exact SqL.of hT2.lst) ?turn2 ?done2
  case start =>
    refine ⟨_, _, none, none, none, rfl, rfl, ?_⟩
    have e : -p * wsum xs * lcmB xs = -(p * Tb.W (rws xs) * lcmB xs) := by rw [wsum_W]; grind
    show Tb.Lp _ _ _ 0 (-p * wsum xs * lcmB xs) 0
    rw [e]
    exact Tb.Lp.start P0
  case turn2 =>
    rintro i v σ H' hi hv ⟨tops, ws, v5, v6, v7, rfl, rfl, L⟩
    obtain ⟨x, hx, rfl⟩ := refs_at hv
    have hmem := List.mem_of_getElem? hx
    have hr := hT2.rows x hmem
    have xp := (g.fq x hmem).fr.pos
    have xbz := g.bits c hmem
    rw [hlr] at hi hx
    have hx' : (rws xs)[(rws xs).length - 1 - i]? = some x.r := by rw [hrl]; unfold rws; rw [List.getElem?_map, hx]; rfl
    have tT : x.t * (lcmB xs).fdiv x.b = Tb.T (lcmB xs) x.r := by
      unfold Tb.T
      rw [Int.fdiv_eq_ediv_of_nonneg _ (Int.le_of_lt xp)]
      rfl
    have tz : intBits (x.t * (lcmB xs).fdiv x.b) ≤ 3201 + 1601 := PySem.intBits_mul_le xbz.2 (PySem.intBits_fdiv_le glz)
    obtain ⟨w0, wl, tlo, thi⟩ := g.lp c.k0 p0 L
    have wz := wsz ws w0 wl
    have xw := wsz x.w (by have := g.w1 x hmem; omega) (wsum_pos g.w1 hmem)
    refine ⟨x.p, _, rfl, SqT.of hr.1, rfl, _, _, rfl, _, _, rfl, rfl, ?_⟩
    refine ⟨_, rfl, x.q, _, _, _, rfl, rfl, SqT.of hr.2, rfl, _, rfl, _, rfl, x.q, _, _, _, rfl, rfl, SqT.of hr.2, rfl, _, _, rfl, rfl, ⟨Int.ne_of_gt xp, by omega⟩, _, _, rfl, rfl, mulOk xbz.2 (PySem.intBits_fdiv_le glz) (by decide), ?_⟩
    refine ⟨_, rfl, _, _, rfl, rfl, _, rfl, ?_⟩
    have go : ¬ (0 < ws ∧ Tb.T (lcmB xs) x.r * ws ≤ tops) → ∃ tops' ws' v5 v6 v7, [some (V.ref a), some (.int p), some (.int (lcmB xs)), some (.int (tops + x.w * (x.t * (lcmB xs).fdiv x.b))), some (.int (ws + x.w)), some (.ref x.q), some (.int x.w), some (.int (x.t * (lcmB xs).fdiv x.b))] = [some (.ref a), some (.int p), some (.int (lcmB xs)), some (.int tops'), some (.int ws'), v5, v6, v7] ∧ H' = H' ∧ Tb.Lp (lcmB xs) (p * Tb.W (rws xs) * lcmB xs) (rws xs) (i + 1) tops' ws' := fun h => by
      have L2 := L.next tab P0 (by rw [hrl]; exact hi) hx' h
      rw [← tT] at L2
      exact ⟨_, _, _, _, _, rfl, rfl, L2⟩
    by_cases hw : 0 < ws
    · refine ifT (decide_eq_true hw) ?_
      refine ⟨_, rfl, _, rfl, _, _, rfl, rfl, mulOk tz wz (by decide), _, rfl, _, _, rfl, rfl, _, rfl, ?_⟩
      by_cases hb : x.t * (lcmB xs).fdiv x.b * ws ≤ tops
      · refine ifT (decide_eq_true hb) ?_
        have ip : 0 < i := by
          rcases Nat.eq_zero_or_pos i with z | z
          · subst z
            have a0 := L.ew
            simp [Tb.W] at a0
            omega
          · exact z
        exact fin i tops ws _ _ _ ip L (.inr ⟨x.r, hx', by rw [hrl]; exact hi, by rw [← tT]; exact hb⟩)
      · refine ifF (decide_eq_false hb) ?_
        refine ⟨_, rfl, _, rfl, _, rfl, _, _, rfl, rfl, mulOk xw tz (by decide), _, _, rfl, rfl, ?_⟩
        refine ⟨_, rfl, _, rfl, _, _, rfl, rfl, ?_⟩
        exact go fun z => hb (by rw [tT]; exact z.2)
    · refine ifF (decide_eq_false hw) ?_
      refine iteF ?_
      refine ⟨_, rfl, _, rfl, _, rfl, _, _, rfl, rfl, mulOk xw tz (by decide), _, _, rfl, rfl, ?_⟩
      refine ⟨_, rfl, _, rfl, _, _, rfl, rfl, ?_⟩
      exact go fun z => hw z.1
  case done2 =>
    rintro σ H' ⟨tops, ws, v5, v6, v7, rfl, rfl, L⟩
    rw [hlr] at L
    exact fin xs.length tops ws v5 v6 v7 nz L (.inl hrl.symm)
theorem ok_Stand_ends {n : Nat} {f : Addr} {fd : FuncData} (F : Fun K "ends" "Stand.ends" (inClass (top 28) 1) f fd) {c : Cs} (ck : CK K c) : FnOk P w K mg base CX0 (n + 1) f fd ["self"] (spEnds c) := by
  refine F.ok sc_Stand_ends (fun vs H Q E h => ?_) (fun cdv A outer s H vs Q E hr h => ?_)
  · obtain ⟨x, s, d, m, rfl, _⟩ := h
    rfl
  obtain ⟨x, s, d, m, rfl, st, q⟩ := h
  have nd := sc_Stand_ends.nd
  refine ⟨_, (pss_one (ps_ret (pe_fld (pv 0) rfl))), ?_⟩
  cases st with
  | en h vv ok => exact ⟨_, rfl, x, c.e, _, _, _, rfl, h, ck.ce, ck.e1, rfl, q _ vv.n1 vv.nm vv.nx⟩
  | st h vv g lp ly row sub p0 p9 ne l4 w hk => exact ⟨_, rfl, x, c.s, _, _, _, rfl, h, ck.cs, ck.s1, rfl, q _ vv.n1 vv.nm vv.nx⟩
theorem ok_Stand_stages {n : Nat} {f : Addr} {fd : FuncData} (F : Fun K "stages" "Stand.stages" (inClass (top 28) 2) f fd) {c : Cs} (ck : CK K c) : FnOk P w K mg base CX0 (n + 1) f fd ["self"] (spStgs c) := by
  refine F.ok sc_Stand_stages (fun vs H Q E h => ?_) (fun cdv A outer s H vs Q E hr h => ?_)
  · obtain ⟨x, s, d, m, rfl, _⟩ := h
    rfl
  obtain ⟨x, s, d, m, rfl, st, q⟩ := h
  have nd := sc_Stand_stages.nd
  refine ⟨_, (pss_one (ps_ret (pe_fld (pv 0) rfl))), ?_⟩
  cases st with
  | en h vv ok => exact ⟨_, rfl, x, c.e, _, _, _, rfl, h, ck.ce, ck.e2, rfl, q _ vv.k0 vv.kd vv.kx⟩
  | st h vv g lp ly row sub p0 p9 ne l4 w hk => exact ⟨_, rfl, x, c.s, _, _, _, rfl, h, ck.cs, ck.s2, rfl, q _ vv.k0 vv.kd vv.kx⟩
theorem ok_Stand_caps {n : Nat} {f : Addr} {fd : FuncData} (F : Fun K "caps" "Stand.caps" (inClass (top 28) 4) f fd) {c : Cs} (ck : CK K c) (z_list : mg "list" = none) : FnOk P w K mg base CX0 (n + 1) f fd ["self"] (spCaps c) := by
  refine F.ok sc_Stand_caps (fun vs H Q E h => ?_) (fun cdv A outer s H vs Q E hr h => ?_)
  · obtain ⟨x, s, d, m, rfl, _⟩ := h
    rfl
  obtain ⟨x, s, d, m, rfl, st, q⟩ := h
  have nd := sc_Stand_caps.nd
  refine ⟨_, (pss_one (ps_ret (pe_callTy call_list_of rfl z_list bt_list (pa_cons (pe_fld (pv 0) rfl) pa_nil)))), ?_⟩
  cases st with
  | @en _ _ l cp v n' k' _ _ xs h vv ok =>
    refine ⟨_, rfl, x, c.e, _, _, _, rfl, h, ck.ce, ck.e4, rfl, ?_⟩
    refine ⟨cp, _, rfl, .inr (SqT.of vv.caps.1), fun r hr0 => ?_⟩
    have n1 := same_new hr0 (.lst (refs xs))
    exact q r _ xs n1 hr0 ⟨upd_same, fun y hy => (vv.caps.2 y hy).same n1⟩ vv.gs vv.so ⟨_, vv.mt, vv.lw⟩
  | @st _ _ l cp r0 p n' k' lv _ _ j xs rs ps ys h vv g lp ly row sub p0 p9 ne l4 w hk =>
    refine ⟨_, rfl, x, c.s, _, _, _, rfl, h, ck.cs, ck.s4, rfl, ?_⟩
    refine ⟨cp, _, rfl, .inr (SqT.of vv.caps.1), fun r hr0 => ?_⟩
    have n1 := same_new hr0 (.lst (refs xs))
    exact q r _ xs n1 hr0 ⟨upd_same, fun y hy => (vv.caps.2 y hy).same n1⟩ vv.gs vv.so ⟨_, vv.mt, vv.lw⟩
theorem ok_Stand___init__ {n : Nat} {f : Addr} {fd : FuncData} (F : Fun K "__init__" "Stand.__init__" (inClass (top 28) 0) f fd) {c : Cs} (ck : CK K c) (z_tuple : mg "tuple" = none) : FnOk P w K mg base CX0 (n + 1) f fd ["self", "end_count", "stage_count", "level", "cap_rows"] (spStI c) := by
  refine F.ok sc_Stand___init__ (fun vs H Q E h => ?_) (fun cdv A outer s H vs Q E hr h => ?_)
  · obtain ⟨x, dx, C, l, a, n1, k1, xs, rfl, _⟩ := h
    rfl
  obtain ⟨x, dx, C, l, a, n1, k1, xs, rfl, hC, hx, hT, q⟩ := h
  have nd := sc_Stand___init__.nd
  refine ⟨_, (pss_cons (ps_fld (pv 0) (pv 1) rfl) (pss_cons (ps_fld (pv 0) (pv 2) rfl) (pss_cons (ps_fld (pv 0) (pv 3) rfl) (pss_one (ps_fld (pv 0) (pe_callTy (call_tuple_ofK (K := K) rfl) rfl z_tuple bt_tuple (pa_cons (pv 4) pa_nil)) rfl))))), ?_⟩
  have cC : Cls K C ∧ NoAttr K C "end_count" ∧ NoAttr K C "stage_count" ∧ NoAttr K C "level" ∧ NoAttr K C "cap_rows" := by
    rcases hC with e | e <;> subst e
    · exact ⟨ck.ce, ck.e1, ck.e2, ck.e3, ck.e4⟩
    · exact ⟨ck.cs, ck.s1, ck.s2, ck.s3, ck.s4⟩
  have nax : a ≠ x := ne_of hT.lst hx fun z => nomatch z
  refine ⟨_, rfl, _, rfl, x, C, dx, [], rfl, hx, cC.1, cC.2.1, (by show _ < 1000; decide), ?_⟩
  refine ⟨_, rfl, _, rfl, x, C, dx, _, rfl, upd_same, cC.1, cC.2.2.1, (by show 1 < 1000; decide), ?_⟩
  refine ⟨_, rfl, _, rfl, x, C, dx, _, rfl, upd_same, cC.1, cC.2.2.2.1, (by show 2 < 1000; decide), ?_⟩
  refine ⟨_, rfl, a, _, rfl, .inl ⟨SqL.of (by rw [upd_ne nax, upd_ne nax, upd_ne nax]; exact hT.lst), fun t ht => ?_⟩⟩
  have htx : t ≠ x := fun e => by rw [e, upd_same] at ht; cases ht
  refine ⟨_, rfl, x, C, dx, _, rfl, by rw [upd_ne (Ne.symm htx)]; exact upd_same, cC.1, cC.2.2.2.2, (by show 3 < 1000; decide), ?_⟩
  rw [upd_ne htx, upd_ne htx, upd_ne htx] at ht
  refine q t _ ht (fun b o nb e => ?_) upd_same ?_
  · rw [upd_ne nb, upd_ne (ne_of_none e ht), upd_ne nb, upd_ne nb, upd_ne nb]
    exact e
  · rw [upd_ne htx]
    exact upd_same
theorem ok_is_whole {n : Nat} {f : Addr} {fd : FuncData} (F : Fun K "is_whole" "is_whole" (top 6) f fd) (z_isinstance : mg "isinstance" = none) (z_bool : mg "bool" = none) (z_int : mg "int" = none) : FnOk P w K mg base CX0 (n + 1) f fd ["thing", "least", "most"] spIsWx := by
  refine F.ok sc_is_whole (fun vs H Q E h => ?_) (fun cdv A outer s H vs Q E hr h => ?_)
  · obtain ⟨v, lo, hi, b, rfl, _⟩ := h
    rfl
  obtain ⟨v, lo, hi, b, rfl, h, q⟩ := h
  have nd := sc_is_whole.nd
  refine ⟨_, (pss_one (ps_ret (pe_and (pe_callB (call_isinst (T := "int")) rfl z_isinstance bt_isinstance (pa_cons (pv 0) (pa_cons (pe_bltn (v := .ty "int") rfl z_int bt_int rfl) pa_nil))) (pe_and (pe_not (pe_callB (call_isinst (T := "bool")) rfl z_isinstance bt_isinstance (pa_cons (pv 0) (pa_cons (pe_bltn (v := .ty "bool") rfl z_bool bt_bool rfl) pa_nil)))) (pe_one (pe_chain op_le op_le (pv 1) (pv 0) (pv 2))))))), ?_⟩
  cases h with
  | no h =>
    obtain ⟨t, ht, hk⟩ := h K
    refine ⟨_, rfl, _, _, _, rfl, ht, hk, _, rfl, ?_⟩
    exact iteF q
  | bl c =>
    refine ⟨_, rfl, _, _, _, rfl, .bl c, kit_bool_int, _, rfl, ?_⟩
    refine iteT ?_
    refine ⟨_, rfl, _, _, _, rfl, .bl c, kit_same _, _, rfl, ?_⟩
    refine ⟨_, rfl, ?_⟩
    exact iteF q
  | int i =>
    refine ⟨_, rfl, _, _, _, rfl, .int i, kit_same _, _, rfl, ?_⟩
    refine iteT ?_
    refine ⟨_, rfl, _, _, _, rfl, .int i, kit_int_bool, _, rfl, ?_⟩
    refine ⟨_, rfl, ?_⟩
    refine iteT ?_
    refine ⟨_, rfl, _, rfl, _, _, rfl, rfl, _, rfl, ?_⟩
    by_cases h1 : lo ≤ i
    · refine ifT (decide_eq_true h1) ?_
      refine ⟨_, rfl, _, _, rfl, rfl, ?_⟩
      rw [decide_eq_true h1] at q
      exact q
    · refine ifF (decide_eq_false h1) ?_
      rw [decide_eq_false h1] at q
      exact q
theorem ok_is_stand {n : Nat} {f : Addr} {fd : FuncData} (F : Fun K "is_stand" "is_stand" (top 31) f fd) {c : Cs} (ck : CK K c) (ct : CT K c) (cn : CN K c) (g_End : mg "End" = some (.ref c.e)) (g_Stage : mg "Stage" = some (.ref c.s)) (z_isinstance : mg "isinstance" = none) : FnOk P w K mg base CX0 (n + 1) f fd ["thing"] (spStX c K) := by
  refine F.ok sc_is_stand (fun vs H Q E h => ?_) (fun cdv A outer s H vs Q E hr h => ?_)
  · obtain ⟨v, b, rfl, _⟩ := h
    rfl
  obtain ⟨v, b, rfl, h, q⟩ := h
  have nd := sc_is_stand.nd
  refine ⟨_, (pss_one (ps_ret (pe_or (pe_callB (call_isinstC (K := K) rfl) rfl z_isinstance bt_isinstance (pa_cons (pv 0) (pa_cons (pe_glob (v := .ref c.e) rfl g_End rfl) pa_nil))) (pe_one (pe_callB (call_isinstC (K := K) rfl) rfl z_isinstance bt_isinstance (pa_cons (pv 0) (pa_cons (pe_glob (v := .ref c.s) rfl g_Stage rfl) pa_nil))))))), ?_⟩
  cases h with
  | yes st =>
    cases st with
    | en h vv ok =>
      refine ⟨_, rfl, _, c.e, .ref c.e, true, rfl, .ins h ck.ce ct.ea ct.hn ct.htk ct.em, ct.ee, ?_⟩
      refine ⟨_, rfl, ?_⟩
      refine iteT ?_
      exact q
    | st h vv g lp ly row sub p0 p9 ne l4 w hk =>
      refine ⟨_, rfl, _, c.e, .ref c.s, false, rfl, .ins h ck.cs ct.sa ct.hn ct.htk ct.sm, ct.se, ?_⟩
      refine ⟨_, rfl, ?_⟩
      refine iteF ?_
      exact ⟨_, rfl, _, c.s, .ref c.s, true, rfl, .ins h ck.cs ct.sa ct.hn ct.htk ct.sm, ct.ss, q⟩
  | no h ht =>
    have z := cn.all _ ht
    refine ⟨_, rfl, _, c.e, _, false, rfl, h, z.1, ?_⟩
    refine ⟨_, rfl, ?_⟩
    refine iteF ?_
    exact ⟨_, rfl, _, c.s, _, false, rfl, h, z.2, q⟩
theorem ok_is_stage_row {n : Nat} {f : Addr} {fd : FuncData} (F : Fun K "is_stage_row" "is_stage_row" (top 32) f fd) {c : Cs} {g_is_stand : Addr} {gd_is_stand : FuncData} (c_is_stand : Cal P w K mg base n "is_stand" ["thing"] (spStX c K) g_is_stand gd_is_stand) {g_is_whole : Addr} {gd_is_whole : FuncData} (c_is_whole : Cal P w K mg base n "is_whole" ["thing", "least", "most"] spIsWx g_is_whole gd_is_whole) (z_len : mg "len" = none) (z_isinstance : mg "isinstance" = none) (z_tuple : mg "tuple" = none) {u_MOST_WEIGHT : Value} (g_MOST_WEIGHT : mg "MOST_WEIGHT" = some u_MOST_WEIGHT) (r_MOST_WEIGHT : RelV (.int 1000) u_MOST_WEIGHT) : FnOk P w K mg base CX0 (n + 1) f fd ["row"] (spSRowX c K) := by
  refine F.ok sc_is_stage_row (fun vs H Q E h => ?_) (fun cdv A outer s H vs Q E hr h => ?_)
  · obtain ⟨v, b, rfl, _⟩ := h
    rfl
  obtain ⟨v, b, rfl, h, q⟩ := h
  have nd := sc_is_stage_row.nd
  refine ⟨_, (pss_cons (ps_if (PW.pt (pw_or (pt_not (pt_val (pe_callB (call_isinst (T := "tuple")) rfl z_isinstance bt_isinstance (pa_cons (pv 0) (pa_cons (pe_bltn (v := .ty "tuple") rfl z_tuple bt_tuple rfl) pa_nil))))) (pw_or1 (pt_cmpR op_ne (pe_callB call_len_seq rfl z_len bt_len (pa_cons (pv 0) pa_nil)) pe_int (nomark _))))) (pss_one (ps_ret pe_bl)) pss_nil) (pss_one (ps_ret (pe_and (pe_callC c_is_whole hr (pa_cons (pe_ix ix_tup (pv 0) pe_int (fun _ _ => rfl)) (pa_cons pe_int (pa_cons (pe_glob (v := .int 1000) rfl g_MOST_WEIGHT r_MOST_WEIGHT) pa_nil)))) (pe_one (pe_callC c_is_stand hr (pa_cons (pe_ix ix_tup (pv 0) pe_int (fun _ _ => rfl)) pa_nil))))))), ?_⟩
  cases h with
  | no ht hk =>
    refine ⟨_, rfl, _, _, _, rfl, ht, hk, _, rfl, ?_⟩
    exact iteT (iteT q)
  | @len a xs e hl =>
    refine ⟨_, rfl, _, _, _, rfl, .tup e, kit_same _, _, rfl, ?_⟩
    refine iteF ?_
    refine ⟨_, rfl, a, _, rfl, .inr (SqT.of e), rfl, _, rfl, ?_⟩
    refine ifT ?_ q
    rw [decide_eq_false (fun z => hl (by injection z with z; omega))]
    rfl
  | @two a x y b1 b2 e hx hy =>
    refine ⟨_, rfl, _, _, _, rfl, .tup e, kit_same _, _, rfl, ?_⟩
    refine iteF ?_
    refine ⟨_, rfl, a, _, rfl, .inr (SqT.of e), rfl, _, rfl, ?_⟩
    refine iteF ?_
    refine ⟨_, rfl, a, _, _, _, rfl, rfl, SqT.of e, rfl, x, 1, 1000, b1, rfl, hx, _, rfl, ?_⟩
    cases b1 with
    | false => exact iteF q
    | true =>
      refine iteT ?_
      exact ⟨_, rfl, a, _, _, _, rfl, rfl, SqT.of e, rfl, y, b2, rfl, hy, q⟩
theorem ok_is_stage_rows {n : Nat} {f : Addr} {fd : FuncData} (F : Fun K "is_stage_rows" "is_stage_rows" (top 33) f fd) {c : Cs} {g_is_stage_row : Addr} {gd_is_stage_row : FuncData} (c_is_stage_row : Cal P w K mg base n "is_stage_row" ["row"] (spSRowX c K) g_is_stage_row gd_is_stage_row) (z_all : mg "all" = none) (z_len : mg "len" = none) (z_isinstance : mg "isinstance" = none) (z_list : mg "list" = none) {u_MOST_STAGE_ROWS : Value} (g_MOST_STAGE_ROWS : mg "MOST_STAGE_ROWS" = some u_MOST_STAGE_ROWS) (r_MOST_STAGE_ROWS : RelV (.int 4) u_MOST_STAGE_ROWS) : FnOk P w K mg base CX0 (n + 1) f fd ["rows"] (spSRowsX c K) := by
  refine F.ok sc_is_stage_rows (fun vs H Q E h => ?_) (fun cdv A outer s H vs Q E hr h => ?_)
  · obtain ⟨v, b, rfl, _⟩ := h
    rfl
  obtain ⟨v, b, rfl, h, q⟩ := h
  have nd := sc_is_stage_rows.nd
  refine ⟨_, (pss_cons (ps_if (PW.pt (pw_or (pt_not (pt_val (pe_callB (call_isinst (T := "list")) rfl z_isinstance bt_isinstance (pa_cons (pv 0) (pa_cons (pe_bltn (v := .ty "list") rfl z_list bt_list rfl) pa_nil))))) (pw_or1 (pt_not (pt_chain op_le op_le pe_int (pe_callB call_len_seq rfl z_len bt_len (pa_cons (pv 0) pa_nil)) (pe_glob (v := .int 4) rfl g_MOST_STAGE_ROWS r_MOST_STAGE_ROWS)))))) (pss_one (ps_ret pe_bl)) pss_nil) (pss_one (ps_ret (pe_callB (call_allL rfl rfl) rfl z_all bt_all (pa_cons (pe_comp (ls := ["row"]) (M := ["rows"]) rfl (CompOk.of (by rfl)) (NL.of (by rfl)) (pi_list (pv 0)) (fun _ _ _ _ => ⟨(pg_name (i := 0) (nd_of (by rfl)) rfl (Or.inl rfl)), pts_nil, (pe_callC c_is_stage_row hr (pa_cons (pv 0) pa_nil))⟩)) pa_nil))))), ?_⟩
  cases h with
  | no h =>
    obtain ⟨t, ht, hk⟩ := h K
    refine ⟨_, rfl, _, _, _, rfl, ht, hk, _, rfl, ?_⟩
    exact iteT (iteT (q H (Same.refl _)))
  | @len a xs e hl =>
    refine ⟨_, rfl, _, _, _, rfl, .lst e, kit_same _, _, rfl, ?_⟩
    refine iteF ?_
    refine ⟨_, rfl, a, _, rfl, .inl (SqL.of e), _, _, rfl, rfl, _, rfl, ?_⟩
    by_cases h1 : 1 ≤ xs.length
    · refine ifT (decide_eq_true (show (1 : Int) ≤ _ by omega)) ?_
      refine ⟨_, _, rfl, rfl, _, rfl, ?_⟩
      refine ifT ?_ (q H (Same.refl _))
      rw [decide_eq_false (show ¬ (xs.length : Int) ≤ 4 by omega)]
      rfl
    · refine ifF (decide_eq_false (show ¬ (1 : Int) ≤ _ by omega)) ?_
      refine ⟨_, rfl, ?_⟩
      exact iteT (q H (Same.refl _))
  | @all a xs bs e h1 h8 hb h =>
    refine ⟨_, rfl, _, _, _, rfl, .lst e, kit_same _, _, rfl, ?_⟩
    refine iteF ?_
    refine ⟨_, rfl, a, _, rfl, .inl (SqL.of e), _, _, rfl, rfl, _, rfl, ?_⟩
    refine ifT (decide_eq_true (show (1 : Int) ≤ _ by omega)) ?_
    refine ⟨_, _, rfl, rfl, _, rfl, ?_⟩
    refine ifF (by rw [decide_eq_true (show (xs.length : Int) ≤ 4 by omega)]; rfl) ?_
    refine ⟨_, rfl, a, rfl, ⟨_, SqL.of e⟩, fun D hD => ?_⟩
    refine comp_list (xs := xs) (fun i τ H' => ∃ v0, τ = [v0, some (.ref a)] ∧ Same H H' ∧ H' D = some (.lst ((bs.take i).map V.bl))) ⟨none, rfl, same_new hD _, upd_same⟩ ?keep ?turn ?done
    case keep =>
      rintro i τ H' hi ⟨v0, rfl, hs, _⟩
      exact SqL.of (hs _ _ e)
    case turn =>
      rintro i m v τ H' hm hi hv ⟨v0, rfl, hs, hD'⟩
      have hib : i < bs.length := by omega
      have eb : bs[i]? = some (bs.getD i false) := by rw [List.getElem?_eq_getElem hib, getD_at hib]
      refine gyes ?_
      refine ⟨_, rfl, v, bs.getD i false, rfl, (h i v hv).kt (Same.kt hs), ?_⟩
      refine comp_next hm hi hD' (by rw [List.length_map, List.length_take]; exact small1000 (by omega)) ⟨_, rfl, hs.upd_new hD _, ?_⟩
      rw [upd_same, take_snoc eb, List.map_append]
      rfl
    case done =>
      rintro τ H' ⟨v0, rfl, hs, hD'⟩
      rw [← hb, List.take_length] at hD'
      exact ⟨D, _, rfl, SqL.of hD', q H' hs⟩
theorem ok_need_boxes {n : Nat} {f : Addr} {fd : FuncData} (F : Fun K "need_boxes" "need_boxes" (top 34) f fd) {c : Cs} {C_NoBox : Addr} (g_NoBox : mg "NoBox" = some (.ref C_NoBox)) (x_NoBox : XCls K C_NoBox) {g_is_stand : Addr} {gd_is_stand : FuncData} (c_is_stand : Cal P w K mg base n "is_stand" ["thing"] (spStX c K) g_is_stand gd_is_stand) (z_all : mg "all" = none) (z_len : mg "len" = none) (z_isinstance : mg "isinstance" = none) (z_list : mg "list" = none) {u_MOST_BOXES : Value} (g_MOST_BOXES : mg "MOST_BOXES" = some u_MOST_BOXES) (r_MOST_BOXES : RelV (.int 6) u_MOST_BOXES) : FnOk P w K mg base (CXr P w) (n + 1) f fd ["boxes"] (spNB c K C_NoBox) := by
  refine F.okX sc_need_boxes (fun vs H Q E h => ?_) (fun cdv A outer s H vs Q E hr h => ?_)
  · obtain ⟨v, b, rfl, _⟩ := h
    rfl
  obtain ⟨v, b, rfl, h, qt, qf⟩ := h
  have nd := sc_need_boxes.nd
  refine ⟨_, (pss_cons (ps_if (PT.nox (PW.pt (pw_or (pt_not (pt_val (pe_callB (call_isinst (T := "list")) rfl z_isinstance bt_isinstance (pa_cons (pv 0) (pa_cons (pe_bltn (v := .ty "list") rfl z_list bt_list rfl) pa_nil))))) (pw_or1 (pt_not (pt_chain op_le op_le pe_int (pe_callB call_len_seq rfl z_len bt_len (pa_cons (pv 0) pa_nil)) (pe_glob (v := .int 6) rfl g_MOST_BOXES r_MOST_BOXES))))))) (pss_one (ps_raise throws_cx rfl rfl g_NoBox x_NoBox)) pss_nil) (pss_one (ps_if (PT.nox (pt_not (pt_val (pe_callB (call_allL rfl rfl) rfl z_all bt_all (pa_cons (pe_comp (ls := ["box"]) (M := ["boxes"]) rfl (CompOk.of (by rfl)) (NL.of (by rfl)) (pi_list (pv 0)) (fun _ _ _ _ => ⟨(pg_name (i := 0) (nd_of (by rfl)) rfl (Or.inl rfl)), pts_nil, (pe_callC c_is_stand hr (pa_cons (pv 0) pa_nil))⟩)) pa_nil)))) ) (pss_one (ps_raise throws_cx rfl rfl g_NoBox x_NoBox)) pss_nil))), ?_⟩
  cases h with
  | no h =>
    obtain ⟨t, ht, hk⟩ := h K
    refine ⟨_, rfl, _, _, _, rfl, ht, hk, _, rfl, ?_⟩
    exact iteT (iteT (qf rfl H (Same.refl _)))
  | @len a xs e hl =>
    refine ⟨_, rfl, _, _, _, rfl, .lst e, kit_same _, _, rfl, ?_⟩
    refine iteF ?_
    refine ⟨_, rfl, a, _, rfl, .inl (SqL.of e), _, _, rfl, rfl, _, rfl, ?_⟩
    by_cases h1 : 1 ≤ xs.length
    · refine ifT (decide_eq_true (show (1 : Int) ≤ _ by omega)) ?_
      refine ⟨_, _, rfl, rfl, _, rfl, ?_⟩
      refine ifT ?_ (qf rfl H (Same.refl _))
      rw [decide_eq_false (show ¬ (xs.length : Int) ≤ 6 by omega)]
      rfl
    · refine ifF (decide_eq_false (show ¬ (1 : Int) ≤ _ by omega)) ?_
      refine ⟨_, rfl, ?_⟩
      exact iteT (qf rfl H (Same.refl _))
  | @all a xs bs e h1 h8 hb h =>
    refine ⟨_, rfl, _, _, _, rfl, .lst e, kit_same _, _, rfl, ?_⟩
    refine iteF ?_
    refine ⟨_, rfl, a, _, rfl, .inl (SqL.of e), _, _, rfl, rfl, _, rfl, ?_⟩
    refine ifT (decide_eq_true (show (1 : Int) ≤ _ by omega)) ?_
    refine ⟨_, _, rfl, rfl, _, rfl, ?_⟩
    refine ifF (by rw [decide_eq_true (show (xs.length : Int) ≤ 6 by omega)]; rfl) ?_
    refine ⟨_, rfl, a, rfl, ⟨_, SqL.of e⟩, fun D hD => ?_⟩
    refine comp_list (xs := xs) (fun i τ H' => ∃ v0, τ = [v0, some (.ref a)] ∧ Same H H' ∧ H' D = some (.lst ((bs.take i).map V.bl))) ⟨none, rfl, same_new hD _, upd_same⟩ ?keep ?turn ?done
    case keep =>
      rintro i τ H' hi ⟨v0, rfl, hs, _⟩
      exact SqL.of (hs _ _ e)
    case turn =>
      rintro i m v τ H' hm hi hv ⟨v0, rfl, hs, hD'⟩
      have hib : i < bs.length := by omega
      have eb : bs[i]? = some (bs.getD i false) := by rw [List.getElem?_eq_getElem hib, getD_at hib]
      refine gyes ?_
      refine ⟨_, rfl, v, bs.getD i false, rfl, (h i v hv).kt (Same.kt hs), ?_⟩
      refine comp_next hm hi hD' (by rw [List.length_map, List.length_take]; exact small1000 (by omega)) ⟨_, rfl, hs.upd_new hD _, ?_⟩
      rw [upd_same, take_snoc eb, List.map_append]
      rfl
    case done =>
      rintro τ H' ⟨v0, rfl, hs, hD'⟩
      rw [← hb, List.take_length] at hD'
      refine ⟨D, bs, rfl, SqL.of hD', _, rfl, ?_⟩
      cases hbb : bs.all id with
      | true => exact iteF (qt hbb H' hs)
      | false => exact iteT (qf hbb H' hs)
theorem ok_End___init__ {n : Nat} {f : Addr} {fd : FuncData} (F : Fun K "__init__" "End.__init__" (inClass (top 29) 0) f fd) {c : Cs} (ck : CK K c) {cSt fStI : Addr} {fdStI : FuncData} (g_Stand : mg "Stand" = some (.ref cSt)) (mS_i : ClsM K cSt "__init__" fStI) (G_StI : FnOk P w K mg base CX0 n fStI fdStI ["self", "end_count", "stage_count", "level", "cap_rows"] (spStI c)) (b_StI : Binds K fdStI ["self", "end_count", "stage_count", "level", "cap_rows"] []) {C_NoBox : Addr} (g_NoBox : mg "NoBox" = some (.ref C_NoBox)) (x_NoBox : XCls K C_NoBox) {g_whole : Addr} {gd_whole : FuncData} (c_whole : Cal P w K mg base n "whole" ["number"] spWh g_whole gd_whole) {g_is_whole : Addr} {gd_is_whole : FuncData} (c_is_whole : Cal P w K mg base n "is_whole" ["thing", "least", "most"] spIsWx g_is_whole gd_is_whole) {u_MOST_WORTH : Value} (g_MOST_WORTH : mg "MOST_WORTH" = some u_MOST_WORTH) (r_MOST_WORTH : RelV (.int 1000000000) u_MOST_WORTH) : FnOk P w K mg base (CXr P w) (n + 1) f fd ["self", "worth"] (spEIX c C_NoBox) := by
  refine F.okX sc_End___init__ (fun vs H Q E h => ?_) (fun cdv A outer s H vs Q E hr h => ?_)
  · rcases h with ⟨x, dx, v, rfl, _⟩ | ⟨x, v, rfl, _⟩ <;> rfl
  have nd := sc_End___init__.nd
  refine ⟨_, (pss_cons (ps_if (PT.nox (pt_not (pt_val (pe_callC c_is_whole hr (pa_cons (pv 1) (pa_cons pe_int (pa_cons (pe_glob (v := .int 1000000000) rfl g_MOST_WORTH r_MOST_WORTH) pa_nil))))))) (pss_one (ps_raise throws_cx rfl rfl g_NoBox x_NoBox)) pss_nil) (PSs.nox (pss_cons (ps_expr (pe_clsm rfl g_Stand mS_i G_StI hr b_StI .nil pass0 (pa_cons (pv 0) (pa_cons pe_int (pa_cons pe_int (pa_cons (pe_callC c_whole hr (pa_cons (pv 1) pa_nil)) (pa_cons (pe_lst (pa_cons (pe_tup (pa_cons (pe_callC c_whole hr (pa_cons (pv 1) pa_nil)) (pa_cons pe_int pa_nil))) pa_nil)) pa_nil))))))) (pss_one (ps_fld (pv 0) (pv 1) rfl))))), ?_⟩
  rcases h with ⟨x, dx, v, rfl, hx, h0, h9, q⟩ | ⟨x, v, rfl, h, q⟩
  rotate_left
  · refine ⟨_, rfl, v, 0, 1000000000, false, rfl, h, ?_⟩
    refine ⟨_, rfl, ?_⟩
    exact iteT q
  refine ⟨_, rfl, .int v, 0, 1000000000, true, rfl, IsW.yes h0 h9, ?_⟩
  refine ⟨_, rfl, ?_⟩
  refine iteF ?_
  refine ⟨_, rfl, _, rfl, v, rfl, fun l H1 s1 hl => ?_⟩
  refine ⟨_, rfl, v, rfl, fun p H2 s2 hp => ?_⟩
  refine ⟨sz2, fun t ht => ?_⟩
  refine ⟨sz1, fun a ha => ?_⟩
  have n3 := same_new ht (.tup [.ref p, .int 1])
  have n4 := same_new ha (.lst [.ref t])
  have s4 := ((s1.trans s2).trans n3).trans n4
  have hT : TabAt (upd (upd H2 t (.tup [.ref p, .int 1])) a (.lst [.ref t])) a [⟨t, p, v, 1, 1⟩] := ⟨upd_same, fun y hy => by rw [List.mem_singleton.mp hy]; exact ⟨n4 _ _ upd_same, (n3.trans n4) _ _ hp⟩⟩
  have hl4 := (s2.trans (n3.trans n4)) _ _ hl
  generalize upd (upd H2 t (.tup [.ref p, .int 1])) a (.lst [.ref t]) = H4 at n4 s4 hT hl4 ⊢
  refine ⟨x, dx, c.e, l, a, 1, 0, _, rfl, .inl rfl, s4 _ _ hx, hT, fun cp H5 cn k5 hx5 hc5 => ?_⟩
  refine ⟨_, rfl, _, rfl, x, c.e, dx, _, rfl, hx5, ck.ce, ck.e5, (by show 4 < 1000; decide), ?_⟩
  have hx4 := s4 _ _ hx
  have hu : ∀ b o, b ≠ x → H4 b = some o → upd H5 x (.ins c.e dx (fE 1 0 l cp v)) b = some o := fun b o nb e => by rw [upd_ne nb]; exact k5 b o nb e
  have tu : ∀ b xs, H4 b = some (.tup xs) → upd H5 x (.ins c.e dx (fE 1 0 l cp v)) b = some (.tup xs) := fun b xs e => hu b _ (ne_of e hx4 fun z => nomatch z) e
  refine q _ (fun b o nb e => hu b o nb (s4 _ _ e)) fun d m hm => ?_
  refine .en (dx := dx) (l := l) (cp := cp) (n := 1) (k := 0) (xs := [⟨t, p, v, 1, 1⟩]) upd_same ⟨tu _ _ hl4, ⟨?_, fun y hy => ?_⟩, gs_end h0 h9 hm, List.pairwise_singleton _ _, by decide, by omega, by decide, by omega, Sd.mt_en v d, lw_end h0 h9, rfl, rfl⟩ (.en h0 h9 hm)
  · have : cp ≠ x := fun e => by rw [e, hx5] at hc5; cases hc5
    rw [upd_ne this]
    exact hc5
  · have := hT.rows y hy
    exact ⟨tu _ _ this.1, tu _ _ this.2⟩
theorem ent_upd {H : Hp} {D : Addr} {e : Ent} {zs : List V} {o : HO} (hD : H D = some (.lst zs)) (n : e.a ≠ D) (h : EntAt H e) : EntAt (upd H D o) e := by
  refine ⟨?_, ?_, fun x hx => ⟨?_, ?_⟩⟩
  · rw [upd_ne (ne_of h.1 hD fun z => nomatch z)]; exact h.1
  · rw [upd_ne n]; exact h.2.lst
  · rw [upd_ne (ne_of (h.2.rows x hx).1 hD fun z => nomatch z)]; exact (h.2.rows x hx).1
  · rw [upd_ne (ne_of (h.2.rows x hx).2 hD fun z => nomatch z)]; exact (h.2.rows x hx).2
theorem sum_ge {ns : List Int} (h : ∀ n ∈ ns, 1 ≤ n ∧ True) : (ns.length : Int) ≤ ns.sum := by
  induction ns with
  | nil => simp
  | cons n ns ih =>
    have a := (h n List.mem_cons_self).1
    have b := ih fun m hm => h m (List.mem_cons_of_mem _ hm)
    rw [List.sum_cons, List.length_cons]
    push_cast
    omega
theorem SRows.good {c : Cs} {K : PySem.W.Frag} {H : Hp} {a : Addr} {ps ys : List Addr} {rs : List (Int × Sd.Sd)} {d : Nat} {j : Int × Sd.Sd → Nat} (g : GRow c H a ps ys rs d j) : SRows c K H (.ref a) true := by
  have hl : (ps.map V.ref).length = rs.length := by rw [List.length_map]; exact g.R.lp
  have h := SRows.all (c := c) (K := K) (bs := List.replicate rs.length true) g.ha (by rw [hl]; exact List.length_pos_iff.mpr g.ne) (by rw [hl]; exact g.l4) (by rw [List.length_replicate, hl]) fun i v hv => by
    obtain ⟨q1, y, t, _, _, er, rfl, h1, st, mem⟩ := g.R.at_ hv
    have hi := (List.getElem?_eq_some_iff.mp er).1
    have e : (List.replicate rs.length true).getD i false = true := by simp [List.getD, hi]
    rw [e]
    exact SRow.two h1 (IsW.yes (g.ww t mem).1 (g.ww t mem).2) (.yes st)
  have e : (List.replicate rs.length true).all id = true := by simp
  rw [e] at h
  exact h
theorem ok_Stage___init__ {n : Nat} {f : Addr} {fd : FuncData} (F : Fun K "__init__" "Stage.__init__" (inClass (top 30) 0) f fd) {c : Cs} (ck : CK K c) {cSt fStI : Addr} {fdStI : FuncData} (g_Stand : mg "Stand" = some (.ref cSt)) (mS_i : ClsM K cSt "__init__" fStI) (G_StI : FnOk P w K mg base CX0 n fStI fdStI ["self", "end_count", "stage_count", "level", "cap_rows"] (spStI c)) (b_StI : Binds K fdStI ["self", "end_count", "stage_count", "level", "cap_rows"] []) (cfE : Cls K c.e) (cfS : Cls K c.s) {f_ends : Addr} {fd_ends : FuncData} (m_Ee : Meth K c.e "ends" f_ends) (m_Se : Meth K c.s "ends" f_ends) (G_ends : FnOk P w K mg base CX0 n f_ends fd_ends ["self"] (spEnds c)) (b_ends : Binds K fd_ends ["self"] []) {f_stgs : Addr} {fd_stgs : FuncData} (m_Eg : Meth K c.e "stages" f_stgs) (m_Sg : Meth K c.s "stages" f_stgs) (G_stgs : FnOk P w K mg base CX0 n f_stgs fd_stgs ["self"] (spStgs c)) (b_stgs : Binds K fd_stgs ["self"] []) {f_caps : Addr} {fd_caps : FuncData} (m_Ec : Meth K c.e "caps" f_caps) (m_Sc : Meth K c.s "caps" f_caps) (G_caps : FnOk P w K mg base CX0 n f_caps fd_caps ["self"] (spCaps c)) (b_caps : Binds K fd_caps ["self"] []) {C_NoBox : Addr} (g_NoBox : mg "NoBox" = some (.ref C_NoBox)) (x_NoBox : XCls K C_NoBox) {g_capped : Addr} {gd_capped : FuncData} (c_capped : Cal P w K mg base n "capped" ["table", "level"] (spCap2 Pt lamP) g_capped gd_capped) {g_level_for : Addr} {gd_level_for : FuncData} (c_level_for : Cal P w K mg base n "level_for" ["table", "price"] spLF2 g_level_for gd_level_for) {g_mixed : Addr} {gd_mixed : FuncData} (c_mixed : Cal P w K mg base n "mixed" ["rows"] (spMix2 Pt lamP) g_mixed gd_mixed) {g_is_stage_rows : Addr} {gd_is_stage_rows : FuncData} (c_is_stage_rows : Cal P w K mg base n "is_stage_rows" ["rows"] (spSRowsX c K) g_is_stage_rows gd_is_stage_rows) {g_is_whole : Addr} {gd_is_whole : FuncData} (c_is_whole : Cal P w K mg base n "is_whole" ["thing", "least", "most"] spIsWx g_is_whole gd_is_whole) (z_tuple : mg "tuple" = none) (z_max : mg "max" = none) (z_sum : mg "sum" = none) {u_MOST_STAGES : Value} (g_MOST_STAGES : mg "MOST_STAGES" = some u_MOST_STAGES) (r_MOST_STAGES : RelV (.int 4) u_MOST_STAGES) {u_MOST_ENDS : Value} (g_MOST_ENDS : mg "MOST_ENDS" = some u_MOST_ENDS) (r_MOST_ENDS : RelV (.int 12) u_MOST_ENDS) {u_MOST_PRICE : Value} (g_MOST_PRICE : mg "MOST_PRICE" = some u_MOST_PRICE) (r_MOST_PRICE : RelV (.int 1000000000) u_MOST_PRICE) : FnOk P w K mg base (CXr P w) (n + 1) f fd ["self", "price", "rows"] (spSIX c K C_NoBox Pt lamP) := by
  refine F.okX sc_Stage___init__ (fun vs H Q E h => ?_) (fun cdv A outer s H vs Q E hr h => ?_)
  · rcases h with ⟨x, dx, a, p, ps, ys, rs, d, j, rfl, _⟩ | ⟨x, v, w, rfl, _⟩ <;> rfl
  have nd := sc_Stage___init__.nd
  refine ⟨_, (pss_cons (ps_if (PT.nox (PW.pt (pw_or (pt_not (pt_val (pe_callC c_is_whole hr (pa_cons (pv 1) (pa_cons pe_int (pa_cons (pe_glob (v := .int 1000000000) rfl g_MOST_PRICE r_MOST_PRICE) pa_nil)))))) (pw_or1 (pt_not (pt_val (pe_callC c_is_stage_rows hr (pa_cons (pv 2) pa_nil)))))))) (pss_one (ps_raise throws_cx rfl rfl g_NoBox x_NoBox)) pss_nil) (pss_cons (PS.nox (ps_set (i := 3) nd rfl (Or.inl rfl) (pe_callB (call_sum rfl) rfl z_sum bt_sum (pa_cons (pe_comp (ls := ["weight", "stand"]) (M := ["self", "price", "rows", "end_count", "stage_count", "behind", "level"]) rfl (CompOk.of (by rfl)) (NL.of (by rfl)) (pi_list (pv 2)) (fun _ _ _ _ => ⟨(pg_tupK (K := K) (n := 2) rfl rfl (pgs_cons (pg_name (i := 0) (nd_of (by rfl)) rfl (Or.inl rfl)) (pgs_cons (pg_name (i := 1) (nd_of (by rfl)) rfl (Or.inl rfl)) pgs_nil))), pts_nil, (pe_either (pe_meth0 (pv 1) cfE m_Ee G_ends hr b_ends .nil pass0) (pe_meth0 (pv 1) cfS m_Se G_ends hr b_ends .nil pass0))⟩)) pa_nil)))) (pss_cons (PS.nox (ps_set (i := 4) nd rfl (Or.inl rfl) (pe_op op_add pe_int (pe_callB (call_maxL rfl) rfl z_max bt_max (pa_cons (pe_comp (ls := ["weight", "stand"]) (M := ["self", "price", "rows", "end_count", "stage_count", "behind", "level"]) rfl (CompOk.of (by rfl)) (NL.of (by rfl)) (pi_list (pv 2)) (fun _ _ _ _ => ⟨(pg_tupK (K := K) (n := 2) rfl rfl (pgs_cons (pg_name (i := 0) (nd_of (by rfl)) rfl (Or.inl rfl)) (pgs_cons (pg_name (i := 1) (nd_of (by rfl)) rfl (Or.inl rfl)) pgs_nil))), pts_nil, (pe_either (pe_meth0 (pv 1) cfE m_Eg G_stgs hr b_stgs .nil pass0) (pe_meth0 (pv 1) cfS m_Sg G_stgs hr b_stgs .nil pass0))⟩)) pa_nil))))) (pss_cons (ps_if (PT.nox (PW.pt (pw_or (pt_cmpR op_gt (pv 3) (pe_glob (v := .int 12) rfl g_MOST_ENDS r_MOST_ENDS) (nomark _)) (pw_or1 (pt_cmpR op_gt (pv 4) (pe_glob (v := .int 4) rfl g_MOST_STAGES r_MOST_STAGES) (nomark _)))))) (pss_one (ps_raise throws_cx rfl rfl g_NoBox x_NoBox)) pss_nil) (PSs.nox (pss_cons (ps_set (i := 5) nd rfl (Or.inl rfl) (pe_callC c_mixed hr (pa_cons (pe_comp (ls := ["weight", "stand"]) (M := ["self", "price", "rows", "end_count", "stage_count", "behind", "level"]) rfl (CompOk.of (by rfl)) (NL.of (by rfl)) (pi_list (pv 2)) (fun _ _ _ _ => ⟨(pg_tupK (K := K) (n := 2) rfl rfl (pgs_cons (pg_name (i := 0) (nd_of (by rfl)) rfl (Or.inl rfl)) (pgs_cons (pg_name (i := 1) (nd_of (by rfl)) rfl (Or.inl rfl)) pgs_nil))), pts_nil, (pe_tup (pa_cons (pv 0) (pa_cons (pe_either (pe_meth0 (pv 1) cfE m_Ec G_caps hr b_caps .nil pass0) (pe_meth0 (pv 1) cfS m_Sc G_caps hr b_caps .nil pass0)) pa_nil)))⟩)) pa_nil))) (pss_cons (ps_set (i := 6) nd rfl (Or.inl rfl) (pe_callC c_level_for hr (pa_cons (pv 5) (pa_cons (pv 1) pa_nil)))) (pss_cons (ps_expr (pe_clsm rfl g_Stand mS_i G_StI hr b_StI .nil pass0 (pa_cons (pv 0) (pa_cons (pv 3) (pa_cons (pv 4) (pa_cons (pv 6) (pa_cons (pe_callC c_capped hr (pa_cons (pv 5) (pa_cons (pv 6) pa_nil))) pa_nil))))))) (pss_cons (ps_fld (pv 0) (pv 1) rfl) (pss_one (ps_fld (pv 0) (pe_callTy (call_tuple_ofK (K := K) rfl) rfl z_tuple bt_tuple (pa_cons (pv 2) pa_nil)) rfl))))))))))), ?_⟩
  rcases h with ⟨x, dx, a, p, ps, ys, rs, d, j, rfl, hx, g0, p0, p9, hq⟩ | ⟨x, v, u, rfl, h, q⟩
  rotate_left
  · rcases h with h | ⟨h, h2⟩
    · refine ⟨_, rfl, v, 0, 1000000000, false, rfl, h, ?_⟩
      refine ⟨_, rfl, ?_⟩
      exact iteT (iteT (q H (Same.refl _)))
    · refine ⟨_, rfl, v, 0, 1000000000, true, rfl, h, ?_⟩
      refine ⟨_, rfl, ?_⟩
      refine iteF ?_
      refine ⟨_, rfl, u, false, rfl, h2, fun H1 s1 => ?_⟩
      refine ⟨_, rfl, ?_⟩
      exact iteT (q H1 s1)
  have ha := g0.ha
  have R := g0.R
  have ne := g0.ne
  have l4 := g0.l4
  have ww := g0.ww
  have hl : (ps.map V.ref).length = rs.length := by rw [List.length_map]; exact R.lp
  have n1 : 1 ≤ rs.length := List.length_pos_iff.mpr ne
  refine ⟨_, rfl, .int p, 0, 1000000000, true, rfl, IsW.yes p0 p9, ?_⟩
  refine ⟨_, rfl, ?_⟩
  refine iteF ?_
  refine ⟨_, rfl, .ref a, true, rfl, SRows.good g0, fun H1 s1 => ?_⟩
  refine ⟨_, rfl, ?_⟩
  refine iteF ?_
  have R1 := R.kp (Same.kp s1)
  have ha1 := s1 _ _ ha
  refine ⟨_, rfl, a, rfl, ⟨_, SqL.of ha1⟩, fun D hD => ?_⟩
  refine comp_list (xs := ps.map V.ref) (fun i τ H' => ∃ v0 v1 cs, τ = [v0, v1, some (.ref x), some (.int p), some (.ref a), none, none, none, none] ∧ Same H1 H' ∧ H' D = some (.lst (Is cs)) ∧ cs = (rs.take i).map (fun t => Sd.nE (d + 1) t.2) ∧ ∀ n ∈ cs, 1 ≤ n ∧ True) ⟨none, none, [], rfl, same_new hD _, upd_same, rfl, fun _ h => nomatch h⟩ ?keepA ?turnA ?doneA
  case keepA =>
    rintro i τ H' hi ⟨v0, v1, cs, rfl, hs, _⟩
    exact SqL.of (hs _ _ ha1)
  case turnA =>
    rintro i mm v τ H' hm hi hv ⟨v0, v1, cs, rfl, hs, hD', nl, hn⟩
    obtain ⟨q1, y, t, _, _, er, rfl, h1, st, mem⟩ := R1.at_ hv
    refine ⟨q1, _, rfl, SqT.of (hs _ _ h1), rfl, _, _, rfl, _, _, rfl, rfl, ?_⟩
    refine tyes_if ?_
    refine meth2 (st.same hs) (fun _ _ _ _ _ => rfl) (fun _ _ _ _ _ _ => rfl) (fun R h => ⟨_, rfl, h⟩) ?_
    refine ⟨y, t.2, d, _, rfl, st.same hs, fun n n1 n2 n3 => ?_⟩
    refine comp_next hm hi hD' (by rw [is_length, nl, List.length_map]; exact small1000 (Nat.le_trans (List.length_take_le _ _) (by rw [hl] at hi; omega))) ⟨_, _, cs ++ [n], rfl, hs.upd_new hD _, by rw [upd_same, is_snoc], by rw [nl, take_snoc er, List.map_append, n3]; rfl, fun z hz => ?_⟩
    rcases List.mem_append.mp hz with u | u
    · exact hn z u
    · rw [List.mem_singleton.mp u]
      exact ⟨n1, trivial⟩
  case doneA =>
  rintro τ H2 ⟨v0, v1, ns, rfl, s2, hD2, nl, hn⟩
  have nx0 := nl
  rw [hl, List.take_length] at nx0
  have nl : ns.length = rs.length := by rw [nx0, List.length_map]
  have sn := sum_ge hn
  refine ⟨D, ns, rfl, SqL.of hD2, ?_⟩
  have R2 := R1.kp (Same.kp s2)
  have ha2 := s2 _ _ ha1
  refine ⟨_, rfl, a, rfl, ⟨_, SqL.of ha2⟩, fun D2 hD2 => ?_⟩
  refine comp_list (xs := ps.map V.ref) (fun i τ H' => ∃ v0 v1 cs, τ = [v0, v1, some (.ref x), some (.int p), some (.ref a), some (.int ns.sum), none, none, none] ∧ Same H2 H' ∧ H' D2 = some (.lst (Is cs)) ∧ cs = (rs.take i).map (fun t => Sd.nS (d + 1) t.2) ∧ ∀ n ∈ cs, 0 ≤ n ∧ n ≤ (d : Int)) ⟨none, none, [], rfl, same_new hD2 _, upd_same, rfl, fun _ h => nomatch h⟩ ?keepB ?turnB ?doneB
  case keepB =>
    rintro i τ H' hi ⟨v0, v1, cs, rfl, hs, _⟩
    exact SqL.of (hs _ _ ha2)
  case turnB =>
    rintro i mm v τ H' hm hi hv ⟨v0, v1, cs, rfl, hs, hD', nl, hn⟩
    obtain ⟨q1, y, t, _, _, er, rfl, h1, st, mem⟩ := R2.at_ hv
    refine ⟨q1, _, rfl, SqT.of (hs _ _ h1), rfl, _, _, rfl, _, _, rfl, rfl, ?_⟩
    refine tyes_if ?_
    refine meth2 (st.same hs) (fun _ _ _ _ _ => rfl) (fun _ _ _ _ _ _ => rfl) (fun R h => ⟨_, rfl, h⟩) ?_
    refine ⟨y, t.2, d, _, rfl, st.same hs, fun n n1 n2 n3 => ?_⟩
    refine comp_next hm hi hD' (by rw [is_length, nl, List.length_map]; exact small1000 (Nat.le_trans (List.length_take_le _ _) (by rw [hl] at hi; omega))) ⟨_, _, cs ++ [n], rfl, hs.upd_new hD2 _, by rw [upd_same, is_snoc], by rw [nl, take_snoc er, List.map_append, n3]; rfl, fun z hz => ?_⟩
    rcases List.mem_append.mp hz with u | u
    · exact hn z u
    · rw [List.mem_singleton.mp u]
      exact ⟨n1, n2⟩
  case doneB =>
  rintro τ H3 ⟨v0, v1, ms, rfl, s3, hD3, ml, hms⟩
  have kx0 := ml
  rw [hl, List.take_length] at kx0
  have ml : ms.length = rs.length := by rw [kx0, List.length_map]
  refine ⟨D2, ms, rfl, SqL.of hD3, fun e => by rw [e] at ml; have : (0 : Nat) = rs.length := ml; omega, fun mx hmx hmax => ?_⟩
  have kx1 : 1 + mx = Sd.nS (d + 1 + 1) (.st p rs) := by rw [Sd.mxL_of (fun x hx => (hms x hx).1) hmx hmax, kx0]; rfl
  have nx1 : ns.sum = Sd.nE (d + 1 + 1) (.st p rs) := by rw [nx0]; rfl
  have mb := hms mx hmx
  refine ⟨_, _, rfl, rfl, ?_⟩
  refine ⟨_, rfl, _, _, rfl, rfl, _, rfl, ?_⟩
  rcases hq with ⟨big, qE⟩ | ⟨m, hm, m12, d4, hTb, q⟩
  · have s13 := (s1.trans s2).trans s3
    by_cases h12 : (12 : Int) < ns.sum
    · refine ifT (decide_eq_true h12) ?_
      refine iteT ?_
      exact qE _ s13
    · refine ifF (decide_eq_false h12) ?_
      refine ⟨_, rfl, _, _, rfl, rfl, _, rfl, ?_⟩
      refine ifT (decide_eq_true (show (4 : Int) < 1 + mx by omega)) ?_
      exact qE _ s13
  have okS : Sd.Ok (.st p rs) (d + 1) m := .st p0 p9 ne l4 ww (fun r hr => by obtain ⟨i, y, a, b⟩ := at_len R.ly hr; exact (R.sub i y r a b).ok) hm
  have jl : ns.sum ≤ (m : Int) := by have := okS.nE (d + 1 + 1) (Nat.lt_succ_self _); rw [nx0]; exact this
  refine ifF (decide_eq_false (by omega)) ?_
  refine ⟨_, rfl, _, _, rfl, rfl, _, rfl, ?_⟩
  refine ifF (decide_eq_false (by omega)) ?_
  have s13 := (s1.trans s2).trans s3
  have R3 := R2.kp (Same.kp s3)
  have ha3 := s3 _ _ ha2
  refine ⟨_, rfl, a, rfl, ⟨_, SqL.of ha3⟩, fun D3 hD3n => ?_⟩
  refine comp_list (xs := ps.map V.ref) (fun i τ H' => ∃ v0 v1 es, τ = [v0, v1, some (.ref x), some (.int p), some (.ref a), some (.int ns.sum), some (.int (1 + mx)), none, none] ∧ Same H3 H' ∧ EntsAt H' D3 es ∧ Sd.Al d es (rs.take i) ∧ Ae d j es (rs.take i) ∧ es.length = i ∧ ∀ e ∈ es, e.a ≠ D3 ∧ (1 ≤ e.w ∧ e.w ≤ 1000)) ⟨none, none, [], rfl, same_new hD3n _, ⟨upd_same, fun _ h => nomatch h⟩, .nil, .nil, rfl, fun _ h => nomatch h⟩ ?keepC ?turnC ?doneC
  case keepC =>
    rintro i τ H' hi ⟨v0, v1, es, rfl, hs, _⟩
    exact SqL.of (hs _ _ ha3)
  case turnC =>
    rintro i mm v τ H' hm' hi hv ⟨v0, v1, es, rfl, hs, hE, al, ae, el, he⟩
    obtain ⟨q1, y, t, _, _, er, rfl, h1, st, mem⟩ := R3.at_ hv
    refine ⟨q1, _, rfl, SqT.of (hs _ _ h1), rfl, _, _, rfl, _, _, rfl, rfl, ?_⟩
    refine tyes_if ?_
    refine ⟨_, rfl, ?_⟩
    refine meth2 (st.same hs) (fun _ _ _ _ _ => rfl) (fun _ _ _ _ _ _ => rfl) (fun R h => ⟨_, rfl, h⟩) ?_
    refine ⟨y, t.2, d, _, rfl, st.same hs, fun r H4 xs s4 hr4 hT4 gs so ⟨lv4, mt4, _⟩ => ?_⟩
    refine ⟨sz2, fun T hT => ?_⟩
    have n5 := same_new hT (.tup [.int t.1, .ref r])
    have hE5 := (hE.same s4).same n5
    have nr : r ≠ D3 := fun e => by rw [e, hE.lst] at hr4; cases hr4
    refine comp_next hm' hi hE5.lst (by rw [erefs_length]; exact small1000 (by rw [hl] at hi; omega)) ⟨_, _, es ++ [⟨T, t.1, r, xs⟩], rfl, ((hs.trans s4).trans n5).upd_new hD3n _, ⟨by rw [upd_same, erefs_snoc], fun e h => ?_⟩, by rw [take_snoc er]; exact al.snoc rfl ⟨lv4, mt4⟩, by rw [take_snoc er]; exact ae.snoc gs, by rw [List.length_append, el]; rfl, fun e h => ?_⟩
    · rcases List.mem_append.mp h with u | u
      · exact ent_upd hE5.lst (he e u).1 (hE5.ents e u)
      · rw [List.mem_singleton.mp u]
        exact ent_upd hE5.lst nr ⟨upd_same, hT4.same n5⟩
    · rcases List.mem_append.mp h with u | u
      · exact he e u
      · rw [List.mem_singleton.mp u]
        exact ⟨nr, ww t mem⟩
  case doneC =>
  rintro τ H4 ⟨v0, v1, es, rfl, s4, hE, al, ae, el, he⟩
  rw [hl, List.take_length] at al ae
  rw [hl] at el
  have ene : es ≠ [] := fun e => by rw [e] at el; have : (0 : Nat) = rs.length := el; omega
  have gall := ae.all fun t ht => Nat.le_trans (Sd.f_le hm t ht) m12
  have gm0 := gm_of (show d ≤ 4 by omega) ene (by omega) (fun e h => (he e h).2) gall
  have m1 : 1 ≤ m := okS.m1
  have tb4 : TbOk Pt lamP lamQ H4 := hTb.same (s13.trans s4)
  refine ⟨D3, es, 12, wB d 12, kK d, rfl, hE, gm0, tb4, fun B H5 xs s5 tb5 _ hB5 g5 o5 l5 => ?_⟩
  have Mx1 := mx_of ae.b hm m1 (Nat.le_trans l5 (ae.b.p _)) g5
  refine ⟨_, rfl, _, rfl, B, xs, p, m, _, kK d, rfl, hB5, Mx1.g, Mx1.cp d4 m12, o5.tab.lt, p0, p9, fun lv H6 l u s6 hl6 u1 u2 f hLv => ?_⟩
  have Lx1 := lx_of Mx1 d4 m12 p0 p9 u1 u2 f
  have tb6 := tb5.same s6
  refine ⟨_, rfl, _, rfl, _, rfl, _, rfl, _, rfl, _, rfl, B, lv, xs, l, m, _, _, _, rfl, hB5.same s6, Lx1.g, Lx1.c, hl6, Lx1.f, tb6, fun cr H7 zs s7 tb7 _ hZ g7 o7 => ?_⟩
  have sT : SameT Pt H H7 := ((((s13.trans s4).toT).trans s5).trans s6.toT).trans s7
  have hx7 : H7 x = some (.ins c.s dx []) := sT.get hTb hx fun _ z => nomatch z
  have ha7 : H7 a = some (.lst (ps.map V.ref)) := sT.get hTb ha fun _ z => nomatch z
  have hl7 : H7 lv = some (.tup [.int l.1, .int l.2]) := s7.get tb6 hl6 fun _ z => nomatch z
  have nax : a ≠ x := ne_of ha7 hx7 fun z => nomatch z
  refine ⟨x, dx, c.s, lv, cr, ns.sum, 1 + mx, zs, rfl, .inr rfl, hx7, hZ, fun cp H8 cn k8 hx8 hc8 => ?_⟩
  have ncx : cp ≠ x := fun e => by rw [e, hx8] at hc8; cases hc8
  refine ⟨_, rfl, _, rfl, x, c.s, dx, _, rfl, hx8, ck.cs, ck.s5, (by show 4 < 1000; decide), ?_⟩
  refine ⟨_, rfl, a, _, rfl, .inl ⟨SqL.of (by rw [upd_ne nax]; exact k8 _ _ nax ha7), fun r hr0 => ?_⟩⟩
  have nrx : r ≠ x := fun e => by rw [e, upd_same] at hr0; cases hr0
  refine ⟨_, rfl, x, c.s, dx, _, rfl, by rw [upd_ne (Ne.symm nrx)]; exact upd_same, ck.cs, ck.s6, (by show 5 < 1000; decide), ?_⟩
  rw [upd_ne nrx] at hr0
  have kx : ∀ b o, b ≠ x → H8 b = some o → upd (upd (upd H8 x (.ins c.s dx (putF "price" (.int p) (fB ns.sum (1 + mx) lv cp)))) r (.tup (ps.map V.ref))) x (.ins c.s dx (fS ns.sum (1 + mx) lv cp p r)) b = some o := fun b o nb e => by
    rw [upd_ne nb, upd_ne (ne_of_none e hr0), upd_ne nb]
    exact e
  have hr9 : upd (upd (upd H8 x (.ins c.s dx (putF "price" (.int p) (fB ns.sum (1 + mx) lv cp)))) r (.tup (ps.map V.ref))) x (.ins c.s dx (fS ns.sum (1 + mx) lv cp p r)) r = some (.tup (ps.map V.ref)) := by rw [upd_ne nrx]; exact upd_same
  have hx9 : upd (upd (upd H8 x (.ins c.s dx (putF "price" (.int p) (fB ns.sum (1 + mx) lv cp)))) r (.tup (ps.map V.ref))) x (.ins c.s dx (fS ns.sum (1 + mx) lv cp p r)) x = some (.ins c.s dx (fS ns.sum (1 + mx) lv cp p r)) := upd_same
  show Q .non (upd (upd (upd H8 x (.ins c.s dx (putF "price" (.int p) (fB ns.sum (1 + mx) lv cp)))) r (.tup (ps.map V.ref))) x (.ins c.s dx (fS ns.sum (1 + mx) lv cp p r)))
  generalize upd (upd (upd H8 x (.ins c.s dx (putF "price" (.int p) (fB ns.sum (1 + mx) lv cp)))) r (.tup (ps.map V.ref))) x (.ins c.s dx (fS ns.sum (1 + mx) lv cp p r)) = HF at kx hr9 hx9 ⊢
  have sX : SameX x H7 HF := fun b o nb e => kx b o nb (k8 b o nb e)
  have kF : Kp H7 HF := sX.kp hx7
  have RF := R.kp ((SameT.kp sT hTb).trans kF)
  refine q HF (fun b o nb nP e => sX b o nb (sT b o nP e)) (TbOk.sameX tb7 sX hx7) ?_
  exact .st hx9 ⟨kF.tup hl7, ⟨kx _ _ ncx hc8, fun y hy => (hZ.rows y hy).kp kF⟩, gs_of Lx1 g7, o7.tab.lt, by omega, by omega, by omega, by omega, al_mt al gm0 (by have := (Sd.wt_pos ne ww l4).1; omega) o5 Mx1.g Lx1.f.fr.pos hLv o7, lw_of Lx1 d4 m12, nx1, kx1⟩ hr9 RF.lp RF.ly RF.row RF.sub p0 p9 ne l4 ww hm
theorem mod_in (x : Int) {m : Int} (h : 0 < m) : 0 ≤ x % m ∧ x % m < m := ⟨Int.emod_nonneg x (Int.ne_of_gt h), Int.emod_lt_of_pos x h⟩
theorem no_fn {f : Addr} {fd : FuncData} {ps : List Str} {sp : Sp} (h : ∀ vs H Q E, ¬ sp vs H Q E) (m : Nat) : FnOk P w K mg base CX0 m f fd ps sp := ⟨fun vs H Q E z => absurd z (h vs H Q E), fun A outer s H args us vs Q E _ _ _ _ z => absurd z (h vs H Q E)⟩
theorem ok__law_cell_at {n : Nat} {f : Addr} {fd : FuncData} (F : Fun K "_law_cell_at" "_law_cell_at" (top 36) f fd) (z_len : mg "len" = none) : FnOk P w K mg base CX0 (n + 1) f fd ["_law_script", "_law_k"] (spCA1 K) := by
  refine F.ok sc__law_cell_at (fun vs H Q E h => ?_) (fun cdv A outer s H vs Q E hr h => ?_)
  · obtain ⟨a, ns, i, rfl, _⟩ := h
    rfl
  obtain ⟨a, ns, i, rfl, hS, i0, q⟩ := h
  have nd := sc__law_cell_at.nd
  refine ⟨_, (pss_cons (ps_if (pt_cmpR op_lt (pv 1) (pe_callB call_len_seq rfl z_len bt_len (pa_cons (pv 0) pa_nil)) (nomark _)) (pss_one (ps_ret (pe_ix ix_list (pv 0) (pv 1) (fun _ _ => rfl)))) pss_nil) (pss_one (ps_ret pe_int))), ?_⟩
  have hl : (ns.map V.int).length = ns.length := List.length_map _
  refine ⟨_, rfl, _, rfl, a, _, rfl, .inl hS, _, _, rfl, rfl, _, rfl, ?_⟩
  refine ite2 (fun c => ?_) (fun c => ?_)
  · have c' : i < (((ns.map V.int).length : Nat) : Int) := of_decide_eq_true c
    rw [hl] at c'
    exact ⟨_, rfl, _, rfl, a, _, _, _, rfl, rfl, hS, atI_ints i0 c', q _⟩
  · exact q _
theorem ok__law_mixed {n : Nat} {f : Addr} {fd : FuncData} (F : Fun K "_law_mixed" "_law_mixed" (top 37) f fd) : FnOk P w K mg base CX0 (n + 1) f fd ["_law_cell", "_law_k"] spMx1 := by
  refine F.ok sc__law_mixed (fun vs H Q E h => ?_) (fun cdv A outer s H vs Q E hr h => ?_)
  · obtain ⟨c, i, rfl, _⟩ := h
    rfl
  obtain ⟨c, i, rfl, i0, i9, q⟩ := h
  have nd := sc__law_mixed.nd
  refine ⟨_, (pss_cons (ps_set (i := 2) nd rfl (Or.inl rfl) (pe_op op_mod (pe_op op_add (pe_op op_add (pe_op op_mulB (pe_op op_mod (pv 0) pe_int) pe_int) (pe_op op_mul pe_int (pv 1))) pe_int) pe_int)) (pss_cons (ps_set (i := 2) nd rfl (Or.inl rfl) (pe_op op_mod (pe_op op_add (pe_op op_mulB (pv 2) (pv 2)) (pe_op op_mul pe_int (pv 1))) pe_int)) (pss_one (ps_ret (pe_op op_mod (pe_op op_mulB (pv 2) (pv 2)) pe_int))))), ?_⟩
  have b1 : ∀ x : Int, 0 ≤ x → x < 2147483648 → intBits x ≤ 64 := fun x h1 h2 => PySem.intBits_le_64 (by omega) (by omega)
  have m1 := mod_in c (show (0 : Int) < 2147483647 by decide)
  refine ⟨_, rfl, _, _, rfl, rfl, (by show (0 : Int) < 2147483647; decide), _, _, rfl, rfl, mulOk (b1 _ m1.1 (by omega)) (b1 48271 (by decide) (by decide)) (by decide), _, rfl, _, _, rfl, rfl, .inl ⟨by decide, by decide⟩, _, _, rfl, rfl, _, _, rfl, rfl, _, _, rfl, rfl, (by show (0 : Int) < 2147483647; decide), ?_⟩
  have n1 := mod_in (c % 2147483647 * 48271 + 7919 * i + 1) (show (0 : Int) < 2147483647 by decide)
  have nb := b1 _ n1.1 (Int.lt_trans n1.2 (by decide))
  refine ⟨_, rfl, _, rfl, _, _, rfl, rfl, mulOk nb nb (by decide), _, rfl, _, _, rfl, rfl, .inl ⟨by decide, by decide⟩, _, _, rfl, rfl, _, _, rfl, rfl, (by show (0 : Int) < 2147483629; decide), ?_⟩
  have k1 := mod_in (((c % 2147483647 * 48271 + 7919 * i + 1) % 2147483647) * ((c % 2147483647 * 48271 + 7919 * i + 1) % 2147483647) + 7 * i) (show (0 : Int) < 2147483629 by decide)
  have kb := b1 _ k1.1 (Int.lt_trans k1.2 (by decide))
  refine ⟨_, rfl, _, rfl, _, _, rfl, rfl, mulOk kb kb (by decide), _, _, rfl, rfl, (by show (0 : Int) < 2147483587; decide), ?_⟩
  exact q _ (Int.emod_nonneg _ (by decide)) (Int.emod_lt_of_pos _ (by decide))
theorem pick15 {v0 v1 v2 v3 v4 v5 v6 v7 v8 v9 v10 v11 v12 v13 v14 : V} {m : Int} {R : V → Prop} (h0 : R v0) (h1 : R v1) (h2 : R v2) (h3 : R v3) (h4 : R v4) (h5 : R v5) (h6 : R v6) (h7 : R v7) (h8 : R v8) (h9 : R v9) (h10 : R v10) (h11 : R v11) (h12 : R v12) (h13 : R v13) (h14 : R v14) : ∃ v, atI [v0, v1, v2, v3, v4, v5, v6, v7, v8, v9, v10, v11, v12, v13, v14] (m % 15) = some v ∧ R v := by
  have a1 := Int.emod_nonneg m (show (15 : Int) ≠ 0 by decide)
  have a2 := Int.emod_lt_of_pos m (show (0 : Int) < 15 by decide)
  rcases (by omega : m % 15 = 0 ∨ m % 15 = 1 ∨ m % 15 = 2 ∨ m % 15 = 3 ∨ m % 15 = 4 ∨ m % 15 = 5 ∨ m % 15 = 6 ∨ m % 15 = 7 ∨ m % 15 = 8 ∨ m % 15 = 9 ∨ m % 15 = 10 ∨ m % 15 = 11 ∨ m % 15 = 12 ∨ m % 15 = 13 ∨ m % 15 = 14) with e | e | e | e | e | e | e | e | e | e | e | e | e | e | e <;> rw [e]
  · exact ⟨_, rfl, h0⟩
  · exact ⟨_, rfl, h1⟩
  · exact ⟨_, rfl, h2⟩
  · exact ⟨_, rfl, h3⟩
  · exact ⟨_, rfl, h4⟩
  · exact ⟨_, rfl, h5⟩
  · exact ⟨_, rfl, h6⟩
  · exact ⟨_, rfl, h7⟩
  · exact ⟨_, rfl, h8⟩
  · exact ⟨_, rfl, h9⟩
  · exact ⟨_, rfl, h10⟩
  · exact ⟨_, rfl, h11⟩
  · exact ⟨_, rfl, h12⟩
  · exact ⟨_, rfl, h13⟩
  · exact ⟨_, rfl, h14⟩
theorem szs {n : Nat} (h : n ≤ 1000) : n ≤ sizeLine := Nat.le_of_lt (small1000 h)
theorem IsW.any {H : Hp} (lo hi i : Int) : ∃ b, IsW H lo hi (.int i) b := ⟨_, .int i⟩
theorem p60 : CPow 10 60 := ⟨by decide, by decide, by decide⟩
theorem b60 : intBits (10 ^ (60 : Int).toNat) ≤ 200 := by decide +kernel
theorem ok__law_thing {n : Nat} {f : Addr} {fd : FuncData} (F : Fun K "_law_thing" "_law_thing" (top 40) f fd) {g__law_mixed : Addr} {gd__law_mixed : FuncData} (c__law_mixed : Cal P w K mg base n "_law_mixed" ["_law_cell", "_law_k"] spMx1 g__law_mixed gd__law_mixed) : FnOk P w K mg base CX0 (n + 1) f fd ["_law_cell", "_law_low", "_law_high"] spThing := by
  refine F.ok sc__law_thing (fun vs H Q E h => ?_) (fun cdv A outer s H vs Q E hr h => ?_)
  · obtain ⟨cc, lo, hi, rfl, _⟩ := h
    rfl
  obtain ⟨cc, lo, hi, rfl, h0, h1, h2, q⟩ := h
  have nd := sc__law_thing.nd
  refine ⟨_, QSs.h (qss_cons (qs_set (i := 3) nd rfl (Or.inl rfl) (qe_callC c__law_mixed hr (qa_cons (qv 0) (qa_cons qe_int qa_nil)))) (qss_cons (qs_set (i := 4) nd rfl (Or.inl rfl) (qe_lst (qa_cons (qv 1) (qa_cons (qv 2) (qa_cons (qe_op op_sub (qv 1) qe_int) (qa_cons (qe_op op_add (qv 2) qe_int) (qa_cons (qe_op op_add (qv 1) (qe_op op_mod (qv 3) (qe_op op_add (qe_op op_sub (qv 2) (qv 1)) qe_int))) (qa_cons (qe_op op_add (qv 2) (qv 3)) (qa_cons (qe_op op_sub (qv 1) (qv 3)) qa_nil))))))))) (qss_cons (qs_set (i := 4) nd rfl (Or.inl rfl) (qe_op op_cat (qv 4) (qe_lst (qa_cons qe_bl (qa_cons qe_bl (qa_cons qe_non (qa_cons qe_str (qa_cons (qe_tup (qa_cons qe_int qa_nil)) (qa_cons (qe_lst (qa_cons qe_int qa_nil)) (qa_cons qe_dnewK (qa_cons (qe_op op_sub (qv 1) (qe_op op_mulB (qv 3) (qe_op op_pow qe_int qe_int))) qa_nil))))))))))) (qss_one (qs_ret (qe_ix ix_list (qv 4) (qe_op op_mod (qe_callC c__law_mixed hr (qa_cons (qv 0) (qa_cons qe_int qa_nil))) qe_int) (fun _ _ => rfl))))))), ?_⟩
  refine ⟨_, rfl, cc, 2, rfl, by decide, by decide, fun j j0 jx => ?_⟩
  have jb : intBits j ≤ 40 := PySem.intBits_le_iff.mpr (by rw [show (2 : Nat) ^ 40 = 1099511627776 from rfl]; omega)
  refine ⟨_, rfl, _, rfl, _, rfl, _, _, rfl, rfl, _, rfl, _, _, rfl, rfl, _, rfl, _, rfl, _, rfl, _, rfl, _, _, rfl, rfl, _, _, rfl, rfl, _, _, rfl, rfl, (by show (0 : Int) < hi - lo + 1; omega), _, _, rfl, rfl, _, rfl, _, rfl, _, _, rfl, rfl, _, rfl, _, rfl, _, _, rfl, rfl, szs (by decide : 7 ≤ 1000), fun l1 e1 => ?_⟩
  have t1 := same_new e1 (.lst [V.int lo, V.int hi, V.int (lo - 1), V.int (hi + 1), V.int (lo + j % (hi - lo + 1)), V.int (hi + j), V.int (lo - j)])
  refine ⟨_, rfl, sz1, fun l2 e2 => ?_⟩
  have t2 := same_new e2 (.tup [V.int 1])
  refine ⟨sz1, fun l3 e3 => ?_⟩
  have t3 := same_new e3 (.lst [V.int 1])
  intro l4 e4
  have t4 := same_new e4 (.dK [])
  refine ⟨_, rfl, _, rfl, _, _, rfl, rfl, p60, _, _, rfl, rfl, mulOk jb b60 (by decide), _, _, rfl, rfl, szs (by decide : 8 ≤ 1000), fun l5 e5 => ?_⟩
  have t5 := same_new e5 (.lst [V.bl true, V.bl false, V.non, V.str "1", V.ref l2, V.ref l3, V.ref l4, V.int (lo - j * 10 ^ (60 : Int).toNat)])
  refine ⟨l1, l5, _, _, rfl, rfl, (t2.trans (t3.trans (t4.trans t5))) _ _ upd_same, upd_same, szs (by decide : 7 + 8 ≤ 1000), fun l6 e6 => ?_⟩
  have t6 := same_new e6 (.lst ([V.int lo, V.int hi, V.int (lo - 1), V.int (hi + 1), V.int (lo + j % (hi - lo + 1)), V.int (hi + j), V.int (lo - j)] ++ [V.bl true, V.bl false, V.non, V.str "1", V.ref l2, V.ref l3, V.ref l4, V.int (lo - j * 10 ^ (60 : Int).toNat)]))
  refine ⟨_, rfl, _, rfl, cc, 1, rfl, by decide, by decide, fun j1 j10 j1x => ?_⟩
  obtain ⟨v, hv, b, iw⟩ := pick15 (m := j1) (R := fun v => ∃ b, IsW _ lo hi v b) (IsW.any lo hi lo) (IsW.any lo hi hi) (IsW.any lo hi (lo - 1)) (IsW.any lo hi (hi + 1)) (IsW.any lo hi (lo + j % (hi - lo + 1))) (IsW.any lo hi (hi + j)) (IsW.any lo hi (lo - j)) ⟨_, .bl true⟩ ⟨_, .bl false⟩ ⟨_, .no (oth (fun K => .non) fun K => rfl)⟩ ⟨_, .no (oth (fun K => .str "1") fun K => rfl)⟩
    ⟨_, .no (oth (fun K => .tup ((t3.trans (t4.trans (t5.trans t6))) _ _ upd_same)) fun K => rfl)⟩ ⟨_, .no (oth (fun K => .lst ((t4.trans (t5.trans t6)) _ _ upd_same)) fun K => rfl)⟩ ⟨_, .no (oth (fun K => .dK ((t5.trans t6) _ _ upd_same)) fun K => rfl)⟩ (IsW.any lo hi (lo - j * 10 ^ (60 : Int).toNat))
  refine ⟨_, _, rfl, rfl, (by show (0 : Int) < 15; decide), l6, _, _, _, rfl, rfl, SqL.of upd_same, hv, ?_⟩
  exact q v b _ (t1.trans (t2.trans (t3.trans (t4.trans (t5.trans t6))))) iw
theorem ok__law_is_number {n : Nat} {f : Addr} {fd : FuncData} (F : Fun K "_law_is_number" "_law_is_number" (top 41) f fd) (z_isinstance : mg "isinstance" = none) (z_bool : mg "bool" = none) (z_int : mg "int" = none) : FnOk P w K mg base CX0 (n + 1) f fd ["_law_thing_here", "_law_low", "_law_high"] spIsWx := by
  refine F.ok sc__law_is_number (fun vs H Q E h => ?_) (fun cdv A outer s H vs Q E hr h => ?_)
  · obtain ⟨v, lo, hi, b, rfl, _⟩ := h
    rfl
  obtain ⟨v, lo, hi, b, rfl, h, q⟩ := h
  have nd := sc__law_is_number.nd
  refine ⟨_, (pss_one (ps_ret (pe_and (pe_callB (call_isinst (T := "int")) rfl z_isinstance bt_isinstance (pa_cons (pv 0) (pa_cons (pe_bltn (v := .ty "int") rfl z_int bt_int rfl) pa_nil))) (pe_and (pe_not (pe_callB (call_isinst (T := "bool")) rfl z_isinstance bt_isinstance (pa_cons (pv 0) (pa_cons (pe_bltn (v := .ty "bool") rfl z_bool bt_bool rfl) pa_nil)))) (pe_one (pe_chain op_le op_le (pv 1) (pv 0) (pv 2))))))), ?_⟩
  cases h with
  | no h =>
    obtain ⟨t, ht, hk⟩ := h K
    refine ⟨_, rfl, _, _, _, rfl, ht, hk, _, rfl, ?_⟩
    exact iteF q
  | bl c =>
    refine ⟨_, rfl, _, _, _, rfl, .bl c, kit_bool_int, _, rfl, ?_⟩
    refine iteT ?_
    refine ⟨_, rfl, _, _, _, rfl, .bl c, kit_same _, _, rfl, ?_⟩
    refine ⟨_, rfl, ?_⟩
    exact iteF q
  | int i =>
    refine ⟨_, rfl, _, _, _, rfl, .int i, kit_same _, _, rfl, ?_⟩
    refine iteT ?_
    refine ⟨_, rfl, _, _, _, rfl, .int i, kit_int_bool, _, rfl, ?_⟩
    refine ⟨_, rfl, ?_⟩
    refine iteT ?_
    refine ⟨_, rfl, _, rfl, _, _, rfl, rfl, _, rfl, ?_⟩
    by_cases h1 : lo ≤ i
    · refine ifT (decide_eq_true h1) ?_
      refine ⟨_, rfl, _, _, rfl, rfl, ?_⟩
      rw [decide_eq_true h1] at q
      exact q
    · refine ifF (decide_eq_false h1) ?_
      rw [decide_eq_false h1] at q
      exact q
theorem ok__law_refused {n : Nat} {f : Addr} {fd : FuncData} (F : Fun K "_law_refused" "_law_refused" (top 42) f fd) {c : Cs} {C_NoBox iE iS : Addr} {dE dS : FuncData} {kE kS : Nat} (M_End : Mk K c.e iE) (G_End : FnOk P w K mg base (CXr P w) kE iE dE ["self", "worth"] (spEIX c C_NoBox)) (b_End : Binds K dE ["self", "worth"] []) (g_End : mg "End" = some (.ref c.e)) (hn_End : kE + 1 ≤ n) (M_Stage : Mk K c.s iS) (G_Stage : FnOk P w K mg base (CXr P w) kS iS dS ["self", "price", "rows"] (spSIX c K C_NoBox Pt lamP)) (b_Stage : Binds K dS ["self", "price", "rows"] []) (g_Stage : mg "Stage" = some (.ref c.s)) (hn_Stage : kS + 1 ≤ n) {g_need_boxes : Addr} {gd_need_boxes : FuncData} (c_need_boxes : CalX P w K mg base n "need_boxes" ["boxes"] (spNB c K C_NoBox) g_need_boxes gd_need_boxes) (g_NoBox : mg "NoBox" = some (.ref C_NoBox)) (ex : PySem.W.exmOne K (.ref C_NoBox) (.ref C_NoBox) = some true) : FnOk P w K mg base CX0 (n + 1) f fd ["_law_what", "_law_one_here", "_law_other"] (spRefd c K C_NoBox Pt lamP) := by
  refine F.ok0 sc__law_refused (fun vs H Q E h => ?_) (fun cdv A outer s H vs Q E hr h => ?_)
  · obtain ⟨z, v, u, b, rfl, _⟩ := h
    rfl
  obtain ⟨z, v, u, b, rfl, h, tb, qt, qf⟩ := h
  have nd := sc__law_refused.nd
  refine ⟨_, (pss0_cons (PS.zero (ps_set (i := 3) nd rfl (Or.inl rfl) pe_non)) (pss0_cons (ps0_try (i := 4) rfl rfl rfl rfl nd rfl rfl rfl rfl g_NoBox (fun G => (pss_one (ps_if (pt_cmpR op_eq (pv 0) pe_str (nomark _)) (pss_one (ps_expr (pe_make M_End G_End (hr.mono hn_End) rfl g_End b_End .nil (passes_try rfl rfl rfl rfl) (pa_cons (pv 1) pa_nil)))) (pss_one (ps_if (pt_cmpR op_eq (pv 0) pe_str (nomark _)) (pss_one (ps_expr (pe_make M_Stage G_Stage (hr.mono hn_Stage) rfl g_Stage b_Stage .nil (passes_try rfl rfl rfl rfl) (pa_cons (pv 1) (pa_cons (pv 2) pa_nil))))) (pss_one (ps_expr (pe_callX c_need_boxes hr (passes_try rfl rfl rfl rfl) (pa_cons (pv 1) pa_nil))))))))) (fun a => (pss_one (ps_set (i := 3) nd rfl (Or.inl rfl) (pv 4))))) (PSs.zero (pss_one (ps_ret (pv 3)))))), ?_⟩
  cases h with
  | en h =>
    refine ⟨_, rfl, rfl, _, rfl, ifT rfl ?_⟩
    refine ⟨_, rfl, ?_⟩
    intro x dx hx hdx ndx
    have nO := two_new (o1 := .own x) (o2 := .ins c.e dx []) hx hdx ndx
    cases b with
    | true =>
      obtain ⟨i, rfl, i0, i9⟩ := h.inv
      refine .inl ⟨x, dx, i, rfl, upd_same, i0, i9, fun H' kp st => ⟨rfl, ?_⟩⟩
      have sS := made hx hdx kp
      exact ⟨_, rfl, qt rfl H' sS.toT (tb.same sS)⟩
    | false =>
      refine .inr ⟨x, v, rfl, h.kt (Same.kt nO), ?_⟩
      refine ⟨ex, fun a na => ?_⟩
      have s2 := (same_new na (.ext (IsX a (.ref C_NoBox))))
      exact ⟨_, rfl, _, rfl, qf rfl a _ (nO.toT.trans s2.toT) ((tb.same nO).same s2) upd_same⟩
  | st h =>
    refine ⟨_, rfl, rfl, _, rfl, ifF rfl ?_⟩
    refine ⟨_, rfl, rfl, _, rfl, ifT rfl ?_⟩
    refine ⟨_, rfl, _, rfl, ?_⟩
    intro x dx hx hdx ndx
    have nO := two_new (o1 := .own x) (o2 := .ins c.s dx []) hx hdx ndx
    have hS := h.kt (Same.kt nO)
    have tbO := tb.same nO
    cases hS with
    | price h1 =>
      refine .inr ⟨x, v, u, rfl, .inl h1, fun H1 s1 => ?_⟩
      refine ⟨ex, fun a na => ?_⟩
      have s2 := (same_new na (.ext (IsX a (.ref C_NoBox))))
      exact ⟨_, rfl, _, rfl, qf rfl a _ ((nO.trans s1).toT.trans s2.toT) ((tbO.same s1).same s2) upd_same⟩
    | rows h1 h2 =>
      refine .inr ⟨x, v, u, rfl, .inr ⟨h1, h2⟩, fun H1 s1 => ?_⟩
      refine ⟨ex, fun a na => ?_⟩
      have s2 := (same_new na (.ext (IsX a (.ref C_NoBox))))
      exact ⟨_, rfl, _, rfl, qf rfl a _ ((nO.trans s1).toT.trans s2.toT) ((tbO.same s1).same s2) upd_same⟩
    | big p0 p9 g h1 =>
      refine .inl ⟨x, dx, _, _, _, _, _, _, _, rfl, upd_same, g, p0, p9, .inl ⟨h1, fun H1 s1 => ?_⟩⟩
      refine ⟨ex, fun a na => ?_⟩
      have s2 := (same_new na (.ext (IsX a (.ref C_NoBox))))
      exact ⟨_, rfl, _, rfl, qf rfl a _ ((nO.trans s1).toT.trans s2.toT) ((tbO.same s1).same s2) upd_same⟩
    | good p0 p9 g hm m12 d4 =>
      refine .inl ⟨x, dx, _, _, _, _, _, _, _, rfl, upd_same, g, p0, p9, .inr ⟨_, hm, m12, d4, tbO, fun H' kp tb' st => ⟨rfl, ?_⟩⟩⟩
      exact ⟨_, rfl, qt rfl H' (madeT hx hdx kp) tb'⟩
  | bx h =>
    refine ⟨_, rfl, rfl, _, rfl, ifF rfl ?_⟩
    refine ⟨_, rfl, rfl, _, rfl, ifF rfl ?_⟩
    refine ⟨_, rfl, v, b, rfl, h, fun hb H1 s1 => ?_, fun hb H1 s1 => ?_⟩
    · exact ⟨_, rfl, qt hb H1 s1.toT (tb.same s1)⟩
    · subst hb
      refine ⟨ex, fun a na => ?_⟩
      have s2 := (same_new na (.ext (IsX a (.ref C_NoBox))))
      exact ⟨_, rfl, _, rfl, qf rfl a _ (s1.toT.trans s2.toT) ((tb.same s1).same s2) upd_same⟩
theorem bt_ValueError : bootBuiltins "ValueError" = some (.type "ValueError") := by decide +kernel
theorem ok__law_is {n : Nat} {f : Addr} {fd : FuncData} (F : Fun K "_law_is" "_law_is" (top 43) f fd) {c : Cs} {C_NoBox C_LidError C_NoTable : Addr} (g_LidError : mg "LidError" = some (.ref C_LidError)) (g_NoTable : mg "NoTable" = some (.ref C_NoTable)) (xt : XTy K C_NoBox) (k1 : PySem.W.kitOne K (.ref C_NoBox) (.ref C_LidError) = some true) (k2 : PySem.W.kitOne K (.ref C_NoBox) (.type "ValueError") = some true) (k3 : PySem.W.kitOne K (.ref C_NoBox) (.ref C_NoTable) = some false) {g__law_refused : Addr} {gd__law_refused : FuncData} (c__law_refused : Cal P w K mg base n "_law_refused" ["_law_what", "_law_one_here", "_law_other"] (spRefd c K C_NoBox Pt lamP) g__law_refused gd__law_refused) (z_isinstance : mg "isinstance" = none) (z_ValueError : mg "ValueError" = none) : FnOk P w K mg base CX0 (n + 1) f fd ["_law_what", "_law_one_here", "_law_other", "_law_good"] (spIs15 c K Pt lamP) := by
  refine F.ok sc__law_is (fun vs H Q E h => ?_) (fun cdv A outer s H vs Q E hr h => ?_)
  · obtain ⟨z, v, u, b, rfl, _⟩ := h
    rfl
  obtain ⟨z, v, u, b, rfl, h, tb, q⟩ := h
  have nd := sc__law_is.nd
  refine ⟨_, (pss_cons (ps_set (i := 4) nd rfl (Or.inl rfl) (pe_callC c__law_refused hr (pa_cons (pv 0) (pa_cons (pv 1) (pa_cons (pv 2) pa_nil))))) (pss_cons (ps_if (pt_val (pv 3)) (pss_one (ps_ret (pe_cmpR op_isN (pv 4) pe_non (nomark _)))) pss_nil) (pss_one (ps_ret (pe_and (pe_callB (call_isX (K := K) rfl) rfl z_isinstance bt_isinstance (pa_cons (pv 4) (pa_cons (pe_glob (v := .ref C_LidError) rfl g_LidError rfl) pa_nil))) (pe_and (pe_callB (call_isX (K := K) rfl) rfl z_isinstance bt_isinstance (pa_cons (pv 4) (pa_cons (pe_bltn (v := .ty "ValueError") rfl z_ValueError bt_ValueError rfl) pa_nil))) (pe_one (pe_not (pe_callB (call_isX (K := K) rfl) rfl z_isinstance bt_isinstance (pa_cons (pv 4) (pa_cons (pe_glob (v := .ref C_NoTable) rfl g_NoTable rfl) pa_nil))))))))))), ?_⟩
  refine ⟨_, rfl, _, rfl, _, rfl, z, v, u, b, rfl, h, tb, fun hb H1 s1 tb1 => ?_, fun hb a H1 s1 tb1 ha => ?_⟩
  · subst hb
    refine ⟨_, rfl, _, rfl, ?_⟩
    refine iteT ?_
    exact ⟨_, rfl, rfl, q H1 s1 tb1⟩
  · subst hb
    refine ⟨_, rfl, _, rfl, ?_⟩
    refine iteF ?_
    refine ⟨_, rfl, a, C_NoBox, .ref C_LidError, _, true, rfl, vref, ha, xt, k1, ?_⟩
    refine ⟨_, rfl, ?_⟩
    refine iteT ?_
    refine ⟨_, rfl, a, C_NoBox, .ty "ValueError", _, true, rfl, vty, ha, xt, k2, ?_⟩
    refine ⟨_, rfl, ?_⟩
    refine iteT ?_
    refine ⟨_, rfl, a, C_NoBox, .ref C_NoTable, _, false, rfl, vref, ha, xt, k3, ?_⟩
    exact ⟨_, rfl, q H1 s1 tb1⟩
theorem ok__law_chain {n : Nat} {f : Addr} {fd : FuncData} (F : Fun K "_law_chain" "_law_chain" (top 44) f fd) {c : Cs} {C_NoBox iE iS : Addr} {dE dS : FuncData} {kE kS : Nat} (M_End : Mk K c.e iE) (G_End : FnOk P w K mg base (CXr P w) kE iE dE ["self", "worth"] (spEIX c C_NoBox)) (b_End : Binds K dE ["self", "worth"] []) (g_End : mg "End" = some (.ref c.e)) (hn_End : kE + 1 ≤ n) (M_Stage : Mk K c.s iS) (G_Stage : FnOk P w K mg base (CXr P w) kS iS dS ["self", "price", "rows"] (spSIX c K C_NoBox Pt lamP)) (b_Stage : Binds K dS ["self", "price", "rows"] []) (g_Stage : mg "Stage" = some (.ref c.s)) (hn_Stage : kS + 1 ≤ n) (z_range : mg "range" = none) : FnOk P w K mg base CX0 (n + 1) f fd ["_law_many"] (spChain c Pt lamP) := by
  refine F.ok sc__law_chain (fun vs H Q E h => ?_) (fun cdv A outer s H vs Q E hr h => ?_)
  · obtain ⟨m, rfl, _⟩ := h
    rfl
  obtain ⟨m, rfl, m4, tb, q⟩ := h
  have nd := sc__law_chain.nd
  refine ⟨_, (pss_cons (ps_set (i := 1) nd rfl (Or.inl rfl) (pe_make M_End G_End (hr.mono hn_End) rfl g_End b_End .nil passF (pa_cons pe_int pa_nil))) (pss_cons (ps_for PassesOwn.never rfl (pi_range1 rfl z_range (pa_cons (pv 0) pa_nil)) (pg_name (i := 2) nd rfl (Or.inl rfl)) (pss_one (ps_set (i := 1) nd rfl (Or.inl rfl) (pe_make M_Stage G_Stage (hr.mono hn_Stage) rfl g_Stage b_Stage .nil passF (pa_cons (pv 2) (pa_cons (pe_lst (pa_cons (pe_tup (pa_cons pe_int (pa_cons (pv 1) pa_nil))) pa_nil)) pa_nil)))))) (pss_one (ps_ret (pv 1))))), ?_⟩
  intro x dx hx hdx ndx
  refine .inl ⟨x, dx, 3, rfl, upd_same, by decide, by decide, fun H1 kp st => ⟨rfl, ?_⟩⟩
  have s1 := made hx hdx kp
  refine ⟨_, rfl, (m : Int), rfl, by omega, by omega, ?_⟩
  refine for_range (n := (m : Int).toNat) (fun i σ H' => ∃ y v2, σ = [some (.int (m : Int)), some (.ref y), v2] ∧ SameT Pt H H' ∧ TbOk Pt lamP lamQ H' ∧ StAt c H' y (chSd i) i 1) ⟨x, none, rfl, s1.toT, tb.same s1, st 0 1 (by decide)⟩ ?turn ?done
  case turn =>
    rintro i σ H2 hi ⟨y, v2, rfl, s2, tb2, sy⟩
    refine ⟨_, rfl, _, rfl, sz2, fun t ht => ?_⟩
    have n1 := same_new ht (.tup [V.int 1, V.ref y])
    refine ⟨sz1, fun l hl => ?_⟩
    have n2 := same_new hl (.lst [V.ref t])
    intro x3 dx3 hx3 hdx3 ndx3
    have n3 := two_new (o1 := .own x3) (o2 := .ins c.s dx3 []) hx3 hdx3 ndx3
    have n23 := n2.trans n3
    have g : GRow c _ l [t] [y] [(1, chSd i)] i (jM 1) := gr_of (tr := [(t, y, 1, chSd i)]) (n3 _ _ upd_same) (fun r hr => by
      rw [List.mem_singleton.mp hr]
      refine ⟨n23 _ _ upd_same, ?_, by show (1 : Int) ≤ 1; decide, by show (1 : Int) ≤ 1000; decide⟩
      rw [jM_1]
      exact sy.kp (Same.kp (n1.trans n23))) (List.cons_ne_nil _ _) (by show 1 ≤ 4; decide)
    refine .inl ⟨x3, dx3, l, 0 + (i : Int), [t], [y], [(1, chSd i)], i, jM 1, rfl, upd_same, g, by omega, by omega, .inr ⟨1, by show jM 1 (1, chSd i) + 0 ≤ 1; rw [jM_1]; exact Nat.le_refl 1, by decide, by omega, tb2.same (n1.trans n23), fun H' kp' tb' st' => ⟨rfl, ?_⟩⟩⟩
    have e : chSd (i + 1) = .st (0 + (i : Int)) [(1, chSd i)] := by rw [Int.zero_add]; rfl
    exact ⟨x3, _, rfl, s2.trans ((n1.trans n2).toT.trans (madeT hx3 hdx3 kp')), tb', by rw [e]; exact st'⟩
  case done =>
    rintro σ H2 ⟨y, v2, rfl, s2, tb2, sy⟩
    rw [show ((m : Int)).toNat = m by omega] at sy
    exact ⟨_, rfl, q y H2 s2 tb2 sy⟩
theorem ok__law_wide {n : Nat} {f : Addr} {fd : FuncData} (F : Fun K "_law_wide" "_law_wide" (top 45) f fd) {n0 : Nat} {c : Cs} {C_NoBox iE iS : Addr} {dE dS : FuncData} {kE kS : Nat} (M_End : Mk K c.e iE) (G_End : FnOk P w K mg base (CXr P w) kE iE dE ["self", "worth"] (spEIX c C_NoBox)) (b_End : Binds K dE ["self", "worth"] []) (g_End : mg "End" = some (.ref c.e)) (hn_End : kE + 1 ≤ n) (M_Stage : Mk K c.s iS) (G_Stage : FnOk P w K mg base (CXr P w) kS iS dS ["self", "price", "rows"] (spSIX c K C_NoBox Pt lamP)) (b_Stage : Binds K dS ["self", "price", "rows"] []) (g_Stage : mg "Stage" = some (.ref c.s)) (hn_Stage : kS + 1 ≤ n) {g__law_wide : Addr} {gd__law_wide : FuncData} (c__law_wide : Cal P w K mg base n "_law_wide" ["_law_many"] (spWd c Pt lamP n0) g__law_wide gd__law_wide) (z_range : mg "range" = none) : FnOk P w K mg base CX0 (n + 1) f fd ["_law_many"] (spWd c Pt lamP (n0 + 1)) := by
  refine F.ok sc__law_wide (fun vs H Q E h => ?_) (fun cdv A outer s H vs Q E hr h => ?_)
  · obtain ⟨rfl, _⟩ := h
    rfl
  obtain ⟨rfl, n2, tb, q⟩ := h
  have nd := sc__law_wide.nd
  refine ⟨_, (pss_cons (ps_setC (i := 1) (ls := ["_law_k"]) (M := ["_law_many", "_law_rows_here"]) rfl (CompOk.of (by rfl)) (NL.of (by rfl)) nd rfl (Or.inl rfl) (pi_range1 rfl z_range (pa_cons pe_int pa_nil)) (fun _ _ _ _ => ⟨(pg_name (i := 0) (nd_of (by rfl)) rfl (Or.inl rfl)), pts_nil, (pe_tup (pa_cons (pe_op op_add pe_int (pv 0)) (pa_cons (pe_make M_End G_End (hr.mono hn_End) rfl g_End b_End .nil passF (pa_cons (pv 0) pa_nil)) pa_nil)))⟩)) (pss_cons (ps_if (pt_cmpR op_eq (pv 0) pe_int (nomark _)) (pss_one (ps_ret (pe_make M_Stage G_Stage (hr.mono hn_Stage) rfl g_Stage b_Stage .nil passF (pa_cons pe_int (pa_cons (pv 1) pa_nil))))) pss_nil) (pss_one (ps_ret (pe_make M_Stage G_Stage (hr.mono hn_Stage) rfl g_Stage b_Stage .nil passF (pa_cons pe_int (pa_cons (pe_op op_cat (pe_slice sl_list (pv 1) po_none (po_some pe_int)) (pe_lst (pa_cons (pe_tup (pa_cons pe_int (pa_cons (pe_callC c__law_wide hr (pa_cons (pe_op op_sub (pv 0) pe_int) pa_nil)) pa_nil))) pa_nil))) pa_nil))))))), ?_⟩
  refine ⟨4, rfl, by decide, by decide, fun D hD => ?_⟩
  refine comp_range (n := 4) (fun i τ H' => ∃ v0 tr, τ = [v0, some (.int (4 + 3 * (n0 : Int))), none] ∧ Same H H' ∧ H' D = some (.lst (trefs tr)) ∧ ER c H' tr ∧ tr.map (·.2.2) = (List.range i).map (fun (k : Nat) => (1 + (0 + (k : Int)), Sd.Sd.en (0 + (k : Int))))) ⟨none, [], rfl, same_new hD _, upd_same, (fun _ h => nomatch h), rfl⟩ ?turn ?done
  case turn =>
    rintro i mm τ H2 hm hi ⟨v0, tr, rfl, s2, hD2, er, et⟩
    have tl : tr.length = i := by
      have h := congrArg List.length et
      rw [List.length_map, List.length_map, List.length_range] at h
      exact h
    refine gyes ?_
    refine ⟨_, rfl, _, _, rfl, rfl, _, rfl, ?_⟩
    intro x dx hx hdx ndx
    refine .inl ⟨x, dx, 0 + (i : Int), rfl, upd_same, by omega, by omega, fun H3 kp st => ⟨rfl, ?_⟩⟩
    have s3 := made hx hdx kp
    refine ⟨sz2, fun t ht => ?_⟩
    have n4 := same_new ht (.tup [V.int (1 + (0 + (i : Int))), V.ref x])
    have hD4 := (s3.trans n4) _ _ hD2
    have er4 : ER c _ (tr ++ [(t, x, 1 + (0 + (i : Int)), .en (0 + (i : Int)))]) := (er.kt (Same.kt (s3.trans n4))).snoc upd_same fun d m h => (st d m h).kp (Same.kp n4)
    refine comp_next hm hi hD4 (by rw [trefs_len]; exact small1000 (by omega)) ⟨_, tr ++ [(t, x, 1 + (0 + (i : Int)), .en (0 + (i : Int)))], rfl, (s2.trans (s3.trans n4)).upd_new hD _, by rw [upd_same, trefs_snoc], er4.lst hD4, ?_⟩
    rw [List.map_append, et, List.range_succ, List.map_append]
    rfl
  case done =>
  rintro τ H2 ⟨v0, tr, rfl, s2, hD2, er, et⟩
  obtain ⟨r0, r1, r2, r3, rfl⟩ : ∃ r0 r1 r2 r3, tr = [r0, r1, r2, r3] := by
    have h := congrArg List.length et
    rw [List.length_map, List.length_map, List.length_range] at h
    match tr, h with
    | [a, b, c, d], _ => exact ⟨a, b, c, d, rfl⟩
  have e0 : r0.2.2 = (1, Sd.Sd.en 0) ∧ r1.2.2 = (2, Sd.Sd.en 1) ∧ r2.2.2 = (3, Sd.Sd.en 2) ∧ r3.2.2 = (4, Sd.Sd.en 3) := by
    have h : [r0.2.2, r1.2.2, r2.2.2, r3.2.2] = [(1, Sd.Sd.en 0), (2, Sd.Sd.en 1), (3, Sd.Sd.en 2), (4, Sd.Sd.en 3)] := et
    injection h with h1 h; injection h with h2 h; injection h with h3 h; injection h with h4 h
    exact ⟨h1, h2, h3, h4⟩
  obtain ⟨e0, e1, e2, e3⟩ := e0
  have tb2 := tb.same s2
  have m0 := er r0 (by simp)
  have m1 := er r1 (by simp)
  have m2 := er r2 (by simp)
  have m3 := er r3 (by simp)
  rw [e0] at m0
  rw [e1] at m1
  rw [e2] at m2
  rw [e3] at m3
  refine ⟨_, rfl, rfl, _, rfl, ?_⟩
  cases n0 with
  | zero =>
    refine ifT (decide_eq_true rfl) ?_
    refine ⟨_, rfl, ?_⟩
    intro x dx hx hdx ndx
    have n3 := two_new (o1 := .own x) (o2 := .ins c.s dx []) hx hdx ndx
    have k3 := Same.kp n3
    have g : GRow c _ D [r0.1, r1.1, r2.1, r3.1] [r0.2.1, r1.2.1, r2.2.1, r3.2.1] [(1, .en 0), (2, .en 1), (3, .en 2), (4, .en 3)] 0 (jM 1) := gr_of (tr := [(r0.1, r0.2.1, 1, .en 0), (r1.1, r1.2.1, 2, .en 1), (r2.1, r2.2.1, 3, .en 2), (r3.1, r3.2.1, 4, .en 3)]) (n3 _ _ hD2) (fun r hr => by
      simp only [List.mem_cons, List.not_mem_nil, or_false] at hr
      rcases hr with rfl | rfl | rfl | rfl
      · exact ⟨n3 _ _ m0.1, (m0.2 _ _ (jM_pos (by decide) _)).kp k3, (show (1 : Int) ≤ 1 by decide), (show (1 : Int) ≤ 1000 by decide)⟩
      · exact ⟨n3 _ _ m1.1, (m1.2 _ _ (jM_pos (by decide) _)).kp k3, (show (1 : Int) ≤ 2 by decide), (show (2 : Int) ≤ 1000 by decide)⟩
      · exact ⟨n3 _ _ m2.1, (m2.2 _ _ (jM_pos (by decide) _)).kp k3, (show (1 : Int) ≤ 3 by decide), (show (3 : Int) ≤ 1000 by decide)⟩
      · exact ⟨n3 _ _ m3.1, (m3.2 _ _ (jM_pos (by decide) _)).kp k3, (show (1 : Int) ≤ 4 by decide), (show (4 : Int) ≤ 1000 by decide)⟩) (List.cons_ne_nil _ _) (by show 4 ≤ 4; decide)
    refine .inl ⟨x, dx, D, 1, _, _, _, 0, jM 1, rfl, upd_same, g, by decide, by decide, .inr ⟨4, by decide, by decide, by decide, tb2.same n3, fun H' kp' tb' st' => ⟨rfl, ?_⟩⟩⟩
    exact q x H' (s2.toT.trans (madeT hx hdx kp')) tb' st'
  | succ n1 =>
    refine ifF (decide_eq_false fun z => by injection z with z; omega) ?_
    refine ⟨_, rfl, _, rfl, D, _, rfl, SqL.of hD2, fun l1 hl1 => ?_⟩
    have ec : cutV (trefs [r0, r1, r2, r3]) none (some 3) = [V.ref r0.1, V.ref r1.1, V.ref r2.1] := rfl
    rw [ec]
    have t1 := same_new hl1 (.lst [V.ref r0.1, V.ref r1.1, V.ref r2.1])
    refine ⟨_, rfl, _, _, rfl, rfl, ?_⟩
    refine ⟨by show [V.int (4 + 3 * ((n1 + 1 : Nat) : Int) - 3)] = [V.int (4 + 3 * (n1 : Int))]; congr 2; omega, by omega, tb2.same t1, fun y H3 s3 tb3 sy => ?_⟩
    have k3 := SameT.kt s3 (tb2.same t1)
    refine ⟨sz2, fun t ht => ?_⟩
    have t4 := same_new ht (.tup [V.int 2, V.ref y])
    refine ⟨sz1, fun l2 hl2 => ?_⟩
    have t5 := same_new hl2 (.lst [V.ref t])
    refine ⟨l1, l2, _, _, rfl, rfl, t5 _ _ (t4 _ _ (k3.lst upd_same)), upd_same, szs (by decide : 3 + 1 ≤ 1000), fun l3 hl3 => ?_⟩
    have t6 := same_new hl3 (.lst ([V.ref r0.1, V.ref r1.1, V.ref r2.1] ++ [V.ref t]))
    have t456 := t4.trans (t5.trans t6)
    intro x dx hx hdx ndx
    have n7 := two_new (o1 := .own x) (o2 := .ins c.s dx []) hx hdx ndx
    have kk : Kt H2 _ := (Same.kt t1).trans (k3.trans (Same.kt (t456.trans n7)))
    have g : GRow c _ l3 [r0.1, r1.1, r2.1, t] [r0.2.1, r1.2.1, r2.2.1, y] [(1, .en 0), (2, .en 1), (3, .en 2), (2, wdSd n1)] (n1 + 1) (jM (4 + 3 * n1)) := gr_of (tr := [(r0.1, r0.2.1, 1, .en 0), (r1.1, r1.2.1, 2, .en 1), (r2.1, r2.2.1, 3, .en 2), (t, y, 2, wdSd n1)]) (n7 _ _ upd_same) (fun r hr => by
      simp only [List.mem_cons, List.not_mem_nil, or_false] at hr
      rcases hr with rfl | rfl | rfl | rfl
      · exact ⟨kk.tup m0.1, (m0.2 _ _ (jM_pos (by omega) _)).kp kk.kp, (show (1 : Int) ≤ 1 by decide), (show (1 : Int) ≤ 1000 by decide)⟩
      · exact ⟨kk.tup m1.1, (m1.2 _ _ (jM_pos (by omega) _)).kp kk.kp, (show (1 : Int) ≤ 2 by decide), (show (2 : Int) ≤ 1000 by decide)⟩
      · exact ⟨kk.tup m2.1, (m2.2 _ _ (jM_pos (by omega) _)).kp kk.kp, (show (1 : Int) ≤ 3 by decide), (show (3 : Int) ≤ 1000 by decide)⟩
      · refine ⟨(t5.trans (t6.trans n7)) _ _ upd_same, ?_, (show (1 : Int) ≤ 2 by decide), (show (2 : Int) ≤ 1000 by decide)⟩
        have ej : jM (4 + 3 * n1) (2, wdSd n1) = 4 + 3 * n1 := by cases n1 <;> rfl
        rw [ej]
        exact sy.kp (Same.kp (t456.trans n7))) (List.cons_ne_nil _ _) (by show 4 ≤ 4; decide)
    have ej : jM (4 + 3 * n1) (2, wdSd n1) = 4 + 3 * n1 := by cases n1 <;> rfl
    refine .inl ⟨x, dx, l3, 1, _, _, _, n1 + 1, jM (4 + 3 * n1), rfl, upd_same, g, by decide, by decide, .inr ⟨4 + 3 * (n1 + 1), ?_, ?_, ?_, tb3.same (t456.trans n7), fun H' kp' tb' st' => ⟨rfl, ?_⟩⟩⟩
    · show 1 + (1 + (1 + (jM (4 + 3 * n1) (2, wdSd n1) + 0))) ≤ _
      rw [ej]
      omega
    · omega
    · omega
    · exact q x H' (s2.toT.trans (t1.toT.trans (s3.trans (t456.toT.trans (madeT hx hdx kp'))))) tb' st'
theorem sr1 {c : Cs} {K : PySem.W.Frag} {H : Hp} {a : Addr} {x : V} {b : Bool} (e : H a = some (.lst [x])) (h : SRow c K H x b) (hb : b = false := by rfl) : SRows c K H (.ref a) false := by
  subst hb
  exact SRows.all (bs := [false]) e (by show 1 ≤ 1; decide) (by show 1 ≤ 4; decide) rfl fun i y hy => by
    match i, hy with
    | 0, hy => cases hy; exact h
    | j + 1, hy => simp at hy
theorem sr2 {c : Cs} {K : PySem.W.Frag} {H : Hp} {a : Addr} {x y : V} {b b2 : Bool} (e : H a = some (.lst [x, y])) (h1 : SRow c K H x b) (h : SRow c K H y b2) (hb : b2 = false := by rfl) : SRows c K H (.ref a) false := by
  subst hb
  have z := SRows.all (c := c) (K := K) (bs := [b, false]) e (by show 1 ≤ 2; decide) (by show 2 ≤ 4; decide) rfl fun i z hz => by
    match i, hz with
    | 0, hz => cases hz; exact h1
    | 1, hz => cases hz; exact h
    | j + 2, hz => simp at hz
  have e2 : [b, false].all id = false := by simp
  rw [e2] at z
  exact z
theorem en_no {c : Cs} {K : PySem.W.Frag} {H : Hp} {x : Addr} {v : Int} {d m : Nat} (ck : CK K c) (ct : CT K c) (cn : CN K c) (h : StAt c H x (.en v) d m) : SRow c K H (.ref x) false := by
  cases h with
  | en h vv ok => exact .no (.ins h ck.ce ct.ea ct.hn ct.htk ct.em) cn.et
theorem ok__law_rows {n : Nat} {f : Addr} {fd : FuncData} (F : Fun K "_law_rows" "_law_rows" (top 46) f fd) {c : Cs} (ck : CK K c) (ct : CT K c) (cn : CN K c) {C_NoBox iE : Addr} {dE : FuncData} {kE : Nat} (M_End : Mk K c.e iE) (G_End : FnOk P w K mg base (CXr P w) kE iE dE ["self", "worth"] (spEIX c C_NoBox)) (b_End : Binds K dE ["self", "worth"] []) (g_End : mg "End" = some (.ref c.e)) (hn_End : kE + 1 ≤ n) {g__law_mixed : Addr} {gd__law_mixed : FuncData} (c__law_mixed : Cal P w K mg base n "_law_mixed" ["_law_cell", "_law_k"] spMx1 g__law_mixed gd__law_mixed) : FnOk P w K mg base CX0 (n + 1) f fd ["_law_cell"] (spRows15 c K) := by
  refine F.ok sc__law_rows (fun vs H Q E h => ?_) (fun cdv A outer s H vs Q E hr h => ?_)
  · obtain ⟨cc, rfl, _⟩ := h
    rfl
  obtain ⟨cc, rfl, q⟩ := h
  have nd := sc__law_rows.nd
  refine ⟨_, QSs.h (qss_cons (qs_set (i := 1) nd rfl (Or.inl rfl) (qe_callC c__law_mixed hr (qa_cons (qv 0) (qa_cons qe_int qa_nil)))) (qss_cons (qs_set (i := 2) nd rfl (Or.inl rfl) (qe_lst (qa_cons qe_non (qa_cons (qe_tup qa_nil) (qa_cons (qe_tup (qa_cons (qe_tup (qa_cons qe_int (qa_cons (qe_make M_End G_End (hr.mono hn_End) rfl g_End b_End .nil passF (qa_cons qe_int qa_nil)) qa_nil))) qa_nil)) (qa_cons (qe_lst qa_nil) (qa_cons (qe_op op_rep (qe_lst (qa_cons (qe_tup (qa_cons qe_int (qa_cons (qe_make M_End G_End (hr.mono hn_End) rfl g_End b_End .nil passF (qa_cons qe_int qa_nil)) qa_nil))) qa_nil)) qe_int) (qa_cons (qe_lst (qa_cons (qe_tup (qa_cons qe_int (qa_cons (qe_make M_End G_End (hr.mono hn_End) rfl g_End b_End .nil passF (qa_cons qe_int qa_nil)) qa_nil))) (qa_cons (qe_tup (qa_cons qe_int qa_nil)) qa_nil))) (qa_cons (qe_lst (qa_cons (qe_lst (qa_cons qe_int (qa_cons (qe_make M_End G_End (hr.mono hn_End) rfl g_End b_End .nil passF (qa_cons qe_int qa_nil)) qa_nil))) qa_nil)) (qa_cons (qe_lst (qa_cons (qe_tup (qa_cons qe_int (qa_cons (qe_make M_End G_End (hr.mono hn_End) rfl g_End b_End .nil passF (qa_cons qe_int qa_nil)) (qa_cons qe_int qa_nil)))) qa_nil)) qa_nil)))))))))) (qss_cons (qs_set (i := 2) nd rfl (Or.inl rfl) (qe_op op_cat (qv 2) (qe_lst (qa_cons (qe_lst (qa_cons (qe_tup (qa_cons qe_int (qa_cons (qe_tup (qa_cons qe_str (qa_cons qe_int qa_nil))) qa_nil))) qa_nil)) (qa_cons (qe_lst (qa_cons (qe_tup (qa_cons qe_int (qa_cons qe_int qa_nil))) qa_nil)) (qa_cons (qe_lst (qa_cons (qe_tup (qa_cons qe_int (qa_cons (qe_make M_End G_End (hr.mono hn_End) rfl g_End b_End .nil passF (qa_cons qe_int qa_nil)) qa_nil))) (qa_cons (qe_tup (qa_cons qe_int (qa_cons qe_non qa_nil))) qa_nil))) (qa_cons qe_str (qa_cons qe_dnewK (qa_cons qe_int (qa_cons (qe_lst (qa_cons (qe_make M_End G_End (hr.mono hn_End) rfl g_End b_End .nil passF (qa_cons qe_int qa_nil)) qa_nil)) qa_nil)))))))))) (qss_one (qs_ret (qe_ix ix_list (qv 2) (qe_op op_mod (qv 1) qe_int) (fun _ _ => rfl))))))), ?_⟩
  refine ⟨_, rfl, cc, 4, rfl, by decide, by decide, fun j j0 jx => ?_⟩
  refine ⟨Nat.zero_le _, fun a1 ha1 => ?_⟩
  have u1 := same_new ha1 (.tup [])
  have ea1 : upd H a1 (.tup []) a1 = some (.tup []) := upd_same
  generalize upd H a1 (.tup []) = H1 at u1 ea1 ⊢
  intro x1 dx1 hxx1 hdx1 ndx1
  refine .inl ⟨x1, dx1, 1, rfl, upd_same, by decide, by decide, fun H2 kpx1 stx1 => ⟨rfl, ?_⟩⟩
  have u2 := made hxx1 hdx1 kpx1
  refine ⟨sz2, fun a2 ha2 => ?_⟩
  have u3 := same_new ha2 (.tup [V.int 1, V.ref x1])
  have ea2 : upd H2 a2 (.tup [V.int 1, V.ref x1]) a2 = some (.tup [V.int 1, V.ref x1]) := upd_same
  generalize upd H2 a2 (.tup [V.int 1, V.ref x1]) = H3 at u3 ea2 ⊢
  refine ⟨sz1, fun a3 ha3 => ?_⟩
  have u4 := same_new ha3 (.tup [V.ref a2])
  have ea3 : upd H3 a3 (.tup [V.ref a2]) a3 = some (.tup [V.ref a2]) := upd_same
  generalize upd H3 a3 (.tup [V.ref a2]) = H4 at u4 ea3 ⊢
  refine ⟨Nat.zero_le _, fun a4 ha4 => ?_⟩
  have u5 := same_new ha4 (.lst [])
  have ea4 : upd H4 a4 (.lst []) a4 = some (.lst []) := upd_same
  generalize upd H4 a4 (.lst []) = H5 at u5 ea4 ⊢
  intro x2 dx2 hxx2 hdx2 ndx2
  refine .inl ⟨x2, dx2, 1, rfl, upd_same, by decide, by decide, fun H6 kpx2 stx2 => ⟨rfl, ?_⟩⟩
  have u6 := made hxx2 hdx2 kpx2
  refine ⟨sz2, fun a5 ha5 => ?_⟩
  have u7 := same_new ha5 (.tup [V.int 1, V.ref x2])
  have ea5 : upd H6 a5 (.tup [V.int 1, V.ref x2]) a5 = some (.tup [V.int 1, V.ref x2]) := upd_same
  generalize upd H6 a5 (.tup [V.int 1, V.ref x2]) = H7 at u7 ea5 ⊢
  refine ⟨sz1, fun a6 ha6 => ?_⟩
  have u8 := same_new ha6 (.lst [V.ref a5])
  have ea6 : upd H7 a6 (.lst [V.ref a5]) a6 = some (.lst [V.ref a5]) := upd_same
  generalize upd H7 a6 (.lst [V.ref a5]) = H8 at u8 ea6 ⊢
  refine ⟨a6, 5, _, rfl, rfl, ea6, by decide, by decide, szs (by decide : 1 * 5 ≤ 1000), ?_⟩
  intro a7 ha7
  have u9 := same_new ha7 (.lst (List.replicate (5 : Int).toNat [V.ref a5]).flatten)
  have ea7 : upd H8 a7 (.lst (List.replicate (5 : Int).toNat [V.ref a5]).flatten) a7 = some (.lst (List.replicate (5 : Int).toNat [V.ref a5]).flatten) := upd_same
  generalize upd H8 a7 (.lst (List.replicate (5 : Int).toNat [V.ref a5]).flatten) = H9 at u9 ea7 ⊢
  intro x3 dx3 hxx3 hdx3 ndx3
  refine .inl ⟨x3, dx3, 1, rfl, upd_same, by decide, by decide, fun H10 kpx3 stx3 => ⟨rfl, ?_⟩⟩
  have u10 := made hxx3 hdx3 kpx3
  refine ⟨sz2, fun a8 ha8 => ?_⟩
  have u11 := same_new ha8 (.tup [V.int 1, V.ref x3])
  have ea8 : upd H10 a8 (.tup [V.int 1, V.ref x3]) a8 = some (.tup [V.int 1, V.ref x3]) := upd_same
  generalize upd H10 a8 (.tup [V.int 1, V.ref x3]) = H11 at u11 ea8 ⊢
  refine ⟨sz1, fun a9 ha9 => ?_⟩
  have u12 := same_new ha9 (.tup [V.int 2])
  have ea9 : upd H11 a9 (.tup [V.int 2]) a9 = some (.tup [V.int 2]) := upd_same
  generalize upd H11 a9 (.tup [V.int 2]) = H12 at u12 ea9 ⊢
  refine ⟨sz2, fun a10 ha10 => ?_⟩
  have u13 := same_new ha10 (.lst [V.ref a8, V.ref a9])
  have ea10 : upd H12 a10 (.lst [V.ref a8, V.ref a9]) a10 = some (.lst [V.ref a8, V.ref a9]) := upd_same
  generalize upd H12 a10 (.lst [V.ref a8, V.ref a9]) = H13 at u13 ea10 ⊢
  intro x4 dx4 hxx4 hdx4 ndx4
  refine .inl ⟨x4, dx4, 1, rfl, upd_same, by decide, by decide, fun H14 kpx4 stx4 => ⟨rfl, ?_⟩⟩
  have u14 := made hxx4 hdx4 kpx4
  refine ⟨sz2, fun a11 ha11 => ?_⟩
  have u15 := same_new ha11 (.lst [V.int 1, V.ref x4])
  have ea11 : upd H14 a11 (.lst [V.int 1, V.ref x4]) a11 = some (.lst [V.int 1, V.ref x4]) := upd_same
  generalize upd H14 a11 (.lst [V.int 1, V.ref x4]) = H15 at u15 ea11 ⊢
  refine ⟨sz1, fun a12 ha12 => ?_⟩
  have u16 := same_new ha12 (.lst [V.ref a11])
  have ea12 : upd H15 a12 (.lst [V.ref a11]) a12 = some (.lst [V.ref a11]) := upd_same
  generalize upd H15 a12 (.lst [V.ref a11]) = H16 at u16 ea12 ⊢
  intro x5 dx5 hxx5 hdx5 ndx5
  refine .inl ⟨x5, dx5, 1, rfl, upd_same, by decide, by decide, fun H17 kpx5 stx5 => ⟨rfl, ?_⟩⟩
  have u17 := made hxx5 hdx5 kpx5
  refine ⟨sz3, fun a13 ha13 => ?_⟩
  have u18 := same_new ha13 (.tup [V.int 1, V.ref x5, V.int 1])
  have ea13 : upd H17 a13 (.tup [V.int 1, V.ref x5, V.int 1]) a13 = some (.tup [V.int 1, V.ref x5, V.int 1]) := upd_same
  generalize upd H17 a13 (.tup [V.int 1, V.ref x5, V.int 1]) = H18 at u18 ea13 ⊢
  refine ⟨sz1, fun a14 ha14 => ?_⟩
  have u19 := same_new ha14 (.lst [V.ref a13])
  have ea14 : upd H18 a14 (.lst [V.ref a13]) a14 = some (.lst [V.ref a13]) := upd_same
  generalize upd H18 a14 (.lst [V.ref a13]) = H19 at u19 ea14 ⊢
  refine ⟨szs (by decide : 8 ≤ 1000), fun a15 ha15 => ?_⟩
  have u20 := same_new ha15 (.lst [V.non, V.ref a1, V.ref a3, V.ref a4, V.ref a7, V.ref a10, V.ref a12, V.ref a14])
  have ea15 : upd H19 a15 (.lst [V.non, V.ref a1, V.ref a3, V.ref a4, V.ref a7, V.ref a10, V.ref a12, V.ref a14]) a15 = some (.lst [V.non, V.ref a1, V.ref a3, V.ref a4, V.ref a7, V.ref a10, V.ref a12, V.ref a14]) := upd_same
  generalize upd H19 a15 (.lst [V.non, V.ref a1, V.ref a3, V.ref a4, V.ref a7, V.ref a10, V.ref a12, V.ref a14]) = H20 at u20 ea15 ⊢
  refine ⟨_, rfl, ?_⟩
  refine ⟨sz2, fun b1 hb1 => ?_⟩
  have u21 := same_new hb1 (.tup [V.str "end", V.int 1])
  have eb1 : upd H20 b1 (.tup [V.str "end", V.int 1]) b1 = some (.tup [V.str "end", V.int 1]) := upd_same
  generalize upd H20 b1 (.tup [V.str "end", V.int 1]) = H21 at u21 eb1 ⊢
  refine ⟨sz2, fun b2 hb2 => ?_⟩
  have u22 := same_new hb2 (.tup [V.int 1, V.ref b1])
  have eb2 : upd H21 b2 (.tup [V.int 1, V.ref b1]) b2 = some (.tup [V.int 1, V.ref b1]) := upd_same
  generalize upd H21 b2 (.tup [V.int 1, V.ref b1]) = H22 at u22 eb2 ⊢
  refine ⟨sz1, fun b3 hb3 => ?_⟩
  have u23 := same_new hb3 (.lst [V.ref b2])
  have eb3 : upd H22 b3 (.lst [V.ref b2]) b3 = some (.lst [V.ref b2]) := upd_same
  generalize upd H22 b3 (.lst [V.ref b2]) = H23 at u23 eb3 ⊢
  refine ⟨sz2, fun b4 hb4 => ?_⟩
  have u24 := same_new hb4 (.tup [V.int 1, V.int 1])
  have eb4 : upd H23 b4 (.tup [V.int 1, V.int 1]) b4 = some (.tup [V.int 1, V.int 1]) := upd_same
  generalize upd H23 b4 (.tup [V.int 1, V.int 1]) = H24 at u24 eb4 ⊢
  refine ⟨sz1, fun b5 hb5 => ?_⟩
  have u25 := same_new hb5 (.lst [V.ref b4])
  have eb5 : upd H24 b5 (.lst [V.ref b4]) b5 = some (.lst [V.ref b4]) := upd_same
  generalize upd H24 b5 (.lst [V.ref b4]) = H25 at u25 eb5 ⊢
  intro x6 dx6 hxx6 hdx6 ndx6
  refine .inl ⟨x6, dx6, 1, rfl, upd_same, by decide, by decide, fun H26 kpx6 stx6 => ⟨rfl, ?_⟩⟩
  have u26 := made hxx6 hdx6 kpx6
  refine ⟨sz2, fun b6 hb6 => ?_⟩
  have u27 := same_new hb6 (.tup [V.int 1, V.ref x6])
  have eb6 : upd H26 b6 (.tup [V.int 1, V.ref x6]) b6 = some (.tup [V.int 1, V.ref x6]) := upd_same
  generalize upd H26 b6 (.tup [V.int 1, V.ref x6]) = H27 at u27 eb6 ⊢
  refine ⟨sz2, fun b7 hb7 => ?_⟩
  have u28 := same_new hb7 (.tup [V.int 1, V.non])
  have eb7 : upd H27 b7 (.tup [V.int 1, V.non]) b7 = some (.tup [V.int 1, V.non]) := upd_same
  generalize upd H27 b7 (.tup [V.int 1, V.non]) = H28 at u28 eb7 ⊢
  refine ⟨sz2, fun b8 hb8 => ?_⟩
  have u29 := same_new hb8 (.lst [V.ref b6, V.ref b7])
  have eb8 : upd H28 b8 (.lst [V.ref b6, V.ref b7]) b8 = some (.lst [V.ref b6, V.ref b7]) := upd_same
  generalize upd H28 b8 (.lst [V.ref b6, V.ref b7]) = H29 at u29 eb8 ⊢
  intro b9 hb9
  have u30 := same_new hb9 (.dK [])
  have eb9 : upd H29 b9 (.dK []) b9 = some (.dK []) := upd_same
  generalize upd H29 b9 (.dK []) = H30 at u30 eb9 ⊢
  intro x7 dx7 hxx7 hdx7 ndx7
  refine .inl ⟨x7, dx7, 1, rfl, upd_same, by decide, by decide, fun H31 kpx7 stx7 => ⟨rfl, ?_⟩⟩
  have u31 := made hxx7 hdx7 kpx7
  refine ⟨sz1, fun b10 hb10 => ?_⟩
  have u32 := same_new hb10 (.lst [V.ref x7])
  have eb10 : upd H31 b10 (.lst [V.ref x7]) b10 = some (.lst [V.ref x7]) := upd_same
  generalize upd H31 b10 (.lst [V.ref x7]) = H32 at u32 eb10 ⊢
  refine ⟨szs (by decide : 7 ≤ 1000), fun b11 hb11 => ?_⟩
  have u33 := same_new hb11 (.lst [V.ref b3, V.ref b5, V.ref b8, V.str "rows", V.ref b9, V.int 7, V.ref b10])
  have eb11 : upd H32 b11 (.lst [V.ref b3, V.ref b5, V.ref b8, V.str "rows", V.ref b9, V.int 7, V.ref b10]) b11 = some (.lst [V.ref b3, V.ref b5, V.ref b8, V.str "rows", V.ref b9, V.int 7, V.ref b10]) := upd_same
  generalize upd H32 b11 (.lst [V.ref b3, V.ref b5, V.ref b8, V.str "rows", V.ref b9, V.int 7, V.ref b10]) = H33 at u33 eb11 ⊢
  refine ⟨a15, b11, _, _, rfl, rfl, (u21.trans (u22.trans (u23.trans (u24.trans (u25.trans (u26.trans (u27.trans (u28.trans (u29.trans (u30.trans (u31.trans (u32.trans (u33))))))))))))) _ _ ea15, eb11, szs (by decide : 8 + 7 ≤ 1000), ?_⟩
  intro zz hzz
  have u34 := same_new hzz (.lst ([V.non, V.ref a1, V.ref a3, V.ref a4, V.ref a7, V.ref a10, V.ref a12, V.ref a14] ++ [V.ref b3, V.ref b5, V.ref b8, V.str "rows", V.ref b9, V.int 7, V.ref b10]))
  have ezz : upd H33 zz (.lst ([V.non, V.ref a1, V.ref a3, V.ref a4, V.ref a7, V.ref a10, V.ref a12, V.ref a14] ++ [V.ref b3, V.ref b5, V.ref b8, V.str "rows", V.ref b9, V.int 7, V.ref b10])) zz = some (.lst ([V.non, V.ref a1, V.ref a3, V.ref a4, V.ref a7, V.ref a10, V.ref a12, V.ref a14] ++ [V.ref b3, V.ref b5, V.ref b8, V.str "rows", V.ref b9, V.int 7, V.ref b10])) := upd_same
  generalize upd H33 zz (.lst ([V.non, V.ref a1, V.ref a3, V.ref a4, V.ref a7, V.ref a10, V.ref a12, V.ref a14] ++ [V.ref b3, V.ref b5, V.ref b8, V.str "rows", V.ref b9, V.int 7, V.ref b10])) = H34 at u34 ezz ⊢
  have w34 := Same.refl H34
  have w33 := u34.trans w34
  have w32 := u33.trans w33
  have w31 := u32.trans w32
  have w30 := u31.trans w31
  have w29 := u30.trans w30
  have w28 := u29.trans w29
  have w27 := u28.trans w28
  have w26 := u27.trans w27
  have w25 := u26.trans w26
  have w24 := u25.trans w25
  have w23 := u24.trans w24
  have w22 := u23.trans w23
  have w21 := u22.trans w22
  have w20 := u21.trans w21
  have w19 := u20.trans w20
  have w18 := u19.trans w19
  have w17 := u18.trans w18
  have w16 := u17.trans w17
  have w15 := u16.trans w16
  have w14 := u15.trans w15
  have w13 := u14.trans w14
  have w12 := u13.trans w13
  have w11 := u12.trans w12
  have w10 := u11.trans w11
  have w9 := u10.trans w10
  have w8 := u9.trans w9
  have w7 := u8.trans w8
  have w6 := u7.trans w7
  have w5 := u6.trans w6
  have w4 := u5.trans w5
  have w3 := u4.trans w4
  have w2 := u3.trans w3
  have w1 := u2.trans w2
  have w0 := u1.trans w1
  obtain ⟨v, hv, sr⟩ := pick15 (m := j) (R := fun v => SRows c K H34 v false) (SRows.no (oth (fun K => .non) fun K => rfl))
    (SRows.no (oth (fun K => .tup (w1 _ _ ea1)) fun K => rfl))
    (SRows.no (oth (fun K => .tup (w4 _ _ ea3)) fun K => rfl))
    (SRows.len (w5 _ _ ea4) (by simp))
    (SRows.len (w9 _ _ ea7) (by show ¬ (1 ≤ 5 ∧ 5 ≤ 4); decide))
    (sr2 (w13 _ _ ea10) (SRow.two (w11 _ _ ea8) (IsW.yes (by decide) (by decide)) (.yes ((fun d m h => (stx3 d m h).kp (Same.kp w10)) 0 1 (by decide)))) (SRow.len (w12 _ _ ea9) (by show 1 ≠ 2; decide)))
    (sr1 (w16 _ _ ea12) (SRow.no (.lst (w15 _ _ ea11)) rfl))
    (sr1 (w19 _ _ ea14) (SRow.len (w18 _ _ ea13) (by show 3 ≠ 2; decide)))
    (sr1 (w23 _ _ eb3) (SRow.two (w22 _ _ eb2) (IsW.yes (by decide) (by decide)) (IsSt.no (.tup (w21 _ _ eb1)) (by decide))))
    (sr1 (w25 _ _ eb5) (SRow.two (w24 _ _ eb4) (IsW.yes (by decide) (by decide)) (IsSt.no (.int 1) (by decide))))
    (sr2 (w29 _ _ eb8) (SRow.two (w27 _ _ eb6) (IsW.yes (by decide) (by decide)) (.yes ((fun d m h => (stx6 d m h).kp (Same.kp w26)) 0 1 (by decide)))) (SRow.two (w28 _ _ eb7) (IsW.yes (by decide) (by decide)) (IsSt.no .non (by decide))))
    (SRows.no (oth (fun K => .str "rows") fun K => rfl))
    (SRows.no (oth (fun K => .dK (w30 _ _ eb9)) fun K => rfl))
    (SRows.no (oth (fun K => .int 7) fun K => rfl))
    (sr1 (w32 _ _ eb10) (en_no ck ct cn ((fun d m h => (stx7 d m h).kp (Same.kp w31)) 0 1 (by decide))))
  refine ⟨_, rfl, _, rfl, _, _, rfl, rfl, (by show (0 : Int) < 15; decide), zz, _, _, _, rfl, rfl, SqL.of ezz, hv, ?_⟩
  exact q v _ w0 sr
theorem box_all {c : Cs} {K : PySem.W.Frag} {H : Hp} {a : Addr} {xs : List V} (e : H a = some (.lst xs)) (h : ∀ x ∈ xs, IsSt c K H x true) (b : Bool) (hb : b = (decide (0 < (xs.length : Int)) && decide ((xs.length : Int) < 7))) : Boxs c K H (.ref a) b := by
  by_cases h1 : 1 ≤ xs.length
  · by_cases h6 : xs.length ≤ 6
    · have z := Boxs.all (c := c) (K := K) (bs := List.replicate xs.length true) e h1 h6 (by simp) fun i x hx => by
        have hi := (List.getElem?_eq_some_iff.mp hx).1
        have e2 : (List.replicate xs.length true).getD i false = true := by simp [List.getD, hi]
        rw [e2]
        exact h x (List.mem_of_getElem? hx)
      have e2 : (List.replicate xs.length true).all id = true := by simp
      rw [e2] at z
      rw [hb, decide_eq_true (by omega), decide_eq_true (by omega)]
      exact z
    · rw [hb, decide_eq_true (by omega), decide_eq_false (by omega)]
      exact .len e (by omega)
  · rw [hb, decide_eq_false (by omega)]
    exact .len e (by omega)
theorem box_bad {c : Cs} {K : PySem.W.Frag} {H : Hp} {a : Addr} {us zs : List V} {v : V} (e : H a = some (.lst (us ++ [v] ++ zs))) (hu : ∀ x ∈ us, IsSt c K H x true) (hz : ∀ x ∈ zs, IsSt c K H x true) (hv : IsSt c K H v false) : Boxs c K H (.ref a) false := by
  have hl : (us ++ [v] ++ zs).length = us.length + 1 + zs.length := by simp; omega
  by_cases h6 : us.length + 1 + zs.length ≤ 6
  · have z := Boxs.all (c := c) (K := K) (bs := List.replicate us.length true ++ [false] ++ List.replicate zs.length true) e (by omega) (by omega) (by simp) fun i x hx => by
      by_cases h1 : i < us.length
      · rw [List.append_assoc, List.getElem?_append_left h1] at hx
        have e2 : (List.replicate us.length true ++ [false] ++ List.replicate zs.length true).getD i false = true := by
          rw [List.append_assoc]
          simp [List.getD, List.getElem?_append_left, h1]
        rw [e2]
        exact hu x (List.mem_of_getElem? hx)
      · by_cases h2 : i = us.length
        · subst h2
          rw [List.append_assoc, List.getElem?_append_right (Nat.le_refl _), Nat.sub_self] at hx
          cases hx
          have e2 : (List.replicate us.length true ++ [false] ++ List.replicate zs.length true).getD us.length false = false := by
            rw [List.append_assoc]
            simp [List.getD]
          rw [e2]
          exact hv
        · have hx2 : zs[i - us.length - 1]? = some x := by
            rw [List.append_assoc, List.getElem?_append_right (by omega)] at hx
            obtain ⟨k, hk⟩ : ∃ k, i - us.length = k + 1 := ⟨i - us.length - 1, by omega⟩
            rw [hk] at hx ⊢
            exact hx
          have hi := (List.getElem?_eq_some_iff.mp hx2).1
          have e2 : (List.replicate us.length true ++ [false] ++ List.replicate zs.length true).getD i false = true := by
            obtain ⟨k, hk⟩ : ∃ k, i = us.length + (k + 1) := ⟨i - us.length - 1, by omega⟩
            subst hk
            rw [List.append_assoc]
            have hk2 : k < zs.length := by omega
            simp [List.getD, List.getElem?_append_right, hk2]
          rw [e2]
          exact hz x (List.mem_of_getElem? hx2)
    have e2 : (List.replicate us.length true ++ [false] ++ List.replicate zs.length true).all id = false := by simp
    rw [e2] at z
    exact z
  · exact .len e (by omega)
theorem FnOk.or {P : Program} {w : World} {K : PySem.W.Frag} {mg : Str → Option Value} {base : Heap} {k : Nat} {f : Addr} {fd : FuncData} {ps : List Str} {s1 s2 : Sp} (a : FnOk P w K mg base CX0 k f fd ps s1) (b : FnOk P w K mg base CX0 k f fd ps s2) : FnOk P w K mg base CX0 k f fd ps (fun vs H Q E => s1 vs H Q E ∨ s2 vs H Q E) :=
  ⟨fun vs H Q E h => h.elim (a.1 vs H Q E) (b.1 vs H Q E), fun A outer s H args us vs Q E hr e0 hb r hsp => hsp.elim (fun h => a.2 A outer s H args us vs Q E hr e0 hb r h) (fun h => b.2 A outer s H args us vs Q E hr e0 hb r h)⟩
theorem lst_over {pos : Pos} {qual : Str} {H : Hp} {a : Addr} {xs zs : List V} (t : TbOk Pt pos qual H) (e : H a = some (.lst xs)) : TbOk Pt pos qual (upd H a (.lst zs)) := by
  rcases t with t | ⟨c, t, u⟩
  · exact .inl (by rw [upd_ne (ne_of t e fun z => nomatch z)]; exact t)
  · exact .inr ⟨c, by rw [upd_ne (ne_of t e fun z => nomatch z)]; exact t, by rw [upd_ne (ne_of u e fun z => nomatch z)]; exact u⟩
theorem isSt_lst {c : Cs} {H : Hp} {D : Addr} {zs zs' : List V} (hD : H D = some (.lst zs)) {x : Addr} (h : ∃ s d m, StAt c H x s d m) : ∃ s d m, StAt c (upd H D (.lst zs')) x s d m := let ⟨s, d, m, h⟩ := h; ⟨s, d, m, st_lst hD h⟩
theorem ens_sum {n : Nat} : ∀ {l : List (Int × Sd.Sd)}, (∀ t ∈ l, ∃ v, t.2 = .en v) → (l.map fun r => Sd.nE (n + 1) r.2).sum = (l.length : Int)
  | [], _ => rfl
  | t :: l, h => by
    obtain ⟨v, e⟩ := h t List.mem_cons_self
    rw [List.map_cons, List.sum_cons, ens_sum fun x hx => h x (List.mem_cons_of_mem _ hx), e, List.length_cons]
    show (1 : Int) + _ = _
    push_cast
    omega
theorem jm_sum {M : Nat} : ∀ {l : List (Int × Sd.Sd)}, (∀ t ∈ l, ∃ v, t.2 = .en v) → (l.map (jM M)).sum = l.length
  | [], _ => rfl
  | t :: l, h => by
    obtain ⟨v, e⟩ := h t List.mem_cons_self
    have e2 : jM M t = 1 := by unfold jM; rw [e]
    rw [List.map_cons, List.sum_cons, jm_sum fun x hx => h x (List.mem_cons_of_mem _ hx), e2, List.length_cons]
    omega
theorem wd_nE {n : Nat} (h : n ≤ 2) : Sd.nE (n + 1 + 1) (wdSd n) = 4 + 3 * (n : Int) := by
  rcases (by omega : n = 0 ∨ n = 1 ∨ n = 2) with e | e | e <;> subst e <;> rfl
def spW2 (c : Cs) (Pt : Addr) (lp : Pos) : Sp := fun vs H Q E => spWide c Pt lp 1 vs H Q E ∨ spWide c Pt lp 2 vs H Q E
theorem p9 : CPow 10 9 := ⟨by decide, by decide, by decide⟩
theorem cut_front (xs : List V) (n : Nat) (h : n ≤ xs.length) : cutV xs none (some (n : Int)) = xs.take n := by
  unfold cutV
  have e1 : HT.sIx xs.length 0 none = 0 := rfl
  have e2 : HT.sIx xs.length xs.length (some (n : Int)) = n := by rw [HT.sIx_nat]; omega
  rw [e1, e2, List.drop_zero, Nat.sub_zero]
theorem cut_back (xs : List V) (n : Nat) (h : n ≤ xs.length) : cutV xs (some (n : Int)) none = xs.drop n := by
  unfold cutV
  have e1 : HT.sIx xs.length xs.length none = xs.length := rfl
  have e2 : HT.sIx xs.length 0 (some (n : Int)) = n := by rw [HT.sIx_nat]; omega
  rw [e1, e2, List.take_of_length_le (by rw [List.length_drop]; omega)]
theorem pick3 {v0 v1 v2 : V} {m : Int} {R : V → Prop} (h0 : R v0) (h1 : R v1) (h2 : R v2) : ∃ v, atI [v0, v1, v2] (m % 3) = some v ∧ R v := by
  have a1 := Int.emod_nonneg m (show (3 : Int) ≠ 0 by decide)
  have a2 := Int.emod_lt_of_pos m (show (0 : Int) < 3 by decide)
  rcases (by omega : m % 3 = 0 ∨ m % 3 = 1 ∨ m % 3 = 2) with e | e | e <;> rw [e]
  · exact ⟨_, rfl, h0⟩
  · exact ⟨_, rfl, h1⟩
  · exact ⟨_, rfl, h2⟩
theorem ok__law_one {n : Nat} {f : Addr} {fd : FuncData} (F : Fun K "_law_one" "_law_one" (top 47) f fd) {c : Cs} {C_NoBox iE : Addr} {dE : FuncData} {kE : Nat} (M_End : Mk K c.e iE) (G_End : FnOk P w K mg base (CXr P w) kE iE dE ["self", "worth"] (spEIX c C_NoBox)) (b_End : Binds K dE ["self", "worth"] []) (g_End : mg "End" = some (.ref c.e)) (hn_End : kE + 1 ≤ n) {g__law_is : Addr} {gd__law_is : FuncData} (c__law_is : Cal P w K mg base n "_law_is" ["_law_what", "_law_one_here", "_law_other", "_law_good"] (spIs15 c K Pt lamP) g__law_is gd__law_is) {g__law_mixed : Addr} {gd__law_mixed : FuncData} (c__law_mixed : Cal P w K mg base n "_law_mixed" ["_law_cell", "_law_k"] spMx1 g__law_mixed gd__law_mixed) {g__law_chain : Addr} {gd__law_chain : FuncData} (c__law_chain : Cal P w K mg base n "_law_chain" ["_law_many"] (spChain c Pt lamP) g__law_chain gd__law_chain) {g__law_wide : Addr} {gd__law_wide : FuncData} (c__law_wide : Cal P w K mg base n "_law_wide" ["_law_many"] (spW2 c Pt lamP) g__law_wide gd__law_wide) {g__law_rows : Addr} {gd__law_rows : FuncData} (c__law_rows : Cal P w K mg base n "_law_rows" ["_law_cell"] (spRows15 c K) g__law_rows gd__law_rows) {g__law_is_number : Addr} {gd__law_is_number : FuncData} (c__law_is_number : Cal P w K mg base n "_law_is_number" ["_law_thing_here", "_law_low", "_law_high"] spIsWx g__law_is_number gd__law_is_number) {g__law_thing : Addr} {gd__law_thing : FuncData} (c__law_thing : Cal P w K mg base n "_law_thing" ["_law_cell", "_law_low", "_law_high"] spThing g__law_thing gd__law_thing) (z_tuple : mg "tuple" = none) (z_len : mg "len" = none) (z_range : mg "range" = none) : FnOk P w K mg base CX0 (n + 1) f fd ["_law_cell"] (spOne15 Pt lamP) := by
  refine F.ok sc__law_one (fun vs H Q E h => ?_) (fun cdv A outer s H vs Q E hr h => ?_)
  · obtain ⟨cc, rfl, _⟩ := h
    rfl
  obtain ⟨cc, rfl, tb, q⟩ := h
  have nd := sc__law_one.nd
  have hu1 : _ + 0 + 1 < cLine := Nat.lt_of_le_of_lt (Nat.add_le_add_left (by decide : 1 ≤ 64) _) (Room.units hr)
  refine ⟨_, (pss_cons (ps_set (i := 1) nd rfl (Or.inl rfl) (pe_op op_mod (pe_callC c__law_mixed hr (pa_cons (pv 0) (pa_cons pe_int pa_nil))) pe_int)) (pss_cons (ps_if (pt_cmpR op_eq (pv 1) pe_int (nomark _)) (pss_cons (ps_set (i := 2) nd rfl (Or.inl rfl) (pe_callC c__law_thing hr (pa_cons (pv 0) (pa_cons pe_int (pa_cons (pe_op op_pow pe_int pe_int) pa_nil))))) (pss_one (ps_ret (pe_callC c__law_is hr (pa_cons pe_str (pa_cons (pv 2) (pa_cons pe_int (pa_cons (pe_callC c__law_is_number hr (pa_cons (pv 2) (pa_cons pe_int (pa_cons (pe_op op_pow pe_int pe_int) pa_nil)))) pa_nil)))))))) pss_nil) (pss_cons (ps_if (pt_cmpR op_eq (pv 1) pe_int (nomark _)) (pss_cons (ps_set (i := 2) nd rfl (Or.inl rfl) (pe_callC c__law_thing hr (pa_cons (pv 0) (pa_cons pe_int (pa_cons (pe_op op_pow pe_int pe_int) pa_nil))))) (pss_one (ps_ret (pe_callC c__law_is hr (pa_cons pe_str (pa_cons (pv 2) (pa_cons (pe_lst (pa_cons (pe_tup (pa_cons pe_int (pa_cons (pe_make M_End G_End (hr.mono hn_End) rfl g_End b_End .nil passF (pa_cons pe_int pa_nil)) pa_nil))) (pa_cons (pe_tup (pa_cons pe_int (pa_cons (pe_make M_End G_End (hr.mono hn_End) rfl g_End b_End .nil passF (pa_cons pe_int pa_nil)) pa_nil))) pa_nil))) (pa_cons (pe_callC c__law_is_number hr (pa_cons (pv 2) (pa_cons pe_int (pa_cons (pe_op op_pow pe_int pe_int) pa_nil)))) pa_nil)))))))) pss_nil) (pss_cons (ps_if (pt_cmpR op_eq (pv 1) pe_int (nomark _)) (pss_cons (ps_set (i := 2) nd rfl (Or.inl rfl) (pe_callC c__law_thing hr (pa_cons (pv 0) (pa_cons pe_int (pa_cons pe_int pa_nil))))) (pss_cons (ps_set (i := 3) nd rfl (Or.inl rfl) (pe_lst (pa_cons (pe_tup (pa_cons pe_int (pa_cons (pe_make M_End G_End (hr.mono hn_End) rfl g_End b_End .nil passF (pa_cons pe_int pa_nil)) pa_nil))) (pa_cons (pe_tup (pa_cons (pv 2) (pa_cons (pe_make M_End G_End (hr.mono hn_End) rfl g_End b_End .nil passF (pa_cons pe_int pa_nil)) pa_nil))) (pa_cons (pe_tup (pa_cons pe_int (pa_cons (pe_make M_End G_End (hr.mono hn_End) rfl g_End b_End .nil passF (pa_cons pe_int pa_nil)) pa_nil))) pa_nil))))) (pss_one (ps_ret (pe_callC c__law_is hr (pa_cons pe_str (pa_cons pe_int (pa_cons (pv 3) (pa_cons (pe_callC c__law_is_number hr (pa_cons (pv 2) (pa_cons pe_int (pa_cons pe_int pa_nil)))) pa_nil))))))))) pss_nil) (pss_cons (ps_if (pt_cmpR op_eq (pv 1) pe_int (nomark _)) (pss_one (ps_ret (pe_callC c__law_is hr (pa_cons pe_str (pa_cons pe_int (pa_cons (pe_callC c__law_rows hr (pa_cons (pv 0) pa_nil)) (pa_cons pe_bl pa_nil))))))) pss_nil) (pss_cons (ps_set (i := 4) nd rfl (Or.inr rfl) (pe_op op_mod (pe_callC c__law_mixed hr (pa_cons (pv 0) (pa_cons pe_int pa_nil))) pe_int)) (pss_cons (ps_if (pt_cmpR op_eq (pv 1) pe_int (nomark _)) (pss_one (ps_ret (pe_callC c__law_is hr (pa_cons pe_str (pa_cons pe_int (pa_cons (pe_lst (pa_cons (pe_tup (pa_cons pe_int (pa_cons (pe_callC c__law_chain hr (pa_cons (pv 4) pa_nil)) pa_nil))) (pa_cons (pe_tup (pa_cons pe_int (pa_cons (pe_make M_End G_End (hr.mono hn_End) rfl g_End b_End .nil passF (pa_cons pe_int pa_nil)) pa_nil))) pa_nil))) (pa_cons (pe_cmpR op_lt (pv 4) pe_int (nomark _)) pa_nil))))))) pss_nil) (pss_cons (ps_if (pt_cmpR op_eq (pv 1) pe_int (nomark _)) (pss_cons (ps_setC (i := 3) (ls := ["_law_k"]) (M := ["_law_cell", "_law_way", "_law_thing_here", "_law_rows_here", "_law_many", "_law_stands", "_law_at"]) rfl (CompOk.of (by rfl)) (NL.of (by rfl)) nd rfl (Or.inl rfl) (pi_range1 rfl z_range (pa_cons (pe_op op_add pe_int (pe_op op_mod (pe_callC c__law_mixed hr (pa_cons (pv 0) (pa_cons pe_int pa_nil))) pe_int)) pa_nil)) (fun _ _ _ _ => ⟨(pg_name (i := 0) (nd_of (by rfl)) rfl (Or.inl rfl)), pts_nil, (pe_tup (pa_cons pe_int (pa_cons (pe_make M_End G_End (hr.mono hn_End) rfl g_End b_End .nil passF (pa_cons (pv 0) pa_nil)) pa_nil)))⟩)) (pss_one (ps_ret (pe_callC c__law_is hr (pa_cons pe_str (pa_cons pe_int (pa_cons (pe_op op_cat (pv 3) (pe_lst (pa_cons (pe_tup (pa_cons pe_int (pa_cons (pe_callC c__law_wide hr (pa_cons (pe_op op_sub pe_int (pe_op op_mulB (pe_op op_mod (pv 4) pe_int) pe_int)) pa_nil)) pa_nil))) pa_nil))) (pa_cons (pe_cmpR op_lt (pe_op op_sub (pe_op op_add (pe_callB call_len_seq rfl z_len bt_len (pa_cons (pv 3) pa_nil)) pe_int) (pe_op op_mulB (pe_op op_mod (pv 4) pe_int) pe_int)) pe_int (nomark _)) pa_nil)))))))) pss_nil) (pss_cons (ps_setC (i := 5) (ls := ["_law_k"]) (M := ["_law_cell", "_law_way", "_law_thing_here", "_law_rows_here", "_law_many", "_law_stands", "_law_at"]) rfl (CompOk.of (by rfl)) (NL.of (by rfl)) nd rfl (Or.inl rfl) (pi_range1 rfl z_range (pa_cons (pe_op op_mod (pe_callC c__law_mixed hr (pa_cons (pv 0) (pa_cons pe_int pa_nil))) pe_int) pa_nil)) (fun _ _ _ _ => ⟨(pg_name (i := 0) (nd_of (by rfl)) rfl (Or.inl rfl)), pts_nil, (pe_callC c__law_chain hr (pa_cons (pe_op op_mod (pe_op op_add (pv 5) (pv 0)) pe_int) pa_nil))⟩)) (pss_cons (ps_if (PW.pt (pw_and (pt_cmpR (op_neD (n := 0) hu1) (pv 5) (pe_lst pa_nil) (nomark _)) (pw_and1 (pt_cmpR op_eq (pe_op op_mod (pe_callC c__law_mixed hr (pa_cons (pv 0) (pa_cons pe_int pa_nil))) pe_int) pe_int (nomark _))))) (pss_one (ps_set (i := 5) nd rfl (Or.inl rfl) (pe_op op_rep (pe_lst (pa_cons (pe_ix ix_list (pv 5) pe_int (fun _ _ => rfl)) pa_nil)) (pe_callB call_len_seq rfl z_len bt_len (pa_cons (pv 5) pa_nil))))) pss_nil) (pss_cons (ps_if (pt_cmpR op_eq (pv 1) pe_int (nomark _)) (pss_one (ps_ret (pe_callC c__law_is hr (pa_cons pe_str (pa_cons (pv 5) (pa_cons pe_int (pa_cons (pe_chain op_lt op_lt pe_int (pe_callB call_len_seq rfl z_len bt_len (pa_cons (pv 5) pa_nil)) pe_int) pa_nil))))))) pss_nil) (pss_cons (ps_set (i := 6) nd rfl (Or.inl rfl) (pe_op op_mod (pe_callC c__law_mixed hr (pa_cons (pv 0) (pa_cons pe_int pa_nil))) (pe_op op_add (pe_callB call_len_seq rfl z_len bt_len (pa_cons (pv 5) pa_nil)) pe_int))) (pss_cons (ps_set (i := 5) nd rfl (Or.inl rfl) (pe_op op_cat (pe_op op_cat (pe_slice sl_list (pv 5) po_none (po_some (pv 6))) (pe_lst (pa_cons (pe_ix ix_list (pe_lst (pa_cons pe_non (pa_cons pe_int (pa_cons pe_str (pa_cons (pe_tup (pa_cons pe_str (pa_cons pe_int pa_nil))) (pa_cons (pe_lst (pa_cons (pe_make M_End G_End (hr.mono hn_End) rfl g_End b_End .nil passF (pa_cons pe_int pa_nil)) pa_nil)) pa_nil)))))) (pv 4) (fun _ _ => rfl)) pa_nil))) (pe_slice sl_list (pv 5) (po_some (pv 6)) po_none))) (pss_one (ps_ret (pe_callC c__law_is hr (pa_cons pe_str (pa_cons (pe_ix ix_list (pe_lst (pa_cons (pv 5) (pa_cons (pe_callTy (call_tuple_ofK (K := K) rfl) rfl z_tuple bt_tuple (pa_cons (pv 5) pa_nil)) (pa_cons pe_non pa_nil)))) (pe_op op_mod (pe_callC c__law_mixed hr (pa_cons (pv 0) (pa_cons pe_int pa_nil))) pe_int) (fun _ _ => rfl)) (pa_cons pe_int (pa_cons pe_bl pa_nil)))))))))))))))))))), ?_⟩
  refine ⟨_, rfl, cc, 0, rfl, by decide, by decide, fun z0 z00 z0x => ?_⟩
  refine ⟨_, _, rfl, rfl, (by show (0 : Int) < 8; decide), ?_⟩
  refine ⟨_, rfl, rfl, _, rfl, ?_⟩
  refine ite2 (fun _ => ?_) (fun _ => ?_)
  · refine ⟨_, rfl, _, _, rfl, rfl, p9, cc, 0, _, rfl, by decide, by decide, by decide, fun v b H1 s1 iw => ?_⟩
    exact ⟨_, rfl, _, rfl, _, _, rfl, rfl, p9, v, 0, _, b, rfl, iw, "end", v, .int 0, b, rfl, .en iw, tb.same s1, fun H2 s2 tb2 => q H2 (s1.toT.trans s2) tb2⟩
  refine ⟨_, rfl, rfl, _, rfl, ?_⟩
  refine ite2 (fun _ => ?_) (fun _ => ?_)
  · refine ⟨_, rfl, _, _, rfl, rfl, p9, cc, 0, _, rfl, by decide, by decide, by decide, fun v b H1 s1 iw => ?_⟩
    refine ⟨_, rfl, ?_⟩
    intro x1 dx1 hxx1 hdx1 ndx1
    refine .inl ⟨x1, dx1, 2, rfl, upd_same, by decide, by decide, fun H2 kpx1 stx1 => ⟨rfl, ?_⟩⟩
    have u2 := made hxx1 hdx1 kpx1
    refine ⟨sz2, fun a1 ha1 => ?_⟩
    have u3 := same_new ha1 (.tup [V.int 1, V.ref x1])
    have ea1 : upd H2 a1 (.tup [V.int 1, V.ref x1]) a1 = some (.tup [V.int 1, V.ref x1]) := upd_same
    generalize upd H2 a1 (.tup [V.int 1, V.ref x1]) = H3 at u3 ea1 ⊢
    intro x2 dx2 hxx2 hdx2 ndx2
    refine .inl ⟨x2, dx2, 4, rfl, upd_same, by decide, by decide, fun H4 kpx2 stx2 => ⟨rfl, ?_⟩⟩
    have u4 := made hxx2 hdx2 kpx2
    refine ⟨sz2, fun a2 ha2 => ?_⟩
    have u5 := same_new ha2 (.tup [V.int 3, V.ref x2])
    have ea2 : upd H4 a2 (.tup [V.int 3, V.ref x2]) a2 = some (.tup [V.int 3, V.ref x2]) := upd_same
    generalize upd H4 a2 (.tup [V.int 3, V.ref x2]) = H5 at u5 ea2 ⊢
    refine ⟨sz2, fun a3 ha3 => ?_⟩
    have u6 := same_new ha3 (.lst [V.ref a1, V.ref a2])
    have ea3 : upd H5 a3 (.lst [V.ref a1, V.ref a2]) a3 = some (.lst [V.ref a1, V.ref a2]) := upd_same
    generalize upd H5 a3 (.lst [V.ref a1, V.ref a2]) = H6 at u6 ea3 ⊢
    have w6 := Same.refl H6
    have w5 := u6.trans w6
    have w4 := u5.trans w5
    have w3 := u4.trans w4
    have w2 := u3.trans w3
    have w1 := u2.trans w2
    have iw2 : IsW H6 0 1000000000 v b := iw.kt (Same.kt w1)
    refine ⟨_, rfl, _, _, rfl, rfl, p9, v, 0, _, b, rfl, iw2, "stage", v, .ref a3, b, rfl, .st ?_, (tb.same s1).same w1, fun H2 s2 tb2 => q H2 (s1.toT.trans (w1.toT.trans s2)) tb2⟩
    cases b with
    | false => exact .price iw2
    | true =>
      obtain ⟨i, rfl, i0, i9⟩ := iw2.inv
      refine .good (d := 0) (m := 2) (j := jM 1) i0 i9 (gr_of (tr := [(a1, x1, 1, .en 2), (a2, x2, 3, .en 4)]) (w6 _ _ ea3) (fun r hr => ?_) (List.cons_ne_nil _ _) (by show 2 ≤ 4; decide)) (by show jM 1 (1, .en 2) + (jM 1 (3, .en 4) + 0) ≤ 2; decide) (by decide) (by decide)
      simp only [List.mem_cons, List.not_mem_nil, or_false] at hr
      rcases hr with rfl | rfl
      · exact ⟨(w3 _ _ ea1), (fun d m h => (stx1 d m h).kp (Same.kp w2)) _ _ (jM_pos (by decide) _), (show (1 : Int) ≤ 1 by decide), (show (1 : Int) ≤ 1000 by decide)⟩
      · exact ⟨(w5 _ _ ea2), (fun d m h => (stx2 d m h).kp (Same.kp w4)) _ _ (jM_pos (by decide) _), (show (1 : Int) ≤ 3 by decide), (show (3 : Int) ≤ 1000 by decide)⟩
  refine ⟨_, rfl, rfl, _, rfl, ?_⟩
  refine ite2 (fun _ => ?_) (fun _ => ?_)
  · refine ⟨_, rfl, cc, 1, 1000, rfl, by decide, by decide, by decide, fun v b H1 s1 iw => ?_⟩
    intro x1 dx1 hxx1 hdx1 ndx1
    refine .inl ⟨x1, dx1, 2, rfl, upd_same, by decide, by decide, fun H2 kpx1 stx1 => ⟨rfl, ?_⟩⟩
    have u2 := made hxx1 hdx1 kpx1
    refine ⟨sz2, fun a1 ha1 => ?_⟩
    have u3 := same_new ha1 (.tup [V.int 1, V.ref x1])
    have ea1 : upd H2 a1 (.tup [V.int 1, V.ref x1]) a1 = some (.tup [V.int 1, V.ref x1]) := upd_same
    generalize upd H2 a1 (.tup [V.int 1, V.ref x1]) = H3 at u3 ea1 ⊢
    refine ⟨_, rfl, ?_⟩
    intro x2 dx2 hxx2 hdx2 ndx2
    refine .inl ⟨x2, dx2, 4, rfl, upd_same, by decide, by decide, fun H4 kpx2 stx2 => ⟨rfl, ?_⟩⟩
    have u4 := made hxx2 hdx2 kpx2
    refine ⟨sz2, fun a2 ha2 => ?_⟩
    have u5 := same_new ha2 (.tup [v, V.ref x2])
    have ea2 : upd H4 a2 (.tup [v, V.ref x2]) a2 = some (.tup [v, V.ref x2]) := upd_same
    generalize upd H4 a2 (.tup [v, V.ref x2]) = H5 at u5 ea2 ⊢
    intro x3 dx3 hxx3 hdx3 ndx3
    refine .inl ⟨x3, dx3, 5, rfl, upd_same, by decide, by decide, fun H6 kpx3 stx3 => ⟨rfl, ?_⟩⟩
    have u6 := made hxx3 hdx3 kpx3
    refine ⟨sz2, fun a3 ha3 => ?_⟩
    have u7 := same_new ha3 (.tup [V.int 1000, V.ref x3])
    have ea3 : upd H6 a3 (.tup [V.int 1000, V.ref x3]) a3 = some (.tup [V.int 1000, V.ref x3]) := upd_same
    generalize upd H6 a3 (.tup [V.int 1000, V.ref x3]) = H7 at u7 ea3 ⊢
    refine ⟨sz3, fun a4 ha4 => ?_⟩
    have u8 := same_new ha4 (.lst [V.ref a1, V.ref a2, V.ref a3])
    have ea4 : upd H7 a4 (.lst [V.ref a1, V.ref a2, V.ref a3]) a4 = some (.lst [V.ref a1, V.ref a2, V.ref a3]) := upd_same
    generalize upd H7 a4 (.lst [V.ref a1, V.ref a2, V.ref a3]) = H8 at u8 ea4 ⊢
    have w8 := Same.refl H8
    have w7 := u8.trans w8
    have w6 := u7.trans w7
    have w5 := u6.trans w6
    have w4 := u5.trans w5
    have w3 := u4.trans w4
    have w2 := u3.trans w3
    have w1 := u2.trans w2
    have iw2 : IsW H8 1 1000 v b := iw.kt (Same.kt w1)
    refine ⟨_, rfl, _, rfl, v, 1, 1000, b, rfl, iw2, "stage", .int 3, .ref a4, b, rfl, .st ?_, (tb.same s1).same w1, fun H2 s2 tb2 => q H2 (s1.toT.trans (w1.toT.trans s2)) tb2⟩
    cases b with
    | false =>
      refine .rows (IsW.yes (by decide) (by decide)) (SRows.all (bs := [true, false, true]) (w8 _ _ ea4) (by show 1 ≤ 3; decide) (by show 3 ≤ 4; decide) rfl fun i y hy => ?_)
      match i, hy with
      | 0, hy => cases hy; exact SRow.two (w3 _ _ ea1) (IsW.yes (by decide) (by decide)) (.yes ((fun d m h => (stx1 d m h).kp (Same.kp w2)) 0 1 (by decide)))
      | 1, hy => cases hy; exact SRow.two (b2 := true) (w5 _ _ ea2) iw2 (.yes ((fun d m h => (stx2 d m h).kp (Same.kp w4)) 0 1 (by decide)))
      | 2, hy => cases hy; exact SRow.two (w7 _ _ ea3) (IsW.yes (by decide) (by decide)) (.yes ((fun d m h => (stx3 d m h).kp (Same.kp w6)) 0 1 (by decide)))
      | k + 3, hy => simp at hy
    | true =>
      obtain ⟨i, rfl, i0, i9⟩ := iw2.inv
      refine .good (p := 3) (d := 0) (m := 3) (j := jM 1) (by decide) (by decide) (gr_of (tr := [(a1, x1, 1, .en 2), (a2, x2, i, .en 4), (a3, x3, 1000, .en 5)]) (w8 _ _ ea4) (fun r hr => ?_) (List.cons_ne_nil _ _) (by show 3 ≤ 4; decide)) (by show jM 1 (1, .en 2) + (jM 1 (i, .en 4) + (jM 1 (1000, .en 5) + 0)) ≤ 3; rw [jM_1, jM_1, jM_1]; exact Nat.le_refl _) (by decide) (by decide)
      simp only [List.mem_cons, List.not_mem_nil, or_false] at hr
      rcases hr with rfl | rfl | rfl
      · exact ⟨(w3 _ _ ea1), (fun d m h => (stx1 d m h).kp (Same.kp w2)) _ _ (jM_pos (by decide) _), (show (1 : Int) ≤ 1 by decide), (show (1 : Int) ≤ 1000 by decide)⟩
      · exact ⟨(w5 _ _ ea2), (fun d m h => (stx2 d m h).kp (Same.kp w4)) _ _ (jM_pos (by decide) _), i0, i9⟩
      · exact ⟨(w7 _ _ ea3), (fun d m h => (stx3 d m h).kp (Same.kp w6)) _ _ (jM_pos (by decide) _), (show (1 : Int) ≤ 1000 by decide), (show (1000 : Int) ≤ 1000 by decide)⟩
  refine ⟨_, rfl, rfl, _, rfl, ?_⟩
  refine ite2 (fun _ => ?_) (fun _ => ?_)
  · exact ⟨_, rfl, cc, rfl, fun v H1 s1 sr => ⟨"stage", .int 3, v, false, rfl, .st (.rows (IsW.yes (by decide) (by decide)) sr), tb.same s1, fun H2 s2 tb2 => q H2 (s1.toT.trans s2) tb2⟩⟩
  refine ⟨_, rfl, cc, 5, rfl, by decide, by decide, fun z5 z50 z5x => ?_⟩
  refine ⟨_, _, rfl, rfl, (by show (0 : Int) < 5; decide), ?_⟩
  have g1 := Int.emod_nonneg z5 (show (5 : Int) ≠ 0 by decide)
  have g2 := Int.emod_lt_of_pos z5 (show (0 : Int) < 5 by decide)
  obtain ⟨m, hm⟩ : ∃ m : Nat, z5 % 5 = (m : Int) := ⟨(z5 % 5).toNat, by omega⟩
  have m4 : m ≤ 4 := by omega
  refine ⟨_, rfl, rfl, _, rfl, ?_⟩
  refine ite2 (fun _ => ?_) (fun _ => ?_)
  · refine ⟨_, rfl, m, congrArg (fun z => [V.int z]) hm, m4, tb, fun y H1 s1 tb1 sy => ?_⟩
    refine ⟨sz2, fun a1 ha1 => ?_⟩
    have u2 := same_new ha1 (.tup [V.int 1, V.ref y])
    have ea1 : upd H1 a1 (.tup [V.int 1, V.ref y]) a1 = some (.tup [V.int 1, V.ref y]) := upd_same
    generalize upd H1 a1 (.tup [V.int 1, V.ref y]) = H2 at u2 ea1 ⊢
    intro x2 dx2 hxx2 hdx2 ndx2
    refine .inl ⟨x2, dx2, 0, rfl, upd_same, by decide, by decide, fun H3 kpx2 stx2 => ⟨rfl, ?_⟩⟩
    have u3 := made hxx2 hdx2 kpx2
    refine ⟨sz2, fun a2 ha2 => ?_⟩
    have u4 := same_new ha2 (.tup [V.int 2, V.ref x2])
    have ea2 : upd H3 a2 (.tup [V.int 2, V.ref x2]) a2 = some (.tup [V.int 2, V.ref x2]) := upd_same
    generalize upd H3 a2 (.tup [V.int 2, V.ref x2]) = H4 at u4 ea2 ⊢
    refine ⟨sz2, fun a3 ha3 => ?_⟩
    have u5 := same_new ha3 (.lst [V.ref a1, V.ref a2])
    have ea3 : upd H4 a3 (.lst [V.ref a1, V.ref a2]) a3 = some (.lst [V.ref a1, V.ref a2]) := upd_same
    generalize upd H4 a3 (.lst [V.ref a1, V.ref a2]) = H5 at u5 ea3 ⊢
    have w5 := Same.refl H5
    have w4 := u5.trans w5
    have w3 := u4.trans w4
    have w2 := u3.trans w3
    have w1 := u2.trans w2
    have gg : GRow c H5 a3 [a1, a2] [y, x2] [(1, chSd m), (2, .en 0)] m (jM 1) := gr_of (tr := [(a1, y, 1, chSd m), (a2, x2, 2, .en 0)]) (w5 _ _ ea3) (fun r hr => by
      simp only [List.mem_cons, List.not_mem_nil, or_false] at hr
      rcases hr with rfl | rfl
      · refine ⟨(w2 _ _ ea1), ?_, (show (1 : Int) ≤ 1 by decide), (show (1 : Int) ≤ 1000 by decide)⟩
        rw [jM_1]
        exact sy.kp (Same.kp w1)
      · exact ⟨(w4 _ _ ea2), (fun d m h => (stx2 d m h).kp (Same.kp w3)) _ _ (jM_pos (by decide) _), (show (1 : Int) ≤ 2 by decide), (show (2 : Int) ≤ 1000 by decide)⟩) (List.cons_ne_nil _ _) (by show 2 ≤ 4; decide)
    refine ⟨_, rfl, _, _, rfl, rfl, "stage", .int 3, .ref a3, decide (z5 % 5 < 4), rfl, .st ?_, tb1.same w1, fun H2 s2 tb2 => q H2 (s1.trans (w1.toT.trans s2)) tb2⟩
    by_cases h : z5 % 5 < 4
    · rw [decide_eq_true h]
      exact .good (m := 2) (by decide) (by decide) gg (by show jM 1 (1, chSd m) + (jM 1 (2, .en 0) + 0) ≤ 2; rw [jM_1, jM_1]; exact Nat.le_refl _) (by decide) (by omega)
    · rw [decide_eq_false h]
      obtain rfl : m = 4 := by omega
      exact .big (by decide) (by decide) gg (.inr (by decide))
  refine ⟨_, rfl, rfl, _, rfl, ?_⟩
  refine ite2 (fun _ => ?_) (fun _ => ?_)
  · refine ⟨_, rfl, cc, 6, rfl, by decide, by decide, fun z6 z60 z6x => ?_⟩
    refine ⟨_, _, rfl, rfl, (by show (0 : Int) < 3; decide), _, _, rfl, rfl, 1 + z6 % 3, rfl, ?_, ?_, fun D hD => ?_⟩
    · have := Int.emod_nonneg z6 (show (3 : Int) ≠ 0 by decide); omega
    · have := Int.emod_lt_of_pos z6 (show (0 : Int) < 3 by decide); omega
    have f1 := Int.emod_nonneg z6 (show (3 : Int) ≠ 0 by decide)
    have f2 := Int.emod_lt_of_pos z6 (show (0 : Int) < 3 by decide)
    refine comp_range (n := (1 + z6 % 3).toNat) (fun i τ H' => ∃ v0 tr, τ = [v0, some (.int cc), some (.int (z0 % 8)), none, none, some (.int (z5 % 5)), none, none] ∧ Same H H' ∧ H' D = some (.lst (trefs tr)) ∧ ER c H' tr ∧ (∀ r ∈ tr, r.2.2.1 = 1 ∧ ∃ v, r.2.2.2 = .en v) ∧ tr.length = i) ⟨none, [], rfl, same_new hD _, upd_same, (fun _ h => nomatch h), (fun _ h => nomatch h), rfl⟩ ?turn5 ?done5
    case turn5 =>
      rintro i mm τ H2 hmm hi ⟨v0, tr, rfl, s2, hD2, er, et, tl⟩
      refine gyes ?_
      refine ⟨_, rfl, ?_⟩
      intro x dx hx hdx ndx
      refine .inl ⟨x, dx, 0 + (i : Int), rfl, upd_same, by omega, by omega, fun H3 kp st => ⟨rfl, ?_⟩⟩
      have s3 := made hx hdx kp
      refine ⟨sz2, fun t ht => ?_⟩
      have n4 := same_new ht (.tup [V.int 1, V.ref x])
      have hD4 := (s3.trans n4) _ _ hD2
      have er4 : ER c _ (tr ++ [(t, x, 1, .en (0 + (i : Int)))]) := (er.kt (Same.kt (s3.trans n4))).snoc upd_same fun d m h => (st d m h).kp (Same.kp n4)
      refine comp_next hmm hi hD4 (by rw [trefs_len]; exact small1000 (by omega)) ⟨_, tr ++ [(t, x, 1, .en (0 + (i : Int)))], rfl, (s2.trans (s3.trans n4)).upd_new hD _, by rw [upd_same, trefs_snoc], er4.lst hD4, fun r hr => ?_, by rw [List.length_append, tl]; rfl⟩
      rcases List.mem_append.mp hr with e | e
      · exact et r e
      · rw [List.mem_singleton.mp e]; exact ⟨rfl, _, rfl⟩
    case done5 =>
    rintro τ H2 ⟨v0, tr, rfl, s2, hD2, er, et, tl⟩
    have tl1 : 1 ≤ tr.length := by omega
    have tl3 : tr.length ≤ 3 := by omega
    have tb2 := tb.same s2
    have c1 := Int.emod_nonneg (z5 % 5) (show (2 : Int) ≠ 0 by decide)
    have c2 := Int.emod_lt_of_pos (z5 % 5) (show (0 : Int) < 2 by decide)
    obtain ⟨n, hn, n12⟩ : ∃ n : Nat, 10 - z5 % 5 % 2 * 3 = 4 + 3 * (n : Int) ∧ (n = 1 ∨ n = 2) := by
      rcases (by omega : z5 % 5 % 2 = 0 ∨ z5 % 5 % 2 = 1) with e | e
      · exact ⟨2, by rw [e]; decide, .inr rfl⟩
      · exact ⟨1, by rw [e]; decide, .inl rfl⟩
    have n2 : n ≤ 2 := by omega
    refine ⟨_, rfl, _, rfl, _, _, rfl, rfl, (by show (0 : Int) < 2; decide), _, _, rfl, rfl, mulOk (m := 40) (n := 40) (PySem.intBits_le_iff.mpr (by rw [show (2 : Nat) ^ 40 = 1099511627776 from rfl]; omega)) (by decide) (by decide), _, _, rfl, rfl, ?_⟩
    have tail : ∀ QQ : VK, spWide c Pt lamP n [V.int (10 - z5 % 5 % 2 * 3)] H2 QQ E0 → spW2 c Pt lamP [V.int (10 - z5 % 5 % 2 * 3)] H2 QQ E0 := fun QQ h => by
      rcases n12 with e | e
      · subst e; exact .inl h
      · subst e; exact .inr h
    refine tail _ ⟨congrArg (fun z => [V.int z]) hn, n2, tb2, fun y H3 s3 tb3 sy => ?_⟩
    have k3 := SameT.kt s3 tb2
    refine ⟨sz2, fun t ht => ?_⟩
    have t4 := same_new ht (.tup [V.int 7, V.ref y])
    refine ⟨sz1, fun l2 hl2 => ?_⟩
    have t5 := same_new hl2 (.lst [V.ref t])
    refine ⟨D, l2, _, _, rfl, rfl, t5 _ _ (t4 _ _ (k3.lst hD2)), upd_same, by rw [trefs_len]; exact szs (by show tr.length + 1 ≤ 1000; omega), fun l3 hl3 => ?_⟩
    have t6 := same_new hl3 (.lst (trefs tr ++ [V.ref t]))
    have t456 := t4.trans (t5.trans t6)
    have kk : Kt H2 _ := k3.trans (Same.kt t456)
    have er6 := er.kt kk
    have ej : jM (4 + 3 * n) (7, wdSd n) = 4 + 3 * n := by rcases n12 with e | e <;> subst e <;> rfl
    have gg := gr_of (H := upd (upd (upd H3 t (.tup [V.int 7, V.ref y])) l2 (.lst [V.ref t])) l3 (.lst (trefs tr ++ [V.ref t]))) (c := c) (d := n + 1) (j := jM (4 + 3 * n)) (a := l3) (tr := tr ++ [(t, y, 7, wdSd n)]) (by rw [upd_same]; exact congrArg (fun z => some (HO.lst z)) (trefs_snoc tr (t, y, 7, wdSd n)).symm) (fun r hr => by
      rcases List.mem_append.mp hr with e | e
      · obtain ⟨r1, v, r2⟩ := et r e
        obtain ⟨e1, e2⟩ := er6 r e
        exact ⟨e1, e2 _ _ (jM_pos (by omega) _), by rw [r1]; decide, by rw [r1]; decide⟩
      · rw [List.mem_singleton.mp e]
        refine ⟨(t5.trans t6) _ _ upd_same, ?_, (show (1 : Int) ≤ 7 by decide), (show (7 : Int) ≤ 1000 by decide)⟩
        show StAt c _ y (wdSd n) (n + 1) (jM (4 + 3 * n) (7, wdSd n))
        rw [ej]
        exact sy.kp (Same.kp t456)) (by intro z; have := congrArg List.length z; simp at this) (by rw [List.length_append]; show tr.length + 1 ≤ 4; omega)
    have hen : ∀ x ∈ tr.map (·.2.2), ∃ v, x.2 = .en v := fun x hx => by
      obtain ⟨r, hr, rfl⟩ := List.mem_map.mp hx
      exact (et r hr).2
    refine ⟨_, rfl, D, _, rfl, .inl (SqL.of ((t456) _ _ (k3.lst hD2))), _, _, rfl, rfl, _, rfl, _, _, rfl, rfl, (by show (0 : Int) < 2; decide), _, _, rfl, rfl, mulOk (m := 40) (n := 40) (PySem.intBits_le_iff.mpr (by rw [show (2 : Nat) ^ 40 = 1099511627776 from rfl]; omega)) (by decide) (by decide), _, _, rfl, rfl, _, _, rfl, rfl, ?_⟩
    refine ⟨"stage", .int 3, .ref l3, decide (((trefs tr).length : Int) + 10 - z5 % 5 % 2 * 3 < 13), rfl, .st ?_, tb3.same t456, fun H9 s9 tb9 => q H9 (s2.toT.trans (s3.trans (t456.toT.trans s9))) tb9⟩
    rw [trefs_len]
    by_cases h : (tr.length : Int) + 10 - z5 % 5 % 2 * 3 < 13
    · rw [decide_eq_true h]
      refine .good (m := tr.length + (4 + 3 * n)) (by decide) (by decide) gg ?_ (by omega) (by omega)
      rw [List.map_append, List.map_append, List.sum_append_nat, jm_sum hen, List.length_map]
      show tr.length + (jM (4 + 3 * n) (7, wdSd n) + 0) ≤ _
      rw [ej]
      omega
    · rw [decide_eq_false h]
      refine .big (by decide) (by decide) gg (.inl ?_)
      show (12 : Int) < (((tr ++ [(t, y, 7, wdSd n)]).map fun z : Addr × Addr × Int × Sd.Sd => z.2.2).map fun r : Int × Sd.Sd => Sd.nE (n + 1 + 1) r.2).sum
      rw [List.map_append, List.map_append, List.sum_append, ens_sum hen, List.length_map]
      show 12 < (tr.length : Int) + (Sd.nE (n + 1 + 1) (wdSd n) + 0)
      rw [wd_nE n2]
      omega
  refine ⟨_, rfl, cc, 6, rfl, by decide, by decide, fun z6 z60 z6x => ?_⟩
  have f1 := Int.emod_nonneg z6 (show (9 : Int) ≠ 0 by decide)
  have f2 := Int.emod_lt_of_pos z6 (show (0 : Int) < 9 by decide)
  refine ⟨_, _, rfl, rfl, (by show (0 : Int) < 9; decide), z6 % 9, rfl, by omega, by omega, fun D hD => ?_⟩
  refine comp_range (n := (z6 % 9).toNat) (fun i τ H' => ∃ v0 ys, τ = [v0, some (.int cc), some (.int (z0 % 8)), none, none, some (.int (z5 % 5)), none, none] ∧ SameT Pt H H' ∧ TbOk Pt lamP lamQ H' ∧ H' D = some (.lst (ys.map V.ref)) ∧ (∀ y ∈ ys, ∃ s d m, StAt c H' y s d m) ∧ ys.length = i) ⟨none, [], rfl, (same_new hD _).toT, tb.same (same_new hD _), upd_same, (fun _ h => nomatch h), rfl⟩ ?turn6 ?done6
  case turn6 =>
    rintro i mm τ H2 hmm hi ⟨v0, ys, rfl, s2, tb2, hD2, hy, yl⟩
    have c1 := Int.emod_nonneg (z5 % 5 + (0 + (i : Int))) (show (3 : Int) ≠ 0 by decide)
    have c2 := Int.emod_lt_of_pos (z5 % 5 + (0 + (i : Int))) (show (0 : Int) < 3 by decide)
    refine gyes ?_
    refine ⟨_, rfl, _, rfl, _, _, rfl, rfl, _, _, rfl, rfl, (by show (0 : Int) < 3; decide), ((z5 % 5 + (0 + (i : Int))) % 3).toNat, ?_, by omega, tb2, fun y H3 s3 tb3 sy => ?_⟩
    · exact congrArg (fun z => [V.int z]) (show (z5 % 5 + (0 + (i : Int))) % 3 = _ by omega)
    have k3 := SameT.kt s3 tb2
    have hD3 := k3.lst hD2
    refine comp_next hmm hi hD3 (by rw [List.length_map]; exact small1000 (by omega)) ⟨_, ys ++ [y], rfl, (s2.trans s3).upd_new hD _, lst_over tb3 hD3, by rw [upd_same, List.map_append]; rfl, fun z hz => ?_, by rw [List.length_append, yl]; rfl⟩
    rcases List.mem_append.mp hz with e | e
    · obtain ⟨s, d, m, h⟩ := hy z e
      exact isSt_lst hD3 ⟨s, d, m, h.kp k3.kp⟩
    · rw [List.mem_singleton.mp e]
      exact isSt_lst hD3 ⟨_, _, _, sy⟩
  case done6 =>
  rintro τ H2 ⟨v0, ys, rfl, s2, tb2, hD2, hy, yl⟩
  refine ⟨_, rfl, Nat.zero_le _, fun l0 hl0 => ?_⟩
  have n0 := same_new hl0 (.lst [])
  have hx0 : ∀ x ∈ ys.map V.ref, IsSt c K (upd H2 l0 (.lst [])) x true := fun x hx => by
    obtain ⟨y, hm, rfl⟩ := List.mem_map.mp hx
    obtain ⟨s, d, m, h⟩ := hy y hm
    exact .yes (h.kp (Same.kp n0))
  have e0 : upd H2 l0 (.lst []) l0 = some (.lst []) := upd_same
  have hD0 := n0 _ _ hD2
  have sH := s2.trans n0.toT
  have tbH := tb2.same n0
  generalize upd H2 l0 (.lst []) = H3 at hx0 e0 hD0 sH tbH ⊢
  have hlen : (ys.map V.ref).length ≤ 8 := by rw [List.length_map]; omega
  generalize ys.map V.ref = xs at hx0 hD0 hlen ⊢
  by_cases hne : xs = []
  · subst hne
    refine ⟨D, l0, true, rfl, rfl, DE.lst (e := fun _ => true) (SqL.of hD0) (SqL.of e0) rfl (fun j x y hx hy => by simp at hx), _, rfl, ?_⟩
    refine iteF ?_
    refine iteF ?_
    refine ⟨_, rfl, rfl, _, rfl, ?_⟩
    refine ite2 (fun _ => ?_) (fun _ => ?_)
    · refine ⟨_, rfl, _, rfl, D, _, rfl, .inl (SqL.of hD0), _, _, rfl, rfl, _, rfl, ?_⟩
      by_cases hp : (0 : Int) < (([] : List V).length : Int)
      · refine ifT (decide_eq_true hp) ?_
        exact ⟨_, _, rfl, rfl, "boxes", .ref D, .int 0, decide ((([] : List V).length : Int) < 7), rfl, .bx (box_all hD0 hx0 _ (by rw [decide_eq_true hp]; rfl)), tbH, fun H9 s9 tb9 => q H9 (sH.trans s9) tb9⟩
      · refine ifF (decide_eq_false hp) ?_
        exact ⟨"boxes", .ref D, .int 0, false, rfl, .bx (box_all hD0 hx0 _ (by rw [decide_eq_false hp]; rfl)), tbH, fun H9 s9 tb9 => q H9 (sH.trans s9) tb9⟩
    refine ⟨_, rfl, cc, 7, rfl, by decide, by decide, fun z7 z70 z7x => ?_⟩
    have k1 := Int.emod_nonneg z7 (show ((([] : List V).length : Nat) : Int) + 1 ≠ 0 by omega)
    have k2 := Int.emod_lt_of_pos z7 (show (0 : Int) < ((([] : List V).length : Nat) : Int) + 1 by omega)
    refine ⟨_, rfl, D, _, rfl, .inl (SqL.of hD0), _, _, rfl, rfl, _, _, rfl, rfl, (by show (0 : Int) < ((([] : List V).length : Nat) : Int) + 1; omega), ?_⟩
    obtain ⟨at_, hat_, hle⟩ : ∃ a : Nat, z7 % (((([] : List V).length : Nat) : Int) + 1) = (a : Int) ∧ a ≤ ([] : List V).length := ⟨(z7 % (((([] : List V).length : Nat) : Int) + 1)).toNat, by omega, by omega⟩
    refine ⟨_, rfl, _, rfl, _, rfl, D, _, rfl, SqL.of hD0, fun c1 hc1 => ?_⟩
    have ec1 : cutV ([] : List V) none (some (z7 % (((([] : List V).length : Nat) : Int) + 1))) = ([] : List V).take at_ := by rw [hat_]; exact cut_front _ _ hle
    have u0 := same_new hc1 (.lst (cutV ([] : List V) none (some (z7 % (((([] : List V).length : Nat) : Int) + 1)))))
    have ec : upd H3 c1 (.lst (cutV ([] : List V) none (some (z7 % (((([] : List V).length : Nat) : Int) + 1))))) c1 = some (.lst (([] : List V).take at_)) := by rw [upd_same, ec1]
    generalize upd H3 c1 (.lst (cutV ([] : List V) none (some (z7 % (((([] : List V).length : Nat) : Int) + 1))))) = G1 at u0 ec ⊢
    refine ⟨sz2, fun a1 ha1 => ?_⟩
    have u2 := same_new ha1 (.tup [V.str "end", V.int 3])
    have ea1 : upd G1 a1 (.tup [V.str "end", V.int 3]) a1 = some (.tup [V.str "end", V.int 3]) := upd_same
    generalize upd G1 a1 (.tup [V.str "end", V.int 3]) = H2 at u2 ea1 ⊢
    intro x1 dx1 hxx1 hdx1 ndx1
    refine .inl ⟨x1, dx1, 3, rfl, upd_same, by decide, by decide, fun H3 kpx1 stx1 => ⟨rfl, ?_⟩⟩
    have u3 := made hxx1 hdx1 kpx1
    refine ⟨sz1, fun a2 ha2 => ?_⟩
    have u4 := same_new ha2 (.lst [V.ref x1])
    have ea2 : upd H3 a2 (.lst [V.ref x1]) a2 = some (.lst [V.ref x1]) := upd_same
    generalize upd H3 a2 (.lst [V.ref x1]) = H4 at u4 ea2 ⊢
    refine ⟨szs (by decide : 5 ≤ 1000), fun a3 ha3 => ?_⟩
    have u5 := same_new ha3 (.lst [V.non, V.int 3, V.str "3", V.ref a1, V.ref a2])
    have ea3 : upd H4 a3 (.lst [V.non, V.int 3, V.str "3", V.ref a1, V.ref a2]) a3 = some (.lst [V.non, V.int 3, V.str "3", V.ref a1, V.ref a2]) := upd_same
    generalize upd H4 a3 (.lst [V.non, V.int 3, V.str "3", V.ref a1, V.ref a2]) = H5 at u5 ea3 ⊢
    have w5 := Same.refl H5
    have w4 := u5.trans w5
    have w3 := u4.trans w4
    have w2 := u3.trans w3
    have w1 := u2.trans w2
    obtain ⟨bad, hbad, nb⟩ : ∃ v, atI [V.non, V.int 3, V.str "3", V.ref a1, V.ref a2] (z5 % 5) = some v ∧ IsSt c K H5 v false := by
      rcases (by omega : z5 % 5 = 0 ∨ z5 % 5 = 1 ∨ z5 % 5 = 2 ∨ z5 % 5 = 3 ∨ z5 % 5 = 4) with e | e | e | e | e <;> rw [e]
      · exact ⟨_, rfl, .no .non (by decide)⟩
      · exact ⟨_, rfl, .no (.int 3) (by decide)⟩
      · exact ⟨_, rfl, .no (.str "3") (by decide)⟩
      · exact ⟨_, rfl, .no (.tup (w2 _ _ ea1)) (by decide)⟩
      · exact ⟨_, rfl, .no (.lst (w4 _ _ ea2)) (by decide)⟩
    refine ⟨_, rfl, a3, _, _, _, rfl, rfl, SqL.of ea3, hbad, sz1, fun c2 hc2 => ?_⟩
    have v1 := same_new hc2 (.lst [bad])
    refine ⟨c1, c2, _, _, rfl, rfl, v1 _ _ (w1 _ _ ec), upd_same, szs (by rw [List.length_take]; show _ + 1 ≤ 1000; omega), fun c3 hc3 => ?_⟩
    have v2 := same_new hc3 (.lst (([] : List V).take at_ ++ [bad]))
    have hS2 := (v1.trans v2) _ _ (w1 _ _ (u0 _ _ hD0))
    refine ⟨_, rfl, _, rfl, _, rfl, D, _, rfl, SqL.of hS2, fun c4 hc4 => ?_⟩
    have ec4 : cutV ([] : List V) (some (z7 % (((([] : List V).length : Nat) : Int) + 1))) none = ([] : List V).drop at_ := by rw [hat_]; exact cut_back _ _ hle
    have v3 := same_new hc4 (.lst (cutV ([] : List V) (some (z7 % (((([] : List V).length : Nat) : Int) + 1))) none))
    refine ⟨c3, c4, _, _, rfl, rfl, v3 _ _ upd_same, upd_same, szs (by rw [ec4, List.length_append, List.length_take, List.length_drop]; show _ + 1 + _ ≤ 1000; omega), fun c5 hc5 => ?_⟩
    have v4 := same_new hc5 (.lst (([] : List V).take at_ ++ [bad] ++ cutV ([] : List V) (some (z7 % (((([] : List V).length : Nat) : Int) + 1))) none))
    have vV := v1.trans (v2.trans (v3.trans v4))
    refine ⟨_, rfl, _, rfl, c5, _, rfl, .inl ⟨SqL.of upd_same, fun c6 hc6 => ?_⟩⟩
    have v5 := same_new hc6 (.tup (([] : List V).take at_ ++ [bad] ++ cutV ([] : List V) (some (z7 % (((([] : List V).length : Nat) : Int) + 1))) none))
    refine ⟨sz3, fun c7 hc7 => ?_⟩
    have v6 := same_new hc7 (.lst [V.ref c5, V.ref c6, V.non])
    refine ⟨_, rfl, cc, 8, rfl, by decide, by decide, fun z8 z80 z8x => ?_⟩
    have all := u0.trans (w1.trans (vV.trans (v5.trans v6)))
    obtain ⟨v, hv, bx⟩ := pick3 (m := z8) (R := fun v => Boxs c K _ v false) (box_bad (us := ([] : List V).take at_) (zs := ([] : List V).drop at_) (v := bad) (by rw [← ec4]; exact (v5.trans v6) _ _ upd_same) (fun x hx => (hx0 x (List.mem_of_mem_take hx)).kt (Same.kt all)) (fun x hx => (hx0 x (List.mem_of_mem_drop hx)).kt (Same.kt all)) (nb.kt (Same.kt (vV.trans (v5.trans v6)))))
      (Boxs.no (oth (fun K => .tup (v6 _ _ upd_same)) fun K => rfl)) (Boxs.no (oth (fun K => .non) fun K => rfl))
    exact ⟨_, _, rfl, rfl, (by show (0 : Int) < 3; decide), c7, _, _, _, rfl, rfl, SqL.of upd_same, hv, "boxes", v, .int 0, false, rfl, .bx bx, tbH.same all, fun H9 s9 tb9 => q H9 (sH.trans (all.toT.trans s9)) tb9⟩
  refine ⟨D, l0, false, rfl, rfl, DE.lstN (SqL.of hD0) (SqL.of e0) (fun z => hne (List.eq_nil_of_length_eq_zero z)), _, rfl, ?_⟩
  refine iteT ?_
  refine ⟨_, rfl, cc, 9, rfl, by decide, by decide, fun z9 z90 z9x => ?_⟩
  refine ⟨_, _, rfl, rfl, (by show (0 : Int) < 2; decide), rfl, _, rfl, ?_⟩
  refine ite2 (fun _ => ?_) (fun _ => ?_)
  · obtain ⟨x0, xt, rfl⟩ : ∃ x0 xt, xs = x0 :: xt := by
      cases xs with
      | nil => exact absurd rfl hne
      | cons a b => exact ⟨a, b, rfl⟩
    refine ⟨_, rfl, D, _, _, _, rfl, rfl, SqL.of hD0, atI_nat (j := 0) rfl, sz1, fun l1 hl1 => ?_⟩
    have n1 := same_new hl1 (.lst [x0])
    refine ⟨_, rfl, D, _, rfl, .inl (SqL.of (n1 _ _ hD0)), l1, _, _, rfl, rfl, upd_same, by omega, by omega, szs (by show 1 * _ ≤ 1000; omega), fun l2 hl2 => ?_⟩
    have n2 := same_new hl2 (.lst (List.replicate ((((x0 :: xt).length : Nat) : Int)).toNat [x0]).flatten)
    have hx2 : ∀ x ∈ (List.replicate ((((x0 :: xt).length : Nat) : Int)).toNat [x0]).flatten, IsSt c K (upd (upd H3 l1 (.lst [x0])) l2 (.lst (List.replicate ((((x0 :: xt).length : Nat) : Int)).toNat [x0]).flatten)) x true := fun x hx => by
      obtain ⟨z, hz, hz2⟩ := List.mem_flatten.mp hx
      rw [List.eq_of_mem_replicate hz] at hz2
      rw [List.mem_singleton.mp hz2]
      exact (hx0 x0 List.mem_cons_self).kt (Same.kt (n1.trans n2))
    have hD3 : upd (upd H3 l1 (.lst [x0])) l2 (.lst (List.replicate ((((x0 :: xt).length : Nat) : Int)).toNat [x0]).flatten) l2 = some (.lst (List.replicate ((((x0 :: xt).length : Nat) : Int)).toNat [x0]).flatten) := upd_same
    have hl3 : (List.replicate ((((x0 :: xt).length : Nat) : Int)).toNat [x0]).flatten.length ≤ 8 := by rw [len_rep]; show _ * 1 ≤ 8; omega
    have sH3 := sH.trans (n1.trans n2).toT
    have tbH3 := tbH.same (n1.trans n2)
    generalize upd (upd H3 l1 (.lst [x0])) l2 (.lst (List.replicate ((((x0 :: xt).length : Nat) : Int)).toNat [x0]).flatten) = H4 at hx2 hD3 sH3 tbH3 ⊢
    generalize (List.replicate ((((x0 :: xt).length : Nat) : Int)).toNat [x0]).flatten = zs at hx2 hD3 hl3 ⊢
    refine ⟨_, rfl, rfl, _, rfl, ?_⟩
    refine ite2 (fun _ => ?_) (fun _ => ?_)
    · refine ⟨_, rfl, _, rfl, l2, _, rfl, .inl (SqL.of hD3), _, _, rfl, rfl, _, rfl, ?_⟩
      by_cases hp : (0 : Int) < (zs.length : Int)
      · refine ifT (decide_eq_true hp) ?_
        exact ⟨_, _, rfl, rfl, "boxes", .ref l2, .int 0, decide ((zs.length : Int) < 7), rfl, .bx (box_all hD3 hx2 _ (by rw [decide_eq_true hp]; rfl)), tbH3, fun H9 s9 tb9 => q H9 (sH3.trans s9) tb9⟩
      · refine ifF (decide_eq_false hp) ?_
        exact ⟨"boxes", .ref l2, .int 0, false, rfl, .bx (box_all hD3 hx2 _ (by rw [decide_eq_false hp]; rfl)), tbH3, fun H9 s9 tb9 => q H9 (sH3.trans s9) tb9⟩
    refine ⟨_, rfl, cc, 7, rfl, by decide, by decide, fun z7 z70 z7x => ?_⟩
    have k1 := Int.emod_nonneg z7 (show ((zs.length : Nat) : Int) + 1 ≠ 0 by omega)
    have k2 := Int.emod_lt_of_pos z7 (show (0 : Int) < ((zs.length : Nat) : Int) + 1 by omega)
    refine ⟨_, rfl, l2, _, rfl, .inl (SqL.of hD3), _, _, rfl, rfl, _, _, rfl, rfl, (by show (0 : Int) < ((zs.length : Nat) : Int) + 1; omega), ?_⟩
    obtain ⟨at_, hat_, hle⟩ : ∃ a : Nat, z7 % (((zs.length : Nat) : Int) + 1) = (a : Int) ∧ a ≤ zs.length := ⟨(z7 % (((zs.length : Nat) : Int) + 1)).toNat, by omega, by omega⟩
    refine ⟨_, rfl, _, rfl, _, rfl, l2, _, rfl, SqL.of hD3, fun c1 hc1 => ?_⟩
    have ec1 : cutV zs none (some (z7 % (((zs.length : Nat) : Int) + 1))) = zs.take at_ := by rw [hat_]; exact cut_front _ _ hle
    have u0 := same_new hc1 (.lst (cutV zs none (some (z7 % (((zs.length : Nat) : Int) + 1)))))
    have ec : upd H4 c1 (.lst (cutV zs none (some (z7 % (((zs.length : Nat) : Int) + 1))))) c1 = some (.lst (zs.take at_)) := by rw [upd_same, ec1]
    generalize upd H4 c1 (.lst (cutV zs none (some (z7 % (((zs.length : Nat) : Int) + 1))))) = G1 at u0 ec ⊢
    refine ⟨sz2, fun a1 ha1 => ?_⟩
    have u2 := same_new ha1 (.tup [V.str "end", V.int 3])
    have ea1 : upd G1 a1 (.tup [V.str "end", V.int 3]) a1 = some (.tup [V.str "end", V.int 3]) := upd_same
    generalize upd G1 a1 (.tup [V.str "end", V.int 3]) = H2 at u2 ea1 ⊢
    intro x1 dx1 hxx1 hdx1 ndx1
    refine .inl ⟨x1, dx1, 3, rfl, upd_same, by decide, by decide, fun H3 kpx1 stx1 => ⟨rfl, ?_⟩⟩
    have u3 := made hxx1 hdx1 kpx1
    refine ⟨sz1, fun a2 ha2 => ?_⟩
    have u4 := same_new ha2 (.lst [V.ref x1])
    have ea2 : upd H3 a2 (.lst [V.ref x1]) a2 = some (.lst [V.ref x1]) := upd_same
    generalize upd H3 a2 (.lst [V.ref x1]) = H4 at u4 ea2 ⊢
    refine ⟨szs (by decide : 5 ≤ 1000), fun a3 ha3 => ?_⟩
    have u5 := same_new ha3 (.lst [V.non, V.int 3, V.str "3", V.ref a1, V.ref a2])
    have ea3 : upd H4 a3 (.lst [V.non, V.int 3, V.str "3", V.ref a1, V.ref a2]) a3 = some (.lst [V.non, V.int 3, V.str "3", V.ref a1, V.ref a2]) := upd_same
    generalize upd H4 a3 (.lst [V.non, V.int 3, V.str "3", V.ref a1, V.ref a2]) = H5 at u5 ea3 ⊢
    have w5 := Same.refl H5
    have w4 := u5.trans w5
    have w3 := u4.trans w4
    have w2 := u3.trans w3
    have w1 := u2.trans w2
    obtain ⟨bad, hbad, nb⟩ : ∃ v, atI [V.non, V.int 3, V.str "3", V.ref a1, V.ref a2] (z5 % 5) = some v ∧ IsSt c K H5 v false := by
      rcases (by omega : z5 % 5 = 0 ∨ z5 % 5 = 1 ∨ z5 % 5 = 2 ∨ z5 % 5 = 3 ∨ z5 % 5 = 4) with e | e | e | e | e <;> rw [e]
      · exact ⟨_, rfl, .no .non (by decide)⟩
      · exact ⟨_, rfl, .no (.int 3) (by decide)⟩
      · exact ⟨_, rfl, .no (.str "3") (by decide)⟩
      · exact ⟨_, rfl, .no (.tup (w2 _ _ ea1)) (by decide)⟩
      · exact ⟨_, rfl, .no (.lst (w4 _ _ ea2)) (by decide)⟩
    refine ⟨_, rfl, a3, _, _, _, rfl, rfl, SqL.of ea3, hbad, sz1, fun c2 hc2 => ?_⟩
    have v1 := same_new hc2 (.lst [bad])
    refine ⟨c1, c2, _, _, rfl, rfl, v1 _ _ (w1 _ _ ec), upd_same, szs (by rw [List.length_take]; show _ + 1 ≤ 1000; omega), fun c3 hc3 => ?_⟩
    have v2 := same_new hc3 (.lst (zs.take at_ ++ [bad]))
    have hS2 := (v1.trans v2) _ _ (w1 _ _ (u0 _ _ hD3))
    refine ⟨_, rfl, _, rfl, _, rfl, l2, _, rfl, SqL.of hS2, fun c4 hc4 => ?_⟩
    have ec4 : cutV zs (some (z7 % (((zs.length : Nat) : Int) + 1))) none = zs.drop at_ := by rw [hat_]; exact cut_back _ _ hle
    have v3 := same_new hc4 (.lst (cutV zs (some (z7 % (((zs.length : Nat) : Int) + 1))) none))
    refine ⟨c3, c4, _, _, rfl, rfl, v3 _ _ upd_same, upd_same, szs (by rw [ec4, List.length_append, List.length_take, List.length_drop]; show _ + 1 + _ ≤ 1000; omega), fun c5 hc5 => ?_⟩
    have v4 := same_new hc5 (.lst (zs.take at_ ++ [bad] ++ cutV zs (some (z7 % (((zs.length : Nat) : Int) + 1))) none))
    have vV := v1.trans (v2.trans (v3.trans v4))
    refine ⟨_, rfl, _, rfl, c5, _, rfl, .inl ⟨SqL.of upd_same, fun c6 hc6 => ?_⟩⟩
    have v5 := same_new hc6 (.tup (zs.take at_ ++ [bad] ++ cutV zs (some (z7 % (((zs.length : Nat) : Int) + 1))) none))
    refine ⟨sz3, fun c7 hc7 => ?_⟩
    have v6 := same_new hc7 (.lst [V.ref c5, V.ref c6, V.non])
    refine ⟨_, rfl, cc, 8, rfl, by decide, by decide, fun z8 z80 z8x => ?_⟩
    have all := u0.trans (w1.trans (vV.trans (v5.trans v6)))
    obtain ⟨v, hv, bx⟩ := pick3 (m := z8) (R := fun v => Boxs c K _ v false) (box_bad (us := zs.take at_) (zs := zs.drop at_) (v := bad) (by rw [← ec4]; exact (v5.trans v6) _ _ upd_same) (fun x hx => (hx2 x (List.mem_of_mem_take hx)).kt (Same.kt all)) (fun x hx => (hx2 x (List.mem_of_mem_drop hx)).kt (Same.kt all)) (nb.kt (Same.kt (vV.trans (v5.trans v6)))))
      (Boxs.no (oth (fun K => .tup (v6 _ _ upd_same)) fun K => rfl)) (Boxs.no (oth (fun K => .non) fun K => rfl))
    exact ⟨_, _, rfl, rfl, (by show (0 : Int) < 3; decide), c7, _, _, _, rfl, rfl, SqL.of upd_same, hv, "boxes", v, .int 0, false, rfl, .bx bx, tbH3.same all, fun H9 s9 tb9 => q H9 (sH3.trans (all.toT.trans s9)) tb9⟩
  ·
    refine ⟨_, rfl, rfl, _, rfl, ?_⟩
    refine ite2 (fun _ => ?_) (fun _ => ?_)
    · refine ⟨_, rfl, _, rfl, D, _, rfl, .inl (SqL.of hD0), _, _, rfl, rfl, _, rfl, ?_⟩
      by_cases hp : (0 : Int) < (xs.length : Int)
      · refine ifT (decide_eq_true hp) ?_
        exact ⟨_, _, rfl, rfl, "boxes", .ref D, .int 0, decide ((xs.length : Int) < 7), rfl, .bx (box_all hD0 hx0 _ (by rw [decide_eq_true hp]; rfl)), tbH, fun H9 s9 tb9 => q H9 (sH.trans s9) tb9⟩
      · refine ifF (decide_eq_false hp) ?_
        exact ⟨"boxes", .ref D, .int 0, false, rfl, .bx (box_all hD0 hx0 _ (by rw [decide_eq_false hp]; rfl)), tbH, fun H9 s9 tb9 => q H9 (sH.trans s9) tb9⟩
    refine ⟨_, rfl, cc, 7, rfl, by decide, by decide, fun z7 z70 z7x => ?_⟩
    have k1 := Int.emod_nonneg z7 (show ((xs.length : Nat) : Int) + 1 ≠ 0 by omega)
    have k2 := Int.emod_lt_of_pos z7 (show (0 : Int) < ((xs.length : Nat) : Int) + 1 by omega)
    refine ⟨_, rfl, D, _, rfl, .inl (SqL.of hD0), _, _, rfl, rfl, _, _, rfl, rfl, (by show (0 : Int) < ((xs.length : Nat) : Int) + 1; omega), ?_⟩
    obtain ⟨at_, hat_, hle⟩ : ∃ a : Nat, z7 % (((xs.length : Nat) : Int) + 1) = (a : Int) ∧ a ≤ xs.length := ⟨(z7 % (((xs.length : Nat) : Int) + 1)).toNat, by omega, by omega⟩
    refine ⟨_, rfl, _, rfl, _, rfl, D, _, rfl, SqL.of hD0, fun c1 hc1 => ?_⟩
    have ec1 : cutV xs none (some (z7 % (((xs.length : Nat) : Int) + 1))) = xs.take at_ := by rw [hat_]; exact cut_front _ _ hle
    have u0 := same_new hc1 (.lst (cutV xs none (some (z7 % (((xs.length : Nat) : Int) + 1)))))
    have ec : upd H3 c1 (.lst (cutV xs none (some (z7 % (((xs.length : Nat) : Int) + 1))))) c1 = some (.lst (xs.take at_)) := by rw [upd_same, ec1]
    generalize upd H3 c1 (.lst (cutV xs none (some (z7 % (((xs.length : Nat) : Int) + 1))))) = G1 at u0 ec ⊢
    refine ⟨sz2, fun a1 ha1 => ?_⟩
    have u2 := same_new ha1 (.tup [V.str "end", V.int 3])
    have ea1 : upd G1 a1 (.tup [V.str "end", V.int 3]) a1 = some (.tup [V.str "end", V.int 3]) := upd_same
    generalize upd G1 a1 (.tup [V.str "end", V.int 3]) = H2 at u2 ea1 ⊢
    intro x1 dx1 hxx1 hdx1 ndx1
    refine .inl ⟨x1, dx1, 3, rfl, upd_same, by decide, by decide, fun H3 kpx1 stx1 => ⟨rfl, ?_⟩⟩
    have u3 := made hxx1 hdx1 kpx1
    refine ⟨sz1, fun a2 ha2 => ?_⟩
    have u4 := same_new ha2 (.lst [V.ref x1])
    have ea2 : upd H3 a2 (.lst [V.ref x1]) a2 = some (.lst [V.ref x1]) := upd_same
    generalize upd H3 a2 (.lst [V.ref x1]) = H4 at u4 ea2 ⊢
    refine ⟨szs (by decide : 5 ≤ 1000), fun a3 ha3 => ?_⟩
    have u5 := same_new ha3 (.lst [V.non, V.int 3, V.str "3", V.ref a1, V.ref a2])
    have ea3 : upd H4 a3 (.lst [V.non, V.int 3, V.str "3", V.ref a1, V.ref a2]) a3 = some (.lst [V.non, V.int 3, V.str "3", V.ref a1, V.ref a2]) := upd_same
    generalize upd H4 a3 (.lst [V.non, V.int 3, V.str "3", V.ref a1, V.ref a2]) = H5 at u5 ea3 ⊢
    have w5 := Same.refl H5
    have w4 := u5.trans w5
    have w3 := u4.trans w4
    have w2 := u3.trans w3
    have w1 := u2.trans w2
    obtain ⟨bad, hbad, nb⟩ : ∃ v, atI [V.non, V.int 3, V.str "3", V.ref a1, V.ref a2] (z5 % 5) = some v ∧ IsSt c K H5 v false := by
      rcases (by omega : z5 % 5 = 0 ∨ z5 % 5 = 1 ∨ z5 % 5 = 2 ∨ z5 % 5 = 3 ∨ z5 % 5 = 4) with e | e | e | e | e <;> rw [e]
      · exact ⟨_, rfl, .no .non (by decide)⟩
      · exact ⟨_, rfl, .no (.int 3) (by decide)⟩
      · exact ⟨_, rfl, .no (.str "3") (by decide)⟩
      · exact ⟨_, rfl, .no (.tup (w2 _ _ ea1)) (by decide)⟩
      · exact ⟨_, rfl, .no (.lst (w4 _ _ ea2)) (by decide)⟩
    refine ⟨_, rfl, a3, _, _, _, rfl, rfl, SqL.of ea3, hbad, sz1, fun c2 hc2 => ?_⟩
    have v1 := same_new hc2 (.lst [bad])
    refine ⟨c1, c2, _, _, rfl, rfl, v1 _ _ (w1 _ _ ec), upd_same, szs (by rw [List.length_take]; show _ + 1 ≤ 1000; omega), fun c3 hc3 => ?_⟩
    have v2 := same_new hc3 (.lst (xs.take at_ ++ [bad]))
    have hS2 := (v1.trans v2) _ _ (w1 _ _ (u0 _ _ hD0))
    refine ⟨_, rfl, _, rfl, _, rfl, D, _, rfl, SqL.of hS2, fun c4 hc4 => ?_⟩
    have ec4 : cutV xs (some (z7 % (((xs.length : Nat) : Int) + 1))) none = xs.drop at_ := by rw [hat_]; exact cut_back _ _ hle
    have v3 := same_new hc4 (.lst (cutV xs (some (z7 % (((xs.length : Nat) : Int) + 1))) none))
    refine ⟨c3, c4, _, _, rfl, rfl, v3 _ _ upd_same, upd_same, szs (by rw [ec4, List.length_append, List.length_take, List.length_drop]; show _ + 1 + _ ≤ 1000; omega), fun c5 hc5 => ?_⟩
    have v4 := same_new hc5 (.lst (xs.take at_ ++ [bad] ++ cutV xs (some (z7 % (((xs.length : Nat) : Int) + 1))) none))
    have vV := v1.trans (v2.trans (v3.trans v4))
    refine ⟨_, rfl, _, rfl, c5, _, rfl, .inl ⟨SqL.of upd_same, fun c6 hc6 => ?_⟩⟩
    have v5 := same_new hc6 (.tup (xs.take at_ ++ [bad] ++ cutV xs (some (z7 % (((xs.length : Nat) : Int) + 1))) none))
    refine ⟨sz3, fun c7 hc7 => ?_⟩
    have v6 := same_new hc7 (.lst [V.ref c5, V.ref c6, V.non])
    refine ⟨_, rfl, cc, 8, rfl, by decide, by decide, fun z8 z80 z8x => ?_⟩
    have all := u0.trans (w1.trans (vV.trans (v5.trans v6)))
    obtain ⟨v, hv, bx⟩ := pick3 (m := z8) (R := fun v => Boxs c K _ v false) (box_bad (us := xs.take at_) (zs := xs.drop at_) (v := bad) (by rw [← ec4]; exact (v5.trans v6) _ _ upd_same) (fun x hx => (hx0 x (List.mem_of_mem_take hx)).kt (Same.kt all)) (fun x hx => (hx0 x (List.mem_of_mem_drop hx)).kt (Same.kt all)) (nb.kt (Same.kt (vV.trans (v5.trans v6)))))
      (Boxs.no (oth (fun K => .tup (v6 _ _ upd_same)) fun K => rfl)) (Boxs.no (oth (fun K => .non) fun K => rfl))
    exact ⟨_, _, rfl, rfl, (by show (0 : Int) < 3; decide), c7, _, _, _, rfl, rfl, SqL.of upd_same, hv, "boxes", v, .int 0, false, rfl, .bx bx, tbH.same all, fun H9 s9 tb9 => q H9 (sH.trans (all.toT.trans s9)) tb9⟩
theorem ok_law {n : Nat} {f : Addr} {fd : FuncData} (F : Fun K "law" "law" (top 48) f fd) {c : Cs} {C_NoBox iE : Addr} {dE : FuncData} {kE : Nat} (M_End : Mk K c.e iE) (G_End : FnOk P w K mg base (CXr P w) kE iE dE ["self", "worth"] (spEIX c C_NoBox)) (b_End : Binds K dE ["self", "worth"] []) (g_End : mg "End" = some (.ref c.e)) (hn_End : kE + 1 ≤ n) {g_need_boxes : Addr} {gd_need_boxes : FuncData} (c_need_boxes : CalX P w K mg base n "need_boxes" ["boxes"] (spNB c K C_NoBox) g_need_boxes gd_need_boxes) {g__law_one : Addr} {gd__law_one : FuncData} (c__law_one : Cal P w K mg base n "_law_one" ["_law_cell"] (spOne15 Pt lamP) g__law_one gd__law_one) {g__law_cell_at : Addr} {gd__law_cell_at : FuncData} (c__law_cell_at : Cal P w K mg base n "_law_cell_at" ["_law_script", "_law_k"] (spCA1 K) g__law_cell_at gd__law_cell_at) (z_range : mg "range" = none) (z_max : mg "max" = none) (z_min : mg "min" = none) (z_len : mg "len" = none) : FnOk P w K mg base CX0 (n + 1) f fd ["_law_script"] (spLaw12 K Pt lamP) := by
  refine F.ok sc_law (fun vs H Q E h => ?_) (fun cdv A outer s H vs Q E hr h => ?_)
  · obtain ⟨a, ns, rfl, _⟩ := h
    rfl
  obtain ⟨a, ns, rfl, hS, hlen, hT0, q⟩ := h
  have nd := sc_law.nd
  refine ⟨_, (pss_cons (ps_for PassesOwn.never rfl (pi_range1 rfl z_range (pa_cons (pe_callB (call_max2 rfl) rfl z_max bt_max (pa_cons pe_int (pa_cons (pe_callB (call_min2 rfl) rfl z_min bt_min (pa_cons (pe_callB call_len_seq rfl z_len bt_len (pa_cons (pv 0) pa_nil)) (pa_cons pe_int pa_nil))) pa_nil))) pa_nil)) (pg_name (i := 1) nd rfl (Or.inl rfl)) (pss_one (ps_if (pt_not (pt_val (pe_callC c__law_one hr (pa_cons (pe_callC c__law_cell_at hr (pa_cons (pv 0) (pa_cons (pv 1) pa_nil))) pa_nil)))) (pss_one (ps_ret pe_bl)) pss_nil))) (pss_one (ps_ret (pe_cmpR op_isN (pe_callX c_need_boxes hr passF (pa_cons (pe_lst (pa_cons (pe_make M_End G_End (hr.mono hn_End) rfl g_End b_End .nil passF (pa_cons pe_int pa_nil)) pa_nil)) pa_nil)) pe_non (nomark _))))), ?_⟩
  have hT0 : TbOk Pt lamP lamQ H := .inl hT0
  have hl : (ns.map V.int).length = ns.length := List.length_map _
  obtain ⟨N, hN, N6⟩ : ∃ N : Nat, (if (if (20 : Int) < (((ns.map V.int).length : Nat) : Int) then 20 else (((ns.map V.int).length : Nat) : Int)) > 1 then (if (20 : Int) < (((ns.map V.int).length : Nat) : Int) then 20 else (((ns.map V.int).length : Nat) : Int)) else 1) = (N : Int) ∧ N ≤ 20 := by
    refine ⟨Int.toNat (if (if (20 : Int) < (((ns.map V.int).length : Nat) : Int) then 20 else (((ns.map V.int).length : Nat) : Int)) > 1 then (if (20 : Int) < (((ns.map V.int).length : Nat) : Int) then 20 else (((ns.map V.int).length : Nat) : Int)) else 1), ?_, ?_⟩ <;> (split <;> split <;> omega)
  refine ⟨_, rfl, a, _, rfl, .inl hS, _, _, rfl, _, _, rfl, (N : Int), congrArg (fun z => [V.int z]) hN, by omega, by omega, ?_⟩
  refine for_range (n := (N : Int).toNat) (fun i σ H' => ∃ v1, σ = [some (.ref a), v1] ∧ SameT Pt H H' ∧ TbOk Pt lamP lamQ H') ⟨none, rfl, SameT.refl _, hT0⟩ ?turn ?done
  case done =>
    rintro σ H' ⟨v1, rfl, sT, tb'⟩
    intro x dx hx hdx ndx
    refine .inl ⟨x, dx, 1, rfl, upd_same, by decide, by decide, fun H3 kp st => ⟨rfl, ?_⟩⟩
    refine ⟨sz1, fun l hl => ?_⟩
    refine ⟨.ref l, true, rfl, Boxs.all (bs := [true]) upd_same (by show 1 ≤ 1; decide) (by show 1 ≤ 6; decide) rfl (fun i y hy => ?_), fun _ H4 s4 => ?_, fun z => nomatch z⟩
    · match i, hy with
      | 0, hy => cases hy; exact .yes ((st 0 1 (by decide)).kp (Same.kp (same_new hl _)))
      | k + 1, hy => simp at hy
    · exact ⟨rfl, q H4⟩
  case turn =>
    rintro i σ H1 hi ⟨v1, rfl, sT, tb1⟩
    have hiN : i < 20 := by omega
    have hS1 : SqL K H1 a (ns.map V.int) := sT.lst hT0 hS
    refine ⟨_, rfl, _, rfl, a, ns, 0 + (i : Int), rfl, hS1, by omega, fun cl => ?_⟩
    refine ⟨cl, rfl, tb1, fun H2 s2 tb2 => ?_⟩
    refine ⟨_, rfl, ?_⟩
    refine iteF ?_
    exact ⟨_, rfl, sT.trans s2, tb2⟩
end
end K15
namespace K15
open PySem L2 TD PyProof.Rows
theorem no_fnF {P : Program} {w : World} {K : PySem.W.Frag} {mg : Str → Option Value} {base : Heap} {nm q : Str} {st : Stmt} {f : Addr} {fd : FuncData} {ps : List Str} {sp : Sp} (_ : Fun K nm q st f fd) (h : ∀ vs H Q E, ¬ sp vs H Q E) (m : Nat) : FnOk P w K mg base CX0 m f fd ps sp := no_fn h m
theorem all_mk {l : W.OpenLaw} {w : World} {K : W.Frag} {h : Heap} {mg : Str → Option Value} {fa cR Pt f1 f2 f3 f4 f5 f6 f7 f8 f9 f10 f11 f12 f13 f14 f15 f16 f17 f18 f19 f20 f21 f22 f23 f24 f25 f26 f27 f28 f29 f30 f31 f32 f33 f34 cSt cE cS C_NoBox C_LidError C_NoTable : Addr} (X : K.In h) (G : h.Ns mainGlobals mg) (hfa : mg "law" = some (.ref fa))
    {od1 an1 od2 an2 od3 an3 od4 an4 od5 an5 od6 an6 od7 an7 od8 an8 od9 an9 od10 an10 od11 an11 od12 an12 od13 an13 od14 an14 od15 an15 od16 an16 od17 an17 od18 an18 od19 an19 od20 an20 od21 an21 od22 an22 od23 an23 od24 an24 od25 an25 od26 an26 od27 an27 od28 an28 od29 an29 od30 an30 od31 an31 od32 an32 od33 an33 od34 an34 : Option Addr} {sl1 sl2 sl3 sl4 sl5 sl6 sl7 sl8 sl9 sl10 sl11 sl12 sl13 sl14 sl15 sl16 sl17 sl18 sl19 sl20 sl21 sl22 sl23 sl24 sl25 sl26 sl27 sl28 sl29 sl30 sl31 sl32 sl33 sl34 : Array (Option Value)} {oc1 kV1 dc1 pm1 ct1 cd1 oc2 kV2 dc2 pm2 ct2 cd2 oc3 kV3 dc3 pm3 ct3 cd3 oc4 kV4 dc4 pm4 ct4 cd4 oc5 kV5 dc5 pm5 ct5 cd5 oc6 kV6 dc6 pm6 ct6 cd6 oc7 kV7 dc7 pm7 ct7 cd7 oc8 kV8 dc8 pm8 ct8 oc9 kV9 dc9 pm9 ct9 cd9 oc10 kV10 dc10 pm10 ct10 cd10 oc11 kV11 dc11 pm11 ct11 cd11 oc12 kV12 dc12 pm12 ct12 cd12 oc13 kV13 dc13 pm13 ct13 cd13 oc14 kV14 dc14 pm14 ct14 cd14 oc15 kV15 dc15 pm15 ct15 cd15 oc16 kV16 dc16 pm16 ct16 cd16 oc17 kV17 dc17 pm17 ct17 cd17 oc18 kV18 dc18 pm18 ct18 cd18 oc19 kV19 dc19 pm19 ct19 cd19 oc20 kV20 dc20 pm20 ct20 cd20 oc21 kV21 dc21 pm21 ct21 cd21 oc22 kV22 dc22 pm22 ct22 cd22 oc23 kV23 dc23 pm23 ct23 cd23 oc24 kV24 dc24 pm24 ct24 cd24 oc25 kV25 dc25 pm25 ct25 cd25 oc26 kV26 dc26 pm26 ct26 cd26 oc27 kV27 dc27 pm27 ct27 cd27 oc28 kV28 dc28 pm28 ct28 cd28 oc29 kV29 dc29 pm29 ct29 cd29 oc30 kV30 dc30 pm30 ct30 cd30 oc31 kV31 dc31 pm31 ct31 cd31 oc32 kV32 dc32 pm32 ct32 cd32 oc33 kV33 dc33 pm33 ct33 cd33 oc34 kV34 dc34 pm34 ct34 cd34 : Value}
    (aC_Stand : W.nsIn K mainGlobals "Stand" = some (some (.ref cSt)))
    (aC_End : W.nsIn K mainGlobals "End" = some (some (.ref cE)))
    (aC_Stage : W.nsIn K mainGlobals "Stage" = some (some (.ref cS)))
    (aC_NoBox : W.nsIn K mainGlobals "NoBox" = some (some (.ref C_NoBox)))
    (aC_LidError : W.nsIn K mainGlobals "LidError" = some (some (.ref C_LidError)))
    (aC_NoTable : W.nsIn K mainGlobals "NoTable" = some (some (.ref C_NoTable)))
    (a1 : W.nsIn K mainGlobals "is_whole" = some (some (.ref f1)))
    (l1 : K.lookup f1 = some ⟨oc1, od1, .func (W.fnOf "is_whole" "is_whole" (defArgs (top 6)) (defBody (top 6)) (defScope (top 6)) .none kV1 dc1 pm1 an1 cd1 ct1), sl1⟩) (c1 : W.codeIn K cd1 "is_whole" = true) (k1 : W.keepIn K (.ref f1) = true)
    (a2 : W.nsIn K mainGlobals "common_divisor" = some (some (.ref f2)))
    (l2 : K.lookup f2 = some ⟨oc2, od2, .func (W.fnOf "common_divisor" "common_divisor" (defArgs (top 7)) (defBody (top 7)) (defScope (top 7)) .none kV2 dc2 pm2 an2 cd2 ct2), sl2⟩) (c2 : W.codeIn K cd2 "common_divisor" = true) (k2 : W.keepIn K (.ref f2) = true)
    (a3 : W.nsIn K mainGlobals "common_multiple" = some (some (.ref f3)))
    (l3 : K.lookup f3 = some ⟨oc3, od3, .func (W.fnOf "common_multiple" "common_multiple" (defArgs (top 8)) (defBody (top 8)) (defScope (top 8)) .none kV3 dc3 pm3 an3 cd3 ct3), sl3⟩) (c3 : W.codeIn K cd3 "common_multiple" = true) (k3 : W.keepIn K (.ref f3) = true)
    (a4 : W.nsIn K mainGlobals "share" = some (some (.ref f4)))
    (l4 : K.lookup f4 = some ⟨oc4, od4, .func (W.fnOf "share" "share" (defArgs (top 9)) (defBody (top 9)) (defScope (top 9)) .none kV4 dc4 pm4 an4 cd4 ct4), sl4⟩) (c4 : W.codeIn K cd4 "share" = true) (k4 : W.keepIn K (.ref f4) = true)
    (a5 : W.nsIn K mainGlobals "whole" = some (some (.ref f5)))
    (l5 : K.lookup f5 = some ⟨oc5, od5, .func (W.fnOf "whole" "whole" (defArgs (top 10)) (defBody (top 10)) (defScope (top 10)) .none kV5 dc5 pm5 an5 cd5 ct5), sl5⟩) (c5 : W.codeIn K cd5 "whole" = true) (k5 : W.keepIn K (.ref f5) = true)
    (a6 : W.nsIn K mainGlobals "below" = some (some (.ref f6)))
    (l6 : K.lookup f6 = some ⟨oc6, od6, .func (W.fnOf "below" "below" (defArgs (top 11)) (defBody (top 11)) (defScope (top 11)) .none kV6 dc6 pm6 an6 cd6 ct6), sl6⟩) (c6 : W.codeIn K cd6 "below" = true) (k6 : W.keepIn K (.ref f6) = true)
    (a7 : W.nsIn K mainGlobals "lesser" = some (some (.ref f7)))
    (l7 : K.lookup f7 = some ⟨oc7, od7, .func (W.fnOf "lesser" "lesser" (defArgs (top 12)) (defBody (top 12)) (defScope (top 12)) .none kV7 dc7 pm7 an7 cd7 ct7), sl7⟩) (c7 : W.codeIn K cd7 "lesser" = true) (k7 : W.keepIn K (.ref f7) = true)
    (a8 : W.nsIn K mainGlobals "rising" = some (some (.ref f8)))
    (l8 : K.lookup f8 = some ⟨oc8, od8, .func (W.fnOf "rising" "rising" (defArgs (top 16)) (defBody (top 16)) (defScope (top 16)) .none kV8 dc8 pm8 an8 (.ref cR) ct8), sl8⟩) (c8 : W.codeIn K (.ref cR) "rising" = true) (k8 : W.keepIn K (.ref f8) = true)
    (a9 : W.nsIn K mainGlobals "in_form" = some (some (.ref f9)))
    (l9 : K.lookup f9 = some ⟨oc9, od9, .func (W.fnOf "in_form" "in_form" (defArgs (top 17)) (defBody (top 17)) (defScope (top 17)) .none kV9 dc9 pm9 an9 cd9 ct9), sl9⟩) (c9 : W.codeIn K cd9 "in_form" = true) (k9 : W.keepIn K (.ref f9) = true)
    (a10 : W.nsIn K mainGlobals "all_weights" = some (some (.ref f10)))
    (l10 : K.lookup f10 = some ⟨oc10, od10, .func (W.fnOf "all_weights" "all_weights" (defArgs (top 18)) (defBody (top 18)) (defScope (top 18)) .none kV10 dc10 pm10 an10 cd10 ct10), sl10⟩) (c10 : W.codeIn K cd10 "all_weights" = true) (k10 : W.keepIn K (.ref f10) = true)
    (a11 : W.nsIn K mainGlobals "capped" = some (some (.ref f11)))
    (l11 : K.lookup f11 = some ⟨oc11, od11, .func (W.fnOf "capped" "capped" (defArgs (top 19)) (defBody (top 19)) (defScope (top 19)) .none kV11 dc11 pm11 an11 cd11 ct11), sl11⟩) (c11 : W.codeIn K cd11 "capped" = true) (k11 : W.keepIn K (.ref f11) = true)
    (a12 : W.nsIn K mainGlobals "mixed" = some (some (.ref f12)))
    (l12 : K.lookup f12 = some ⟨oc12, od12, .func (W.fnOf "mixed" "mixed" (defArgs (top 20)) (defBody (top 20)) (defScope (top 20)) .none kV12 dc12 pm12 an12 cd12 ct12), sl12⟩) (c12 : W.codeIn K cd12 "mixed" = true) (k12 : W.keepIn K (.ref f12) = true)
    (a13 : W.nsIn K mainGlobals "level_for" = some (some (.ref f13)))
    (l13 : K.lookup f13 = some ⟨oc13, od13, .func (W.fnOf "level_for" "level_for" (defArgs (top 21)) (defBody (top 21)) (defScope (top 21)) .none kV13 dc13 pm13 an13 cd13 ct13), sl13⟩) (c13 : W.codeIn K cd13 "level_for" = true) (k13 : W.keepIn K (.ref f13) = true)
    (a14 : W.nsIn K mainGlobals "is_stand" = some (some (.ref f14)))
    (l14 : K.lookup f14 = some ⟨oc14, od14, .func (W.fnOf "is_stand" "is_stand" (defArgs (top 31)) (defBody (top 31)) (defScope (top 31)) .none kV14 dc14 pm14 an14 cd14 ct14), sl14⟩) (c14 : W.codeIn K cd14 "is_stand" = true) (k14 : W.keepIn K (.ref f14) = true)
    (a15 : W.nsIn K mainGlobals "is_stage_row" = some (some (.ref f15)))
    (l15 : K.lookup f15 = some ⟨oc15, od15, .func (W.fnOf "is_stage_row" "is_stage_row" (defArgs (top 32)) (defBody (top 32)) (defScope (top 32)) .none kV15 dc15 pm15 an15 cd15 ct15), sl15⟩) (c15 : W.codeIn K cd15 "is_stage_row" = true) (k15 : W.keepIn K (.ref f15) = true)
    (a16 : W.nsIn K mainGlobals "is_stage_rows" = some (some (.ref f16)))
    (l16 : K.lookup f16 = some ⟨oc16, od16, .func (W.fnOf "is_stage_rows" "is_stage_rows" (defArgs (top 33)) (defBody (top 33)) (defScope (top 33)) .none kV16 dc16 pm16 an16 cd16 ct16), sl16⟩) (c16 : W.codeIn K cd16 "is_stage_rows" = true) (k16 : W.keepIn K (.ref f16) = true)
    (a17 : W.nsIn K mainGlobals "need_boxes" = some (some (.ref f17)))
    (l17 : K.lookup f17 = some ⟨oc17, od17, .func (W.fnOf "need_boxes" "need_boxes" (defArgs (top 34)) (defBody (top 34)) (defScope (top 34)) .none kV17 dc17 pm17 an17 cd17 ct17), sl17⟩) (c17 : W.codeIn K cd17 "need_boxes" = true) (k17 : W.keepIn K (.ref f17) = true)
    (a18 : W.nsIn K mainGlobals "_law_cell_at" = some (some (.ref f18)))
    (l18 : K.lookup f18 = some ⟨oc18, od18, .func (W.fnOf "_law_cell_at" "_law_cell_at" (defArgs (top 36)) (defBody (top 36)) (defScope (top 36)) .none kV18 dc18 pm18 an18 cd18 ct18), sl18⟩) (c18 : W.codeIn K cd18 "_law_cell_at" = true) (k18 : W.keepIn K (.ref f18) = true)
    (a19 : W.nsIn K mainGlobals "_law_mixed" = some (some (.ref f19)))
    (l19 : K.lookup f19 = some ⟨oc19, od19, .func (W.fnOf "_law_mixed" "_law_mixed" (defArgs (top 37)) (defBody (top 37)) (defScope (top 37)) .none kV19 dc19 pm19 an19 cd19 ct19), sl19⟩) (c19 : W.codeIn K cd19 "_law_mixed" = true) (k19 : W.keepIn K (.ref f19) = true)
    (a20 : W.nsIn K mainGlobals "_law_thing" = some (some (.ref f20)))
    (l20 : K.lookup f20 = some ⟨oc20, od20, .func (W.fnOf "_law_thing" "_law_thing" (defArgs (top 40)) (defBody (top 40)) (defScope (top 40)) .none kV20 dc20 pm20 an20 cd20 ct20), sl20⟩) (c20 : W.codeIn K cd20 "_law_thing" = true) (k20 : W.keepIn K (.ref f20) = true)
    (a21 : W.nsIn K mainGlobals "_law_is_number" = some (some (.ref f21)))
    (l21 : K.lookup f21 = some ⟨oc21, od21, .func (W.fnOf "_law_is_number" "_law_is_number" (defArgs (top 41)) (defBody (top 41)) (defScope (top 41)) .none kV21 dc21 pm21 an21 cd21 ct21), sl21⟩) (c21 : W.codeIn K cd21 "_law_is_number" = true) (k21 : W.keepIn K (.ref f21) = true)
    (a22 : W.nsIn K mainGlobals "_law_refused" = some (some (.ref f22)))
    (l22 : K.lookup f22 = some ⟨oc22, od22, .func (W.fnOf "_law_refused" "_law_refused" (defArgs (top 42)) (defBody (top 42)) (defScope (top 42)) .none kV22 dc22 pm22 an22 cd22 ct22), sl22⟩) (c22 : W.codeIn K cd22 "_law_refused" = true) (k22 : W.keepIn K (.ref f22) = true)
    (a23 : W.nsIn K mainGlobals "_law_is" = some (some (.ref f23)))
    (l23 : K.lookup f23 = some ⟨oc23, od23, .func (W.fnOf "_law_is" "_law_is" (defArgs (top 43)) (defBody (top 43)) (defScope (top 43)) .none kV23 dc23 pm23 an23 cd23 ct23), sl23⟩) (c23 : W.codeIn K cd23 "_law_is" = true) (k23 : W.keepIn K (.ref f23) = true)
    (a24 : W.nsIn K mainGlobals "_law_chain" = some (some (.ref f24)))
    (l24 : K.lookup f24 = some ⟨oc24, od24, .func (W.fnOf "_law_chain" "_law_chain" (defArgs (top 44)) (defBody (top 44)) (defScope (top 44)) .none kV24 dc24 pm24 an24 cd24 ct24), sl24⟩) (c24 : W.codeIn K cd24 "_law_chain" = true) (k24 : W.keepIn K (.ref f24) = true)
    (a25 : W.nsIn K mainGlobals "_law_wide" = some (some (.ref f25)))
    (l25 : K.lookup f25 = some ⟨oc25, od25, .func (W.fnOf "_law_wide" "_law_wide" (defArgs (top 45)) (defBody (top 45)) (defScope (top 45)) .none kV25 dc25 pm25 an25 cd25 ct25), sl25⟩) (c25 : W.codeIn K cd25 "_law_wide" = true) (k25 : W.keepIn K (.ref f25) = true)
    (a26 : W.nsIn K mainGlobals "_law_rows" = some (some (.ref f26)))
    (l26 : K.lookup f26 = some ⟨oc26, od26, .func (W.fnOf "_law_rows" "_law_rows" (defArgs (top 46)) (defBody (top 46)) (defScope (top 46)) .none kV26 dc26 pm26 an26 cd26 ct26), sl26⟩) (c26 : W.codeIn K cd26 "_law_rows" = true) (k26 : W.keepIn K (.ref f26) = true)
    (a27 : W.nsIn K mainGlobals "_law_one" = some (some (.ref f27)))
    (l27 : K.lookup f27 = some ⟨oc27, od27, .func (W.fnOf "_law_one" "_law_one" (defArgs (top 47)) (defBody (top 47)) (defScope (top 47)) .none kV27 dc27 pm27 an27 cd27 ct27), sl27⟩) (c27 : W.codeIn K cd27 "_law_one" = true) (k27 : W.keepIn K (.ref f27) = true)
    (a28 : W.nsIn K mainGlobals "law" = some (some (.ref f28)))
    (l28 : K.lookup f28 = some ⟨oc28, od28, .func (W.fnOf "law" "law" (defArgs (top 48)) (defBody (top 48)) (defScope (top 48)) .none kV28 dc28 pm28 an28 cd28 ct28), sl28⟩) (c28 : W.codeIn K cd28 "law" = true) (k28 : W.keepIn K (.ref f28) = true)
    (a29 : W.findIn K (.ref cSt) "__init__" = some (some (.ref f29))) (i29 : W.isFn K (.ref f29) = true)
    (l29 : K.lookup f29 = some ⟨oc29, od29, .func (W.fnOf "__init__" "Stand.__init__" (defArgs (inClass (top 28) 0)) (defBody (inClass (top 28) 0)) (defScope (inClass (top 28) 0)) .none kV29 dc29 pm29 an29 cd29 ct29), sl29⟩) (c29 : W.codeIn K cd29 "Stand.__init__" = true) (k29 : W.keepIn K (.ref f29) = true)
    (a30 : W.findIn K (.ref cSt) "ends" = some (some (.ref f30))) (i30 : W.isFn K (.ref f30) = true)
    (l30 : K.lookup f30 = some ⟨oc30, od30, .func (W.fnOf "ends" "Stand.ends" (defArgs (inClass (top 28) 1)) (defBody (inClass (top 28) 1)) (defScope (inClass (top 28) 1)) .none kV30 dc30 pm30 an30 cd30 ct30), sl30⟩) (c30 : W.codeIn K cd30 "Stand.ends" = true) (k30 : W.keepIn K (.ref f30) = true)
    (a31 : W.findIn K (.ref cSt) "stages" = some (some (.ref f31))) (i31 : W.isFn K (.ref f31) = true)
    (l31 : K.lookup f31 = some ⟨oc31, od31, .func (W.fnOf "stages" "Stand.stages" (defArgs (inClass (top 28) 2)) (defBody (inClass (top 28) 2)) (defScope (inClass (top 28) 2)) .none kV31 dc31 pm31 an31 cd31 ct31), sl31⟩) (c31 : W.codeIn K cd31 "Stand.stages" = true) (k31 : W.keepIn K (.ref f31) = true)
    (a32 : W.findIn K (.ref cSt) "caps" = some (some (.ref f32))) (i32 : W.isFn K (.ref f32) = true)
    (l32 : K.lookup f32 = some ⟨oc32, od32, .func (W.fnOf "caps" "Stand.caps" (defArgs (inClass (top 28) 4)) (defBody (inClass (top 28) 4)) (defScope (inClass (top 28) 4)) .none kV32 dc32 pm32 an32 cd32 ct32), sl32⟩) (c32 : W.codeIn K cd32 "Stand.caps" = true) (k32 : W.keepIn K (.ref f32) = true)
    (a33 : W.findIn K (.ref cE) "__init__" = some (some (.ref f33))) (i33 : W.isFn K (.ref f33) = true)
    (l33 : K.lookup f33 = some ⟨oc33, od33, .func (W.fnOf "__init__" "End.__init__" (defArgs (inClass (top 29) 0)) (defBody (inClass (top 29) 0)) (defScope (inClass (top 29) 0)) .none kV33 dc33 pm33 an33 cd33 ct33), sl33⟩) (c33 : W.codeIn K cd33 "End.__init__" = true) (k33 : W.keepIn K (.ref f33) = true)
    (a34 : W.findIn K (.ref cS) "__init__" = some (some (.ref f34))) (i34 : W.isFn K (.ref f34) = true)
    (l34 : K.lookup f34 = some ⟨oc34, od34, .func (W.fnOf "__init__" "Stage.__init__" (defArgs (inClass (top 30) 0)) (defBody (inClass (top 30) 0)) (defScope (inClass (top 30) 0)) .none kV34 dc34 pm34 an34 cd34 ct34), sl34⟩) (c34 : W.codeIn K cd34 "Stage.__init__" = true) (k34 : W.keepIn K (.ref f34) = true)
    (hn : W.specialIn K (.builtin "object.__class__") "__get__" = some (some (.builtin "getset_descriptor.__get__")))
    (htk : W.takesIn K (.builtin "object.__class__") = some true)
    (pgE : W.plainGet K cE Str.empty = true)
    (hdE : W.hasDictIn K cE = true)
    (poE : W.plainOver K cE = true)
    (saE : W.findIn K (.ref cE) "__setattr__" = some (some (.builtin "object.__setattr__")))
    (mkE : W.makesIn K cE = true)
    (kcE : W.keepIn K (.ref cE) = true)
    (haE : W.findIn K (.ref cE) "__class__" = some (some (.builtin "object.__class__")))
    (hmE : W.mroIn K cE (.type "object") = some true)
    (nE1 : W.findIn K (.ref cE) "end_count" = some none)
    (nE2 : W.findIn K (.ref cE) "stage_count" = some none)
    (nE3 : W.findIn K (.ref cE) "level" = some none)
    (nE4 : W.findIn K (.ref cE) "cap_rows" = some none)
    (nE5 : W.findIn K (.ref cE) "worth" = some none)
    (vE_ends : W.findIn K (.ref cE) "ends" = some (some (.ref f30)))
    (vE_stages : W.findIn K (.ref cE) "stages" = some (some (.ref f31)))
    (vE_caps : W.findIn K (.ref cE) "caps" = some (some (.ref f32)))
    (pgS : W.plainGet K cS Str.empty = true)
    (hdS : W.hasDictIn K cS = true)
    (poS : W.plainOver K cS = true)
    (saS : W.findIn K (.ref cS) "__setattr__" = some (some (.builtin "object.__setattr__")))
    (mkS : W.makesIn K cS = true)
    (kcS : W.keepIn K (.ref cS) = true)
    (haS : W.findIn K (.ref cS) "__class__" = some (some (.builtin "object.__class__")))
    (hmS : W.mroIn K cS (.type "object") = some true)
    (nS1 : W.findIn K (.ref cS) "end_count" = some none)
    (nS2 : W.findIn K (.ref cS) "stage_count" = some none)
    (nS3 : W.findIn K (.ref cS) "level" = some none)
    (nS4 : W.findIn K (.ref cS) "cap_rows" = some none)
    (nS5 : W.findIn K (.ref cS) "price" = some none)
    (nS6 : W.findIn K (.ref cS) "rows" = some none)
    (vS_ends : W.findIn K (.ref cS) "ends" = some (some (.ref f30)))
    (vS_stages : W.findIn K (.ref cS) "stages" = some (some (.ref f31)))
    (vS_caps : W.findIn K (.ref cS) "caps" = some (some (.ref f32)))
    (qEE : W.kitOne K (.ref cE) (.ref cE) = some true)
    (qSE : W.kitOne K (.ref cS) (.ref cE) = some false)
    (qSS : W.kitOne K (.ref cS) (.ref cS) = some true)
    (uga : W.specialIn K (.ref cSt) "__getattribute__" = some (some (.builtin "type.__getattribute__")))
    (urd : W.readsIn K cSt (.type "type") = true)
    (uat : W.findCls K (.ref cSt) (.type "type") "__init__" = some (.val (.ref f29)))
    (uhd : W.handedIn (.ref f29) = true)
    (xc : W.excIn K C_NoBox ([.type "ValueError", .type "Exception", .type "BaseException", .type "object"]) "ValueError.__new__" = true)
    (gaX : W.findIn K (.ref C_NoBox) "__getattribute__" = some (some (.builtin "BaseException.__getattribute__")))
    (gtX : W.findIn K (.ref C_NoBox) "__getattr__" = some none)
    (mbX : W.mroIn K C_NoBox (.type "BaseException") = some true)
    (clX : (W.clsIn K C_NoBox).isSome = true)
    (fiX : W.findIn K (.ref C_NoBox) "__class__" = some (some (.builtin "object.__class__")))
    (spX : W.specialIn K (.builtin "object.__class__") "__get__" = some (some (.builtin "getset_descriptor.__get__")))
    (tkX : W.takesIn K (.builtin "object.__class__") = some true)
    (mrX : W.mroIn K C_NoBox (.type "object") = some true)
    (exX : W.exmOne K (.ref C_NoBox) (.ref C_NoBox) = some true)
    (k1X : W.kitOne K (.ref C_NoBox) (.ref C_LidError) = some true)
    (k2X : W.kitOne K (.ref C_NoBox) (.type "ValueError") = some true)
    (k3X : W.kitOne K (.ref C_NoBox) (.ref C_NoTable) = some false)
    (cnT : W.kitOne K (.ref cE) (.type "tuple") = some false)
    (cnE0 : W.kitOne K (.type "tuple") (.ref cE) = some false)
    (cnS0 : W.kitOne K (.type "tuple") (.ref cS) = some false)
    (cnE1 : W.kitOne K (.type "int") (.ref cE) = some false)
    (cnS1 : W.kitOne K (.type "int") (.ref cS) = some false)
    (cnE2 : W.kitOne K (.type "NoneType") (.ref cE) = some false)
    (cnS2 : W.kitOne K (.type "NoneType") (.ref cS) = some false)
    (cnE3 : W.kitOne K (.type "str") (.ref cE) = some false)
    (cnS3 : W.kitOne K (.type "str") (.ref cS) = some false)
    (cnE4 : W.kitOne K (.type "list") (.ref cE) = some false)
    (cnS4 : W.kitOne K (.type "list") (.ref cS) = some false)
    (y_ValueError : W.nsIn K mainGlobals "ValueError" = some none)
    (y_abs : W.nsIn K mainGlobals "abs" = some none)
    (y_all : W.nsIn K mainGlobals "all" = some none)
    (y_bool : W.nsIn K mainGlobals "bool" = some none)
    (y_int : W.nsIn K mainGlobals "int" = some none)
    (y_isinstance : W.nsIn K mainGlobals "isinstance" = some none)
    (y_len : W.nsIn K mainGlobals "len" = some none)
    (y_list : W.nsIn K mainGlobals "list" = some none)
    (y_max : W.nsIn K mainGlobals "max" = some none)
    (y_min : W.nsIn K mainGlobals "min" = some none)
    (y_range : W.nsIn K mainGlobals "range" = some none)
    (y_reversed : W.nsIn K mainGlobals "reversed" = some none)
    (y_sorted : W.nsIn K mainGlobals "sorted" = some none)
    (y_sum : W.nsIn K mainGlobals "sum" = some none)
    (y_tuple : W.nsIn K mainGlobals "tuple" = some none)
    {tk_MOST_WEIGHT : Tok} (yg_MOST_WEIGHT : W.nsIn K mainGlobals "MOST_WEIGHT" = some (some (.int 1000 tk_MOST_WEIGHT)))
    {tk_MOST_STAGE_ROWS : Tok} (yg_MOST_STAGE_ROWS : W.nsIn K mainGlobals "MOST_STAGE_ROWS" = some (some (.int 4 tk_MOST_STAGE_ROWS)))
    {tk_MOST_BOXES : Tok} (yg_MOST_BOXES : W.nsIn K mainGlobals "MOST_BOXES" = some (some (.int 6 tk_MOST_BOXES)))
    {tk_MOST_WORTH : Tok} (yg_MOST_WORTH : W.nsIn K mainGlobals "MOST_WORTH" = some (some (.int 1000000000 tk_MOST_WORTH)))
    {tk_MOST_STAGES : Tok} (yg_MOST_STAGES : W.nsIn K mainGlobals "MOST_STAGES" = some (some (.int 4 tk_MOST_STAGES)))
    {tk_MOST_ENDS : Tok} (yg_MOST_ENDS : W.nsIn K mainGlobals "MOST_ENDS" = some (some (.int 12 tk_MOST_ENDS)))
    {tk_MOST_PRICE : Tok} (yg_MOST_PRICE : W.nsIn K mainGlobals "MOST_PRICE" = some (some (.int 1000000000 tk_MOST_PRICE)))
    (tb : W.tabIn K "rising" = some (cR, Pt)) (ch : W.codeHdIn K cR Pt = true) (np : K.lookup Pt = none)
    : ∃ (fd : FuncData) (c P : Addr), (∀ (s : Shared) (v : Value), BindsTo s fd ⟨[v], []⟩ [("_law_script", v)]) ∧ W.tabIn K "rising" = some (c, P) ∧ W.codeHdIn K c P = true ∧ K.lookup P = none ∧ ∀ base : Heap, K.In base → base.Ns mainGlobals mg → W.CodeHd base c P → base.BuiltinsAt mg P → FnOk l.prog w K mg base CX0 10 fa fd ["_law_script"] (spLaw12 K P lamP) := by
  obtain ⟨c, rfl, rfl⟩ : ∃ c : Cs, c.e = cE ∧ c.s = cS := ⟨⟨cE, cS⟩, rfl, rfl⟩
  have e := hfa.symm.trans (W.mg_of X G a28)
  cases e
  have F1 := fun_mk (st := (top 6)) l1 c1 k1
  have b1 := F1.binds (ps := ["thing", "least", "most"]) fun _ _ _ _ _ _ us hl => match us, hl with | [_, _, _], _ => rfl
  have F2 := fun_mk (st := (top 7)) l2 c2 k2
  have b2 := F2.binds (ps := ["one", "other"]) fun _ _ _ _ _ _ us hl => match us, hl with | [_, _], _ => rfl
  have F3 := fun_mk (st := (top 8)) l3 c3 k3
  have b3 := F3.binds (ps := ["numbers"]) fun _ _ _ _ _ _ us hl => match us, hl with | [_], _ => rfl
  have F4 := fun_mk (st := (top 9)) l4 c4 k4
  have b4 := F4.binds (ps := ["top", "bottom"]) fun _ _ _ _ _ _ us hl => match us, hl with | [_, _], _ => rfl
  have F5 := fun_mk (st := (top 10)) l5 c5 k5
  have b5 := F5.binds (ps := ["number"]) fun _ _ _ _ _ _ us hl => match us, hl with | [_], _ => rfl
  have F6 := fun_mk (st := (top 11)) l6 c6 k6
  have b6 := F6.binds (ps := ["one", "other"]) fun _ _ _ _ _ _ us hl => match us, hl with | [_, _], _ => rfl
  have F7 := fun_mk (st := (top 12)) l7 c7 k7
  have b7 := F7.binds (ps := ["one", "other"]) fun _ _ _ _ _ _ us hl => match us, hl with | [_, _], _ => rfl
  have F8 := fun_mk (st := (top 16)) l8 c8 k8
  have b8 := F8.binds (ps := ["worths"]) fun _ _ _ _ _ _ us hl => match us, hl with | [_], _ => rfl
  have F9 := fun_mk (st := (top 17)) l9 c9 k9
  have b9 := F9.binds (ps := ["rows"]) fun _ _ _ _ _ _ us hl => match us, hl with | [_], _ => rfl
  have F10 := fun_mk (st := (top 18)) l10 c10 k10
  have b10 := F10.binds (ps := ["table"]) fun _ _ _ _ _ _ us hl => match us, hl with | [_], _ => rfl
  have F11 := fun_mk (st := (top 19)) l11 c11 k11
  have b11 := F11.binds (ps := ["table", "level"]) fun _ _ _ _ _ _ us hl => match us, hl with | [_, _], _ => rfl
  have F12 := fun_mk (st := (top 20)) l12 c12 k12
  have b12 := F12.binds (ps := ["rows"]) fun _ _ _ _ _ _ us hl => match us, hl with | [_], _ => rfl
  have F13 := fun_mk (st := (top 21)) l13 c13 k13
  have b13 := F13.binds (ps := ["table", "price"]) fun _ _ _ _ _ _ us hl => match us, hl with | [_, _], _ => rfl
  have F14 := fun_mk (st := (top 31)) l14 c14 k14
  have b14 := F14.binds (ps := ["thing"]) fun _ _ _ _ _ _ us hl => match us, hl with | [_], _ => rfl
  have F15 := fun_mk (st := (top 32)) l15 c15 k15
  have b15 := F15.binds (ps := ["row"]) fun _ _ _ _ _ _ us hl => match us, hl with | [_], _ => rfl
  have F16 := fun_mk (st := (top 33)) l16 c16 k16
  have b16 := F16.binds (ps := ["rows"]) fun _ _ _ _ _ _ us hl => match us, hl with | [_], _ => rfl
  have F17 := fun_mk (st := (top 34)) l17 c17 k17
  have b17 := F17.binds (ps := ["boxes"]) fun _ _ _ _ _ _ us hl => match us, hl with | [_], _ => rfl
  have F18 := fun_mk (st := (top 36)) l18 c18 k18
  have b18 := F18.binds (ps := ["_law_script", "_law_k"]) fun _ _ _ _ _ _ us hl => match us, hl with | [_, _], _ => rfl
  have F19 := fun_mk (st := (top 37)) l19 c19 k19
  have b19 := F19.binds (ps := ["_law_cell", "_law_k"]) fun _ _ _ _ _ _ us hl => match us, hl with | [_, _], _ => rfl
  have F20 := fun_mk (st := (top 40)) l20 c20 k20
  have b20 := F20.binds (ps := ["_law_cell", "_law_low", "_law_high"]) fun _ _ _ _ _ _ us hl => match us, hl with | [_, _, _], _ => rfl
  have F21 := fun_mk (st := (top 41)) l21 c21 k21
  have b21 := F21.binds (ps := ["_law_thing_here", "_law_low", "_law_high"]) fun _ _ _ _ _ _ us hl => match us, hl with | [_, _, _], _ => rfl
  have F22 := fun_mk (st := (top 42)) l22 c22 k22
  have b22 := F22.binds (ps := ["_law_what", "_law_one_here", "_law_other"]) fun _ _ _ _ _ _ us hl => match us, hl with | [_, _, _], _ => rfl
  have F23 := fun_mk (st := (top 43)) l23 c23 k23
  have b23 := F23.binds (ps := ["_law_what", "_law_one_here", "_law_other", "_law_good"]) fun _ _ _ _ _ _ us hl => match us, hl with | [_, _, _, _], _ => rfl
  have F24 := fun_mk (st := (top 44)) l24 c24 k24
  have b24 := F24.binds (ps := ["_law_many"]) fun _ _ _ _ _ _ us hl => match us, hl with | [_], _ => rfl
  have F25 := fun_mk (st := (top 45)) l25 c25 k25
  have b25 := F25.binds (ps := ["_law_many"]) fun _ _ _ _ _ _ us hl => match us, hl with | [_], _ => rfl
  have F26 := fun_mk (st := (top 46)) l26 c26 k26
  have b26 := F26.binds (ps := ["_law_cell"]) fun _ _ _ _ _ _ us hl => match us, hl with | [_], _ => rfl
  have F27 := fun_mk (st := (top 47)) l27 c27 k27
  have b27 := F27.binds (ps := ["_law_cell"]) fun _ _ _ _ _ _ us hl => match us, hl with | [_], _ => rfl
  have F28 := fun_mk (st := (top 48)) l28 c28 k28
  have F29 := fun_mk (st := (inClass (top 28) 0)) l29 c29 k29
  have b29 := F29.binds (ps := ["self", "end_count", "stage_count", "level", "cap_rows"]) fun _ _ _ _ _ _ us hl => match us, hl with | [_, _, _, _, _], _ => rfl
  have F30 := fun_mk (st := (inClass (top 28) 1)) l30 c30 k30
  have b30 := F30.binds (ps := ["self"]) fun _ _ _ _ _ _ us hl => match us, hl with | [_], _ => rfl
  have F31 := fun_mk (st := (inClass (top 28) 2)) l31 c31 k31
  have b31 := F31.binds (ps := ["self"]) fun _ _ _ _ _ _ us hl => match us, hl with | [_], _ => rfl
  have F32 := fun_mk (st := (inClass (top 28) 4)) l32 c32 k32
  have b32 := F32.binds (ps := ["self"]) fun _ _ _ _ _ _ us hl => match us, hl with | [_], _ => rfl
  have F33 := fun_mk (st := (inClass (top 29) 0)) l33 c33 k33
  have b33 := F33.binds (ps := ["self", "worth"]) fun _ _ _ _ _ _ us hl => match us, hl with | [_, _], _ => rfl
  have F34 := fun_mk (st := (inClass (top 30) 0)) l34 c34 k34
  have b34 := F34.binds (ps := ["self", "price", "rows"]) fun _ _ _ _ _ _ us hl => match us, hl with | [_, _, _], _ => rfl
  have m1 := W.mg_of X G a1
  have m2 := W.mg_of X G a2
  have m3 := W.mg_of X G a3
  have m4 := W.mg_of X G a4
  have m5 := W.mg_of X G a5
  have m6 := W.mg_of X G a6
  have m7 := W.mg_of X G a7
  have m8 := W.mg_of X G a8
  have m9 := W.mg_of X G a9
  have m10 := W.mg_of X G a10
  have m11 := W.mg_of X G a11
  have m12 := W.mg_of X G a12
  have m13 := W.mg_of X G a13
  have m14 := W.mg_of X G a14
  have m15 := W.mg_of X G a15
  have m16 := W.mg_of X G a16
  have m17 := W.mg_of X G a17
  have m18 := W.mg_of X G a18
  have m19 := W.mg_of X G a19
  have m20 := W.mg_of X G a20
  have m21 := W.mg_of X G a21
  have m22 := W.mg_of X G a22
  have m23 := W.mg_of X G a23
  have m24 := W.mg_of X G a24
  have m25 := W.mg_of X G a25
  have m26 := W.mg_of X G a26
  have m27 := W.mg_of X G a27
  have g_Stand := W.mg_of X G aC_Stand
  have g_End := W.mg_of X G aC_End
  have g_Stage := W.mg_of X G aC_Stage
  have g_NoBox := W.mg_of X G aC_NoBox
  have g_LidError := W.mg_of X G aC_LidError
  have g_NoTable := W.mg_of X G aC_NoTable
  have z_ValueError := W.mg_none_of X G y_ValueError
  have z_abs := W.mg_none_of X G y_abs
  have z_all := W.mg_none_of X G y_all
  have z_bool := W.mg_none_of X G y_bool
  have z_int := W.mg_none_of X G y_int
  have z_isinstance := W.mg_none_of X G y_isinstance
  have z_len := W.mg_none_of X G y_len
  have z_list := W.mg_none_of X G y_list
  have z_max := W.mg_none_of X G y_max
  have z_min := W.mg_none_of X G y_min
  have z_range := W.mg_none_of X G y_range
  have z_reversed := W.mg_none_of X G y_reversed
  have z_sorted := W.mg_none_of X G y_sorted
  have z_sum := W.mg_none_of X G y_sum
  have z_tuple := W.mg_none_of X G y_tuple
  have g_MOST_WEIGHT := W.mg_of X G yg_MOST_WEIGHT
  have r_MOST_WEIGHT : RelV (.int 1000) (.int 1000 tk_MOST_WEIGHT) := ⟨_, rfl⟩
  have g_MOST_STAGE_ROWS := W.mg_of X G yg_MOST_STAGE_ROWS
  have r_MOST_STAGE_ROWS : RelV (.int 4) (.int 4 tk_MOST_STAGE_ROWS) := ⟨_, rfl⟩
  have g_MOST_BOXES := W.mg_of X G yg_MOST_BOXES
  have r_MOST_BOXES : RelV (.int 6) (.int 6 tk_MOST_BOXES) := ⟨_, rfl⟩
  have g_MOST_WORTH := W.mg_of X G yg_MOST_WORTH
  have r_MOST_WORTH : RelV (.int 1000000000) (.int 1000000000 tk_MOST_WORTH) := ⟨_, rfl⟩
  have g_MOST_STAGES := W.mg_of X G yg_MOST_STAGES
  have r_MOST_STAGES : RelV (.int 4) (.int 4 tk_MOST_STAGES) := ⟨_, rfl⟩
  have g_MOST_ENDS := W.mg_of X G yg_MOST_ENDS
  have r_MOST_ENDS : RelV (.int 12) (.int 12 tk_MOST_ENDS) := ⟨_, rfl⟩
  have g_MOST_PRICE := W.mg_of X G yg_MOST_PRICE
  have r_MOST_PRICE : RelV (.int 1000000000) (.int 1000000000 tk_MOST_PRICE) := ⟨_, rfl⟩
  refine ⟨W.fnOf "law" "law" (defArgs (top 48)) (defBody (top 48)) (defScope (top 48)) .none kV28 dc28 pm28 an28 cd28 ct28, cR, Pt, fun s v => .of_eq rfl, tb, ch, np, fun base _ _ hC hB => ?_⟩
  have ck : CK K c := ⟨⟨pgE, hdE, poE, saE⟩, ⟨pgS, hdS, poS, saS⟩, nE1, nE2, nE3, nE4, nE5, nS1, nS2, nS3, nS4, nS5, nS6⟩
  have ct : CT K c := ⟨hn, htk, haE, hmE, haS, hmS, qEE, qSE, qSS⟩
  have ME : Mk K c.e f33 := ⟨mkE, a33, i33, kcE⟩
  have MS : Mk K c.s f34 := ⟨mkS, a34, i34, kcS⟩
  have mS_i : ClsM K cSt "__init__" f29 := ⟨uga, urd, uat, uhd, k29⟩
  have mE_ends : Meth K c.e "ends" f30 := ⟨vE_ends, i30, k30⟩
  have mS_ends : Meth K c.s "ends" f30 := ⟨vS_ends, i30, k30⟩
  have mE_stages : Meth K c.e "stages" f31 := ⟨vE_stages, i31, k31⟩
  have mS_stages : Meth K c.s "stages" f31 := ⟨vS_stages, i31, k31⟩
  have mE_caps : Meth K c.e "caps" f32 := ⟨vE_caps, i32, k32⟩
  have mS_caps : Meth K c.s "caps" f32 := ⟨vS_caps, i32, k32⟩
  have xcl : XCls K C_NoBox := ⟨xc⟩
  have xty : XTy K C_NoBox := ⟨gaX, gtX, mbX, clX, fiX, spX, tkX, mrX⟩
  have cn : CN K c := ⟨fun T hT => by
    simp only [List.mem_cons, List.not_mem_nil, or_false] at hT
    rcases hT with rfl | rfl | rfl | rfl | rfl
    · exact ⟨cnE0, cnS0⟩
    · exact ⟨cnE1, cnS1⟩
    · exact ⟨cnE2, cnS2⟩
    · exact ⟨cnE3, cnS3⟩
    · exact ⟨cnE4, cnS4⟩
    , cnT⟩
  have G1 : FnOk l.prog w K mg base CX0 1 f1 _ ["thing", "least", "most"] spIsWx := ok_is_whole (n := 0) F1 z_isinstance z_bool z_int
  have C1 : Cal l.prog w K mg base 1 "is_whole" ["thing", "least", "most"] spIsWx f1 _ := ⟨G1, b1, k1, m1⟩
  have G2 : FnOk l.prog w K mg base CX0 1 f2 _ ["one", "other"] spCd := ok_common_divisor (n := 0) F2 z_abs
  have C2 : Cal l.prog w K mg base 1 "common_divisor" ["one", "other"] spCd f2 _ := ⟨G2, b2, k2, m2⟩
  have G3 : FnOk l.prog w K mg base CX0 2 f3 _ ["numbers"] (spCM K) := ok_common_multiple (n := 1) F3 (C2.up (by decide))
  have C3 : Cal l.prog w K mg base 2 "common_multiple" ["numbers"] (spCM K) f3 _ := ⟨G3, b3, k3, m3⟩
  have G4 : FnOk l.prog w K mg base CX0 2 f4 _ ["top", "bottom"] spShare := ok_share (n := 1) F4 (C2.up (by decide))
  have C4 : Cal l.prog w K mg base 2 "share" ["top", "bottom"] spShare f4 _ := ⟨G4, b4, k4, m4⟩
  have G5 : FnOk l.prog w K mg base CX0 1 f5 _ ["number"] spWh := ok_whole (n := 0) F5
  have C5 : Cal l.prog w K mg base 1 "whole" ["number"] spWh f5 _ := ⟨G5, b5, k5, m5⟩
  have G6 : FnOk l.prog w K mg base CX0 1 f6 _ ["one", "other"] (spBelow K) := ok_below (n := 0) F6
  have C6 : Cal l.prog w K mg base 1 "below" ["one", "other"] (spBelow K) f6 _ := ⟨G6, b6, k6, m6⟩
  have G7 : FnOk l.prog w K mg base CX0 2 f7 _ ["one", "other"] (spLs K) := ok_lesser (n := 1) F7 (C6.up (by decide))
  have C7 : Cal l.prog w K mg base 2 "lesser" ["one", "other"] (spLs K) f7 _ := ⟨G7, b7, k7, m7⟩
  have G8 : FnOk l.prog w K mg base CX0 1 f8 _ ["worths"] (spRise K Pt lamP) := ok_rising (n := 0) F8 rfl hC hB z_sorted z_max
  have C8 : Cal l.prog w K mg base 1 "rising" ["worths"] (spRise K Pt lamP) f8 _ := ⟨G8, b8, k8, m8⟩
  have G9 : FnOk l.prog w K mg base CX0 2 f9 _ ["rows"] (spForm Pt lamP) := ok_in_form (n := 1) F9 (C8.up (by decide)) (C2.up (by decide)) z_list
  have C9 : Cal l.prog w K mg base 2 "in_form" ["rows"] (spForm Pt lamP) f9 _ := ⟨G9, b9, k9, m9⟩
  have G10 : FnOk l.prog w K mg base CX0 1 f10 _ ["table"] spAW := ok_all_weights (n := 0) F10 z_sum
  have C10 : Cal l.prog w K mg base 1 "all_weights" ["table"] spAW f10 _ := ⟨G10, b10, k10, m10⟩
  have G11 : FnOk l.prog w K mg base CX0 3 f11 _ ["table", "level"] (spCap2 Pt lamP) := ok_capped (n := 2) F11 (C9.up (by decide)) (C7.up (by decide))
  have C11 : Cal l.prog w K mg base 3 "capped" ["table", "level"] (spCap2 Pt lamP) f11 _ := ⟨G11, b11, k11, m11⟩
  have G12 : FnOk l.prog w K mg base CX0 3 f12 _ ["rows"] (spMix2 Pt lamP) := ok_mixed (n := 2) F12 (C9.up (by decide)) (C10.up (by decide)) (C3.up (by decide))
  have C12 : Cal l.prog w K mg base 3 "mixed" ["rows"] (spMix2 Pt lamP) f12 _ := ⟨G12, b12, k12, m12⟩
  have G13 : FnOk l.prog w K mg base CX0 3 f13 _ ["table", "price"] spLF2 := ok_level_for (n := 2) F13 (C4.up (by decide)) (C10.up (by decide)) (C3.up (by decide)) z_reversed
  have C13 : Cal l.prog w K mg base 3 "level_for" ["table", "price"] spLF2 f13 _ := ⟨G13, b13, k13, m13⟩
  have G14 : FnOk l.prog w K mg base CX0 1 f14 _ ["thing"] (spStX c K) := ok_is_stand (n := 0) F14 ck ct cn g_End g_Stage z_isinstance
  have C14 : Cal l.prog w K mg base 1 "is_stand" ["thing"] (spStX c K) f14 _ := ⟨G14, b14, k14, m14⟩
  have G15 : FnOk l.prog w K mg base CX0 2 f15 _ ["row"] (spSRowX c K) := ok_is_stage_row (n := 1) F15 (c := c) (C14.up (by decide)) (C1.up (by decide)) z_len z_isinstance z_tuple g_MOST_WEIGHT r_MOST_WEIGHT
  have C15 : Cal l.prog w K mg base 2 "is_stage_row" ["row"] (spSRowX c K) f15 _ := ⟨G15, b15, k15, m15⟩
  have G16 : FnOk l.prog w K mg base CX0 3 f16 _ ["rows"] (spSRowsX c K) := ok_is_stage_rows (n := 2) F16 (c := c) (C15.up (by decide)) z_all z_len z_isinstance z_list g_MOST_STAGE_ROWS r_MOST_STAGE_ROWS
  have C16 : Cal l.prog w K mg base 3 "is_stage_rows" ["rows"] (spSRowsX c K) f16 _ := ⟨G16, b16, k16, m16⟩
  have G17 : FnOk l.prog w K mg base (CXr l.prog w) 2 f17 _ ["boxes"] (spNB c K C_NoBox) := ok_need_boxes (n := 1) F17 (c := c) g_NoBox xcl (C14.up (by decide)) z_all z_len z_isinstance z_list g_MOST_BOXES r_MOST_BOXES
  have C17 : CalX l.prog w K mg base 2 "need_boxes" ["boxes"] (spNB c K C_NoBox) f17 _ := ⟨G17, b17, k17, m17⟩
  have G18 : FnOk l.prog w K mg base CX0 1 f18 _ ["_law_script", "_law_k"] (spCA1 K) := ok__law_cell_at (n := 0) F18 z_len
  have C18 : Cal l.prog w K mg base 1 "_law_cell_at" ["_law_script", "_law_k"] (spCA1 K) f18 _ := ⟨G18, b18, k18, m18⟩
  have G19 : FnOk l.prog w K mg base CX0 1 f19 _ ["_law_cell", "_law_k"] spMx1 := ok__law_mixed (n := 0) F19
  have C19 : Cal l.prog w K mg base 1 "_law_mixed" ["_law_cell", "_law_k"] spMx1 f19 _ := ⟨G19, b19, k19, m19⟩
  have G20 : FnOk l.prog w K mg base CX0 2 f20 _ ["_law_cell", "_law_low", "_law_high"] spThing := ok__law_thing (n := 1) F20 (C19.up (by decide))
  have C20 : Cal l.prog w K mg base 2 "_law_thing" ["_law_cell", "_law_low", "_law_high"] spThing f20 _ := ⟨G20, b20, k20, m20⟩
  have G21 : FnOk l.prog w K mg base CX0 1 f21 _ ["_law_thing_here", "_law_low", "_law_high"] spIsWx := ok__law_is_number (n := 0) F21 z_isinstance z_bool z_int
  have C21 : Cal l.prog w K mg base 1 "_law_is_number" ["_law_thing_here", "_law_low", "_law_high"] spIsWx f21 _ := ⟨G21, b21, k21, m21⟩
  have G29 : FnOk l.prog w K mg base CX0 1 f29 _ ["self", "end_count", "stage_count", "level", "cap_rows"] (spStI c) := ok_Stand___init__ (n := 0) F29 ck z_tuple
  have G33 : FnOk l.prog w K mg base (CXr l.prog w) 2 f33 _ ["self", "worth"] (spEIX c C_NoBox) := ok_End___init__ (n := 1) F33 ck g_Stand mS_i (G29.mono (by decide)) b29 g_NoBox xcl (C5.up (by decide)) (C1.up (by decide))  g_MOST_WORTH r_MOST_WORTH
  have G30 : FnOk l.prog w K mg base CX0 1 f30 _ ["self"] (spEnds c) := ok_Stand_ends (n := 0) F30 ck
  have G31 : FnOk l.prog w K mg base CX0 1 f31 _ ["self"] (spStgs c) := ok_Stand_stages (n := 0) F31 ck
  have G32 : FnOk l.prog w K mg base CX0 1 f32 _ ["self"] (spCaps c) := ok_Stand_caps (n := 0) F32 ck z_list
  have G34 : FnOk l.prog w K mg base (CXr l.prog w) 4 f34 _ ["self", "price", "rows"] (spSIX c K C_NoBox Pt lamP) := ok_Stage___init__ (n := 3) F34 ck g_Stand mS_i (G29.mono (by decide)) b29 ck.ce ck.cs mE_ends mS_ends (G30.mono (by decide)) b30 mE_stages mS_stages (G31.mono (by decide)) b31 mE_caps mS_caps (G32.mono (by decide)) b32 g_NoBox xcl (C11.up (by decide)) (C13.up (by decide)) (C12.up (by decide)) (C16.up (by decide)) (C1.up (by decide)) z_tuple z_max z_sum g_MOST_STAGES r_MOST_STAGES g_MOST_ENDS r_MOST_ENDS g_MOST_PRICE r_MOST_PRICE
  have G22 : FnOk l.prog w K mg base CX0 6 f22 _ ["_law_what", "_law_one_here", "_law_other"] (spRefd c K C_NoBox Pt lamP) := ok__law_refused (n := 5) F22 ME G33 b33 g_End (by decide) MS G34 b34 g_Stage (by decide) (C17.up (by decide))  g_NoBox exX
  have C22 : Cal l.prog w K mg base 6 "_law_refused" ["_law_what", "_law_one_here", "_law_other"] (spRefd c K C_NoBox Pt lamP) f22 _ := ⟨G22, b22, k22, m22⟩
  have G23 : FnOk l.prog w K mg base CX0 7 f23 _ ["_law_what", "_law_one_here", "_law_other", "_law_good"] (spIs15 c K Pt lamP) := ok__law_is (n := 6) F23 (c := c) g_LidError g_NoTable xty k1X k2X k3X (C22.up (by decide)) z_isinstance z_ValueError
  have C23 : Cal l.prog w K mg base 7 "_law_is" ["_law_what", "_law_one_here", "_law_other", "_law_good"] (spIs15 c K Pt lamP) f23 _ := ⟨G23, b23, k23, m23⟩
  have G24 : FnOk l.prog w K mg base CX0 6 f24 _ ["_law_many"] (spChain c Pt lamP) := ok__law_chain (n := 5) F24 ME G33 b33 g_End (by decide) MS G34 b34 g_Stage (by decide) z_range
  have C24 : Cal l.prog w K mg base 6 "_law_chain" ["_law_many"] (spChain c Pt lamP) f24 _ := ⟨G24, b24, k24, m24⟩
  have G25_0 : FnOk l.prog w K mg base CX0 5 f25 _ ["_law_many"] (spWd c Pt lamP 0) := no_fnF F25 (fun _ _ _ _ z => z) 5
  have G25_1 : FnOk l.prog w K mg base CX0 6 f25 _ ["_law_many"] (spWd c Pt lamP 1) := ok__law_wide (n := 5) F25 ME G33 b33 g_End (by decide) MS G34 b34 g_Stage (by decide) ⟨G25_0, b25, k25, m25⟩ z_range
  have G25_2 : FnOk l.prog w K mg base CX0 7 f25 _ ["_law_many"] (spWd c Pt lamP 2) := ok__law_wide (n := 6) F25 ME G33 b33 g_End (by decide) MS G34 b34 g_Stage (by decide) ⟨G25_1, b25, k25, m25⟩ z_range
  have G25 : FnOk l.prog w K mg base CX0 8 f25 _ ["_law_many"] (spWd c Pt lamP 3) := ok__law_wide (n := 7) F25 ME G33 b33 g_End (by decide) MS G34 b34 g_Stage (by decide) ⟨G25_2, b25, k25, m25⟩ z_range
  have C25 : Cal l.prog w K mg base 8 "_law_wide" ["_law_many"] (spW2 c Pt lamP) f25 _ := ⟨FnOk.or (G25_2.mono (by decide)) G25, b25, k25, m25⟩
  have G26 : FnOk l.prog w K mg base CX0 4 f26 _ ["_law_cell"] (spRows15 c K) := ok__law_rows (n := 3) F26 ck ct cn ME G33 b33 g_End (by decide) (C19.up (by decide))
  have C26 : Cal l.prog w K mg base 4 "_law_rows" ["_law_cell"] (spRows15 c K) f26 _ := ⟨G26, b26, k26, m26⟩
  have G27 : FnOk l.prog w K mg base CX0 9 f27 _ ["_law_cell"] (spOne15 Pt lamP) := ok__law_one (n := 8) F27 ME G33 b33 g_End (by decide) (C23.up (by decide)) (C19.up (by decide)) (C24.up (by decide)) (C25.up (by decide)) (C26.up (by decide)) (C21.up (by decide)) (C20.up (by decide)) z_tuple z_len z_range
  have C27 : Cal l.prog w K mg base 9 "_law_one" ["_law_cell"] (spOne15 Pt lamP) f27 _ := ⟨G27, b27, k27, m27⟩
  exact ok_law (n := 9) F28 ME G33 b33 g_End (by decide) (C17.up (by decide)) (C27.up (by decide)) (C18.up (by decide)) z_range z_max z_min z_len
theorem walk {l : W.OpenLaw} {q : Program} {loose : List Str} {XP : (Str → Option Value) → Heap → Prop} {YP : World → Heap → Prop} {d d0 : DefRec} {K : Params → W.Frag} (hn : l.most = some 63) (hdf : d.params.defaults = [])
    (h0 : (recsOf q).find? (fun e => e.name == ("rising" : Str)) = some d0)
    (hY : ∀ (w : World) (h : Heap), YP w h → (K w.params).In h)
    (F : ∀ (w : World) (mg : Str → Option Value) (fa : Addr) (h : Heap), (K w.params).In h → h.Ns mainGlobals mg → mg d.name = some (.ref fa) →
      ∃ (fd : FuncData) (c P : Addr), (∀ (s : Shared) (u : Value), BindsTo s fd ⟨[u], []⟩ [("_law_script", u)]) ∧ W.tabIn (K w.params) "rising" = some (c, P) ∧ W.codeHdIn (K w.params) c P = true ∧ (K w.params).lookup P = none ∧ ∀ base : Heap, (K w.params).In base → base.Ns mainGlobals mg → W.CodeHd base c P → base.BuiltinsAt mg P → FnOk l.prog w (K w.params) mg base CX0 10 fa fd ["_law_script"] (spLaw12 (K w.params) P lamP)) :
    W.WalkO q loose XP YP l.row.toRowW d [] (fun f vs => PySem.call f vs) :=
  L2.walk_ofT (n := 63) (k := 10) (x := "_law_script") (x0 := "rising") (CX := fun _ => CX0) (sp := fun w P => spLaw12 (K w.params) P lamP) hn (by decide) hdf ⟨rfl, by decide, by decide⟩ h0 hY F (fun _ _ a P ns hl hP hS => ⟨a, ns, rfl, hS, hl, hP, fun _ => rfl⟩) fun _ _ _ _ _ z => z
noncomputable section
abbrev OO := Params → Obj
def E (P : Params) (x : Str) (t : Tok) (v : Value) : DictEntry := ⟨PyData.keyHash P x, .str x t, v⟩
abbrev fnO (n q : Str) (st : Stmt) (dV kV doc pm : Value) (an : Option Addr) (cdv ct : Value) : FuncData := W.fnOf n q (defArgs st) (defBody st) (defScope st) dV kV doc pm an cdv ct
def fnT (n q : Str) (st : Stmt) : FuncData := { name := n, qualname := q, params := defArgs st, body := .stmts (defBody st), scope := defScope st, globals := 0, closure := [], defaults := .none, kwdefaults := .none }
def s0  : Obj := ⟨(.type "tuple"), none, (.seq #[] 0), #[]⟩
def s1  : Obj := ⟨.none, none, (.fields #[]), #[]⟩
def s2 (x0 : Str) (x1 : Nat) (x3 : Nat) (x5 : Nat) (x6 : Int) (x16 : Nat) (x19 : Nat) (x20 : Int) (x25 : Nat) : Obj := ⟨(.type "code"), none, (.fields #[(.str x0 x1), (.str x0 x3), (.str "/claim/cut.py" x5), (.int x6 0), (.int 0 0), (.int 0 0), (.int 0 0), (.int 0 0), (.ref x16), (.bool false), (.int 181 0), (.ref x19), .none, .none, .none, .none, (.int x20 0), (.int x6 0), (.str "/claim/cut.py" x25)]), #[]⟩
def s3 (x0 : Nat) (x2 : Nat) (x3 : Str) (x4 : Nat) : Obj := ⟨(.type "frame"), none, .plain, #[(some (.ref x0)), (some (.ref 3)), (some (.ref x2)), none, (some (.str x3 x4)), none, (some (.ref 0))]⟩
def s4 (x0 : Str) (x1 : Nat) : Obj := ⟨(.type "tuple"), none, (.seq #[(.str x0 x1)] 0), #[]⟩
def s5 (x0 : Str) (x1 : Str) (x2 : Stmt) : Obj := ⟨.none, none, (.func (fnT x0 x1 x2)), #[]⟩
def s6 (x0 : Str) (x1 : Nat) (x2 : Str) (x3 : Nat) (x5 : Nat) (x6 : Int) (x8 : Int) (x16 : Nat) (x19 : Nat) (x20 : Nat) (x21 : Nat) (x22 : Nat) (x23 : Int) (x28 : Nat) : Obj := ⟨(.type "code"), none, (.fields #[(.str x0 x1), (.str x2 x3), (.str "/claim/cut.py" x5), (.int x6 0), (.int x8 0), (.int 0 0), (.int 0 0), (.int 3 0), (.ref x16), (.bool true), (.int 181 0), (.ref x19), .none, (.ref x20), (.ref x21), (.ref x22), (.int x23 0), (.int x6 0), (.str "/claim/cut.py" x28)]), #[]⟩
def s7 (x0 : Str) (x1 : Str) (x2 : Stmt) (x3 : Str) (x4 : Nat) (x5 : Nat) : Obj := ⟨(.type "function"), none, (.func (fnO x0 x1 x2 .none .none .none (.str x3 x4) none (.ref x5) .none)), #[]⟩
def s8  : Obj := ⟨(.type "builtin_function_or_method"), none, (.fields #[(.builtin "type.__prepare__"), (.type "type")]), #[]⟩
def s9 (x0 : Nat) : Obj := ⟨(.type "super"), none, (.fields #[(.ref x0), (.ref x0), (.ref x0)]), #[]⟩
def s10 (x0 : Nat) : Obj := ⟨(.type "builtin_function_or_method"), none, (.fields #[(.builtin "object.__init_subclass__"), (.ref x0)]), #[]⟩
def s11 (x0 : Nat) : Obj := ⟨(.type "tuple"), none, (.seq #[(.ref x0)] 0), #[]⟩
def s12 (x0 : Str) (x1 : Nat) (x2 : Str) (x3 : Nat) (x4 : Str) (x5 : Nat) : Obj := ⟨(.type "tuple"), none, (.seq #[(.str x0 x1), (.str x2 x3), (.str x4 x5)] 0), #[]⟩
def s13 (x0 : Str) (x1 : Nat) (x2 : Str) (x3 : Nat) : Obj := ⟨(.type "tuple"), none, (.seq #[(.str x0 x1), (.str x2 x3)] 0), #[]⟩
def s14 (x0 : Str) (x1 : Nat) (x2 : Str) (x3 : Nat) (x5 : Nat) (x6 : Int) (x8 : Int) (x16 : Nat) (x19 : Nat) (x20 : Nat) (x21 : Int) (x26 : Nat) : Obj := ⟨(.type "code"), none, (.fields #[(.str x0 x1), (.str x2 x3), (.str "/claim/cut.py" x5), (.int x6 0), (.int x8 0), (.int 0 0), (.int 0 0), (.int 3 0), (.ref x16), (.bool true), (.int 181 0), (.ref x19), .none, .none, .none, (.ref x20), (.int x21 0), (.int x6 0), (.str "/claim/cut.py" x26)]), #[]⟩
def s15 (x0 : Str) (x1 : Nat) (x2 : Str) (x3 : Nat) (x4 : Str) (x5 : Nat) (x6 : Str) (x7 : Nat) (x8 : Str) (x9 : Nat) : Obj := ⟨(.type "tuple"), none, (.seq #[(.str x0 x1), (.str x2 x3), (.str x4 x5), (.str x6 x7), (.str x8 x9)] 0), #[]⟩
def o13 : OO := fun _ => s2 "<module>" 182 183 184 1 11 12 185 186
def o14 : OO := fun _ => s3 13 3 "__main__" 164
def o3 : OO := fun P => ⟨(.type "dict"), none, (.dict #[E P "__name__" 165 (.str "lidprice.stands" 349), E P "__doc__" 166 .none, E P "__package__" 167 .none, E P "__loader__" 168 (.builtin "__main__.__loader__#opaque"), E P "__spec__" 169 .none, E P "__annotations__" 170 (.ref 6), E P "__builtins__" 171 (.ref 4), E P "__file__" 173 (.str "/claim/cut.py" 172), E P "__cached__" 174 .none, E P "_wall" 193 (.ref 21), E P "LidError" 213 (.ref 31), E P "NoTable" 229 (.ref 44), E P "NoBox" 245 (.ref 56), E P "is_whole" 256 (.ref 65), E P "common_divisor" 265 (.ref 72), E P "common_multiple" 274 (.ref 79), E P "share" 283 (.ref 86), E P "whole" 290 (.ref 93), E P "below" 298 (.ref 100), E P "lesser" 306 (.ref 107), E P "MOST_WORTH" 310 (.int 1000000000 309), E P "MOST_WEIGHT" 312 (.int 1000 311), E P "rising" 318 (.ref 112), E P "in_form" 324 (.ref 117), E P "all_weights" 330 (.ref 122), E P "capped" 336 (.ref 127), E P "mixed" 342 (.ref 132), E P "level_for" 348 (.ref 137), E P "MOST_PRICE" 352 (.int 1000000000 351), E P "MOST_STAGE_ROWS" 354 (.int 4 353), E P "MOST_STAGES" 356 (.int 4 355), E P "MOST_ENDS" 358 (.int 12 357), E P "MOST_BOXES" 360 (.int 6 359), E P "Stand" 423 (.ref 182)] 34), #[]⟩
def o12_1 : OO := fun _ => ⟨.none, none, (.fields #[(.int 1 0), (.int 0 0), (.ref 20), (.int 5 0), (.int 0 0), (.ref 27), (.int 7 0), (.int 0 0), (.ref 40), (.int 9 0), (.int 0 0), (.ref 52), (.int 12 0), (.int 0 0), (.ref 64), (.int 14 0), (.int 0 0), (.ref 71), (.int 20 0), (.int 0 0), (.ref 78), (.int 25 0), (.int 0 0), (.ref 85), (.int 30 0), (.int 0 0), (.ref 92), (.int 32 0), (.int 0 0), (.ref 99), (.int 34 0), (.int 0 0), (.ref 106), (.int 39 0), (.int 0 0), (.ref 111), (.int 43 0), (.int 0 0), (.ref 116), (.int 51 0), (.int 0 0), (.ref 121), (.int 53 0), (.int 0 0), (.ref 126), (.int 55 0), (.int 0 0), (.ref 131), (.int 62 0), (.int 0 0), (.ref 136), (.int 79 0), (.int 0 0), (.ref 143)]), #[]⟩
def o17 : OO := fun _ => s4 "k" 190
def o19 : OO := fun _ => s5 "_wall" "_wall" (top 0)
def o20 : OO := fun _ => s6 "_wall" 187 "_wall" 188 189 1 1 15 16 17 18 19 191 192
def o21 : OO := fun _ => s7 "_wall" "_wall" (top 0) "__main__" 164 20
def o22 : OO := fun _ => ⟨(.type "tuple"), none, (.seq #[(.type "ValueError")] 0), #[]⟩
def o24 : OO := fun P => ⟨(.type "dict"), none, (.dict #[E P "__module__" 203 (.str "lidprice.errors" 194), E P "__qualname__" 205 (.str "LidError" 204), E P "__firstlineno__" 207 (.int 5 206), E P "__static_attributes__" 208 (.ref 29)] 4), #[]⟩
def o27 : OO := fun _ => s2 "LidError" 198 199 200 5 25 26 201 202
def o28 : OO := fun _ => s3 27 24 "lidprice.errors" 194
def o30 : OO := fun P => ⟨(.type "dict"), none, (.dict #[E P "__module__" 203 (.str "lidprice.errors" 194), E P "__firstlineno__" 207 (.int 5 206), E P "__static_attributes__" 208 (.ref 29), E P "__weakref__" 210 (.ref 32), E P "__doc__" 211 .none] 3), #[]⟩
def o31 : OO := fun _ => ⟨(.type "type"), none, (.cls ⟨"LidError", [(.type "ValueError")], [(.ref 31), (.type "ValueError"), (.type "Exception"), (.type "BaseException"), (.type "object")], 30, "LidError", true, [], [(.ref 44), (.ref 56)], false, none, false⟩), #[(some (.ref 22)), none, (some (.str "LidError" 196)), (some (.str "LidError" 204)), (some (.builtin "ValueError.__new__")), (some (.bool true))]⟩
def o32 : OO := fun _ => ⟨(.type "getset_descriptor"), none, (.fields #[(.str "__weakref__" 209), (.ref 31), (.builtin "ExceptionGroup.__weakref__"), .none]), #[]⟩
def o33 : OO := fun _ => s9 31
def o34 : OO := fun _ => s10 31
def o35 : OO := fun _ => s11 31
def o37 : OO := fun P => ⟨(.type "dict"), none, (.dict #[E P "__module__" 221 (.str "lidprice.errors" 194), E P "__qualname__" 223 (.str "NoTable" 222), E P "__firstlineno__" 225 (.int 7 224), E P "__static_attributes__" 226 (.ref 42)] 4), #[]⟩
def o40 : OO := fun _ => s2 "NoTable" 216 217 218 7 38 39 219 220
def o41 : OO := fun _ => s3 40 37 "lidprice.errors" 194
def o43 : OO := fun P => ⟨(.type "dict"), none, (.dict #[E P "__module__" 221 (.str "lidprice.errors" 194), E P "__firstlineno__" 225 (.int 7 224), E P "__static_attributes__" 226 (.ref 42), E P "__doc__" 227 .none] 2), #[]⟩
def o44 : OO := fun _ => ⟨(.type "type"), none, (.cls ⟨"NoTable", [(.ref 31)], [(.ref 44), (.ref 31), (.type "ValueError"), (.type "Exception"), (.type "BaseException"), (.type "object")], 43, "NoTable", true, [], [], false, none, false⟩), #[(some (.ref 35)), none, (some (.str "NoTable" 214)), (some (.str "NoTable" 222)), (some (.builtin "ValueError.__new__")), (some (.bool true))]⟩
def o45 : OO := fun _ => s9 44
def o46 : OO := fun _ => s10 44
def o47 : OO := fun _ => s11 31
def o49 : OO := fun P => ⟨(.type "dict"), none, (.dict #[E P "__module__" 237 (.str "lidprice.errors" 194), E P "__qualname__" 239 (.str "NoBox" 238), E P "__firstlineno__" 241 (.int 9 240), E P "__static_attributes__" 242 (.ref 54)] 4), #[]⟩
def o52 : OO := fun _ => s2 "NoBox" 232 233 234 9 50 51 235 236
def o53 : OO := fun _ => s3 52 49 "lidprice.errors" 194
def o55 : OO := fun P => ⟨(.type "dict"), none, (.dict #[E P "__module__" 237 (.str "lidprice.errors" 194), E P "__firstlineno__" 241 (.int 9 240), E P "__static_attributes__" 242 (.ref 54), E P "__doc__" 243 .none] 2), #[]⟩
def o56 : OO := fun _ => ⟨(.type "type"), none, (.cls ⟨"NoBox", [(.ref 31)], [(.ref 56), (.ref 31), (.type "ValueError"), (.type "Exception"), (.type "BaseException"), (.type "object")], 55, "NoBox", true, [], [], false, none, false⟩), #[(some (.ref 47)), none, (some (.str "NoBox" 230)), (some (.str "NoBox" 238)), (some (.builtin "ValueError.__new__")), (some (.bool true))]⟩
def o57 : OO := fun _ => s9 56
def o58 : OO := fun _ => s10 56
def o61 : OO := fun _ => s12 "thing" 251 "least" 252 "most" 253
def o63 : OO := fun _ => s5 "is_whole" "is_whole" (top 6)
def o64 : OO := fun _ => s6 "is_whole" 248 "is_whole" 249 250 12 3 59 60 61 62 63 254 255
def o65 : OO := fun _ => s7 "is_whole" "is_whole" (top 6) "lidprice.shares" 246 64
def o68 : OO := fun _ => s12 "one" 260 "other" 261 "rest" 262
def o70 : OO := fun _ => s5 "common_divisor" "common_divisor" (top 7)
def o71 : OO := fun _ => s6 "common_divisor" 257 "common_divisor" 258 259 14 2 66 67 68 69 70 263 264
def o72 : OO := fun _ => s7 "common_divisor" "common_divisor" (top 7) "lidprice.shares" 246 71
def o75 : OO := fun _ => s12 "numbers" 269 "multiple" 270 "number" 271
def o77 : OO := fun _ => s5 "common_multiple" "common_multiple" (top 8)
def o78 : OO := fun _ => s6 "common_multiple" 266 "common_multiple" 267 268 20 1 73 74 75 76 77 272 273
def o79 : OO := fun _ => s7 "common_multiple" "common_multiple" (top 8) "lidprice.shares" 246 78
def o82 : OO := fun _ => s12 "top" 278 "bottom" 279 "divisor" 280
def o84 : OO := fun _ => s5 "share" "share" (top 9)
def o85 : OO := fun _ => s6 "share" 275 "share" 276 277 25 2 80 81 82 83 84 281 282
def o86 : OO := fun _ => s7 "share" "share" (top 9) "lidprice.shares" 246 85
def o89 : OO := fun _ => s4 "number" 287
def o91 : OO := fun _ => s5 "whole" "whole" (top 10)
def o92 : OO := fun _ => s6 "whole" 284 "whole" 285 286 30 1 87 88 89 90 91 288 289
def o93 : OO := fun _ => s7 "whole" "whole" (top 10) "lidprice.shares" 246 92
def o96 : OO := fun _ => s13 "one" 294 "other" 295
def o98 : OO := fun _ => s5 "below" "below" (top 11)
def o99 : OO := fun _ => s6 "below" 291 "below" 292 293 32 2 94 95 96 97 98 296 297
def o100 : OO := fun _ => s7 "below" "below" (top 11) "lidprice.shares" 246 99
def o103 : OO := fun _ => s13 "one" 302 "other" 303
def o105 : OO := fun _ => s5 "lesser" "lesser" (top 12)
def o106 : OO := fun _ => s6 "lesser" 299 "lesser" 300 301 34 2 101 102 103 104 105 304 305
def o107 : OO := fun _ => s7 "lesser" "lesser" (top 12) "lidprice.shares" 246 106
def o110 : OO := fun _ => s5 "rising" "rising" (top 16)
def o111 : OO := fun _ => s14 "rising" 313 "rising" 314 315 39 1 108 109 110 316 317
def o112 : OO := fun _ => s7 "rising" "rising" (top 16) "lidprice.tables" 307 111
def o115 : OO := fun _ => s5 "in_form" "in_form" (top 17)
def o116 : OO := fun _ => s14 "in_form" 319 "in_form" 320 321 43 1 113 114 115 322 323
def o117 : OO := fun _ => s7 "in_form" "in_form" (top 17) "lidprice.tables" 307 116
def o120 : OO := fun _ => s5 "all_weights" "all_weights" (top 18)
def o121 : OO := fun _ => s14 "all_weights" 325 "all_weights" 326 327 51 1 118 119 120 328 329
def o122 : OO := fun _ => s7 "all_weights" "all_weights" (top 18) "lidprice.tables" 307 121
def o125 : OO := fun _ => s5 "capped" "capped" (top 19)
def o126 : OO := fun _ => s14 "capped" 331 "capped" 332 333 53 2 123 124 125 334 335
def o127 : OO := fun _ => s7 "capped" "capped" (top 19) "lidprice.tables" 307 126
def o130 : OO := fun _ => s5 "mixed" "mixed" (top 20)
def o131 : OO := fun _ => s14 "mixed" 337 "mixed" 338 339 55 1 128 129 130 340 341
def o132 : OO := fun _ => s7 "mixed" "mixed" (top 20) "lidprice.tables" 307 131
def o135 : OO := fun _ => s5 "level_for" "level_for" (top 21)
def o136 : OO := fun _ => s14 "level_for" 343 "level_for" 344 345 62 2 133 134 135 346 347
def o137 : OO := fun _ => s7 "level_for" "level_for" (top 21) "lidprice.tables" 307 136
def o140 : OO := fun P => ⟨(.type "dict"), none, (.dict #[E P "__module__" 368 (.str "lidprice.stands" 349), E P "__qualname__" 370 (.str "Stand" 369), E P "__firstlineno__" 372 (.int 79 371), E P "__init__" 383 (.ref 151), E P "ends" 390 (.ref 158), E P "stages" 397 (.ref 165), E P "reserve" 404 (.ref 172), E P "caps" 411 (.ref 179), E P "__static_attributes__" 416 (.ref 180)] 9), #[]⟩
def o142 : OO := fun _ => ⟨.none, none, (.fields #[(.int 81 0), (.int 4 0), (.ref 150), (.int 87 0), (.int 4 0), (.ref 157), (.int 90 0), (.int 4 0), (.ref 164), (.int 93 0), (.int 4 0), (.ref 171), (.int 96 0), (.int 4 0), (.ref 178)]), #[]⟩
def o143 : OO := fun _ => s2 "Stand" 363 364 365 79 141 142 366 367
def o144 : OO := fun _ => s3 143 140 "lidprice.stands" 349
def o147 : OO := fun _ => s15 "self" 376 "end_count" 377 "stage_count" 378 "level" 379 "cap_rows" 380
def o149 : OO := fun _ => s5 "__init__" "Stand.__init__" (inClass (top 28) 0)
def o150 : OO := fun _ => s6 "__init__" 373 "Stand.__init__" 374 375 81 5 145 146 147 148 149 381 382
def o151 : OO := fun _ => s7 "__init__" "Stand.__init__" (inClass (top 28) 0) "lidprice.stands" 349 150
def o154 : OO := fun _ => s4 "self" 387
def o156 : OO := fun _ => s5 "ends" "Stand.ends" (inClass (top 28) 1)
def o157 : OO := fun _ => s6 "ends" 384 "Stand.ends" 385 386 87 1 152 153 154 155 156 388 389
def o158 : OO := fun _ => s7 "ends" "Stand.ends" (inClass (top 28) 1) "lidprice.stands" 349 157
def o161 : OO := fun _ => s4 "self" 394
def o163 : OO := fun _ => s5 "stages" "Stand.stages" (inClass (top 28) 2)
def o164 : OO := fun _ => s6 "stages" 391 "Stand.stages" 392 393 90 1 159 160 161 162 163 395 396
def o165 : OO := fun _ => s7 "stages" "Stand.stages" (inClass (top 28) 2) "lidprice.stands" 349 164
def o168 : OO := fun _ => s4 "self" 401
def o170 : OO := fun _ => s5 "reserve" "Stand.reserve" (inClass (top 28) 3)
def o171 : OO := fun _ => s6 "reserve" 398 "Stand.reserve" 399 400 93 1 166 167 168 169 170 402 403
def o172 : OO := fun _ => s7 "reserve" "Stand.reserve" (inClass (top 28) 3) "lidprice.stands" 349 171
def o175 : OO := fun _ => s4 "self" 408
def o177 : OO := fun _ => s5 "caps" "Stand.caps" (inClass (top 28) 4)
def o178 : OO := fun _ => s6 "caps" 405 "Stand.caps" 406 407 96 1 173 174 175 176 177 409 410
def o179 : OO := fun _ => s7 "caps" "Stand.caps" (inClass (top 28) 4) "lidprice.stands" 349 178
def o180 : OO := fun _ => ⟨(.type "tuple"), none, (.seq #[(.str "cap_rows" 412), (.str "end_count" 413), (.str "level" 414), (.str "stage_count" 415)] 0), #[]⟩
def o181 : OO := fun P => ⟨(.type "dict"), none, (.dict #[E P "__module__" 368 (.str "lidprice.stands" 349), E P "__firstlineno__" 372 (.int 79 371), E P "__init__" 383 (.ref 151), E P "ends" 390 (.ref 158), E P "stages" 397 (.ref 165), E P "reserve" 404 (.ref 172), E P "caps" 411 (.ref 179), E P "__static_attributes__" 416 (.ref 180), E P "__dict__" 418 (.ref 183), E P "__weakref__" 420 (.ref 184), E P "__doc__" 421 .none] 4), #[]⟩
def o182 : OO := fun _ => ⟨(.type "type"), none, (.cls ⟨"Stand", [(.type "object")], [(.ref 182), (.type "object")], 181, "Stand", true, [], [], false, none, false⟩), #[none, none, (some (.str "Stand" 361)), (some (.str "Stand" 369)), (some (.builtin "object.__new__")), (some (.bool true))]⟩
def o183 : OO := fun _ => ⟨(.type "getset_descriptor"), none, (.fields #[(.str "__dict__" 417), (.ref 182), (.builtin "function.__dict__"), (.builtin "function.__dict__#set")]), #[]⟩
def o184 : OO := fun _ => ⟨(.type "getset_descriptor"), none, (.fields #[(.str "__weakref__" 419), (.ref 182), (.builtin "ExceptionGroup.__weakref__"), .none]), #[]⟩
def o185 : OO := fun _ => s9 182
def o186 : OO := fun _ => s10 182
def o3_1 : OO := fun P => ⟨(.type "dict"), none, (.dict #[E P "__name__" 165 (.str "law_lidprice_k15_what_makes_no_box" 573), E P "__doc__" 166 .none, E P "__package__" 167 .none, E P "__loader__" 168 (.builtin "__main__.__loader__#opaque"), E P "__spec__" 169 .none, E P "__annotations__" 170 (.ref 6), E P "__builtins__" 171 (.ref 4), E P "__file__" 173 (.str "/claim/cut.py" 172), E P "__cached__" 174 .none, E P "_wall" 193 (.ref 21), E P "LidError" 213 (.ref 31), E P "NoTable" 229 (.ref 44), E P "NoBox" 245 (.ref 56), E P "is_whole" 256 (.ref 65), E P "common_divisor" 265 (.ref 72), E P "common_multiple" 274 (.ref 79), E P "share" 283 (.ref 86), E P "whole" 290 (.ref 93), E P "below" 298 (.ref 100), E P "lesser" 306 (.ref 107), E P "MOST_WORTH" 310 (.int 1000000000 309), E P "MOST_WEIGHT" 312 (.int 1000 311), E P "rising" 318 (.ref 112), E P "in_form" 324 (.ref 117), E P "all_weights" 330 (.ref 122), E P "capped" 336 (.ref 127), E P "mixed" 342 (.ref 132), E P "level_for" 348 (.ref 137), E P "MOST_PRICE" 352 (.int 1000000000 351), E P "MOST_STAGE_ROWS" 354 (.int 4 353), E P "MOST_STAGES" 356 (.int 4 355), E P "MOST_ENDS" 358 (.int 12 357), E P "MOST_BOXES" 360 (.int 6 359), E P "Stand" 423 (.ref 182), E P "End" 477 (.ref 231), E P "Stage" 546 (.ref 290), E P "is_stand" 553 (.ref 299), E P "is_stage_row" 560 (.ref 306), E P "is_stage_rows" 566 (.ref 311), E P "need_boxes" 572 (.ref 316), E P "_law_cell_at" 582 (.ref 323), E P "_law_mixed" 591 (.ref 330), E P "_law_plain" 599 (.ref 337), E P "_law_same" 607 (.ref 344), E P "_law_thing" 618 (.ref 351), E P "_law_is_number" 627 (.ref 358), E P "_law_refused" 638 (.ref 365), E P "_law_is" 649 (.ref 372), E P "_law_chain" 658 (.ref 379)] 49), #[]⟩
def o12_2 : OO := fun _ => ⟨.none, none, (.fields #[(.int 1 0), (.int 0 0), (.ref 20), (.int 5 0), (.int 0 0), (.ref 27), (.int 7 0), (.int 0 0), (.ref 40), (.int 9 0), (.int 0 0), (.ref 52), (.int 12 0), (.int 0 0), (.ref 64), (.int 14 0), (.int 0 0), (.ref 71), (.int 20 0), (.int 0 0), (.ref 78), (.int 25 0), (.int 0 0), (.ref 85), (.int 30 0), (.int 0 0), (.ref 92), (.int 32 0), (.int 0 0), (.ref 99), (.int 34 0), (.int 0 0), (.ref 106), (.int 39 0), (.int 0 0), (.ref 111), (.int 43 0), (.int 0 0), (.ref 116), (.int 51 0), (.int 0 0), (.ref 121), (.int 53 0), (.int 0 0), (.ref 126), (.int 55 0), (.int 0 0), (.ref 131), (.int 62 0), (.int 0 0), (.ref 136), (.int 79 0), (.int 0 0), (.ref 143), (.int 98 0), (.int 0 0), (.ref 192), (.int 117 0), (.int 0 0), (.ref 239), (.int 149 0), (.int 0 0), (.ref 298), (.int 151 0), (.int 0 0), (.ref 305), (.int 155 0), (.int 0 0), (.ref 310), (.int 159 0), (.int 0 0), (.ref 315), (.int 165 0), (.int 0 0), (.ref 322), (.int 169 0), (.int 0 0), (.ref 329), (.int 173 0), (.int 0 0), (.ref 336), (.int 182 0), (.int 0 0), (.ref 343), (.int 184 0), (.int 0 0), (.ref 350), (.int 189 0), (.int 0 0), (.ref 357), (.int 191 0), (.int 0 0), (.ref 364), (.int 203 0), (.int 0 0), (.ref 371), (.int 208 0), (.int 0 0), (.ref 378)]), #[]⟩
def o182_1 : OO := fun _ => ⟨(.type "type"), none, (.cls ⟨"Stand", [(.type "object")], [(.ref 182), (.type "object")], 181, "Stand", true, [], [(.ref 231), (.ref 290)], false, none, false⟩), #[none, none, (some (.str "Stand" 361)), (some (.str "Stand" 369)), (some (.builtin "object.__new__")), (some (.bool true))]⟩
def o187 : OO := fun _ => s11 182
def o189 : OO := fun P => ⟨(.type "dict"), none, (.dict #[E P "__module__" 431 (.str "lidprice.stands" 349), E P "__qualname__" 433 (.str "End" 432), E P "__firstlineno__" 435 (.int 98 434), E P "__init__" 443 (.ref 200), E P "is_end" 450 (.ref 207), E P "ways" 457 (.ref 214), E P "beside" 465 (.ref 221), E P "told" 472 (.ref 228), E P "__static_attributes__" 474 (.ref 229)] 9), #[]⟩
def o191 : OO := fun _ => ⟨.none, none, (.fields #[(.int 100 0), (.int 4 0), (.ref 199), (.int 106 0), (.int 4 0), (.ref 206), (.int 109 0), (.int 4 0), (.ref 213), (.int 112 0), (.int 4 0), (.ref 220), (.int 115 0), (.int 4 0), (.ref 227)]), #[]⟩
def o192 : OO := fun _ => s2 "End" 426 427 428 98 190 191 429 430
def o193 : OO := fun _ => s3 192 189 "lidprice.stands" 349
def o196 : OO := fun _ => s13 "self" 439 "worth" 440
def o198 : OO := fun _ => s5 "__init__" "End.__init__" (inClass (top 29) 0)
def o199 : OO := fun _ => s6 "__init__" 436 "End.__init__" 437 438 100 2 194 195 196 197 198 441 442
def o200 : OO := fun _ => s7 "__init__" "End.__init__" (inClass (top 29) 0) "lidprice.stands" 349 199
def o203 : OO := fun _ => s4 "self" 447
def o205 : OO := fun _ => s5 "is_end" "End.is_end" (inClass (top 29) 1)
def o206 : OO := fun _ => s6 "is_end" 444 "End.is_end" 445 446 106 1 201 202 203 204 205 448 449
def o207 : OO := fun _ => s7 "is_end" "End.is_end" (inClass (top 29) 1) "lidprice.stands" 349 206
def o210 : OO := fun _ => s4 "self" 454
def o212 : OO := fun _ => s5 "ways" "End.ways" (inClass (top 29) 2)
def o213 : OO := fun _ => s6 "ways" 451 "End.ways" 452 453 109 1 208 209 210 211 212 455 456
def o214 : OO := fun _ => s7 "ways" "End.ways" (inClass (top 29) 2) "lidprice.stands" 349 213
def o217 : OO := fun _ => s13 "self" 461 "level" 462
def o219 : OO := fun _ => s5 "beside" "End.beside" (inClass (top 29) 3)
def o220 : OO := fun _ => s6 "beside" 458 "End.beside" 459 460 112 2 215 216 217 218 219 463 464
def o221 : OO := fun _ => s7 "beside" "End.beside" (inClass (top 29) 3) "lidprice.stands" 349 220
def o224 : OO := fun _ => s4 "self" 469
def o226 : OO := fun _ => s5 "told" "End.told" (inClass (top 29) 4)
def o227 : OO := fun _ => s6 "told" 466 "End.told" 467 468 115 1 222 223 224 225 226 470 471
def o228 : OO := fun _ => s7 "told" "End.told" (inClass (top 29) 4) "lidprice.stands" 349 227
def o229 : OO := fun _ => s4 "worth" 473
def o230 : OO := fun P => ⟨(.type "dict"), none, (.dict #[E P "__module__" 431 (.str "lidprice.stands" 349), E P "__firstlineno__" 435 (.int 98 434), E P "__init__" 443 (.ref 200), E P "is_end" 450 (.ref 207), E P "ways" 457 (.ref 214), E P "beside" 465 (.ref 221), E P "told" 472 (.ref 228), E P "__static_attributes__" 474 (.ref 229), E P "__doc__" 475 .none] 2), #[]⟩
def o231 : OO := fun _ => ⟨(.type "type"), none, (.cls ⟨"End", [(.ref 182)], [(.ref 231), (.ref 182), (.type "object")], 230, "End", true, [], [], false, none, false⟩), #[(some (.ref 187)), none, (some (.str "End" 424)), (some (.str "End" 432)), (some (.builtin "object.__new__")), (some (.bool true))]⟩
def o232 : OO := fun _ => s9 231
def o233 : OO := fun _ => s10 231
def o234 : OO := fun _ => s11 182
def o236 : OO := fun P => ⟨(.type "dict"), none, (.dict #[E P "__module__" 485 (.str "lidprice.stands" 349), E P "__qualname__" 487 (.str "Stage" 486), E P "__firstlineno__" 489 (.int 117 488), E P "__init__" 495 (.ref 245), E P "is_end" 502 (.ref 252), E P "row_share" 510 (.ref 259), E P "after" 518 (.ref 266), E P "ways" 525 (.ref 273), E P "beside" 533 (.ref 280), E P "told" 540 (.ref 287), E P "__static_attributes__" 543 (.ref 288)] 11), #[]⟩
def o238 : OO := fun _ => ⟨.none, none, (.fields #[(.int 119 0), (.int 4 0), (.ref 244), (.int 132 0), (.int 4 0), (.ref 251), (.int 135 0), (.int 4 0), (.ref 258), (.int 138 0), (.int 4 0), (.ref 265), (.int 141 0), (.int 4 0), (.ref 272), (.int 144 0), (.int 4 0), (.ref 279), (.int 147 0), (.int 4 0), (.ref 286)]), #[]⟩
def o239 : OO := fun _ => s2 "Stage" 480 481 482 117 237 238 483 484
def o240 : OO := fun _ => s3 239 236 "lidprice.stands" 349
def o243 : OO := fun _ => s5 "__init__" "Stage.__init__" (inClass (top 30) 0)
def o244 : OO := fun _ => s14 "__init__" 490 "Stage.__init__" 491 492 119 3 241 242 243 493 494
def o245 : OO := fun _ => s7 "__init__" "Stage.__init__" (inClass (top 30) 0) "lidprice.stands" 349 244
def o248 : OO := fun _ => s4 "self" 499
def o250 : OO := fun _ => s5 "is_end" "Stage.is_end" (inClass (top 30) 1)
def o251 : OO := fun _ => s6 "is_end" 496 "Stage.is_end" 497 498 132 1 246 247 248 249 250 500 501
def o252 : OO := fun _ => s7 "is_end" "Stage.is_end" (inClass (top 30) 1) "lidprice.stands" 349 251
def o255 : OO := fun _ => s13 "self" 506 "row" 507
def o257 : OO := fun _ => s5 "row_share" "Stage.row_share" (inClass (top 30) 2)
def o258 : OO := fun _ => s6 "row_share" 503 "Stage.row_share" 504 505 135 2 253 254 255 256 257 508 509
def o259 : OO := fun _ => s7 "row_share" "Stage.row_share" (inClass (top 30) 2) "lidprice.stands" 349 258
def o262 : OO := fun _ => s13 "self" 514 "row" 515
def o264 : OO := fun _ => s5 "after" "Stage.after" (inClass (top 30) 3)
def o265 : OO := fun _ => s6 "after" 511 "Stage.after" 512 513 138 2 260 261 262 263 264 516 517
def o266 : OO := fun _ => s7 "after" "Stage.after" (inClass (top 30) 3) "lidprice.stands" 349 265
def o269 : OO := fun _ => s4 "self" 522
def o271 : OO := fun _ => s5 "ways" "Stage.ways" (inClass (top 30) 4)
def o272 : OO := fun _ => s6 "ways" 519 "Stage.ways" 520 521 141 1 267 268 269 270 271 523 524
def o273 : OO := fun _ => s7 "ways" "Stage.ways" (inClass (top 30) 4) "lidprice.stands" 349 272
def o276 : OO := fun _ => s13 "self" 529 "level" 530
def o278 : OO := fun _ => s5 "beside" "Stage.beside" (inClass (top 30) 5)
def o279 : OO := fun _ => s6 "beside" 526 "Stage.beside" 527 528 144 2 274 275 276 277 278 531 532
def o280 : OO := fun _ => s7 "beside" "Stage.beside" (inClass (top 30) 5) "lidprice.stands" 349 279
def o283 : OO := fun _ => s4 "self" 537
def o285 : OO := fun _ => s5 "told" "Stage.told" (inClass (top 30) 6)
def o286 : OO := fun _ => s6 "told" 534 "Stage.told" 535 536 147 1 281 282 283 284 285 538 539
def o287 : OO := fun _ => s7 "told" "Stage.told" (inClass (top 30) 6) "lidprice.stands" 349 286
def o288 : OO := fun _ => s13 "price" 541 "rows" 542
def o289 : OO := fun P => ⟨(.type "dict"), none, (.dict #[E P "__module__" 485 (.str "lidprice.stands" 349), E P "__firstlineno__" 489 (.int 117 488), E P "__init__" 495 (.ref 245), E P "is_end" 502 (.ref 252), E P "row_share" 510 (.ref 259), E P "after" 518 (.ref 266), E P "ways" 525 (.ref 273), E P "beside" 533 (.ref 280), E P "told" 540 (.ref 287), E P "__static_attributes__" 543 (.ref 288), E P "__doc__" 544 .none] 2), #[]⟩
def o290 : OO := fun _ => ⟨(.type "type"), none, (.cls ⟨"Stage", [(.ref 182)], [(.ref 290), (.ref 182), (.type "object")], 289, "Stage", true, [], [], false, none, false⟩), #[(some (.ref 234)), none, (some (.str "Stage" 478)), (some (.str "Stage" 486)), (some (.builtin "object.__new__")), (some (.bool true))]⟩
def o291 : OO := fun _ => s9 290
def o292 : OO := fun _ => s10 290
def o295 : OO := fun _ => s4 "thing" 550
def o297 : OO := fun _ => s5 "is_stand" "is_stand" (top 31)
def o298 : OO := fun _ => s6 "is_stand" 547 "is_stand" 548 549 149 1 293 294 295 296 297 551 552
def o299 : OO := fun _ => s7 "is_stand" "is_stand" (top 31) "lidprice.stands" 349 298
def o302 : OO := fun _ => s4 "row" 557
def o304 : OO := fun _ => s5 "is_stage_row" "is_stage_row" (top 32)
def o305 : OO := fun _ => s6 "is_stage_row" 554 "is_stage_row" 555 556 151 1 300 301 302 303 304 558 559
def o306 : OO := fun _ => s7 "is_stage_row" "is_stage_row" (top 32) "lidprice.stands" 349 305
def o309 : OO := fun _ => s5 "is_stage_rows" "is_stage_rows" (top 33)
def o310 : OO := fun _ => s14 "is_stage_rows" 561 "is_stage_rows" 562 563 155 1 307 308 309 564 565
def o311 : OO := fun _ => s7 "is_stage_rows" "is_stage_rows" (top 33) "lidprice.stands" 349 310
def o314 : OO := fun _ => s5 "need_boxes" "need_boxes" (top 34)
def o315 : OO := fun _ => s14 "need_boxes" 567 "need_boxes" 568 569 159 1 312 313 314 570 571
def o316 : OO := fun _ => s7 "need_boxes" "need_boxes" (top 34) "lidprice.stands" 349 315
def o319 : OO := fun _ => s13 "_law_script" 578 "_law_k" 579
def o321 : OO := fun _ => s5 "_law_cell_at" "_law_cell_at" (top 36)
def o322 : OO := fun _ => s6 "_law_cell_at" 575 "_law_cell_at" 576 577 165 2 317 318 319 320 321 580 581
def o323 : OO := fun _ => s7 "_law_cell_at" "_law_cell_at" (top 36) "law_lidprice_k15_what_makes_no_box" 573 322
def o326 : OO := fun _ => s12 "_law_cell" 586 "_law_k" 587 "_law_number" 588
def o328 : OO := fun _ => s5 "_law_mixed" "_law_mixed" (top 37)
def o329 : OO := fun _ => s6 "_law_mixed" 583 "_law_mixed" 584 585 169 2 324 325 326 327 328 589 590
def o330 : OO := fun _ => s7 "_law_mixed" "_law_mixed" (top 37) "law_lidprice_k15_what_makes_no_box" 573 329
def o333 : OO := fun _ => s13 "_law_thing_here" 595 "_law_part" 596
def o335 : OO := fun _ => s5 "_law_plain" "_law_plain" (top 38)
def o336 : OO := fun _ => s6 "_law_plain" 592 "_law_plain" 593 594 173 1 331 332 333 334 335 597 598
def o337 : OO := fun _ => s7 "_law_plain" "_law_plain" (top 38) "law_lidprice_k15_what_makes_no_box" 573 336
def o340 : OO := fun _ => s13 "_law_found" 603 "_law_due" 604
def o342 : OO := fun _ => s5 "_law_same" "_law_same" (top 39)
def o343 : OO := fun _ => s6 "_law_same" 600 "_law_same" 601 602 182 2 338 339 340 341 342 605 606
def o344 : OO := fun _ => s7 "_law_same" "_law_same" (top 39) "law_lidprice_k15_what_makes_no_box" 573 343
def o347 : OO := fun _ => s15 "_law_cell" 611 "_law_low" 612 "_law_high" 613 "_law_number" 614 "_law_some" 615
def o349 : OO := fun _ => s5 "_law_thing" "_law_thing" (top 40)
def o350 : OO := fun _ => s6 "_law_thing" 608 "_law_thing" 609 610 184 3 345 346 347 348 349 616 617
def o351 : OO := fun _ => s7 "_law_thing" "_law_thing" (top 40) "law_lidprice_k15_what_makes_no_box" 573 350
def o354 : OO := fun _ => s12 "_law_thing_here" 622 "_law_low" 623 "_law_high" 624
def o356 : OO := fun _ => s5 "_law_is_number" "_law_is_number" (top 41)
def o357 : OO := fun _ => s6 "_law_is_number" 619 "_law_is_number" 620 621 189 3 352 353 354 355 356 625 626
def o358 : OO := fun _ => s7 "_law_is_number" "_law_is_number" (top 41) "law_lidprice_k15_what_makes_no_box" 573 357
def o361 : OO := fun _ => s15 "_law_what" 631 "_law_one_here" 632 "_law_other" 633 "_law_caught" 634 "e" 635
def o363 : OO := fun _ => s5 "_law_refused" "_law_refused" (top 42)
def o364 : OO := fun _ => s6 "_law_refused" 628 "_law_refused" 629 630 191 3 359 360 361 362 363 636 637
def o365 : OO := fun _ => s7 "_law_refused" "_law_refused" (top 42) "law_lidprice_k15_what_makes_no_box" 573 364
def o368 : OO := fun _ => s15 "_law_what" 642 "_law_one_here" 643 "_law_other" 644 "_law_good" 645 "_law_caught" 646
def o370 : OO := fun _ => s5 "_law_is" "_law_is" (top 43)
def o371 : OO := fun _ => s6 "_law_is" 639 "_law_is" 640 641 203 4 366 367 368 369 370 647 648
def o372 : OO := fun _ => s7 "_law_is" "_law_is" (top 43) "law_lidprice_k15_what_makes_no_box" 573 371
def o375 : OO := fun _ => s12 "_law_many" 653 "_law_stand" 654 "_law_k" 655
def o377 : OO := fun _ => s5 "_law_chain" "_law_chain" (top 44)
def o378 : OO := fun _ => s6 "_law_chain" 650 "_law_chain" 651 652 208 1 373 374 375 376 377 656 657
def o379 : OO := fun _ => s7 "_law_chain" "_law_chain" (top 44) "law_lidprice_k15_what_makes_no_box" 573 378
def o3_2 : OO := fun P => ⟨(.type "dict"), none, (.dict #[E P "__name__" 165 (.str "law_lidprice_k15_what_makes_no_box" 573), E P "__doc__" 166 .none, E P "__package__" 167 .none, E P "__loader__" 168 (.builtin "__main__.__loader__#opaque"), E P "__spec__" 169 .none, E P "__annotations__" 170 (.ref 6), E P "__builtins__" 171 (.ref 4), E P "__file__" 173 (.str "/claim/cut.py" 172), E P "__cached__" 174 .none, E P "_wall" 193 (.ref 21), E P "LidError" 213 (.ref 31), E P "NoTable" 229 (.ref 44), E P "NoBox" 245 (.ref 56), E P "is_whole" 256 (.ref 65), E P "common_divisor" 265 (.ref 72), E P "common_multiple" 274 (.ref 79), E P "share" 283 (.ref 86), E P "whole" 290 (.ref 93), E P "below" 298 (.ref 100), E P "lesser" 306 (.ref 107), E P "MOST_WORTH" 310 (.int 1000000000 309), E P "MOST_WEIGHT" 312 (.int 1000 311), E P "rising" 318 (.ref 112), E P "in_form" 324 (.ref 117), E P "all_weights" 330 (.ref 122), E P "capped" 336 (.ref 127), E P "mixed" 342 (.ref 132), E P "level_for" 348 (.ref 137), E P "MOST_PRICE" 352 (.int 1000000000 351), E P "MOST_STAGE_ROWS" 354 (.int 4 353), E P "MOST_STAGES" 356 (.int 4 355), E P "MOST_ENDS" 358 (.int 12 357), E P "MOST_BOXES" 360 (.int 6 359), E P "Stand" 423 (.ref 182), E P "End" 477 (.ref 231), E P "Stage" 546 (.ref 290), E P "is_stand" 553 (.ref 299), E P "is_stage_row" 560 (.ref 306), E P "is_stage_rows" 566 (.ref 311), E P "need_boxes" 572 (.ref 316), E P "_law_cell_at" 582 (.ref 323), E P "_law_mixed" 591 (.ref 330), E P "_law_plain" 599 (.ref 337), E P "_law_same" 607 (.ref 344), E P "_law_thing" 618 (.ref 351), E P "_law_is_number" 627 (.ref 358), E P "_law_refused" 638 (.ref 365), E P "_law_is" 649 (.ref 372), E P "_law_chain" 658 (.ref 379), E P "_law_wide" 664 (.ref 384), E P "_law_rows" 673 (.ref 391), E P "_law_one" 679 (.ref 396), E P "law" 687 (.ref 403)] 53), #[]⟩
def o12_3 : OO := fun _ => ⟨.none, none, (.fields #[(.int 1 0), (.int 0 0), (.ref 20), (.int 5 0), (.int 0 0), (.ref 27), (.int 7 0), (.int 0 0), (.ref 40), (.int 9 0), (.int 0 0), (.ref 52), (.int 12 0), (.int 0 0), (.ref 64), (.int 14 0), (.int 0 0), (.ref 71), (.int 20 0), (.int 0 0), (.ref 78), (.int 25 0), (.int 0 0), (.ref 85), (.int 30 0), (.int 0 0), (.ref 92), (.int 32 0), (.int 0 0), (.ref 99), (.int 34 0), (.int 0 0), (.ref 106), (.int 39 0), (.int 0 0), (.ref 111), (.int 43 0), (.int 0 0), (.ref 116), (.int 51 0), (.int 0 0), (.ref 121), (.int 53 0), (.int 0 0), (.ref 126), (.int 55 0), (.int 0 0), (.ref 131), (.int 62 0), (.int 0 0), (.ref 136), (.int 79 0), (.int 0 0), (.ref 143), (.int 98 0), (.int 0 0), (.ref 192), (.int 117 0), (.int 0 0), (.ref 239), (.int 149 0), (.int 0 0), (.ref 298), (.int 151 0), (.int 0 0), (.ref 305), (.int 155 0), (.int 0 0), (.ref 310), (.int 159 0), (.int 0 0), (.ref 315), (.int 165 0), (.int 0 0), (.ref 322), (.int 169 0), (.int 0 0), (.ref 329), (.int 173 0), (.int 0 0), (.ref 336), (.int 182 0), (.int 0 0), (.ref 343), (.int 184 0), (.int 0 0), (.ref 350), (.int 189 0), (.int 0 0), (.ref 357), (.int 191 0), (.int 0 0), (.ref 364), (.int 203 0), (.int 0 0), (.ref 371), (.int 208 0), (.int 0 0), (.ref 378), (.int 213 0), (.int 0 0), (.ref 383), (.int 218 0), (.int 0 0), (.ref 390), (.int 223 0), (.int 0 0), (.ref 395), (.int 251 0), (.int 0 0), (.ref 402)]), #[]⟩
def o382 : OO := fun _ => s5 "_law_wide" "_law_wide" (top 45)
def o383 : OO := fun _ => s14 "_law_wide" 659 "_law_wide" 660 661 213 1 380 381 382 662 663
def o384 : OO := fun _ => s7 "_law_wide" "_law_wide" (top 45) "law_lidprice_k15_what_makes_no_box" 573 383
def o387 : OO := fun _ => s12 "_law_cell" 668 "_law_number" 669 "_law_some" 670
def o389 : OO := fun _ => s5 "_law_rows" "_law_rows" (top 46)
def o390 : OO := fun _ => s6 "_law_rows" 665 "_law_rows" 666 667 218 1 385 386 387 388 389 671 672
def o391 : OO := fun _ => s7 "_law_rows" "_law_rows" (top 46) "law_lidprice_k15_what_makes_no_box" 573 390
def o394 : OO := fun _ => s5 "_law_one" "_law_one" (top 47)
def o395 : OO := fun _ => s14 "_law_one" 674 "_law_one" 675 676 223 1 392 393 394 677 678
def o396 : OO := fun _ => s7 "_law_one" "_law_one" (top 47) "law_lidprice_k15_what_makes_no_box" 573 395
def o399 : OO := fun _ => s13 "_law_script" 683 "_law_k" 684
def o401 : OO := fun _ => s5 "law" "law" (top 48)
def o402 : OO := fun _ => s6 "law" 680 "law" 681 682 251 1 397 398 399 400 401 685 686
def o403 : OO := fun _ => s7 "law" "law" (top 48) "law_lidprice_k15_what_makes_no_box" 573 402
def t0 (P : Params) : W.BT := (.node (W.boot_o_0 P) (.node (W.boot_o_1 P) (.node (W.boot_o_3 P) (.node (W.boot_o_7 P) .nil .nil) (.node s0 .nil .nil)) (.node (W.boot_o_5 P) (.node (W.boot_o_9 P) .nil .nil) (.node (o13 P) .nil .nil))) (.node (W.boot_o_2 P) (.node (W.boot_o_4 P) (.node (W.boot_o_8 P) .nil .nil) (.node s1 .nil .nil)) (.node (W.boot_o_6 P) (.node (W.boot_o_10 P) .nil .nil) (.node (o14 P) .nil .nil))))
def t1 (P : Params) : W.BT := (.node (W.boot_o_0 P) (.node (W.boot_o_1 P) (.node (o3 P) (.node (W.boot_o_7 P) (.node s0 (.node (o31 P) (.node (o63 P) (.node (o127 P) .nil .nil) .nil) (.node s1 (.node s0 .nil .nil) .nil)) (.node (o47 P) (.node (o79 P) (.node (o143 P) .nil .nil) .nil) (.node (o111 P) (.node (o175 P) .nil .nil) .nil))) (.node s8 (.node s1 (.node (o71 P) (.node (o135 P) .nil .nil) .nil) (.node (o103 P) (.node s1 .nil .nil) .nil)) (.node (o55 P) (.node s0 (.node (o151 P) .nil .nil) .nil) (.node s1 (.node (o183 P) .nil .nil) .nil)))) (.node s0 (.node (o19 P) (.node (o35 P) (.node s1 (.node (o131 P) .nil .nil) .nil) (.node (o99 P) (.node (o163 P) .nil .nil) .nil)) (.node s1 (.node s0 (.node (o147 P) .nil .nil) .nil) (.node (o115 P) (.node (o179 P) .nil .nil) .nil))) (.node (o27 P) (.node (o43 P) (.node (o75 P) (.node s8 .nil .nil) .nil) (.node (o107 P) (.node (o171 P) .nil .nil) .nil)) (.node s0 (.node (o91 P) (.node s0 .nil .nil) .nil) (.node s0 .nil .nil))))) (.node (W.boot_o_5 P) (.node (W.boot_o_9 P) (.node (o17 P) (.node (o33 P) (.node (o65 P) (.node s1 .nil .nil) .nil) (.node s0 (.node (o161 P) .nil .nil) .nil)) (.node (o49 P) (.node s1 (.node s0 .nil .nil) .nil) (.node s0 (.node (o177 P) .nil .nil) .nil))) (.node s0 (.node (o41 P) (.node s0 (.node (o137 P) .nil .nil) .nil) (.node (o105 P) (.node s0 .nil .nil) .nil)) (.node (o57 P) (.node (o89 P) (.node s1 .nil .nil) .nil) (.node (o121 P) (.node (o185 P) .nil .nil) .nil)))) (.node (o13 P) (.node (o21 P) (.node (o37 P) (.node s0 (.node s0 .nil .nil) .nil) (.node s0 (.node (o165 P) .nil .nil) .nil)) (.node (o53 P) (.node (o85 P) (.node (o149 P) .nil .nil) .nil) (.node (o117 P) (.node (o181 P) .nil .nil) .nil))) (.node s0 (.node (o45 P) (.node (o77 P) (.node s0 .nil .nil) .nil) (.node s1 (.node s0 .nil .nil) .nil)) (.node (o61 P) (.node (o93 P) (.node (o157 P) .nil .nil) .nil) (.node (o125 P) .nil .nil)))))) (.node (W.boot_o_2 P) (.node (W.boot_o_4 P) (.node (W.boot_o_8 P) (.node s1 (.node (o32 P) (.node (o64 P) (.node s0 .nil .nil) .nil) (.node (o96 P) (.node s1 .nil .nil) .nil)) (.node s8 (.node s0 (.node (o144 P) .nil .nil) .nil) (.node (o112 P) (.node s0 .nil .nil) .nil))) (.node (o24 P) (.node (o40 P) (.node (o72 P) (.node (o136 P) .nil .nil) .nil) (.node s0 (.node (o168 P) .nil .nil) .nil)) (.node (o56 P) (.node s1 (.node s0 .nil .nil) .nil) (.node (o120 P) (.node (o184 P) .nil .nil) .nil)))) (.node (o12_1 P) (.node (o20 P) (.node s8 (.node (o68 P) (.node (o132 P) .nil .nil) .nil) (.node (o100 P) (.node (o164 P) .nil .nil) .nil)) (.node (o52 P) (.node (o84 P) (.node s0 .nil .nil) .nil) (.node (o116 P) (.node (o180 P) .nil .nil) .nil))) (.node (o28 P) (.node (o44 P) (.node s0 (.node (o140 P) .nil .nil) .nil) (.node s0 (.node (o172 P) .nil .nil) .nil)) (.node s1 (.node (o92 P) (.node (o156 P) .nil .nil) .nil) (.node s1 .nil .nil))))) (.node (W.boot_o_6 P) (.node (W.boot_o_10 P) (.node s0 (.node (o34 P) (.node s0 (.node (o130 P) .nil .nil) .nil) (.node (o98 P) (.node s0 .nil .nil) .nil)) (.node s0 (.node (o82 P) (.node s1 .nil .nil) .nil) (.node s1 (.node (o178 P) .nil .nil) .nil))) (.node s1 (.node s0 (.node s1 (.node s0 .nil .nil) .nil) (.node (o106 P) (.node (o170 P) .nil .nil) .nil)) (.node (o58 P) (.node s0 (.node (o154 P) .nil .nil) .nil) (.node (o122 P) (.node (o186 P) .nil .nil) .nil)))) (.node (o14 P) (.node (o22 P) (.node s0 (.node (o70 P) (.node s1 .nil .nil) .nil) (.node s1 (.node s0 .nil .nil) .nil)) (.node s0 (.node (o86 P) (.node (o150 P) .nil .nil) .nil) (.node s0 (.node (o182 P) .nil .nil) .nil))) (.node (o30 P) (.node (o46 P) (.node (o78 P) (.node (o142 P) .nil .nil) .nil) (.node (o110 P) (.node s1 .nil .nil) .nil)) (.node s0 (.node s0 (.node (o158 P) .nil .nil) .nil) (.node (o126 P) .nil .nil)))))))
def t2 (P : Params) : W.BT := (.node (W.boot_o_0 P) (.node (W.boot_o_1 P) (.node (o3_1 P) (.node (W.boot_o_7 P) (.node s0 (.node (o31 P) (.node (o63 P) (.node (o127 P) (.node (o255 P) .nil .nil) .nil) (.node (o191 P) (.node (o319 P) .nil .nil) .nil)) (.node s1 (.node s0 (.node (o287 P) .nil .nil) .nil) (.node s1 (.node (o351 P) .nil .nil) .nil))) (.node (o47 P) (.node (o79 P) (.node (o143 P) (.node (o271 P) .nil .nil) .nil) (.node (o207 P) (.node (o335 P) .nil .nil) .nil)) (.node (o111 P) (.node (o175 P) (.node s0 .nil .nil) .nil) (.node (o239 P) (.node s1 .nil .nil) .nil)))) (.node s8 (.node s1 (.node (o71 P) (.node (o135 P) (.node s0 .nil .nil) .nil) (.node (o199 P) (.node s0 .nil .nil) .nil)) (.node (o103 P) (.node s1 (.node (o295 P) .nil .nil) .nil) (.node (o231 P) (.node s0 .nil .nil) .nil))) (.node (o55 P) (.node s0 (.node (o151 P) (.node (o279 P) .nil .nil) .nil) (.node s0 (.node (o343 P) .nil .nil) .nil)) (.node s1 (.node (o183 P) (.node (o311 P) .nil .nil) .nil) (.node s1 (.node (o375 P) .nil .nil) .nil))))) (.node s0 (.node (o19 P) (.node (o35 P) (.node s1 (.node (o131 P) (.node (o259 P) .nil .nil) .nil) (.node s1 (.node (o323 P) .nil .nil) .nil)) (.node (o99 P) (.node (o163 P) (.node (o291 P) .nil .nil) .nil) (.node (o227 P) (.node s0 .nil .nil) .nil))) (.node s1 (.node s0 (.node (o147 P) (.node s1 .nil .nil) .nil) (.node s0 (.node s1 .nil .nil) .nil)) (.node (o115 P) (.node (o179 P) (.node s0 .nil .nil) .nil) (.node (o243 P) (.node (o371 P) .nil .nil) .nil)))) (.node (o27 P) (.node (o43 P) (.node (o75 P) (.node s8 (.node s0 .nil .nil) .nil) (.node (o203 P) (.node s0 .nil .nil) .nil)) (.node (o107 P) (.node (o171 P) (.node (o299 P) .nil .nil) .nil) (.node s8 (.node (o363 P) .nil .nil) .nil))) (.node s0 (.node (o91 P) (.node s0 (.node (o283 P) .nil .nil) .nil) (.node (o219 P) (.node (o347 P) .nil .nil) .nil)) (.node s0 (.node (o187 P) (.node (o315 P) .nil .nil) .nil) (.node (o251 P) (.node (o379 P) .nil .nil) .nil)))))) (.node (W.boot_o_5 P) (.node (W.boot_o_9 P) (.node (o17 P) (.node (o33 P) (.node (o65 P) (.node s1 (.node (o257 P) .nil .nil) .nil) (.node (o193 P) (.node (o321 P) .nil .nil) .nil)) (.node s0 (.node (o161 P) (.node (o289 P) .nil .nil) .nil) (.node s0 (.node s1 .nil .nil) .nil))) (.node (o49 P) (.node s1 (.node s0 (.node (o273 P) .nil .nil) .nil) (.node s1 (.node (o337 P) .nil .nil) .nil)) (.node s0 (.node (o177 P) (.node (o305 P) .nil .nil) .nil) (.node s0 (.node s0 .nil .nil) .nil)))) (.node s0 (.node (o41 P) (.node s0 (.node (o137 P) (.node (o265 P) .nil .nil) .nil) (.node s0 (.node (o329 P) .nil .nil) .nil)) (.node (o105 P) (.node s0 (.node (o297 P) .nil .nil) .nil) (.node (o233 P) (.node (o361 P) .nil .nil) .nil))) (.node (o57 P) (.node (o89 P) (.node s1 (.node s0 .nil .nil) .nil) (.node (o217 P) (.node s0 .nil .nil) .nil)) (.node (o121 P) (.node (o185 P) (.node s1 .nil .nil) .nil) (.node s0 (.node (o377 P) .nil .nil) .nil))))) (.node (o13 P) (.node (o21 P) (.node (o37 P) (.node s0 (.node s0 (.node s1 .nil .nil) .nil) (.node s0 (.node s1 .nil .nil) .nil)) (.node s0 (.node (o165 P) (.node s0 .nil .nil) .nil) (.node (o229 P) (.node (o357 P) .nil .nil) .nil))) (.node (o53 P) (.node (o85 P) (.node (o149 P) (.node s0 .nil .nil) .nil) (.node (o213 P) (.node s0 .nil .nil) .nil)) (.node (o117 P) (.node (o181 P) (.node (o309 P) .nil .nil) .nil) (.node (o245 P) (.node s0 .nil .nil) .nil)))) (.node s0 (.node (o45 P) (.node (o77 P) (.node s0 (.node (o269 P) .nil .nil) .nil) (.node (o205 P) (.node (o333 P) .nil .nil) .nil)) (.node s1 (.node s0 (.node s1 .nil .nil) .nil) (.node s0 (.node (o365 P) .nil .nil) .nil))) (.node (o61 P) (.node (o93 P) (.node (o157 P) (.node (o285 P) .nil .nil) .nil) (.node (o221 P) (.node (o349 P) .nil .nil) .nil)) (.node (o125 P) (.node (o189 P) (.node s0 .nil .nil) .nil) (.node s0 .nil .nil))))))) (.node (W.boot_o_2 P) (.node (W.boot_o_4 P) (.node (W.boot_o_8 P) (.node s1 (.node (o32 P) (.node (o64 P) (.node s0 (.node s0 .nil .nil) .nil) (.node (o192 P) (.node s0 .nil .nil) .nil)) (.node (o96 P) (.node s1 (.node (o288 P) .nil .nil) .nil) (.node (o224 P) (.node s0 .nil .nil) .nil))) (.node s8 (.node s0 (.node (o144 P) (.node (o272 P) .nil .nil) .nil) (.node s0 (.node (o336 P) .nil .nil) .nil)) (.node (o112 P) (.node s0 (.node (o304 P) .nil .nil) .nil) (.node (o240 P) (.node (o368 P) .nil .nil) .nil)))) (.node (o24 P) (.node (o40 P) (.node (o72 P) (.node (o136 P) (.node (o264 P) .nil .nil) .nil) (.node (o200 P) (.node (o328 P) .nil .nil) .nil)) (.node s0 (.node (o168 P) (.node s0 .nil .nil) .nil) (.node (o232 P) (.node s1 .nil .nil) .nil))) (.node (o56 P) (.node s1 (.node s0 (.node (o280 P) .nil .nil) .nil) (.node s1 (.node (o344 P) .nil .nil) .nil)) (.node (o120 P) (.node (o184 P) (.node s0 .nil .nil) .nil) (.node (o248 P) (.node s0 .nil .nil) .nil))))) (.node (o12_2 P) (.node (o20 P) (.node s8 (.node (o68 P) (.node (o132 P) (.node s0 .nil .nil) .nil) (.node (o196 P) (.node s0 .nil .nil) .nil)) (.node (o100 P) (.node (o164 P) (.node (o292 P) .nil .nil) .nil) (.node (o228 P) (.node (o356 P) .nil .nil) .nil))) (.node (o52 P) (.node (o84 P) (.node s0 (.node (o276 P) .nil .nil) .nil) (.node (o212 P) (.node (o340 P) .nil .nil) .nil)) (.node (o116 P) (.node (o180 P) (.node s1 .nil .nil) .nil) (.node (o244 P) (.node (o372 P) .nil .nil) .nil)))) (.node (o28 P) (.node (o44 P) (.node s0 (.node (o140 P) (.node s1 .nil .nil) .nil) (.node s0 (.node s1 .nil .nil) .nil)) (.node s0 (.node (o172 P) (.node s0 .nil .nil) .nil) (.node (o236 P) (.node (o364 P) .nil .nil) .nil))) (.node s1 (.node (o92 P) (.node (o156 P) (.node s0 .nil .nil) .nil) (.node (o220 P) (.node s0 .nil .nil) .nil)) (.node s1 (.node s8 (.node (o316 P) .nil .nil) .nil) (.node (o252 P) .nil .nil)))))) (.node (W.boot_o_6 P) (.node (W.boot_o_10 P) (.node s0 (.node (o34 P) (.node s0 (.node (o130 P) (.node (o258 P) .nil .nil) .nil) (.node s0 (.node (o322 P) .nil .nil) .nil)) (.node (o98 P) (.node s0 (.node (o290 P) .nil .nil) .nil) (.node (o226 P) (.node (o354 P) .nil .nil) .nil))) (.node s0 (.node (o82 P) (.node s1 (.node s0 .nil .nil) .nil) (.node (o210 P) (.node s0 .nil .nil) .nil)) (.node s1 (.node (o178 P) (.node (o306 P) .nil .nil) .nil) (.node s1 (.node (o370 P) .nil .nil) .nil)))) (.node s1 (.node s0 (.node s1 (.node s0 (.node (o266 P) .nil .nil) .nil) (.node s1 (.node (o330 P) .nil .nil) .nil)) (.node (o106 P) (.node (o170 P) (.node (o298 P) .nil .nil) .nil) (.node (o234 P) (.node s0 .nil .nil) .nil))) (.node (o58 P) (.node s0 (.node (o154 P) (.node s1 .nil .nil) .nil) (.node s0 (.node s1 .nil .nil) .nil)) (.node (o122 P) (.node (o186 P) (.node (o314 P) .nil .nil) .nil) (.node (o250 P) (.node (o378 P) .nil .nil) .nil))))) (.node (o14 P) (.node (o22 P) (.node s0 (.node (o70 P) (.node s1 (.node (o262 P) .nil .nil) .nil) (.node (o198 P) (.node (o326 P) .nil .nil) .nil)) (.node s1 (.node s0 (.node s1 .nil .nil) .nil) (.node (o230 P) (.node (o358 P) .nil .nil) .nil))) (.node s0 (.node (o86 P) (.node (o150 P) (.node (o278 P) .nil .nil) .nil) (.node (o214 P) (.node (o342 P) .nil .nil) .nil)) (.node s0 (.node (o182_1 P) (.node (o310 P) .nil .nil) .nil) (.node s0 (.node s1 .nil .nil) .nil)))) (.node (o30 P) (.node (o46 P) (.node (o78 P) (.node (o142 P) (.node s0 .nil .nil) .nil) (.node (o206 P) (.node s0 .nil .nil) .nil)) (.node (o110 P) (.node s1 (.node (o302 P) .nil .nil) .nil) (.node (o238 P) (.node s0 .nil .nil) .nil))) (.node s0 (.node s0 (.node (o158 P) (.node (o286 P) .nil .nil) .nil) (.node s0 (.node (o350 P) .nil .nil) .nil)) (.node (o126 P) (.node s0 (.node s1 .nil .nil) .nil) (.node s1 .nil .nil))))))))
def t3 (P : Params) : W.BT := (.node (W.boot_o_0 P) (.node (W.boot_o_1 P) (.node (o3_2 P) (.node (W.boot_o_7 P) (.node s0 (.node (o31 P) (.node (o63 P) (.node (o127 P) (.node (o255 P) .nil .nil) (.node (o383 P) .nil .nil)) (.node (o191 P) (.node (o319 P) .nil .nil) .nil)) (.node s1 (.node s0 (.node (o287 P) .nil .nil) .nil) (.node s1 (.node (o351 P) .nil .nil) .nil))) (.node (o47 P) (.node (o79 P) (.node (o143 P) (.node (o271 P) .nil .nil) (.node (o399 P) .nil .nil)) (.node (o207 P) (.node (o335 P) .nil .nil) .nil)) (.node (o111 P) (.node (o175 P) (.node s0 .nil .nil) .nil) (.node (o239 P) (.node s1 .nil .nil) .nil)))) (.node s8 (.node s1 (.node (o71 P) (.node (o135 P) (.node s0 .nil .nil) (.node (o391 P) .nil .nil)) (.node (o199 P) (.node s0 .nil .nil) .nil)) (.node (o103 P) (.node s1 (.node (o295 P) .nil .nil) .nil) (.node (o231 P) (.node s0 .nil .nil) .nil))) (.node (o55 P) (.node s0 (.node (o151 P) (.node (o279 P) .nil .nil) .nil) (.node s0 (.node (o343 P) .nil .nil) .nil)) (.node s1 (.node (o183 P) (.node (o311 P) .nil .nil) .nil) (.node s1 (.node (o375 P) .nil .nil) .nil))))) (.node s0 (.node (o19 P) (.node (o35 P) (.node s1 (.node (o131 P) (.node (o259 P) .nil .nil) (.node (o387 P) .nil .nil)) (.node s1 (.node (o323 P) .nil .nil) .nil)) (.node (o99 P) (.node (o163 P) (.node (o291 P) .nil .nil) .nil) (.node (o227 P) (.node s0 .nil .nil) .nil))) (.node s1 (.node s0 (.node (o147 P) (.node s1 .nil .nil) (.node (o403 P) .nil .nil)) (.node s0 (.node s1 .nil .nil) .nil)) (.node (o115 P) (.node (o179 P) (.node s0 .nil .nil) .nil) (.node (o243 P) (.node (o371 P) .nil .nil) .nil)))) (.node (o27 P) (.node (o43 P) (.node (o75 P) (.node s8 (.node s0 .nil .nil) (.node (o395 P) .nil .nil)) (.node (o203 P) (.node s0 .nil .nil) .nil)) (.node (o107 P) (.node (o171 P) (.node (o299 P) .nil .nil) .nil) (.node s8 (.node (o363 P) .nil .nil) .nil))) (.node s0 (.node (o91 P) (.node s0 (.node (o283 P) .nil .nil) .nil) (.node (o219 P) (.node (o347 P) .nil .nil) .nil)) (.node s0 (.node (o187 P) (.node (o315 P) .nil .nil) .nil) (.node (o251 P) (.node (o379 P) .nil .nil) .nil)))))) (.node (W.boot_o_5 P) (.node (W.boot_o_9 P) (.node (o17 P) (.node (o33 P) (.node (o65 P) (.node s1 (.node (o257 P) .nil .nil) (.node s0 .nil .nil)) (.node (o193 P) (.node (o321 P) .nil .nil) .nil)) (.node s0 (.node (o161 P) (.node (o289 P) .nil .nil) .nil) (.node s0 (.node s1 .nil .nil) .nil))) (.node (o49 P) (.node s1 (.node s0 (.node (o273 P) .nil .nil) (.node (o401 P) .nil .nil)) (.node s1 (.node (o337 P) .nil .nil) .nil)) (.node s0 (.node (o177 P) (.node (o305 P) .nil .nil) .nil) (.node s0 (.node s0 .nil .nil) .nil)))) (.node s0 (.node (o41 P) (.node s0 (.node (o137 P) (.node (o265 P) .nil .nil) (.node s1 .nil .nil)) (.node s0 (.node (o329 P) .nil .nil) .nil)) (.node (o105 P) (.node s0 (.node (o297 P) .nil .nil) .nil) (.node (o233 P) (.node (o361 P) .nil .nil) .nil))) (.node (o57 P) (.node (o89 P) (.node s1 (.node s0 .nil .nil) .nil) (.node (o217 P) (.node s0 .nil .nil) .nil)) (.node (o121 P) (.node (o185 P) (.node s1 .nil .nil) .nil) (.node s0 (.node (o377 P) .nil .nil) .nil))))) (.node (o13 P) (.node (o21 P) (.node (o37 P) (.node s0 (.node s0 (.node s1 .nil .nil) (.node (o389 P) .nil .nil)) (.node s0 (.node s1 .nil .nil) .nil)) (.node s0 (.node (o165 P) (.node s0 .nil .nil) .nil) (.node (o229 P) (.node (o357 P) .nil .nil) .nil))) (.node (o53 P) (.node (o85 P) (.node (o149 P) (.node s0 .nil .nil) .nil) (.node (o213 P) (.node s0 .nil .nil) .nil)) (.node (o117 P) (.node (o181 P) (.node (o309 P) .nil .nil) .nil) (.node (o245 P) (.node s0 .nil .nil) .nil)))) (.node s0 (.node (o45 P) (.node (o77 P) (.node s0 (.node (o269 P) .nil .nil) (.node s0 .nil .nil)) (.node (o205 P) (.node (o333 P) .nil .nil) .nil)) (.node s1 (.node s0 (.node s1 .nil .nil) .nil) (.node s0 (.node (o365 P) .nil .nil) .nil))) (.node (o61 P) (.node (o93 P) (.node (o157 P) (.node (o285 P) .nil .nil) .nil) (.node (o221 P) (.node (o349 P) .nil .nil) .nil)) (.node (o125 P) (.node (o189 P) (.node s0 .nil .nil) .nil) (.node s0 (.node s1 .nil .nil) .nil))))))) (.node (W.boot_o_2 P) (.node (W.boot_o_4 P) (.node (W.boot_o_8 P) (.node s1 (.node (o32 P) (.node (o64 P) (.node s0 (.node s0 .nil .nil) (.node (o384 P) .nil .nil)) (.node (o192 P) (.node s0 .nil .nil) .nil)) (.node (o96 P) (.node s1 (.node (o288 P) .nil .nil) .nil) (.node (o224 P) (.node s0 .nil .nil) .nil))) (.node s8 (.node s0 (.node (o144 P) (.node (o272 P) .nil .nil) (.node s0 .nil .nil)) (.node s0 (.node (o336 P) .nil .nil) .nil)) (.node (o112 P) (.node s0 (.node (o304 P) .nil .nil) .nil) (.node (o240 P) (.node (o368 P) .nil .nil) .nil)))) (.node (o24 P) (.node (o40 P) (.node (o72 P) (.node (o136 P) (.node (o264 P) .nil .nil) (.node s0 .nil .nil)) (.node (o200 P) (.node (o328 P) .nil .nil) .nil)) (.node s0 (.node (o168 P) (.node s0 .nil .nil) .nil) (.node (o232 P) (.node s1 .nil .nil) .nil))) (.node (o56 P) (.node s1 (.node s0 (.node (o280 P) .nil .nil) .nil) (.node s1 (.node (o344 P) .nil .nil) .nil)) (.node (o120 P) (.node (o184 P) (.node s0 .nil .nil) .nil) (.node (o248 P) (.node s0 .nil .nil) .nil))))) (.node (o12_3 P) (.node (o20 P) (.node s8 (.node (o68 P) (.node (o132 P) (.node s0 .nil .nil) (.node s0 .nil .nil)) (.node (o196 P) (.node s0 .nil .nil) .nil)) (.node (o100 P) (.node (o164 P) (.node (o292 P) .nil .nil) .nil) (.node (o228 P) (.node (o356 P) .nil .nil) .nil))) (.node (o52 P) (.node (o84 P) (.node s0 (.node (o276 P) .nil .nil) .nil) (.node (o212 P) (.node (o340 P) .nil .nil) .nil)) (.node (o116 P) (.node (o180 P) (.node s1 .nil .nil) .nil) (.node (o244 P) (.node (o372 P) .nil .nil) .nil)))) (.node (o28 P) (.node (o44 P) (.node s0 (.node (o140 P) (.node s1 .nil .nil) (.node (o396 P) .nil .nil)) (.node s0 (.node s1 .nil .nil) .nil)) (.node s0 (.node (o172 P) (.node s0 .nil .nil) .nil) (.node (o236 P) (.node (o364 P) .nil .nil) .nil))) (.node s1 (.node (o92 P) (.node (o156 P) (.node s0 .nil .nil) .nil) (.node (o220 P) (.node s0 .nil .nil) .nil)) (.node s1 (.node s8 (.node (o316 P) .nil .nil) .nil) (.node (o252 P) (.node s0 .nil .nil) .nil)))))) (.node (W.boot_o_6 P) (.node (W.boot_o_10 P) (.node s0 (.node (o34 P) (.node s0 (.node (o130 P) (.node (o258 P) .nil .nil) (.node s1 .nil .nil)) (.node s0 (.node (o322 P) .nil .nil) .nil)) (.node (o98 P) (.node s0 (.node (o290 P) .nil .nil) .nil) (.node (o226 P) (.node (o354 P) .nil .nil) .nil))) (.node s0 (.node (o82 P) (.node s1 (.node s0 .nil .nil) (.node (o402 P) .nil .nil)) (.node (o210 P) (.node s0 .nil .nil) .nil)) (.node s1 (.node (o178 P) (.node (o306 P) .nil .nil) .nil) (.node s1 (.node (o370 P) .nil .nil) .nil)))) (.node s1 (.node s0 (.node s1 (.node s0 (.node (o266 P) .nil .nil) (.node (o394 P) .nil .nil)) (.node s1 (.node (o330 P) .nil .nil) .nil)) (.node (o106 P) (.node (o170 P) (.node (o298 P) .nil .nil) .nil) (.node (o234 P) (.node s0 .nil .nil) .nil))) (.node (o58 P) (.node s0 (.node (o154 P) (.node s1 .nil .nil) .nil) (.node s0 (.node s1 .nil .nil) .nil)) (.node (o122 P) (.node (o186 P) (.node (o314 P) .nil .nil) .nil) (.node (o250 P) (.node (o378 P) .nil .nil) .nil))))) (.node (o14 P) (.node (o22 P) (.node s0 (.node (o70 P) (.node s1 (.node (o262 P) .nil .nil) (.node (o390 P) .nil .nil)) (.node (o198 P) (.node (o326 P) .nil .nil) .nil)) (.node s1 (.node s0 (.node s1 .nil .nil) .nil) (.node (o230 P) (.node (o358 P) .nil .nil) .nil))) (.node s0 (.node (o86 P) (.node (o150 P) (.node (o278 P) .nil .nil) .nil) (.node (o214 P) (.node (o342 P) .nil .nil) .nil)) (.node s0 (.node (o182_1 P) (.node (o310 P) .nil .nil) .nil) (.node s0 (.node s1 .nil .nil) .nil)))) (.node (o30 P) (.node (o46 P) (.node (o78 P) (.node (o142 P) (.node s0 .nil .nil) (.node s1 .nil .nil)) (.node (o206 P) (.node s0 .nil .nil) .nil)) (.node (o110 P) (.node s1 (.node (o302 P) .nil .nil) .nil) (.node (o238 P) (.node s0 .nil .nil) .nil))) (.node s0 (.node s0 (.node (o158 P) (.node (o286 P) .nil .nil) .nil) (.node s0 (.node (o350 P) .nil .nil) .nil)) (.node (o126 P) (.node s0 (.node s1 .nil .nil) .nil) (.node s1 (.node (o382 P) .nil .nil) .nil))))))))
def envK : Env := { scope := PySem.Challenge.pw_lidprice_k15_what_makes_no_box.main.scope, locals := mainNs, globals := mainNs, cells := [], code := (.ref 13), frame := some 14 }
def g1 : List Stmt := [top 0, top 1, top 2, top 3, top 4, top 5, top 6, top 7, top 8, top 9, top 10, top 11, top 12, top 13, top 14, top 15, top 16, top 17, top 18, top 19, top 20, top 21, top 22, top 23, top 24, top 25, top 26, top 27, top 28]
def g2 : List Stmt := [top 29, top 30, top 31, top 32, top 33, top 34, top 35, top 36, top 37, top 38, top 39, top 40, top 41, top 42, top 43, top 44]
def g3 : List Stmt := [top 45, top 46, top 47, top 48]
def gs : List Stmt := g1 ++ (g2 ++ (g3 ++ []))
def codeK : Code := .body gs envK
theorem run1 (w : World) (os : OsState) : W.segRunT PySem.treeTable PySem.Challenge.pw_lidprice_k15_what_makes_no_box w 11 (some (.ref 6)) 1 1462 (stT (t0 w.params) 15 187 os) (W.piecesOf g1 envK codeK ⟨0, 0, 0, 0⟩ [W.topFrame ⟨0, 0, 0, 0⟩]) = some (.next, stT (t1 w.params) 187 424 os, codeK, ⟨79, 0, 97, 34⟩) := by kernel_rfl
theorem run2 (w : World) (os : OsState) : W.segRunT PySem.treeTable PySem.Challenge.pw_lidprice_k15_what_makes_no_box w 11 (some (.ref 6)) 1 1203 (stT (t1 w.params) 187 424 os) (W.piecesOf g2 envK codeK ⟨79, 0, 97, 34⟩ [W.topFrame ⟨0, 0, 0, 0⟩]) = some (.next, stT (t2 w.params) 380 659 os, codeK, ⟨208, 0, 212, 21⟩) := by kernel_rfl
theorem run3 (w : World) (os : OsState) : W.segRunT PySem.treeTable PySem.Challenge.pw_lidprice_k15_what_makes_no_box w 11 (some (.ref 6)) 1 114 (stT (t2 w.params) 380 659 os) (W.piecesOf g3 envK codeK ⟨208, 0, 212, 21⟩ [W.topFrame ⟨0, 0, 0, 0⟩]) = some (.next, stT (t3 w.params) 404 688 os, codeK, ⟨251, 0, 255, 39⟩) := by kernel_rfl
theorem runE (w : World) (os : OsState) : W.topRun PySem.treeTable PySem.Challenge.pw_lidprice_k15_what_makes_no_box w 11 (some (.ref 6)) 2 (stT (t3 w.params) 404 688 os).abs (W.restOf [] envK codeK ⟨251, 0, 255, 39⟩ [W.topFrame ⟨0, 0, 0, 0⟩]) = some (stT (t3 w.params) 404 688 os).abs := by kernel_rfl
theorem preK (w : World) (os : OsState) : W.topGo PySem.treeTable PySem.Challenge.pw_lidprice_k15_what_makes_no_box w 11 (some (.ref 6)) 12 ⟨W.boot_heap w.params, Array.mk [], W.boot_drawn, W.boot_toks, os⟩ (W.topStub PySem.Challenge.pw_lidprice_k15_what_makes_no_box) = some ((stT (t0 w.params) 15 187 os).abs, ⟨denote PySem.treeTable (.body gs envK), codeK, ⟨0, 0, 0, 0⟩, [W.topFrame ⟨0, 0, 0, 0⟩]⟩) := by kernel_rfl
theorem blkK (w : World) (os : OsState) : W.segRun PySem.treeTable PySem.Challenge.pw_lidprice_k15_what_makes_no_box w 11 (some (.ref 6)) 1 1 (stT (t0 w.params) 15 187 os).abs (W.blockOf gs envK codeK ⟨0, 0, 0, 0⟩ [W.topFrame ⟨0, 0, 0, 0⟩]) = some (.next, (stT (t0 w.params) 15 187 os).abs, codeK, ⟨0, 0, 0, 0⟩) := by kernel_rfl
def heapK (P : Params) : W.Frag :=
(nat_lit 2, W.boot_o_2 P) ::
(nat_lit 3, o3_2 P) ::
(nat_lit 15, s0) ::
(nat_lit 17, o17 P) ::
(nat_lit 18, s0) ::
(nat_lit 20, o20 P) ::
(nat_lit 21, o21 P) ::
(nat_lit 22, o22 P) ::
(nat_lit 29, s0) ::
(nat_lit 30, o30 P) ::
(nat_lit 31, o31 P) ::
(nat_lit 32, o32 P) ::
(nat_lit 35, o35 P) ::
(nat_lit 42, s0) ::
(nat_lit 43, o43 P) ::
(nat_lit 44, o44 P) ::
(nat_lit 47, o47 P) ::
(nat_lit 54, s0) ::
(nat_lit 55, o55 P) ::
(nat_lit 56, o56 P) ::
(nat_lit 59, s0) ::
(nat_lit 61, o61 P) ::
(nat_lit 62, s0) ::
(nat_lit 64, o64 P) ::
(nat_lit 65, o65 P) ::
(nat_lit 66, s0) ::
(nat_lit 68, o68 P) ::
(nat_lit 69, s0) ::
(nat_lit 71, o71 P) ::
(nat_lit 72, o72 P) ::
(nat_lit 73, s0) ::
(nat_lit 75, o75 P) ::
(nat_lit 76, s0) ::
(nat_lit 78, o78 P) ::
(nat_lit 79, o79 P) ::
(nat_lit 80, s0) ::
(nat_lit 82, o82 P) ::
(nat_lit 83, s0) ::
(nat_lit 85, o85 P) ::
(nat_lit 86, o86 P) ::
(nat_lit 87, s0) ::
(nat_lit 89, o89 P) ::
(nat_lit 90, s0) ::
(nat_lit 92, o92 P) ::
(nat_lit 93, o93 P) ::
(nat_lit 94, s0) ::
(nat_lit 96, o96 P) ::
(nat_lit 97, s0) ::
(nat_lit 99, o99 P) ::
(nat_lit 100, o100 P) ::
(nat_lit 101, s0) ::
(nat_lit 103, o103 P) ::
(nat_lit 104, s0) ::
(nat_lit 106, o106 P) ::
(nat_lit 107, o107 P) ::
(nat_lit 108, s0) ::
(nat_lit 111, o111 P) ::
(nat_lit 112, o112 P) ::
(nat_lit 113, s0) ::
(nat_lit 116, o116 P) ::
(nat_lit 117, o117 P) ::
(nat_lit 118, s0) ::
(nat_lit 121, o121 P) ::
(nat_lit 122, o122 P) ::
(nat_lit 123, s0) ::
(nat_lit 126, o126 P) ::
(nat_lit 127, o127 P) ::
(nat_lit 128, s0) ::
(nat_lit 131, o131 P) ::
(nat_lit 132, o132 P) ::
(nat_lit 133, s0) ::
(nat_lit 136, o136 P) ::
(nat_lit 137, o137 P) ::
(nat_lit 145, s0) ::
(nat_lit 147, o147 P) ::
(nat_lit 148, s0) ::
(nat_lit 150, o150 P) ::
(nat_lit 151, o151 P) ::
(nat_lit 152, s0) ::
(nat_lit 154, o154 P) ::
(nat_lit 155, s0) ::
(nat_lit 157, o157 P) ::
(nat_lit 158, o158 P) ::
(nat_lit 159, s0) ::
(nat_lit 161, o161 P) ::
(nat_lit 162, s0) ::
(nat_lit 164, o164 P) ::
(nat_lit 165, o165 P) ::
(nat_lit 166, s0) ::
(nat_lit 168, o168 P) ::
(nat_lit 169, s0) ::
(nat_lit 171, o171 P) ::
(nat_lit 172, o172 P) ::
(nat_lit 173, s0) ::
(nat_lit 175, o175 P) ::
(nat_lit 176, s0) ::
(nat_lit 178, o178 P) ::
(nat_lit 179, o179 P) ::
(nat_lit 180, o180 P) ::
(nat_lit 181, o181 P) ::
(nat_lit 182, o182_1 P) ::
(nat_lit 183, o183 P) ::
(nat_lit 184, o184 P) ::
(nat_lit 187, o187 P) ::
(nat_lit 194, s0) ::
(nat_lit 196, o196 P) ::
(nat_lit 197, s0) ::
(nat_lit 199, o199 P) ::
(nat_lit 200, o200 P) ::
(nat_lit 201, s0) ::
(nat_lit 203, o203 P) ::
(nat_lit 204, s0) ::
(nat_lit 206, o206 P) ::
(nat_lit 207, o207 P) ::
(nat_lit 208, s0) ::
(nat_lit 210, o210 P) ::
(nat_lit 211, s0) ::
(nat_lit 213, o213 P) ::
(nat_lit 214, o214 P) ::
(nat_lit 215, s0) ::
(nat_lit 217, o217 P) ::
(nat_lit 218, s0) ::
(nat_lit 220, o220 P) ::
(nat_lit 221, o221 P) ::
(nat_lit 222, s0) ::
(nat_lit 224, o224 P) ::
(nat_lit 225, s0) ::
(nat_lit 227, o227 P) ::
(nat_lit 228, o228 P) ::
(nat_lit 229, o229 P) ::
(nat_lit 230, o230 P) ::
(nat_lit 231, o231 P) ::
(nat_lit 234, o234 P) ::
(nat_lit 241, s0) ::
(nat_lit 244, o244 P) ::
(nat_lit 245, o245 P) ::
(nat_lit 246, s0) ::
(nat_lit 248, o248 P) ::
(nat_lit 249, s0) ::
(nat_lit 251, o251 P) ::
(nat_lit 252, o252 P) ::
(nat_lit 253, s0) ::
(nat_lit 255, o255 P) ::
(nat_lit 256, s0) ::
(nat_lit 258, o258 P) ::
(nat_lit 259, o259 P) ::
(nat_lit 260, s0) ::
(nat_lit 262, o262 P) ::
(nat_lit 263, s0) ::
(nat_lit 265, o265 P) ::
(nat_lit 266, o266 P) ::
(nat_lit 267, s0) ::
(nat_lit 269, o269 P) ::
(nat_lit 270, s0) ::
(nat_lit 272, o272 P) ::
(nat_lit 273, o273 P) ::
(nat_lit 274, s0) ::
(nat_lit 276, o276 P) ::
(nat_lit 277, s0) ::
(nat_lit 279, o279 P) ::
(nat_lit 280, o280 P) ::
(nat_lit 281, s0) ::
(nat_lit 283, o283 P) ::
(nat_lit 284, s0) ::
(nat_lit 286, o286 P) ::
(nat_lit 287, o287 P) ::
(nat_lit 288, o288 P) ::
(nat_lit 289, o289 P) ::
(nat_lit 290, o290 P) ::
(nat_lit 293, s0) ::
(nat_lit 295, o295 P) ::
(nat_lit 296, s0) ::
(nat_lit 298, o298 P) ::
(nat_lit 299, o299 P) ::
(nat_lit 300, s0) ::
(nat_lit 302, o302 P) ::
(nat_lit 303, s0) ::
(nat_lit 305, o305 P) ::
(nat_lit 306, o306 P) ::
(nat_lit 307, s0) ::
(nat_lit 310, o310 P) ::
(nat_lit 311, o311 P) ::
(nat_lit 312, s0) ::
(nat_lit 315, o315 P) ::
(nat_lit 316, o316 P) ::
(nat_lit 317, s0) ::
(nat_lit 319, o319 P) ::
(nat_lit 320, s0) ::
(nat_lit 322, o322 P) ::
(nat_lit 323, o323 P) ::
(nat_lit 324, s0) ::
(nat_lit 326, o326 P) ::
(nat_lit 327, s0) ::
(nat_lit 329, o329 P) ::
(nat_lit 330, o330 P) ::
(nat_lit 345, s0) ::
(nat_lit 347, o347 P) ::
(nat_lit 348, s0) ::
(nat_lit 350, o350 P) ::
(nat_lit 351, o351 P) ::
(nat_lit 352, s0) ::
(nat_lit 354, o354 P) ::
(nat_lit 355, s0) ::
(nat_lit 357, o357 P) ::
(nat_lit 358, o358 P) ::
(nat_lit 359, s0) ::
(nat_lit 361, o361 P) ::
(nat_lit 362, s0) ::
(nat_lit 364, o364 P) ::
(nat_lit 365, o365 P) ::
(nat_lit 366, s0) ::
(nat_lit 368, o368 P) ::
(nat_lit 369, s0) ::
(nat_lit 371, o371 P) ::
(nat_lit 372, o372 P) ::
(nat_lit 373, s0) ::
(nat_lit 375, o375 P) ::
(nat_lit 376, s0) ::
(nat_lit 378, o378 P) ::
(nat_lit 379, o379 P) ::
(nat_lit 380, s0) ::
(nat_lit 383, o383 P) ::
(nat_lit 384, o384 P) ::
(nat_lit 385, s0) ::
(nat_lit 387, o387 P) ::
(nat_lit 388, s0) ::
(nat_lit 390, o390 P) ::
(nat_lit 391, o391 P) ::
(nat_lit 392, s0) ::
(nat_lit 395, o395 P) ::
(nat_lit 396, o396 P) ::
(nat_lit 397, s0) ::
(nat_lit 399, o399 P) ::
(nat_lit 400, s0) ::
(nat_lit 402, o402 P) ::
(nat_lit 403, o403 P) :: []
def asK : List Addr := 2 :: 3 :: 15 :: 17 :: 18 :: 20 :: 21 :: 22 :: 29 :: 30 :: 31 :: 32 :: 35 :: 42 :: 43 :: 44 :: 47 :: 54 :: 55 :: 56 :: 59 :: 61 :: 62 :: 64 :: 65 :: 66 :: 68 :: 69 :: 71 :: 72 :: 73 :: 75 :: 76 :: 78 :: 79 :: 80 :: 82 :: 83 :: 85 :: 86 :: 87 :: 89 :: 90 :: 92 :: 93 :: 94 :: 96 :: 97 :: 99 :: 100 :: 101 :: 103 :: 104 :: 106 :: 107 :: 108 :: 111 :: 112 :: 113 :: 116 :: 117 :: 118 :: 121 :: 122 :: 123 :: 126 :: 127 :: 128 :: 131 :: 132 :: 133 :: 136 :: 137 :: 145 :: 147 :: 148 :: 150 :: 151 :: 152 :: 154 :: 155 :: 157 :: 158 :: 159 :: 161 :: 162 :: 164 :: 165 :: 166 :: 168 :: 169 :: 171 :: 172 :: 173 :: 175 :: 176 :: 178 :: 179 :: 180 :: 181 :: 182 :: 183 :: 184 :: 187 :: 194 :: 196 :: 197 :: 199 :: 200 :: 201 :: 203 :: 204 :: 206 :: 207 :: 208 :: 210 :: 211 :: 213 :: 214 :: 215 :: 217 :: 218 :: 220 :: 221 :: 222 :: 224 :: 225 :: 227 :: 228 :: 229 :: 230 :: 231 :: 234 :: 241 :: 244 :: 245 :: 246 :: 248 :: 249 :: 251 :: 252 :: 253 :: 255 :: 256 :: 258 :: 259 :: 260 :: 262 :: 263 :: 265 :: 266 :: 267 :: 269 :: 270 :: 272 :: 273 :: 274 :: 276 :: 277 :: 279 :: 280 :: 281 :: 283 :: 284 :: 286 :: 287 :: 288 :: 289 :: 290 :: 293 :: 295 :: 296 :: 298 :: 299 :: 300 :: 302 :: 303 :: 305 :: 306 :: 307 :: 310 :: 311 :: 312 :: 315 :: 316 :: 317 :: 319 :: 320 :: 322 :: 323 :: 324 :: 326 :: 327 :: 329 :: 330 :: 345 :: 347 :: 348 :: 350 :: 351 :: 352 :: 354 :: 355 :: 357 :: 358 :: 359 :: 361 :: 362 :: 364 :: 365 :: 366 :: 368 :: 369 :: 371 :: 372 :: 373 :: 375 :: 376 :: 378 :: 379 :: 380 :: 383 :: 384 :: 385 :: 387 :: 388 :: 390 :: 391 :: 392 :: 395 :: 396 :: 397 :: 399 :: 400 :: 402 :: 403 :: []
theorem keysK : ∀ P, asK = (heapK P).map (·.1) := fun _ => by kernel_rfl
def vw : Program := { PySem.Challenge.pw_lidprice_k15_what_makes_no_box with main := { (PySem.Challenge.pw_lidprice_k15_what_makes_no_box).main with body := [top 0, top 2, top 3, top 4, top 6, top 7, top 8, top 9, top 10, top 11, top 12, top 14, top 15, top 16, top 17, top 18, top 19, top 20, top 21, top 23, top 24, top 25, top 26, top 27, top 28, top 29, top 30, top 31, top 32, top 33, top 34, top 36, top 37, top 38, top 39, top 40, top 41, top 42, top 43, top 44, top 45, top 46, top 47, top 48] } }
def xtK (s : Shared) : Bool := W.xlAt vw [] s && W.recOk (W.RowW.records (W.OpenRow.toRowW (W.OpenLaw.row PySem.Challenge.rw_lidprice_k15_what_makes_no_box))) s
theorem leftK : W.LeftO PySem.Challenge.pw_lidprice_k15_what_makes_no_box vw [] xtK (W.Hook.obs (W.kHook heapK asK keysK)) (W.Hook.val (W.kHook heapK asK keysK)) 6278 :=
  L2.left_run (Tb := t0) (Tf := t3) (nf := 404) (kf := 688) (env := envK) (C := codeK) (gs := gs) (m0 := 11) (ann := (some (.ref 6))) (by kernel_rfl) (by decide) (fun _ => by kernel_rfl) (fun _ => by kernel_rfl) preK blkK (c := 1462 + (1203 + (114 + (2)))) (fun w os => L2.run_app (run1 w os) (L2.run_app (run2 w os) (L2.run_app (run3 w os) (runE w os)))) (by decide) (fun _ => by kernel_rfl)
end
end K15
open PySem PySem.W PyProof.Rows
set_option maxRecDepth 100000 in
set_option maxHeartbeats 0 in
theorem PySem.Challenge.cw_lidprice_k15_what_makes_no_box_holds : PySem.Challenge.rw_lidprice_k15_what_makes_no_box.Holds := by
  w_on; o_law
  refine PySem.W.holds_open (N := 6278) (q := K15.vw) (loose := []) (Xt := K15.xtK) (XP := PySem.W.XL K15.vw [])
    (Yf := PySem.W.Hook.obs (PySem.W.kHook K15.heapK K15.asK K15.keysK)) (Ya := PySem.W.Hook.val (PySem.W.kHook K15.heapK K15.asK K15.keysK))
    (YP := PySem.W.Hook.says (PySem.W.kHook K15.heapK K15.asK K15.keysK)) K15.leftK
    (PySem.W.Hook.of _) (PySem.W.Hook.keeps _) (fun s e => PySem.W.xl_of s (Bool.and_eq_true_iff.mp e).1) PySem.W.XL.keeps
    (by rfl) (by rfl) (by rfl) (fun s e => PySem.W.recFacts_of (Bool.and_eq_true_iff.mp e).2)
    (by rfl) (by first | assumption | decide +kernel) (by decide +kernel)
    ⟨rfl, rfl, rfl, rfl, rfl, by decide +kernel⟩ ?hw ?hc
  case hw => w_witness2
  k_fill
  refine K15.walk (l := PySem.Challenge.rw_lidprice_k15_what_makes_no_box) rfl rfl rfl (fun w h Y => by first | exact PySem.W.kIn_of Y | exact PySem.W.km_in_of Y) ?F
  case F =>
    intro w mg fa h KX G hmg
    refine' K15.all_mk (Pt := 109) KX G hmg ?aC_Stand ?aC_End ?aC_Stage ?aC_NoBox ?aC_LidError ?aC_NoTable ?a1 ?l1 ?c1 ?k1 ?a2 ?l2 ?c2 ?k2 ?a3 ?l3 ?c3 ?k3 ?a4 ?l4 ?c4 ?k4 ?a5 ?l5 ?c5 ?k5 ?a6 ?l6 ?c6 ?k6 ?a7 ?l7 ?c7 ?k7 ?a8 ?l8 ?c8 ?k8 ?a9 ?l9 ?c9 ?k9 ?a10 ?l10 ?c10 ?k10 ?a11 ?l11 ?c11 ?k11 ?a12 ?l12 ?c12 ?k12 ?a13 ?l13 ?c13 ?k13 ?a14 ?l14 ?c14 ?k14 ?a15 ?l15 ?c15 ?k15 ?a16 ?l16 ?c16 ?k16 ?a17 ?l17 ?c17 ?k17 ?a18 ?l18 ?c18 ?k18 ?a19 ?l19 ?c19 ?k19 ?a20 ?l20 ?c20 ?k20 ?a21 ?l21 ?c21 ?k21 ?a22 ?l22 ?c22 ?k22 ?a23 ?l23 ?c23 ?k23 ?a24 ?l24 ?c24 ?k24 ?a25 ?l25 ?c25 ?k25 ?a26 ?l26 ?c26 ?k26 ?a27 ?l27 ?c27 ?k27 ?a28 ?l28 ?c28 ?k28 ?a29 ?i29 ?l29 ?c29 ?k29 ?a30 ?i30 ?l30 ?c30 ?k30 ?a31 ?i31 ?l31 ?c31 ?k31 ?a32 ?i32 ?l32 ?c32 ?k32 ?a33 ?i33 ?l33 ?c33 ?k33 ?a34 ?i34 ?l34 ?c34 ?k34 ?hn ?htk ?pgE ?hdE ?poE ?saE ?mkE ?kcE ?haE ?hmE ?nE1 ?nE2 ?nE3 ?nE4 ?nE5 ?vE_ends ?vE_stages ?vE_caps ?pgS ?hdS ?poS ?saS ?mkS ?kcS ?haS ?hmS ?nS1 ?nS2 ?nS3 ?nS4 ?nS5 ?nS6 ?vS_ends ?vS_stages ?vS_caps ?qEE ?qSE ?qSS ?uga ?urd ?uat ?uhd ?xc ?gaX ?gtX ?mbX ?clX ?fiX ?spX ?tkX ?mrX ?exX ?k1X ?k2X ?k3X ?cnT ?cnE0 ?cnS0 ?cnE1 ?cnS1 ?cnE2 ?cnS2 ?cnE3 ?cnS3 ?cnE4 ?cnS4 ?y_ValueError ?y_abs ?y_all ?y_bool ?y_int ?y_isinstance ?y_len ?y_list ?y_max ?y_min ?y_range ?y_reversed ?y_sorted ?y_sum ?y_tuple ?yg_MOST_WEIGHT ?yg_MOST_STAGE_ROWS ?yg_MOST_BOXES ?yg_MOST_WORTH ?yg_MOST_STAGES ?yg_MOST_ENDS ?yg_MOST_PRICE ?tb ?ch ?np
    (case aC_Stand => first | k_is | kit_is)
    (case aC_End => first | k_is | kit_is)
    (case aC_Stage => first | k_is | kit_is)
    (case aC_NoBox => first | k_is | kit_is)
    (case aC_LidError => first | k_is | kit_is)
    (case aC_NoTable => first | k_is | kit_is)
    (case a1 => first | k_is | kit_is)
    (case l1 => first | k_is | kit_is)
    (case c1 => first | k_is | kit_is)
    (case k1 => first | k_is | kit_is)
    (case a2 => first | k_is | kit_is)
    (case l2 => first | k_is | kit_is)
    (case c2 => first | k_is | kit_is)
    (case k2 => first | k_is | kit_is)
    (case a3 => first | k_is | kit_is)
    (case l3 => first | k_is | kit_is)
    (case c3 => first | k_is | kit_is)
    (case k3 => first | k_is | kit_is)
    (case a4 => first | k_is | kit_is)
    (case l4 => first | k_is | kit_is)
    (case c4 => first | k_is | kit_is)
    (case k4 => first | k_is | kit_is)
    (case a5 => first | k_is | kit_is)
    (case l5 => first | k_is | kit_is)
    (case c5 => first | k_is | kit_is)
    (case k5 => first | k_is | kit_is)
    (case a6 => first | k_is | kit_is)
    (case l6 => first | k_is | kit_is)
    (case c6 => first | k_is | kit_is)
    (case k6 => first | k_is | kit_is)
    (case a7 => first | k_is | kit_is)
    (case l7 => first | k_is | kit_is)
    (case c7 => first | k_is | kit_is)
    (case k7 => first | k_is | kit_is)
    (case a8 => first | k_is | kit_is)
    (case l8 => first | k_is | kit_is)
    (case c8 => first | k_is | kit_is)
    (case k8 => first | k_is | kit_is)
    (case a9 => first | k_is | kit_is)
    (case l9 => first | k_is | kit_is)
    (case c9 => first | k_is | kit_is)
    (case k9 => first | k_is | kit_is)
    (case a10 => first | k_is | kit_is)
    (case l10 => first | k_is | kit_is)
    (case c10 => first | k_is | kit_is)
    (case k10 => first | k_is | kit_is)
    (case a11 => first | k_is | kit_is)
    (case l11 => first | k_is | kit_is)
    (case c11 => first | k_is | kit_is)
    (case k11 => first | k_is | kit_is)
    (case a12 => first | k_is | kit_is)
    (case l12 => first | k_is | kit_is)
    (case c12 => first | k_is | kit_is)
    (case k12 => first | k_is | kit_is)
    (case a13 => first | k_is | kit_is)
    (case l13 => first | k_is | kit_is)
    (case c13 => first | k_is | kit_is)
    (case k13 => first | k_is | kit_is)
    (case a14 => first | k_is | kit_is)
    (case l14 => first | k_is | kit_is)
    (case c14 => first | k_is | kit_is)
    (case k14 => first | k_is | kit_is)
    (case a15 => first | k_is | kit_is)
    (case l15 => first | k_is | kit_is)
    (case c15 => first | k_is | kit_is)
    (case k15 => first | k_is | kit_is)
    (case a16 => first | k_is | kit_is)
    (case l16 => first | k_is | kit_is)
    (case c16 => first | k_is | kit_is)
    (case k16 => first | k_is | kit_is)
    (case a17 => first | k_is | kit_is)
    (case l17 => first | k_is | kit_is)
    (case c17 => first | k_is | kit_is)
    (case k17 => first | k_is | kit_is)
    (case a18 => first | k_is | kit_is)
    (case l18 => first | k_is | kit_is)
    (case c18 => first | k_is | kit_is)
    (case k18 => first | k_is | kit_is)
    (case a19 => first | k_is | kit_is)
    (case l19 => first | k_is | kit_is)
    (case c19 => first | k_is | kit_is)
    (case k19 => first | k_is | kit_is)
    (case a20 => first | k_is | kit_is)
    (case l20 => first | k_is | kit_is)
    (case c20 => first | k_is | kit_is)
    (case k20 => first | k_is | kit_is)
    (case a21 => first | k_is | kit_is)
    (case l21 => first | k_is | kit_is)
    (case c21 => first | k_is | kit_is)
    (case k21 => first | k_is | kit_is)
    (case a22 => first | k_is | kit_is)
    (case l22 => first | k_is | kit_is)
    (case c22 => first | k_is | kit_is)
    (case k22 => first | k_is | kit_is)
    (case a23 => first | k_is | kit_is)
    (case l23 => first | k_is | kit_is)
    (case c23 => first | k_is | kit_is)
    (case k23 => first | k_is | kit_is)
    (case a24 => first | k_is | kit_is)
    (case l24 => first | k_is | kit_is)
    (case c24 => first | k_is | kit_is)
    (case k24 => first | k_is | kit_is)
    (case a25 => first | k_is | kit_is)
    (case l25 => first | k_is | kit_is)
    (case c25 => first | k_is | kit_is)
    (case k25 => first | k_is | kit_is)
    (case a26 => first | k_is | kit_is)
    (case l26 => first | k_is | kit_is)
    (case c26 => first | k_is | kit_is)
    (case k26 => first | k_is | kit_is)
    (case a27 => first | k_is | kit_is)
    (case l27 => first | k_is | kit_is)
    (case c27 => first | k_is | kit_is)
    (case k27 => first | k_is | kit_is)
    (case a28 => first | k_is | kit_is)
    (case l28 => first | k_is | kit_is)
    (case c28 => first | k_is | kit_is)
    (case k28 => first | k_is | kit_is)
    (case a29 => first | k_is | kit_is)
    (case i29 => first | k_is | kit_is)
    (case l29 => first | k_is | kit_is)
    (case c29 => first | k_is | kit_is)
    (case k29 => first | k_is | kit_is)
    (case a30 => first | k_is | kit_is)
    (case i30 => first | k_is | kit_is)
    (case l30 => first | k_is | kit_is)
    (case c30 => first | k_is | kit_is)
    (case k30 => first | k_is | kit_is)
    (case a31 => first | k_is | kit_is)
    (case i31 => first | k_is | kit_is)
    (case l31 => first | k_is | kit_is)
    (case c31 => first | k_is | kit_is)
    (case k31 => first | k_is | kit_is)
    (case a32 => first | k_is | kit_is)
    (case i32 => first | k_is | kit_is)
    (case l32 => first | k_is | kit_is)
    (case c32 => first | k_is | kit_is)
    (case k32 => first | k_is | kit_is)
    (case a33 => first | k_is | kit_is)
    (case i33 => first | k_is | kit_is)
    (case l33 => first | k_is | kit_is)
    (case c33 => first | k_is | kit_is)
    (case k33 => first | k_is | kit_is)
    (case a34 => first | k_is | kit_is)
    (case i34 => first | k_is | kit_is)
    (case l34 => first | k_is | kit_is)
    (case c34 => first | k_is | kit_is)
    (case k34 => first | k_is | kit_is)
    (case hn => first | k_is | kit_is)
    (case htk => first | k_is | kit_is)
    (case pgE => first | k_is | kit_is)
    (case hdE => first | k_is | kit_is)
    (case poE => first | k_is | kit_is)
    (case saE => first | k_is | kit_is)
    (case mkE => first | k_is | kit_is)
    (case kcE => first | k_is | kit_is)
    (case haE => first | k_is | kit_is)
    (case hmE => first | k_is | kit_is)
    (case nE1 => first | k_is | kit_is)
    (case nE2 => first | k_is | kit_is)
    (case nE3 => first | k_is | kit_is)
    (case nE4 => first | k_is | kit_is)
    (case nE5 => first | k_is | kit_is)
    (case vE_ends => first | k_is | kit_is)
    (case vE_stages => first | k_is | kit_is)
    (case vE_caps => first | k_is | kit_is)
    (case pgS => first | k_is | kit_is)
    (case hdS => first | k_is | kit_is)
    (case poS => first | k_is | kit_is)
    (case saS => first | k_is | kit_is)
    (case mkS => first | k_is | kit_is)
    (case kcS => first | k_is | kit_is)
    (case haS => first | k_is | kit_is)
    (case hmS => first | k_is | kit_is)
    (case nS1 => first | k_is | kit_is)
    (case nS2 => first | k_is | kit_is)
    (case nS3 => first | k_is | kit_is)
    (case nS4 => first | k_is | kit_is)
    (case nS5 => first | k_is | kit_is)
    (case nS6 => first | k_is | kit_is)
    (case vS_ends => first | k_is | kit_is)
    (case vS_stages => first | k_is | kit_is)
    (case vS_caps => first | k_is | kit_is)
    (case qEE => first | k_is | kit_is)
    (case qSE => first | k_is | kit_is)
    (case qSS => first | k_is | kit_is)
    (case uga => first | k_is | kit_is | kernel_rfl)
    (case urd => first | k_is | kit_is | kernel_rfl)
    (case uat => first | k_is | kit_is | kernel_rfl)
    (case uhd => first | k_is | kit_is | kernel_rfl)
    (case xc => first | k_is | kit_is | kernel_rfl)
    (case gaX => first | k_is | kit_is | kernel_rfl)
    (case gtX => first | k_is | kit_is | kernel_rfl)
    (case mbX => first | k_is | kit_is | kernel_rfl)
    (case clX => first | k_is | kit_is | kernel_rfl)
    (case fiX => first | k_is | kit_is | kernel_rfl)
    (case spX => first | k_is | kit_is | kernel_rfl)
    (case tkX => first | k_is | kit_is | kernel_rfl)
    (case mrX => first | k_is | kit_is | kernel_rfl)
    (case exX => first | k_is | kit_is | kernel_rfl)
    (case k1X => first | k_is | kit_is | kernel_rfl)
    (case k2X => first | k_is | kit_is | kernel_rfl)
    (case k3X => first | k_is | kit_is | kernel_rfl)
    (case cnT => first | k_is | kit_is | kernel_rfl)
    (case cnE0 => first | k_is | kit_is | kernel_rfl)
    (case cnS0 => first | k_is | kit_is | kernel_rfl)
    (case cnE1 => first | k_is | kit_is | kernel_rfl)
    (case cnS1 => first | k_is | kit_is | kernel_rfl)
    (case cnE2 => first | k_is | kit_is | kernel_rfl)
    (case cnS2 => first | k_is | kit_is | kernel_rfl)
    (case cnE3 => first | k_is | kit_is | kernel_rfl)
    (case cnS3 => first | k_is | kit_is | kernel_rfl)
    (case cnE4 => first | k_is | kit_is | kernel_rfl)
    (case cnS4 => first | k_is | kit_is | kernel_rfl)
    (case y_ValueError => first | k_is | kit_is)
    (case y_abs => first | k_is | kit_is)
    (case y_all => first | k_is | kit_is)
    (case y_bool => first | k_is | kit_is)
    (case y_int => first | k_is | kit_is)
    (case y_isinstance => first | k_is | kit_is)
    (case y_len => first | k_is | kit_is)
    (case y_list => first | k_is | kit_is)
    (case y_max => first | k_is | kit_is)
    (case y_min => first | k_is | kit_is)
    (case y_range => first | k_is | kit_is)
    (case y_reversed => first | k_is | kit_is)
    (case y_sorted => first | k_is | kit_is)
    (case y_sum => first | k_is | kit_is)
    (case y_tuple => first | k_is | kit_is)
    (case yg_MOST_WEIGHT => first | k_is | kit_is)
    (case yg_MOST_STAGE_ROWS => first | k_is | kit_is)
    (case yg_MOST_BOXES => first | k_is | kit_is)
    (case yg_MOST_WORTH => first | k_is | kit_is)
    (case yg_MOST_STAGES => first | k_is | kit_is)
    (case yg_MOST_ENDS => first | k_is | kit_is)
    (case yg_MOST_PRICE => first | k_is | kit_is)
    (case tb => kernel_rfl); (case ch => kernel_rfl); (case np => kernel_rfl)
