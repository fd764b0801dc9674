import PyProof.Rows.All
import Wide.All
import OpenK.AllK
import Wide.FinOn
import Lean
import PyProof.EqAt
import PyProof.EqKinds
import PyProof.TupleCall
import PyProof.NeKinds
import KE.KRevSl
import KE.KRevIter
import PyProof.ConsumeWalk
import KE.KSortAsk
import KE.KLam
import KE.KSortTup
import PyProof.Rows.SumAny
import PyProof.EnumStmt
import PyProof.EnumMake
import PyProof.Rows.EnumRows
import PyProof.Rows.FactsN_abs
import PyProof.ListRange
import PyProof.FitsBits
import PyProof.Rows.IntMath
import PySem.Challenge.RW_lackstretch_k26_whole_lengths_together
set_option Elab.async false
set_option linter.all false
set_option maxRecDepth 100000
namespace L2
open PySem PySem.Spec PyProof.Rows
abbrev Key := Sum Int Str
def keyIs : Key → Value → Bool
  | .inl k, v => Value.isInt k v
  | .inr x, v => Value.isStrOf x v
def keyH (w : World) : Key → Int
  | .inl k => hashInt k
  | .inr x => hashStr w x
theorem keyIs_shape : ∀ {k : Key} {v : Value}, keyIs k v = true → (∃ i t, k = Sum.inl i ∧ v = Value.int i t) ∨ (∃ x t, k = Sum.inr x ∧ v = Value.str x t)
  | .inl i, v, h => by
    obtain ⟨t, e⟩ := Value.isInt_shape (k := i) (v := v) h
    exact .inl ⟨i, t, rfl, e⟩
  | .inr x, v, h => by
    obtain ⟨t, e⟩ := Value.isStrOf_shape (x := x) (v := v) h
    exact .inr ⟨x, t, rfl, e⟩
theorem key_ll (a b : Int) : decide ((Sum.inl a : Key) = Sum.inl b) = (a == b) := by
  by_cases e : a = b
  · subst e; simp
  · have h : ¬ (Sum.inl a : Key) = Sum.inl b := fun q => e (Sum.inl.inj q)
    rw [decide_eq_false h]
    exact (beq_eq_false_iff_ne.mpr e).symm
theorem key_rr (a b : Str) : decide ((Sum.inr a : Key) = Sum.inr b) = decide (a = b) := by
  by_cases e : a = b
  · subst e; simp
  · have h : ¬ (Sum.inr a : Key) = Sum.inr b := fun q => e (Sum.inr.inj q)
    rw [decide_eq_false h, decide_eq_false e]
theorem key_lr (a : Int) (b : Str) : decide ((Sum.inl a : Key) = Sum.inr b) = false := decide_eq_false (fun q => nomatch q)
theorem key_rl (a : Str) (b : Int) : decide ((Sum.inr a : Key) = Sum.inl b) = false := decide_eq_false (fun q => nomatch q)
def mixKind (prog : Program) (w : World) : PySem.KeyKind prog w Key where
  is := keyIs
  hash := keyH w
  inj := fun v a b ha hb => by
    rcases keyIs_shape ha with ⟨i, t, rfl, rfl⟩ | ⟨x, t, rfl, rfl⟩
    · rcases keyIs_shape hb with ⟨j, u, rfl, e⟩ | ⟨y, u, rfl, e⟩
      · injection e with e1 _; rw [e1]
      · exact nomatch e
    · rcases keyIs_shape hb with ⟨j, u, rfl, e⟩ | ⟨y, u, rfl, e⟩
      · exact nomatch e
      · injection e with e1 _; rw [e1]
  byValue := fun k v h => by
    rcases keyIs_shape h with ⟨i, t, rfl, rfl⟩ | ⟨x, t, rfl, rfl⟩ <;> rfl
  pyHash := fun hv h => by
    rcases keyIs_shape hv with ⟨i, t, rfl, rfl⟩ | ⟨x, t, rfl, rfl⟩
    · exact wpAny_pyHash_int h
    · exact wpAny_pyHash_str h
  eqBool := fun hu hv h => by
    rcases keyIs_shape hu with ⟨i, t, rfl, rfl⟩ | ⟨x, t, rfl, rfl⟩
    · rcases keyIs_shape hv with ⟨j, u, rfl, rfl⟩ | ⟨y, u, rfl, rfl⟩
      · rw [key_ll] at h; exact wpAny_eqBool_int h
      · rw [key_lr] at h; exact SeqAt.EqAt.int_str i t y u _ _ _ _ h
    · rcases keyIs_shape hv with ⟨j, u, rfl, rfl⟩ | ⟨y, u, rfl, rfl⟩
      · rw [key_rl] at h; exact SeqAt.EqAt.str_int x t j u _ _ _ _ h
      · rw [key_rr] at h; exact wpAny_eqBool_str h
  «strs» := fun k x t v h => by
    rcases keyIs_shape h with ⟨i, u, rfl, e⟩ | ⟨y, u, rfl, e⟩
    · exact nomatch e
    · injection e with e1 _
      subst e1
      cases v <;> rfl
end L2
namespace L2
open PySem PySem.Spec PyProof.Rows
inductive V where
  | non | bl (b : Bool) | int (i : Int) | str (x : Str) | byt (b : Array UInt8) | flt (b : UInt64) | ref (a : Addr) | ty (n : String)
  deriving DecidableEq
def RelV : V → Value → Prop
  | .non, u => u = Value.none
  | .bl b, u => u = Value.bool b
  | .int i, u => ∃ t, u = Value.int i t
  | .str x, u => ∃ t, u = Value.str x t
  | .byt b, u => ∃ t, u = Value.bytes b t
  | .flt b, u => ∃ t, u = Value.float b t
  | .ref a, u => u = Value.ref a
  | .ty n, u => u = Value.type n
abbrev Vals : List V → List Value → Prop := Paired RelV
theorem Vals.length {xs : List V} {us : List Value} (r : Vals xs us) : xs.length = us.length := Paired.length r
theorem Vals.get : ∀ {xs : List V} {us : List Value} {i : Nat} {x : V}, Vals xs us → xs[i]? = some x → ∃ u, us[i]? = some u ∧ RelV x u
  | _, _, _, _, .nil, e => by simp at e
  | _, _, 0, _, .cons r _, e => by simp at e; subst e; exact ⟨_, rfl, r⟩
  | _, _, i + 1, x, .cons _ t, e => by
    obtain ⟨u, h1, h2⟩ := Vals.get (i := i) (x := x) t (by simpa using e)
    exact ⟨u, by simpa using h1, h2⟩
theorem Vals.set {x : V} {u : Value} (r : RelV x u) : ∀ {xs : List V} {us : List Value} (i : Nat), Vals xs us → Vals (xs.set i x) (us.set i u)
  | _, _, _, .nil => .nil
  | _, _, 0, .cons _ t => .cons r t
  | _, _, i + 1, .cons q t => .cons q (Vals.set r i t)
theorem Vals.append : ∀ {xs ys : List V} {us ws : List Value}, Vals xs us → Vals ys ws → Vals (xs ++ ys) (us ++ ws)
  | _, _, _, _, .nil, s => s
  | _, _, _, _, .cons r t, s => .cons r (Vals.append t s)
theorem Vals.take : ∀ {xs : List V} {us : List Value} (n : Nat), Vals xs us → Vals (xs.take n) (us.take n)
  | _, _, 0, _ => .nil
  | _, _, _ + 1, .nil => .nil
  | _, _, n + 1, .cons r t => .cons r (Vals.take n t)
theorem Vals.drop : ∀ {xs : List V} {us : List Value} (n : Nat), Vals xs us → Vals (xs.drop n) (us.drop n)
  | _, _, 0, r => r
  | _, _, _ + 1, .nil => .nil
  | _, _, n + 1, .cons _ t => Vals.drop n t
theorem Vals.none_of : ∀ {xs : List V} {us : List Value} {i : Nat}, Vals xs us → xs[i]? = none → us[i]? = none := fun {xs us i} r e => by
  have h1 := r.length
  have h2 : xs.length ≤ i := List.getElem?_eq_none_iff.mp e
  exact List.getElem?_eq_none_iff.mpr (by omega)
def RelO : Option V → Option Value → Prop
  | some v, some u => RelV v u
  | none, none => True
  | _, _ => False
def KV {κ : Type} : List (κ × V) → List (κ × Value) → Prop := Paired fun (p : κ × V) (q : κ × Value) => p.1 = q.1 ∧ RelV p.2 q.2
def kV : Key → V
  | .inl i => .int i
  | .inr x => .str x
inductive HO where
  | lst (xs : List V)
  | tup (xs : List V)
  | dK (kvs : List (Key × V)) | dT (kvs : List (List Key × V))
  | set (S : Int → Bool) (n : Nat)
  | ins (C dx : Addr) (fs : List (Str × V))
  | own (x : Addr)
  | xd (fs : List (Str × V))
  | met (f x : Addr)
  | rng (lo hi : Int)
  | frz (o : Obj) (u : HO)
  | tbl (ps : Array Value)
  | ext (φ : Heap → Prop)
abbrev Hp := Addr → Option HO
def upd (H : Hp) (a : Addr) (o : HO) : Hp := fun b => if b = a then some o else H b
theorem upd_same {H : Hp} {a : Addr} {o : HO} : upd H a o a = some o := by unfold upd; rw [if_pos rfl]
theorem upd_ne {H : Hp} {a b : Addr} {o : HO} (h : b ≠ a) : upd H a o b = H b := by unfold upd; rw [if_neg h]
theorem upd_upd {H : Hp} {a : Addr} {o u : HO} : upd (upd H a o) a u = upd H a u := by
  funext b; unfold upd; split <;> rfl
theorem ne_of {H : Hp} {a b : Addr} {o u : HO} (h : H a = some o) (h' : H b = some u) (d : o ≠ u) : a ≠ b := by
  intro e; subst e; rw [h] at h'; exact d (Option.some.inj h')
theorem ne_of_none {H : Hp} {a b : Addr} {o : HO} (h : H a = some o) (h' : H b = none) : a ≠ b := by
  intro e; subst e; rw [h] at h'; cases h'
section
variable (P : Program) (w : World)
def ObjOk (H : Hp) (h : Heap) (a : Addr) : HO → Prop
  | .lst xs => xs.length ≤ sizeLine ∧ ∃ (its : List Value) (n : Nat), Vals xs its ∧ h.get? a = some { cls := .type "list", data := .seq its.toArray n }
  | .tup xs => xs.length ≤ sizeLine ∧ ∃ its : List Value, Vals xs its ∧ IsTup h a its.toArray
  | .dK kvs => kvs.length ≤ sizeLine ∧ (a == sysModules) = false ∧ ∃ vs, KV kvs vs ∧ h.DictOf (mixKind P w) a vs
  | .dT kvs => kvs.length ≤ sizeLine ∧ (a == sysModules) = false ∧ ∃ xs : List (List Key × Addr × Value),
      Paired (fun (p : List Key × V) (q : List Key × Addr × Value) => p.1 = q.1 ∧ H q.2.1 = some (.tup (p.1.map kV)) ∧ RelV p.2 q.2.2) kvs xs ∧
      ∃ o es ep, h.get? a = some o ∧ o.ExactDict ∧ o.data = .dict es ep ∧ es.toList = xs.map (entryOfKey (tupleKind (mixKind P w))) ∧ (xs.map (·.1)).Nodup
  | .set S n => h.SetOf (intKind P w) a S n
  | .ins C dx fs => H dx = some (.own a) ∧ fs.length ≤ 1000 ∧ dx ≠ a ∧ h.get? a = some (PySem.W.instObj C dx) ∧
      ∃ mA, h.Ns1 dx mA ∧ (∀ f, RelO (fs.lookup f) (mA f)) ∧ PySem.Within mA (fs.map (·.1))
  | .own _ => ∃ o, h.get? a = some o
  | .xd fs => ∃ mA, h.Ns1 a mA ∧ ∀ f, RelO (fs.lookup f) (mA f)
  | .rng lo hi => ∃ t u v, h.get? a = some { cls := .type "range", data := .fields #[.int lo t, .int hi u, .int 1 v] }
  | .frz o u => h.get? a = some o ∧ ObjOk H h a u
  | .tbl ps => h.get? a = some { cls := .none, data := .fields ps }
  | .met f x => h.get? a = some (PySem.W.methodObj (.ref f) (.ref x))
  | .ext φ => φ h ∧ (∃ o, h.get? a = some o) ∧ ∀ h1 h2 : Heap, φ h1 → (∀ o, h1.get? a = some o → h2.get? a = some o) → φ h2
def HOk (H : Hp) (h : Heap) : Prop := ∀ a o, H a = some o → ObjOk P w H h a o
end
section
variable {P : Program} {w : World} {H H' : Hp} {h h' : Heap} {a : Addr} {o : HO}
theorem ObjOk.lt (x : ObjOk P w H h a o) : a < h.objs.size := by
  cases o with
  | lst xs => obtain ⟨_, _, _, _, e⟩ := x; exact Heap.lt_size e
  | tup xs => obtain ⟨_, _, _, p⟩ := x; exact p.lt
  | dK kvs => obtain ⟨_, _, _, _, o, _, _, e, _⟩ := x; exact Heap.lt_size e
  | dT kvs => obtain ⟨_, _, _, _, o, _, _, e, _⟩ := x; exact Heap.lt_size e
  | set S n => obtain ⟨o, _, _, _, e, _⟩ := x; exact Heap.lt_size e
  | ins C dx fs => obtain ⟨_, _, _, e, _⟩ := x; exact Heap.lt_size e
  | own y => obtain ⟨_, e⟩ := x; exact Heap.lt_size e
  | xd fs => obtain ⟨_, ⟨_, _, _, e, _⟩, _⟩ := x; exact Heap.lt_size e
  | rng lo hi => obtain ⟨_, _, _, e⟩ := x; exact Heap.lt_size e
  | frz ob u => obtain ⟨e, _⟩ := x; exact Heap.lt_size e
  | tbl ps => exact Heap.lt_size (show h.get? a = some _ from x)
  | met f y => exact Heap.lt_size (show h.get? a = some _ from x)
  | ext φ => obtain ⟨_, ⟨_, e⟩, _⟩ := x; exact Heap.lt_size e
theorem Paired.mapP {α β : Type} {F G : α → β → Prop} : ∀ {l₁ : List α} {l₂ : List β}, Paired F l₁ l₂ → (∀ a b, F a b → G a b) → Paired G l₁ l₂
  | _, _, .nil, _ => .nil
  | _, _, .cons r t, f => .cons (f _ _ r) (Paired.mapP t f)
theorem ObjOk.stay (x : ObjOk P w H h a o) (k : ∀ b u, (b = a ∨ H b = some (.own a)) → h.get? b = some u → h'.get? b = some u)
    (ho : ∀ b, H b = some (.own a) → H' b = some (.own a)) (ht : ∀ b xs, H b = some (.tup xs) → H' b = some (.tup xs)) : ObjOk P w H' h' a o := by
  induction o with
  | lst xs => obtain ⟨z, its, n, r, e⟩ := x; exact ⟨z, its, n, r, k _ _ (.inl rfl) e⟩
  | tup xs => obtain ⟨z, its, r, ob, e, c⟩ := x; exact ⟨z, its, r, ob, k _ _ (.inl rfl) e, c⟩
  | dK kvs => obtain ⟨z, y, vs, r, ob, es, ep, e, c⟩ := x; exact ⟨z, y, vs, r, ob, es, ep, k _ _ (.inl rfl) e, c⟩
  | dT kvs =>
    obtain ⟨z, y, xs, r, ob, es, ep, e, c⟩ := x
    exact ⟨z, y, xs, Paired.mapP r fun p q z => ⟨z.1, ht _ _ z.2.1, z.2.2⟩, ob, es, ep, k _ _ (.inl rfl) e, c⟩
  | set S n => obtain ⟨ob, es, ep, t, e, c⟩ := x; exact ⟨ob, es, ep, t, k _ _ (.inl rfl) e, c⟩
  | ins C dx fs =>
    obtain ⟨d, z, ne, e, mA, ⟨od, es, ep, e2, c⟩, r⟩ := x
    exact ⟨ho _ d, z, ne, k _ _ (.inl rfl) e, mA, ⟨od, es, ep, k _ _ (.inr d) e2, c⟩, r⟩
  | own y => obtain ⟨ob, e⟩ := x; exact ⟨ob, k _ _ (.inl rfl) e⟩
  | xd fs => obtain ⟨mA, ⟨od, es, ep, e, c⟩, r⟩ := x; exact ⟨mA, ⟨od, es, ep, k _ _ (.inl rfl) e, c⟩, r⟩
  | rng lo hi => obtain ⟨t, u, v, e⟩ := x; exact ⟨t, u, v, k _ _ (.inl rfl) e⟩
  | frz ob u ih => obtain ⟨e, q⟩ := x; exact ⟨k _ _ (.inl rfl) e, ih q⟩
  | tbl ps =>
    have e : h.get? a = some { cls := .none, data := .fields ps } := x
    show h'.get? a = some { cls := .none, data := .fields ps }
    exact k a _ (.inl rfl) e
  | met f y =>
    have e : h.get? a = some (PySem.W.methodObj (.ref f) (.ref y)) := x
    show h'.get? a = some (PySem.W.methodObj (.ref f) (.ref y))
    exact k a _ (.inl rfl) e
  | ext φ => obtain ⟨p, ⟨o, e⟩, st⟩ := x; exact ⟨st _ _ p fun o q => k _ _ (.inl rfl) q, ⟨o, k _ _ (.inl rfl) e⟩, st⟩
theorem HOk.lt (x : HOk P w H h) (e : H a = some o) : a < h.objs.size := (x a o e).lt
theorem HOk.fresh (x : HOk P w H h) (e : h.objs.size ≤ a) : H a = none := by
  cases q : H a with
  | none => rfl
  | some u => exact absurd (Nat.lt_of_lt_of_le (x.lt q) e) (Nat.lt_irrefl _)
theorem HOk.kept (x : HOk P w H h) (k : ∀ b u, h.get? b = some u → h'.get? b = some u) : HOk P w H h' := fun a o e =>
  (x a o e).stay (fun b u _ q => k b u q) (fun _ q => q) fun _ _ q => q
theorem HOk.laid (x : HOk P w H h) (k : ∀ b u, h.get? b = some u → h'.get? b = some u) (hp : h.objs.size ≤ a) (new : ObjOk P w (upd H a o) h' a o) : HOk P w (upd H a o) h' := fun b u e => by
  have hn := x.fresh hp
  by_cases hb : b = a
  · subst hb; rw [upd_same] at e; cases e; exact new
  · rw [upd_ne hb] at e
    exact (x b u e).stay (fun c v _ q => k c v q) (fun c q => by rw [upd_ne (ne_of_none q hn)]; exact q) fun c xs q => by rw [upd_ne (ne_of_none q hn)]; exact q
end
def Rd (H : Hp) (a : Addr) (u : HO) : Prop := H a = some u ∨ ∃ o, H a = some (.frz o u)
theorem Rd.of {H : Hp} {a : Addr} {u : HO} (h : H a = some u) : Rd H a u := .inl h
theorem Rd.ok {P : Program} {w : World} {H : Hp} {h : Heap} {a : Addr} {u : HO} (r : Rd H a u) (x : HOk P w H h) : ObjOk P w H h a u := by
  rcases r with r | ⟨o, r⟩
  · exact x a u r
  · obtain ⟨_, q⟩ := x a _ r
    exact q
def Mut : Option HO → Prop
  | some (.lst _) => True
  | some (.dK _) => True
  | some (.dT _) => True
  | some (.set _ _) => True
  | some (.ins _ _ _) => True
  | some (.ext _) => True
  | _ => False
section
variable {P : Program} {w : World} {H : Hp} {h h' : Heap} {x e : Addr} {o' : HO}
theorem HOk.write (ok : HOk P w H h) (mu : Mut (H x)) (he : e = x ∨ H e = some (.own x)) (k : ∀ b u, b ≠ e → h.get? b = some u → h'.get? b = some u) (heo : ∃ u, h'.get? e = some u)
    (new : ObjOk P w (upd H x o') h' x o') : HOk P w (upd H x o') h' := fun b u q => by
  have nown : ∀ c y, H c = some (.own y) → c ≠ x := fun c y r z => by subst z; rw [r] at mu; exact mu
  have ntup : ∀ c xs, H c = some (.tup xs) → c ≠ x := fun c xs r z => by subst z; rw [r] at mu; exact mu
  by_cases hb : b = x
  · subst hb; rw [upd_same] at q; cases q; exact new
  · rw [upd_ne hb] at q
    by_cases hbe : b = e
    · have q' : H b = some (.own x) := by
        rcases he with z | z
        · exact absurd (hbe.trans z) hb
        · rw [hbe]; exact z
      rw [q] at q'; cases q'
      obtain ⟨v, hv⟩ := heo
      exact ⟨v, by rw [hbe]; exact hv⟩
    · refine (ok b u q).stay (fun c v hc r => k c v ?_ r) (fun c r => by rw [upd_ne (nown c b r)]; exact r) fun c xs r => by rw [upd_ne (ntup c xs r)]; exact r
      rcases hc with rfl | hc
      · exact hbe
      · rintro rfl
        rcases he with z | z
        · exact nown c b hc z
        · rw [hc] at z; cases z; exact hb rfl
end
structure Un (fs ex : List Addr) (H H' : Hp) (h h' : Heap) : Prop where
  keep : ∀ b o, h.get? b = some o → H b = none → b ∉ fs → b ∉ ex → h'.get? b = some o
  slot : ∀ b o, h.get? b = some o → H b = none → b ∈ fs → b ∉ ex → ∃ sl, h'.get? b = some { o with slots := sl }
  free : ∀ b o, h.get? b = some o → H b = none → b ∉ ex → H' b = none
  there : ∀ b o, h.get? b = some o → b ∉ ex → ∃ o', h'.get? b = some o'
  tups : ∀ b xs, H b = some (.tup xs) → H' b = some (.tup xs)
  frzs : ∀ b o u, H b = some (.frz o u) → H' b = some (.frz o u)
  tbls : ∀ b ps, H b = some (.tbl ps) → ∃ more, H' b = some (.tbl (ps ++ more))
section
variable {fs fs' ex ex' : List Addr} {H H1 H2 : Hp} {h h1 h2 h' : Heap} {a x e : Addr} {o : HO}
theorem Un.any (u : Un fs ex H H1 h h1) {b : Addr} {ob : Obj} (q : h.get? b = some ob) (n : H b = none) (hx : b ∉ ex) : ∃ sl, h1.get? b = some { ob with slots := sl } := by
  by_cases hb : b ∈ fs
  · exact u.slot b ob q n hb hx
  · exact ⟨ob.slots, u.keep b ob q n hb hx⟩
theorem Un.trans (a : Un fs ex H H1 h h1) (b : Un fs ex H1 H2 h1 h2) : Un fs ex H H2 h h2 where
  keep := fun c ob q n hc hx => b.keep c ob (a.keep c ob q n hc hx) (a.free c ob q n hx) hc hx
  slot := fun c ob q n hc hx => by
    obtain ⟨sl, e1⟩ := a.slot c ob q n hc hx
    obtain ⟨sl', e2⟩ := b.slot c _ e1 (a.free c ob q n hx) hc hx
    exact ⟨sl', e2⟩
  free := fun c ob q n hx => by
    obtain ⟨o', e1⟩ := a.there c ob q hx
    exact b.free c o' e1 (a.free c ob q n hx) hx
  there := fun c ob q hx => by
    obtain ⟨o', e1⟩ := a.there c ob q hx
    exact b.there c o' e1 hx
  tups := fun c xs q => b.tups c xs (a.tups c xs q)
  frzs := fun c ob xs q => b.frzs c ob xs (a.frzs c ob xs q)
  tbls := fun c ps q => by
    obtain ⟨m1, e1⟩ := a.tbls c ps q
    obtain ⟨m2, e2⟩ := b.tbls c _ e1
    exact ⟨m1 ++ m2, by rw [e2, Array.append_assoc]⟩
theorem Un.kept (k : ∀ b u, h.get? b = some u → h'.get? b = some u) : Un fs ex H H h h' :=
  ⟨fun b ob q _ _ _ => k b ob q, fun b ob q _ _ _ => ⟨ob.slots, k b ob q⟩, fun _ _ _ n _ => n, fun b ob q _ => ⟨ob, k b ob q⟩, fun _ _ q => q, fun _ _ _ q => q, fun _ ps q => ⟨#[], by rw [q]; simp⟩⟩
theorem Un.refl : Un fs ex H H h h := Un.kept fun _ _ q => q
theorem Un.laid (k : ∀ b u, h.get? b = some u → h'.get? b = some u) (hp : h.objs.size ≤ a) (hn : H a = none) : Un fs ex H (upd H a o) h h' where
  keep := fun b u q _ _ _ => k b u q
  slot := fun b u q _ _ _ => ⟨u.slots, k b u q⟩
  free := fun b u q n _ => by rw [upd_ne (Nat.ne_of_lt (Nat.lt_of_lt_of_le (Heap.lt_size q) hp))]; exact n
  there := fun b u q _ => ⟨u, k b u q⟩
  tups := fun b xs q => by rw [upd_ne (ne_of_none q hn)]; exact q
  frzs := fun b u xs q => by rw [upd_ne (ne_of_none q hn)]; exact q
  tbls := fun b ps q => ⟨#[], by rw [upd_ne (ne_of_none q hn), q]; simp⟩
theorem Un.write (mu : Mut (H x)) (he : e = x ∨ H e = some (.own x)) (k : ∀ b u, b ≠ e → h.get? b = some u → h'.get? b = some u) (heo : ∃ u, h'.get? e = some u) : Un fs ex H (upd H x o) h h' := by
  have hx : ∀ b, H b = none → b ≠ x := fun b n z => by subst z; rw [n] at mu; exact mu
  have hb : ∀ b, H b = none → b ≠ e := fun b n z => by
    subst z
    rcases he with r | r
    · exact hx b n r
    · rw [n] at r; cases r
  have hm : ∀ b u, H b = some u → ¬ Mut (some u) → b ≠ x := fun b u q nm z => by subst z; rw [q] at mu; exact nm mu
  refine ⟨fun b u q n _ _ => k b u (hb b n) q, fun b u q n _ _ => ⟨u.slots, k b u (hb b n) q⟩, fun b u q n _ => by rw [upd_ne (hx b n)]; exact n, fun b u q _ => ?_,
    fun b xs q => by rw [upd_ne (hm b _ q fun z => z)]; exact q, fun b u xs q => by rw [upd_ne (hm b _ q fun z => z)]; exact q, fun b ps q => ⟨#[], by rw [upd_ne (hm b _ q fun z => z), q]; simp⟩⟩
  by_cases hbe : b = e
  · subst hbe; exact heo
  · exact ⟨u, k b u hbe q⟩
theorem Un.mono (u : Un fs ex H H1 h h1) (hs : ∀ b ∈ fs, b ∈ fs') (hx : ∀ b ∈ ex, b ∈ ex') : Un fs' ex' H H1 h h1 :=
  ⟨fun b ob q n hb he => u.keep b ob q n (fun z => hb (hs b z)) fun z => he (hx b z), fun _ _ q n _ he => u.any q n fun z => he (hx _ z), fun b ob q n he => u.free b ob q n fun z => he (hx b z), fun b ob q he => u.there b ob q fun z => he (hx b z), u.tups, u.frzs, u.tbls⟩
end
def trk (h : Heap) (H : Hp) : List Addr := (List.range h.objs.size).filter fun a => (H a).isSome
def hidT (h : Heap) (H : Hp) : Heap := PySem.W.hideAll h (trk h H)
theorem hidT_size (h : Heap) (H : Hp) : (hidT h H).objs.size = h.objs.size := PySem.W.hideAll_size _ _
theorem hidT_get {h : Heap} {H : Hp} {b : Addr} {o : Obj} (e : h.get? b = some o) (n : H b = none) : (hidT h H).get? b = some o :=
  PySem.W.hideAll_get _ e fun hm => by
    have q : (H b).isSome = true := (List.mem_filter.mp hm).2
    rw [n] at q; simp at q
theorem of_hidT {h : Heap} {H : Hp} {b : Addr} {o : Obj} (e : (hidT h H).get? b = some o) : h.get? b = some o ∧ H b = none := by
  have e' : h.get? b = some o := PySem.W.of_hideAll (trk h H) e
  refine ⟨e', ?_⟩
  cases q : H b with
  | none => rfl
  | some x =>
    have hm : b ∈ trk h H := List.mem_filter.mpr ⟨List.mem_range.mpr (Heap.lt_size e'), by simp [q]⟩
    have z : (hidT h H).get? b = none := PySem.W.hideAll_none (trk h H) hm
    rw [z] at e; cases e
def allNews (g h : Heap) (L : Addr) : List (Addr × Obj) := (List.range h.objs.size).filterMap fun a => if a = L ∨ (g.get? a).isSome = true then none else (h.get? a).map fun o => (a, o)
def rest (g h : Heap) (L d : Addr) : List (Addr × Obj) := (allNews g h L).filter fun p => decide (p.1 ≠ d)
end L2
namespace L2
open PySem PySem.Spec PyProof.Rows
structure Mod (K : PySem.W.Frag) (mg : Str → Option Value) (base : Heap) : Prop where
  kin : K.In base
  glob : base.Ns mainGlobals mg
  blt : ∃ mb, base.Ns builtinsNs mb ∧ ∀ x : Str, x ≠ "__name__" → mb x = bootBuiltins x
  nolimit : base.NoLimit
structure Cx where
  prog : Program
  w : World
  K : PySem.W.Frag
  mg : Str → Option Value
  base : Heap
  A : Around
  N : List Str
  s₀ : Shared
  H₀ : Hp
  env : Env
  outer : List Env
  stack : List Env
  ex : List Addr
  fn : Str → Bool
  calm : Bool
  pn : List (Addr × Obj)
  xe : Value → Shared → Prop
def frs (l : List Env) : List Addr := l.filterMap (·.frame)
abbrev Cx.fs (X : Cx) : List Addr := frs X.outer
def Vis (sc : Scope) (x : Str) : Prop := sc.names.lookup x = some .local ∨ sc.names.lookup x = some .cell ∨ sc.names.lookup x = some .free
def Loc (sc : Scope) (x : Str) : Prop := sc.names.lookup x = some .local ∨ sc.names.lookup x = some .cell
def Look (env : Env) (h : Heap) (m : Str → Option Value) (x : Str) (u : Value) : Prop :=
  (env.kindOf x = some .local ∧ m x = some u) ∨ ((env.kindOf x = some .cell ∨ env.kindOf x = some .free) ∧ ∃ c, env.cells.lookup x = some c ∧ h.IsCell c (some u))
structure Cx.Ok (X : Cx) : Prop where
  mod : Mod X.K X.mg X.base
  kind : X.env.scope.kind = .function
  glob : X.env.globals = mainGlobals
  blt : X.env.builtins = builtinsNs
  above : X.s₀.heap.objs.size ≤ X.env.locals
  inj : ∀ x y c, X.env.cells.lookup x = some c → X.env.cells.lookup y = some c → x = y
  has : ∀ x, (X.env.kindOf x = some .cell ∨ X.env.kindOf x = some .free) → ∃ c, X.env.cells.lookup x = some c
  cab : ∀ x c, X.fn x = true → X.env.cells.lookup x = some c → X.s₀.heap.objs.size ≤ c
  hd : X.calm = true → X.A.handled = none
  frames : X.A.frames = some X.stack
  stk : X.stack = X.outer ∨ (X.stack = X.env :: X.outer ∧ X.env.frame = some X.env.locals)
  exf : ∀ b ∈ X.ex, b ≠ X.env.locals ∧ ∀ x c, X.env.cells.lookup x = some c → c ≠ b
  bs : ∀ b o, X.base.get? b = some o → X.s₀.heap.get? b = some o ∧ X.H₀ b = none
  bsz : X.base.objs.size ≤ X.s₀.heap.objs.size
  noex : ∀ b o, X.base.get? b = some o → b ∉ X.ex
  exfs : ∀ b ∈ X.ex, b ∉ X.fs
  funs : X.s₀.heap.FunFrames X.base X.outer
  frf : ∀ b ∈ X.fs, X.H₀ b = none
structure Inv (X : Cx) (pins : List (Addr × Obj)) (σ : List (Option V)) (H : Hp) (s : Shared) : Prop where
  ok : X.Ok
  os : s.os = X.s₀.os
  bare : AllBare s.gens
  base : Un X.fs X.ex X.H₀ H X.s₀.heap s.heap
  loc : ∃ m, s.heap.Ns X.env.locals m ∧ ∀ (i : Nat) (x : Str) (v : V), X.N[i]? = some x → σ[i]? = some (some v) → Vis X.env.scope x → ∃ u, RelV v u ∧ Look X.env s.heap m x u
  cell : ∀ x c, X.env.cells.lookup x = some c → ∃ v, s.heap.IsCell c v
  free : H X.env.locals = none
  freeC : ∀ x c, X.env.cells.lookup x = some c → H c = none
  pin : ∀ p ∈ X.pn ++ pins, s.heap.get? p.1 = some p.2 ∧ H p.1 = none ∧ p.1 ≠ X.env.locals ∧ p.1 ∉ X.fs ∧ ∀ v, p.2.data ≠ .cell v
  hok : HOk X.prog X.w H s.heap
  len : σ.length = X.N.length
section
variable {X : Cx} {pins : List (Addr × Obj)} {σ : List (Option V)} {H H' : Hp} {s : Shared} {h' : Heap}
theorem Cx.Ok.nofr (ok : X.Ok) {b : Addr} {o : Obj} (e : X.base.get? b = some o) : b ∉ X.fs := fun hb => by
  have := (ok.funs.mem hb).1
  rw [e] at this; cases this
theorem Inv.bs (I : Inv X pins σ H s) : ∀ b o, X.base.get? b = some o → s.heap.get? b = some o ∧ H b = none := fun b o e =>
  ⟨I.base.keep b o (I.ok.bs b o e).1 (I.ok.bs b o e).2 (I.ok.nofr e) (I.ok.noex b o e), I.base.free b o (I.ok.bs b o e).1 (I.ok.bs b o e).2 (I.ok.noex b o e)⟩
theorem Inv.bk (I : Inv X pins σ H s) : ∀ b o, X.base.get? b = some o → s.heap.get? b = some o := fun b o e => (I.bs b o e).1
theorem Inv.mod (I : Inv X pins σ H s) : Mod X.K X.mg X.base := I.ok.mod
theorem Inv.kIn (I : Inv X pins σ H s) : X.K.In s.heap := I.ok.mod.kin.keeps I.bk
theorem Inv.nolimit (I : Inv X pins σ H s) : s.heap.NoLimit := I.ok.mod.nolimit.keeps I.bk
theorem Inv.fr (I : Inv X pins σ H s) : ∃ m, Fr X.base X.env.locals s.heap m :=
  let ⟨m, hn, _⟩ := I.loc
  ⟨m, hn, I.bk, Nat.le_trans I.ok.bsz I.ok.above⟩
theorem Inv.lt (I : Inv X pins σ H s) : X.env.locals < s.heap.objs.size := let ⟨_, hn, _⟩ := I.loc; hn.lt
theorem Inv.sz (I : Inv X pins σ H s) : X.s₀.heap.objs.size ≤ s.heap.objs.size := Nat.le_trans I.ok.above (Nat.le_of_lt I.lt)
theorem Inv.nofs (I : Inv X pins σ H s) {a : Addr} (h : s.heap.objs.size ≤ a) : a ∉ X.fs := fun hb => by
  obtain ⟨_, o, ho, _⟩ := I.ok.funs.mem hb
  exact absurd (Nat.lt_of_lt_of_le (Heap.lt_size ho) (Nat.le_trans I.sz h)) (Nat.lt_irrefl _)
theorem Inv.cne (I : Inv X pins σ H s) : ∀ x c, X.env.cells.lookup x = some c → c ≠ X.env.locals := fun x c e z => by
  obtain ⟨v, o, ho, hd⟩ := I.cell x c e
  obtain ⟨m, ⟨o', es, ep, ho', hd', _⟩, _⟩ := I.loc
  rw [z, ho'] at ho; cases ho; rw [hd'] at hd; cases hd
theorem Inv.funs (I : Inv X pins σ H s) : s.heap.FunFrames X.base X.outer := by
  have all : ∀ (l : List Env), (∀ b ∈ frs l, b ∈ X.fs) → X.s₀.heap.FunFrames X.base l → s.heap.FunFrames X.base l := by
    intro l
    induction l with
    | nil => intro _ _; trivial
    | cons env r ih =>
      intro hs hl
      obtain ⟨hk, ⟨L, o, hf, hn, ho, hd⟩, hr⟩ := hl
      have hL : L ∈ X.fs := hs L (by unfold frs; rw [List.filterMap_cons, hf]; exact List.mem_cons_self)
      obtain ⟨sl, e⟩ := I.base.slot L o ho (I.ok.frf L hL) hL fun z => I.ok.exfs L z hL
      exact ⟨hk, ⟨L, _, hf, hn, e, hd⟩, ih (fun b hb => hs b (by unfold frs; rw [List.filterMap_cons, hf]; exact List.mem_cons_of_mem _ hb)) hr⟩
  exact all X.outer (fun _ hb => hb) I.ok.funs
theorem Inv.stack (I : Inv X pins σ H s) : s.heap.FunFrames X.base X.stack := by
  rcases I.ok.stk with e | ⟨e, hf⟩
  · rw [e]; exact I.funs
  · rw [e]
    obtain ⟨m, hn, _⟩ := I.loc
    refine .cons (by rw [I.ok.kind]; decide) hf hn ?_ I.funs
    exact Heap.get?_none_of_le (Nat.le_trans I.ok.bsz I.ok.above)
theorem Inv.stkSub (I : Inv X pins σ H s) : ∀ b ∈ frs X.stack, b ∈ X.env.locals :: X.fs := fun b hb => by
  rcases I.ok.stk with e | ⟨e, hf⟩
  · rw [e] at hb; exact List.mem_cons_of_mem _ hb
  · rw [e] at hb
    unfold frs at hb
    rw [List.filterMap_cons, hf] at hb
    exact hb
theorem Inv.stkFree (I : Inv X pins σ H s) : ∀ b ∈ frs X.stack, H b = none := fun b hb => by
  rcases List.mem_cons.mp (I.stkSub b hb) with e | hb
  · rw [e]; exact I.free
  · obtain ⟨_, o, ho, _⟩ := I.ok.funs.mem hb
    exact I.base.free b o ho (I.ok.frf b hb) fun z => I.ok.exfs b z hb
theorem Inv.step {g' : Array GenState} {t' : Nat} {d' : Drawn} {ch : List Addr} (I : Inv X pins σ H s)
    (hch : ∀ b ∈ ch, (b ∈ X.ex ∨ X.s₀.heap.objs.size ≤ b) ∧ b ≠ X.env.locals ∧ (∀ x c, X.env.cells.lookup x = some c → c ≠ b) ∧ ∀ p ∈ X.pn ++ pins, p.1 ≠ b)
    (keep : ∀ b o, b ≠ X.env.locals → b ∉ X.fs → b ∉ ch → s.heap.get? b = some o → H b = none → h'.get? b = some o)
    (slot : ∀ b o, b ≠ X.env.locals → b ∈ X.fs → b ∉ ch → s.heap.get? b = some o → H b = none → ∃ sl, h'.get? b = some { o with slots := sl }) (free : ∀ b o, b ∉ ch → s.heap.get? b = some o → H b = none → H' b = none)
    (there : ∀ b o, b ∉ ch → s.heap.get? b = some o → ∃ o', h'.get? b = some o')
    (tups : ∀ b xs, H b = some (.tup xs) → H' b = some (.tup xs)) (frzs : ∀ b o u, H b = some (.frz o u) → H' b = some (.frz o u)) (tbls : ∀ b ps, H b = some (.tbl ps) → ∃ more, H' b = some (.tbl (ps ++ more)))
    (ns : ∀ m, s.heap.Ns X.env.locals m → h'.Ns X.env.locals m) (hok : HOk X.prog X.w H' h') (hg : AllBare g') :
    Inv X pins σ H' { s with heap := h', gens := g', drawn := d', toks := t' } := by
  have neL : ∀ b o, X.s₀.heap.get? b = some o → b ≠ X.env.locals := fun b o e => Nat.ne_of_lt (Nat.lt_of_lt_of_le (Heap.lt_size e) I.ok.above)
  have neC : ∀ b o, X.s₀.heap.get? b = some o → b ∉ X.ex → b ∉ ch := fun b o e hx hb => by
    rcases (hch b hb).1 with z | z
    · exact hx z
    · exact absurd (Nat.lt_of_lt_of_le (Heap.lt_size e) z) (Nat.lt_irrefl _)
  have cellK : ∀ x c, X.env.cells.lookup x = some c → ∀ v, s.heap.IsCell c v → h'.IsCell c v := fun x c e v ⟨o, ho, hd⟩ => by
    have nch : c ∉ ch := fun z => (hch c z).2.2.1 x c e rfl
    by_cases hc : c ∈ X.fs
    · obtain ⟨sl, q⟩ := slot c o (I.cne x c e) hc nch ho (I.freeC x c e)
      exact ⟨_, q, hd⟩
    · exact ⟨o, keep c o (I.cne x c e) hc nch ho (I.freeC x c e), hd⟩
  refine ⟨I.ok, I.os, hg, ⟨fun b o e n hb hx => ?_, fun b o e n hb hx => ?_, fun b o e n hx => ?_, fun b o e hx => ?_, fun b xs e => tups b xs (I.base.tups b xs e), fun b o xs e => frzs b o xs (I.base.frzs b o xs e), fun b ps e => ?_⟩, ?_, fun x c e => ?_, ?_, fun x c e => ?_, fun p hp => ?_, hok, I.len⟩
  · exact keep b o (neL b o e) hb (neC b o e hx) (I.base.keep b o e n hb hx) (I.base.free b o e n hx)
  · obtain ⟨sl, e1⟩ := I.base.slot b o e n hb hx
    obtain ⟨sl', e2⟩ := slot b _ (neL b o e) hb (neC b o e hx) e1 (I.base.free b o e n hx)
    exact ⟨sl', e2⟩
  · obtain ⟨o', e1⟩ := I.base.there b o e hx
    exact free b o' (neC b o e hx) e1 (I.base.free b o e n hx)
  · obtain ⟨o', e1⟩ := I.base.there b o e hx
    exact there b o' (neC b o e hx) e1
  · obtain ⟨m1, e1⟩ := I.base.tbls b ps e
    obtain ⟨m2, e2⟩ := tbls b _ e1
    exact ⟨m1 ++ m2, by rw [e2, Array.append_assoc]⟩
  · obtain ⟨m, hn, hl⟩ := I.loc
    refine ⟨m, ns m hn, fun i x v e1 e2 e3 => ?_⟩
    obtain ⟨u, r, l⟩ := hl i x v e1 e2 e3
    refine ⟨u, r, ?_⟩
    rcases l with l | ⟨k, c, e, z⟩
    · exact .inl l
    · exact .inr ⟨k, c, e, cellK x c e _ z⟩
  · obtain ⟨v, z⟩ := I.cell x c e
    exact ⟨v, cellK x c e v z⟩
  · obtain ⟨m, ⟨o, _, _, ho, _⟩, _⟩ := I.loc
    exact free _ o (fun z => (hch _ z).2.1 rfl) ho I.free
  · obtain ⟨v, o, ho, hd⟩ := I.cell x c e
    exact free c o (fun z => (hch c z).2.2.1 x c e rfl) ho (I.freeC x c e)
  · obtain ⟨e, n, ne, nf, d⟩ := I.pin p hp
    have nch : p.1 ∉ ch := fun z => (hch p.1 z).2.2.2 p hp rfl
    exact ⟨keep p.1 p.2 ne nf nch e n, free p.1 p.2 nch e n, ne, nf, d⟩
theorem Inv.un {t' : Nat} (I : Inv X pins σ H s) (u : Un X.fs [] H H' s.heap h') (hok : HOk X.prog X.w H' h') : Inv X pins σ H' { s with heap := h', toks := t' } := by
  obtain ⟨m, ⟨o, es, ep, ho, r⟩, _⟩ := id I.loc
  obtain ⟨sl, hL⟩ := u.any ho I.free (by simp)
  exact I.step (g' := s.gens) (d' := s.drawn) (ch := []) (fun _ z => nomatch z) (fun b o _ hb _ e n => u.keep b o e n hb (by simp)) (fun b o _ hb _ e n => u.slot b o e n hb (by simp)) (fun b o _ e n => u.free b o e n (by simp)) (fun b o _ e => u.there b o e (by simp)) u.tups u.frzs u.tbls (fun m' hm => by
    obtain ⟨o', es', ep', ho', r'⟩ := hm
    rw [ho] at ho'; cases ho'
    exact ⟨_, es', ep', hL, r'⟩) hok I.bare
theorem Inv.call {g' : Array GenState} {t' : Nat} {d' : Drawn} {ch : List Addr} (I : Inv X pins σ H s) (u : Un (frs X.stack) ch H H' s.heap h') (hok : HOk X.prog X.w H' h') (hg : AllBare g')
    (hch : ∀ b ∈ ch, (b ∈ X.ex ∨ X.s₀.heap.objs.size ≤ b) ∧ b ≠ X.env.locals ∧ (∀ x c, X.env.cells.lookup x = some c → c ≠ b) ∧ ∀ p ∈ X.pn ++ pins, p.1 ≠ b) :
    Inv X pins σ H' { s with heap := h', gens := g', drawn := d', toks := t' } := by
  obtain ⟨m, ⟨o, es, ep, ho, r⟩, _⟩ := id I.loc
  obtain ⟨sl, hL⟩ := u.any ho I.free fun z => (hch _ z).2.1 rfl
  exact I.step (ch := ch) hch (fun b o hL hb hc e n => u.keep b o e n (fun z => (List.mem_cons.mp (I.stkSub b z)).elim hL hb) hc) (fun b o _ _ hc e n => u.any e n hc) (fun b o hc e n => u.free b o e n hc) (fun b o hc e => u.there b o e hc) u.tups u.frzs u.tbls (fun m' hm => by
    obtain ⟨o', es', ep', ho', r'⟩ := hm
    rw [ho] at ho'; cases ho'
    exact ⟨_, es', ep', hL, r'⟩) hok hg
theorem Inv.turned {t' : Nat} {it : Addr} (I : Inv X pins σ H s) (k : ∀ b o, b ≠ it → s.heap.get? b = some o → h'.get? b = some o) (hn : H it = none) (hL : it ≠ X.env.locals)
    (h1 : it ∈ X.ex ∨ X.s₀.heap.objs.size ≤ it) (h2 : ∀ x c, X.env.cells.lookup x = some c → c ≠ it) (h3 : ∀ p ∈ X.pn ++ pins, p.1 ≠ it) : Inv X pins σ H { s with heap := h', toks := t' } := by
  have nit : ∀ b u, H b = some u → b ≠ it := fun b u e z => by rw [z, hn] at e; cases e
  refine I.step (g' := s.gens) (d' := s.drawn) (ch := [it]) (fun b hb => ?_) (fun b o _ _ hc e _ => k b o (fun z => hc (by simp [z])) e) (fun b o _ _ hc e _ => ⟨o.slots, k b o (fun z => hc (by simp [z])) e⟩) (fun _ _ _ _ n => n)
    (fun b o hc e => ⟨o, k b o (fun z => hc (by simp [z])) e⟩) (fun _ _ e => e) (fun _ _ _ e => e) (fun b ps e => ⟨#[], by rw [e]; simp⟩) (fun m hm => ?_) (fun b u e => ?_) I.bare
  · have e : b = it := by simpa using hb
    subst e
    exact ⟨h1, hL, h2, h3⟩
  · obtain ⟨o, es, ep, ho, r⟩ := hm
    exact ⟨o, es, ep, k _ o (Ne.symm hL) ho, r⟩
  · refine (I.hok b u e).stay (fun c v hc q => k c v ?_ q) (fun _ q => q) fun _ _ q => q
    rcases hc with z | z
    · rw [z]; exact nit b u e
    · exact nit c _ z
theorem Inv.tok (I : Inv X pins σ H s) (t : Nat) : Inv X pins σ H { s with toks := t } := I.un (h' := s.heap) (t' := t) Un.refl I.hok
theorem Inv.kept {t' : Nat} (I : Inv X pins σ H s) (k : ∀ b u, s.heap.get? b = some u → h'.get? b = some u) : Inv X pins σ H { s with heap := h', toks := t' } := I.un (Un.kept k) (I.hok.kept k)
theorem Inv.laid {a : Addr} {o : HO} {t' : Nat} (I : Inv X pins σ H s) (k : ∀ b u, s.heap.get? b = some u → h'.get? b = some u) (hp : s.heap.objs.size ≤ a) (new : ObjOk X.prog X.w (upd H a o) h' a o) :
    Inv X pins σ (upd H a o) { s with heap := h', toks := t' } := I.un (Un.laid k hp (I.hok.fresh hp)) (I.hok.laid k hp new)
theorem Inv.write {x e : Addr} {o : HO} {t' : Nat} (I : Inv X pins σ H s) (mu : Mut (H x)) (he : e = x ∨ H e = some (.own x)) (k : ∀ b u, b ≠ e → s.heap.get? b = some u → h'.get? b = some u) (heo : ∃ u, h'.get? e = some u)
    (new : ObjOk X.prog X.w (upd H x o) h' x o) : Inv X pins σ (upd H x o) { s with heap := h', toks := t' } := I.un (Un.write mu he k heo) (I.hok.write mu he k heo new)
theorem Inv.weak {σ' : List (Option V)} (I : Inv X pins σ H s) (hl : σ'.length = σ.length) (w : ∀ (i : Nat) v, σ'[i]? = some (some v) → σ[i]? = some (some v)) : Inv X pins σ' H s :=
  ⟨I.ok, I.os, I.bare, I.base, let ⟨m, hn, hl'⟩ := I.loc; ⟨m, hn, fun i x v e1 e2 e3 => hl' i x v e1 (w i v e2) e3⟩, I.cell, I.free, I.freeC, I.pin, I.hok, hl.trans I.len⟩
theorem Inv.pins_of {pins' : List (Addr × Obj)} (I : Inv X pins σ H s) (h : ∀ p ∈ pins', s.heap.get? p.1 = some p.2 ∧ H p.1 = none ∧ p.1 ≠ X.env.locals ∧ p.1 ∉ X.fs ∧ ∀ v, p.2.data ≠ .cell v) : Inv X pins' σ H s :=
  ⟨I.ok, I.os, I.bare, I.base, I.loc, I.cell, I.free, I.freeC, fun p hp => (List.mem_append.mp hp).elim (fun z => I.pin p (List.mem_append_left _ z)) (h p), I.hok, I.len⟩
theorem nodup_ix {N : List Str} (hN : N.Nodup) {i j : Nat} {x : Str} (a : N[i]? = some x) (b : N[j]? = some x) : i = j := by
  obtain ⟨h1, e1⟩ := List.getElem?_eq_some_iff.mp a
  obtain ⟨h2, e2⟩ := List.getElem?_eq_some_iff.mp b
  exact (List.getElem_inj hN).mp (e1.trans e2.symm)
theorem store_ok2 {M : Model} {A : Around} {E : Value → Shared → Prop} {i : Nat} {x : Str} {v : V} {u : Value} {Q : Unit → Shared → Prop} (I : Inv X pins σ H s) (hN : X.N.Nodup) (hi : X.N[i]? = some x) (hx : Loc X.env.scope x) (r : RelV v u)
    (h : ∀ s', Inv X pins (σ.set i (some v)) H s' → (∃ a, Heap.SameBut a s.heap s'.heap ∧ (a = X.env.locals ∨ X.env.cells.lookup x = some a)) → Q () s') (hf : X.fn x = true ∨ X.env.scope.names.lookup x = some .local := by first | exact .inl rfl | exact .inr rfl | assumption) : wpAny M A (storeName X.env x u) Q E s := by
  obtain ⟨m, hn, hl⟩ := id I.loc
  have hcls : (X.env.scope.kind == .class || (X.env.scope.kind == .module && X.env.locals != X.env.globals)) = false := by rw [I.ok.kind]; rfl
  have hiσ : i < σ.length := by rw [I.len]; exact (List.getElem?_eq_some_iff.mp hi).1
  have cne := I.cne
  have tracked : ∀ {a : Addr} {h' : Heap}, (∃ o, s.heap.get? a = some o ∧ H a = none) → Heap.SameBut a s.heap h' → HOk X.prog X.w H h' := fun {a h'} ha hs b ob e => by
    obtain ⟨_, _, hfree⟩ := ha
    refine (I.hok b ob e).stay (fun c w' hc q => (hs.2 c ?_).trans q) (fun _ q => q) fun _ _ q => q
    rintro rfl
    rcases hc with rfl | hc
    · rw [hfree] at e; cases e
    · rw [hfree] at hc; cases hc
  rcases hx with hk | hk
  · refine wpAny_storeName_local hk hn (fun h' hn' hs => ?_) hcls
    obtain ⟨oL, _, _, hoL, _⟩ := id hn
    refine h _ ⟨I.ok, I.os, I.bare, ⟨fun b o e n hb hx => ?_, fun b o e n hb hx => ?_, I.base.free, fun b o e hx => ?_, I.base.tups, I.base.frzs, I.base.tbls⟩, ⟨_, hn', fun j y v' e1 e2 e3 => ?_⟩, fun y c e => ?_, I.free, I.freeC, fun p hp => ?_, tracked ⟨oL, hoL, I.free⟩ hs, by simpa using I.len⟩ ⟨_, hs, .inl rfl⟩
    · exact (hs.2 b (Nat.ne_of_lt (Nat.lt_of_lt_of_le (Heap.lt_size e) I.ok.above))).trans (I.base.keep b o e n hb hx)
    · obtain ⟨sl, e1⟩ := I.base.slot b o e n hb hx
      exact ⟨sl, (hs.2 b (Nat.ne_of_lt (Nat.lt_of_lt_of_le (Heap.lt_size e) I.ok.above))).trans e1⟩
    · obtain ⟨o', e1⟩ := I.base.there b o e hx
      exact ⟨o', (hs.2 b (Nat.ne_of_lt (Nat.lt_of_lt_of_le (Heap.lt_size e) I.ok.above))).trans e1⟩
    · by_cases hj : j = i
      · subst hj
        rw [hi] at e1; cases e1
        rw [List.getElem?_set_self hiσ] at e2
        cases e2
        exact ⟨u, r, .inl ⟨hk, by simp⟩⟩
      · rw [List.getElem?_set_ne (Ne.symm hj)] at e2
        obtain ⟨u', r', q⟩ := hl j y v' e1 e2 e3
        refine ⟨u', r', ?_⟩
        rcases q with ⟨k, e⟩ | ⟨k, c, e, z⟩
        · refine .inl ⟨k, ?_⟩
          have : y ≠ x := fun e => hj (nodup_ix hN e1 (e ▸ hi))
          simp [this, e]
        · exact .inr ⟨k, c, e, z.sameBut hs (cne y c e)⟩
    · obtain ⟨w', z⟩ := I.cell y c e
      exact ⟨w', z.sameBut hs (cne y c e)⟩
    · obtain ⟨e, n, ne, nf, d⟩ := I.pin p hp
      exact ⟨(hs.2 p.1 ne).trans e, n, ne, nf, d⟩
  · have hfn : X.fn x = true := by
      rcases hf with z | z
      · exact z
      · rw [z] at hk; cases hk
    obtain ⟨c, hc⟩ := I.ok.has x (.inl hk)
    obtain ⟨w', z⟩ := I.cell x c hc
    refine wpAny_storeName_cell I.ok.kind hk hc z (fun h' hc' hs => ?_)
    obtain ⟨oc, hoc, hocd⟩ := id z
    refine h { s with heap := h' } ⟨I.ok, I.os, I.bare, ⟨fun b o e n hb hx => ?_, fun b o e n hb hx => ?_, I.base.free, fun b o e hx => ?_, I.base.tups, I.base.frzs, I.base.tbls⟩, ⟨m, hn.sameBut hs (Ne.symm (cne x c hc)), fun j y v' e1 e2 e3 => ?_⟩, fun y c' e => ?_, I.free, I.freeC, fun p hp => ?_, tracked ⟨oc, hoc, I.freeC x c hc⟩ hs, by simpa using I.len⟩ ⟨c, hs, .inr hc⟩
    · exact (hs.2 b (Nat.ne_of_lt (Nat.lt_of_lt_of_le (Heap.lt_size e) (I.ok.cab x c hfn hc)))).trans (I.base.keep b o e n hb hx)
    · obtain ⟨sl, e1⟩ := I.base.slot b o e n hb hx
      exact ⟨sl, (hs.2 b (Nat.ne_of_lt (Nat.lt_of_lt_of_le (Heap.lt_size e) (I.ok.cab x c hfn hc)))).trans e1⟩
    · obtain ⟨o', e1⟩ := I.base.there b o e hx
      exact ⟨o', (hs.2 b (Nat.ne_of_lt (Nat.lt_of_lt_of_le (Heap.lt_size e) (I.ok.cab x c hfn hc)))).trans e1⟩
    · by_cases hj : j = i
      · subst hj
        rw [hi] at e1; cases e1
        rw [List.getElem?_set_self hiσ] at e2
        cases e2
        exact ⟨u, r, .inr ⟨.inl hk, c, hc, hc'⟩⟩
      · rw [List.getElem?_set_ne (Ne.symm hj)] at e2
        obtain ⟨u', r', q⟩ := hl j y v' e1 e2 e3
        refine ⟨u', r', ?_⟩
        rcases q with q | ⟨k, c', e, z'⟩
        · exact .inl q
        · refine .inr ⟨k, c', e, z'.sameBut hs ?_⟩
          rintro rfl
          exact hj (nodup_ix hN e1 (I.ok.inj _ _ _ e hc ▸ hi))
    · by_cases hcc : c' = c
      · subst hcc; exact ⟨_, hc'⟩
      · obtain ⟨w2, z2⟩ := I.cell y c' e
        exact ⟨w2, z2.sameBut hs hcc⟩
    · obtain ⟨e, n, ne, nf, d⟩ := I.pin p hp
      refine ⟨(hs.2 p.1 ?_).trans e, n, ne, nf, d⟩
      intro q
      rw [q, hoc] at e
      have q' : oc = p.2 := Option.some.inj e
      exact d w' (by rw [← q']; exact hocd)
theorem store_ok {M : Model} {A : Around} {E : Value → Shared → Prop} {i : Nat} {x : Str} {v : V} {u : Value} {Q : Unit → Shared → Prop} (I : Inv X pins σ H s) (hN : X.N.Nodup) (hi : X.N[i]? = some x) (hx : Loc X.env.scope x) (r : RelV v u)
    (h : ∀ s', Inv X pins (σ.set i (some v)) H s' → Q () s') (hf : X.fn x = true ∨ X.env.scope.names.lookup x = some .local := by first | exact .inl rfl | exact .inr rfl | assumption) : wpAny M A (storeName X.env x u) Q E s :=
  store_ok2 I hN hi hx r (fun s' I' _ => h s' I') hf
theorem Inv.call' {s' : Shared} {ch : List Addr} (I : Inv X pins σ H s) (ho : s'.os = s.os) (u : Un (frs X.stack) ch H H' s.heap s'.heap) (hok : HOk X.prog X.w H' s'.heap) (hg : AllBare s'.gens)
    (hch : ∀ b ∈ ch, (b ∈ X.ex ∨ X.s₀.heap.objs.size ≤ b) ∧ b ≠ X.env.locals ∧ (∀ x c, X.env.cells.lookup x = some c → c ≠ b) ∧ ∀ p ∈ X.pn ++ pins, p.1 ≠ b) : Inv X pins σ H' s' := by
  obtain ⟨h', g', d', t', o'⟩ := s'
  have e : o' = s.os := ho
  subst e
  exact I.call (g' := g') (t' := t') (d' := d') u hok hg hch
end
abbrev XK := Value → Option Addr → Hp → Prop
abbrev St := List (Option V)
abbrev VK := V → Hp → Prop
abbrev TE := St → Hp → VK → Prop
abbrev TT := St → Hp → (Bool → Hp → Prop) → Prop
abbrev TA := St → Hp → (List V → Hp → Prop) → Prop
structure Ends where
  nx : St → Hp → Prop
  rt : VK
  bk : St → Hp → Prop := fun _ _ => False
  ct : St → Hp → Prop := fun _ _ => False
abbrev TS := Ends → St → Hp → Prop
def EP (X : Cx) (pins : List (Addr × Obj)) (σ : St) (Q : VK) (u : Value) (s' : Shared) : Prop := ∃ v H', Inv X pins σ H' s' ∧ RelV v u ∧ Q v H'
def TP (X : Cx) (pins : List (Addr × Obj)) (σ : St) (Q : Bool → Hp → Prop) (b : Bool) (s' : Shared) : Prop := ∃ H', Inv X pins σ H' s' ∧ Q b H'
def AP (X : Cx) (pins : List (Addr × Obj)) (σ : St) (Q : List V → Hp → Prop) (us : List Value) (s' : Shared) : Prop := ∃ vs H', Inv X pins σ H' s' ∧ Vals vs us ∧ Q vs H'
def SP (X : Cx) (pins : List (Addr × Obj)) (D : Ends) (f : Flow) (s' : Shared) : Prop :=
  match f with
  | .next => ∃ σ' H', Inv X pins σ' H' s' ∧ D.nx σ' H'
  | .brk => ∃ σ' H', Inv X pins σ' H' s' ∧ D.bk σ' H'
  | .cont => ∃ σ' H', Inv X pins σ' H' s' ∧ D.ct σ' H'
  | .ret u => ∃ v σ' H', Inv X pins σ' H' s' ∧ RelV v u ∧ D.rt v H'
def PE (X : Cx) (e : Expr) (t : TE) : Prop :=
  ∀ (pins : List (Addr × Obj)) (s : Shared) (σ : St) (H : Hp) (Q : VK), Inv X pins σ H s → t σ H Q → wpAny (model X.prog X.w) X.A (eval e X.env) (EP X pins σ Q) X.xe s
def PT (X : Cx) (e : Expr) (t : TT) : Prop :=
  ∀ (pins : List (Addr × Obj)) (s : Shared) (σ : St) (H : Hp) (Q : Bool → Hp → Prop), Inv X pins σ H s → t σ H Q → wpAny (model X.prog X.w) X.A (isTrue e X.env (eval e X.env)) (TP X pins σ Q) X.xe s
def PW (X : Cx) (e : Expr) (t : TT) : Prop :=
  ∀ (whole : Sem Value) (pins : List (Addr × Obj)) (s : Shared) (σ : St) (H : Hp) (Q : Bool → Hp → Prop), Inv X pins σ H s → t σ H Q → wpAny (model X.prog X.w) X.A (isTrue e X.env whole) (TP X pins σ Q) X.xe s
theorem PW.pt {X : Cx} {e : Expr} {t : TT} (h : PW X e t) : PT X e t := h _
def PA (X : Cx) (es : List Expr) (t : TA) : Prop :=
  ∀ (pos : Pos) (pins : List (Addr × Obj)) (s : Shared) (σ : St) (H : Hp) (Q : List V → Hp → Prop), Inv X pins σ H s → t σ H Q → wpAny (model X.prog X.w) X.A (spliced (backTo pos (starEach es X.env))) (AP X pins σ Q) X.xe s
def PS (X : Cx) (st : Stmt) (t : TS) : Prop :=
  ∀ (pins : List (Addr × Obj)) (s : Shared) (σ : St) (H : Hp) (D : Ends), Inv X pins σ H s → t D σ H → wpAny (model X.prog X.w) X.A (exec st X.env) (SP X pins D) X.xe s
def PSs (X : Cx) (st : List Stmt) (t : TS) : Prop :=
  ∀ (pins : List (Addr × Obj)) (s : Shared) (σ : St) (H : Hp) (D : Ends), Inv X pins σ H s → t D σ H → wpAny (model X.prog X.w) X.A (execs st X.env) (SP X pins D) X.xe s
theorem thn {α : Type} {t : Sem α} {Q Q' : α → Shared → Prop} {M : Model} {A : Around} {E : Value → Shared → Prop} {s : Shared} (h : wpAny M A t Q E s) (hQ : ∀ a s, Q a s → Q' a s) : wpAny M A t Q' E s := wpAny_mono h hQ fun _ _ x => x
end L2
namespace L2
open PySem PySem.Spec PyProof.Rows
section
variable {X : Cx}
def tVar (i : Nat) : TE := fun σ H Q => ∃ v, σ[i]? = some (some v) ∧ Q v H
def tC (v : V) : TE := fun _ H Q => Q v H
theorem pe_var {i : Nat} {x : Str} {pos : Pos} (hN : X.N[i]? = some x) (hv : Vis X.env.scope x) (hd : (x == ("__debug__" : Str)) = false := by decide) (hcd : (x == ("__classdict__" : Str)) = false := by decide) : PE X (.Name x pos) (tVar i) := by
  intro pins s σ H Q I h
  obtain ⟨v, e, h⟩ := h
  obtain ⟨m, hn, hl⟩ := I.loc
  obtain ⟨u, r, l⟩ := hl i x v hN e hv
  have fin : EP X pins σ Q u s := ⟨v, H, I, r, h⟩
  rcases l with ⟨hk, hm⟩ | ⟨hk, c, hc, hcell⟩
  · exact wpAny_Name (wpAny_loadName_local I.ok.kind hk hn hm fin) hd
  · rcases hk with hk | hk
    · exact wpAny_Name (wpAny_loadName_cell I.ok.kind hk hc hcell fin) hd
    · exact wpAny_Name (wpAny_loadName_free I.ok.kind hk hc hcell fin hcd) hd
theorem pe_int {i j pos} : PE X (.Constant (.int i) j pos) (tC (.int i)) := fun _ _ _ H _ I h => wpAny_Constant_int ⟨.int i, H, I.tok _, ⟨_, rfl⟩, h⟩
theorem pe_bl {b j pos} : PE X (.Constant (.bool b) j pos) (tC (.bl b)) := fun _ _ _ H _ I h => Constant_bool ⟨.bl b, H, I, rfl, h⟩
theorem pe_non {j pos} : PE X (.Constant .none j pos) (tC .non) := fun _ _ _ H _ I h => Constant_none ⟨.non, H, I, rfl, h⟩
def Gl (X : Cx) (x : Str) : Prop := X.env.kindOf x = some .globalImplicit
theorem ld_glob {E : Value → Shared → Prop} {pins : List (Addr × Obj)} {s : Shared} {σ : St} {H : Hp} {x : Str} {u : Value} {pos : Pos} {Q : Value → Shared → Prop} (I : Inv X pins σ H s) (hg : Gl X x) (hm : X.mg x = some u) (h : Q u s)
    (hd : (x == ("__debug__" : Str)) = false := by decide) : wpAny (model X.prog X.w) X.A (eval (.Name x pos) X.env) Q E s :=
  Calls.Name_function_global I.ok.kind hg (Calls.loadGlobal_global (by rw [I.ok.glob]; exact I.mod.glob.keeps I.bk) hm h) hd
theorem ld_blt {E : Value → Shared → Prop} {pins : List (Addr × Obj)} {s : Shared} {σ : St} {H : Hp} {x : Str} {u : Value} {pos : Pos} {Q : Value → Shared → Prop} (I : Inv X pins σ H s) (hg : Gl X x) (hm : X.mg x = none) (hv : bootBuiltins x = some u) (h : Q u s)
    (hn : x ≠ "__name__" := by decide) (hd : (x == ("__debug__" : Str)) = false := by decide) : wpAny (model X.prog X.w) X.A (eval (.Name x pos) X.env) Q E s := by
  obtain ⟨mb, h1, h2⟩ := I.mod.blt
  exact Calls.Name_function_global I.ok.kind hg (Calls.loadGlobal_builtin (by rw [I.ok.glob]; exact I.mod.glob.keeps I.bk) hm (by rw [I.ok.blt]; exact h1.keeps I.bk) ((h2 x hn).trans hv) h) hd
theorem pe_glob {x : Str} {v : V} {u : Value} {pos : Pos} (hg : Gl X x) (hm : X.mg x = some u) (r : RelV v u) (hd : (x == ("__debug__" : Str)) = false := by decide) : PE X (.Name x pos) (tC v) :=
  fun _ _ _ H _ I h => ld_glob I hg hm ⟨v, H, I, r, h⟩ hd
theorem pe_bltn {x : Str} {v : V} {u : Value} {pos : Pos} (hg : Gl X x) (hm : X.mg x = none) (hv : bootBuiltins x = some u) (r : RelV v u) (hn : x ≠ "__name__" := by decide) (hd : (x == ("__debug__" : Str)) = false := by decide) : PE X (.Name x pos) (tC v) :=
  fun _ _ _ H _ I h => ld_blt I hg hm hv ⟨v, H, I, r, h⟩ hn hd
variable {a b : Expr} {ta tb : TE} {pos : Pos}
def tB (t : TE) : TT := fun σ H Q => t σ H fun x H1 => ∃ c, x = .bl c ∧ Q c H1
theorem pt_val {e : Expr} {t : TE} (h : PE X e t) (he : ∀ whole, isTrue e X.env whole = (do let v ← whole; standAt e.pos; holding [v] (truthy v)) := by intro _; rfl) : PT X e (tB t) := by
  intro pins s σ H Q I hw
  refine isTrue_plain (thn (h pins s σ H _ I hw) fun v s1 ⟨x, H1, I1, r1, q1⟩ => ?_) (he _)
  obtain ⟨d, rfl, q⟩ := q1
  cases r1
  exact wpAny_truthy_bool ⟨H1, I1, q⟩
variable {tA tB' : TT} {rest : List Expr}
def tAnd (t u : TT) : TT := fun σ H Q => t σ H fun c H1 => if c = true then u σ H1 Q else Q false H1
def tOr (t u : TT) : TT := fun σ H Q => t σ H fun c H1 => if c = true then Q true H1 else u σ H1 Q
def tNot (t : TT) : TT := fun σ H Q => t σ H fun c H1 => Q (!c) H1
theorem pw_and1 (ha : PT X a tA) : PW X (.BoolOp .And [a] pos) tA := by
  intro wh pins s σ H Q I h
  refine isTrue_and (thn (ha pins s σ H Q I h) fun c s1 e => ?_)
  cases c with
  | true => exact isTrue_and_nil e
  | false => exact e
theorem pw_or1 (ha : PT X a tA) : PW X (.BoolOp .Or [a] pos) tA := by
  intro wh pins s σ H Q I h
  refine isTrue_or (thn (ha pins s σ H Q I h) fun c s1 e => ?_)
  cases c with
  | false => exact isTrue_or_nil e
  | true => exact e
theorem pw_and (ha : PT X a tA) (hb : PW X (.BoolOp .And (b :: rest) pos) tB') : PW X (.BoolOp .And (a :: b :: rest) pos) (tAnd tA tB') := by
  intro wh pins s σ H Q I h
  refine isTrue_and (thn (ha pins s σ H _ I h) fun c s1 ⟨H1, I1, q1⟩ => ?_)
  cases c with
  | true => exact hb wh pins s1 σ H1 Q I1 q1
  | false => exact ⟨H1, I1, q1⟩
theorem pw_or (ha : PT X a tA) (hb : PW X (.BoolOp .Or (b :: rest) pos) tB') : PW X (.BoolOp .Or (a :: b :: rest) pos) (tOr tA tB') := by
  intro wh pins s σ H Q I h
  refine isTrue_or (thn (ha pins s σ H _ I h) fun c s1 ⟨H1, I1, q1⟩ => ?_)
  cases c with
  | true => exact ⟨H1, I1, q1⟩
  | false => exact hb wh pins s1 σ H1 Q I1 q1
theorem pt_not (ha : PT X a tA) : PT X (.UnaryOp .Not a pos) (tNot tA) := by
  intro pins s σ H Q I h
  exact isTrue_not (ha pins s σ H (fun c H1 => Q (!c) H1) I h)
def tAndV (ta tb : TE) : TE := fun σ H Q => ta σ H fun x H1 => ∃ c, x = .bl c ∧ if c = true then tb σ H1 Q else Q (.bl false) H1
def tOrV (ta tb : TE) : TE := fun σ H Q => ta σ H fun x H1 => ∃ c, x = .bl c ∧ if c = true then Q (.bl true) H1 else tb σ H1 Q
def tNotV (ta : TE) : TE := fun σ H Q => ta σ H fun x H1 => ∃ c, x = .bl c ∧ Q (.bl (!c)) H1
theorem pe_one {op} {t : TE} (h : PE X a t) : PE X (.BoolOp op [a] pos) t := fun pins s σ H Q I hw => BoolOp_one (h pins s σ H Q I hw)
theorem pe_and (ha : PE X a ta) (hb : PE X (.BoolOp .And (b :: rest) pos) tb) : PE X (.BoolOp .And (a :: b :: rest) pos) (tAndV ta tb) := by
  intro pins s σ H Q I h
  refine BoolOp_and (thn (ha pins s σ H _ I h) fun v s1 ⟨x, H1, I1, r1, q1⟩ => ?_)
  obtain ⟨c, rfl, q1⟩ := q1
  cases r1
  refine wpAny_truthy_bool ?_
  cases c with
  | true => exact hb pins s1 σ H1 Q I1 q1
  | false => exact ⟨.bl false, H1, I1, rfl, q1⟩
theorem pe_or (ha : PE X a ta) (hb : PE X (.BoolOp .Or (b :: rest) pos) tb) : PE X (.BoolOp .Or (a :: b :: rest) pos) (tOrV ta tb) := by
  intro pins s σ H Q I h
  refine BoolOp_or (thn (ha pins s σ H _ I h) fun v s1 ⟨x, H1, I1, r1, q1⟩ => ?_)
  obtain ⟨c, rfl, q1⟩ := q1
  cases r1
  refine wpAny_truthy_bool ?_
  cases c with
  | false => exact hb pins s1 σ H1 Q I1 q1
  | true => exact ⟨.bl true, H1, I1, rfl, q1⟩
theorem pe_not (ha : PE X a ta) : PE X (.UnaryOp .Not a pos) (tNotV ta) := by
  intro pins s σ H Q I h
  refine UnaryOp_ (thn (ha pins s σ H _ I h) fun v s1 ⟨x, H1, I1, r1, q1⟩ => ?_)
  obtain ⟨c, rfl, q1⟩ := q1
  cases r1
  exact not_of (wpAny_truthy_bool ⟨.bl (!c), H1, I1, rfl, q1⟩)
def tIf (t : TT) (ta tb : TE) : TE := fun σ H Q => t σ H fun c H1 => if c = true then ta σ H1 Q else tb σ H1 Q
theorem pe_ifExp {c : Expr} (hc : PT X c tA) (ha : PE X a ta) (hb : PE X b tb) : PE X (.IfExp c a b pos) (tIf tA ta tb) := by
  intro pins s σ H Q I h
  refine wpAny_IfExp (thn (hc pins s σ H _ I h) fun d s1 ⟨H1, I1, q1⟩ => ?_)
  cases d with
  | true => exact ha pins s1 σ H1 Q I1 q1
  | false => exact hb pins s1 σ H1 Q I1 q1
end
end L2
namespace L2
open PySem PySem.Spec PyProof.Rows
def SqL (K : PySem.W.Frag) (H : Hp) (a : Addr) (xs : List V) : Prop :=
  Rd H a (.lst xs) ∨
    ∃ (o : Obj) (its : Array Value) (n : Nat), K.lookup a = some o ∧ o.cls = .type "list" ∧ o.dict = none ∧ o.data = .seq its n ∧ its.size ≤ sizeLine ∧ Vals xs its.toList
def SqT (K : PySem.W.Frag) (H : Hp) (a : Addr) (xs : List V) : Prop :=
  Rd H a (.tup xs) ∨
    ∃ (o : Obj) (its : Array Value) (n : Nat), K.lookup a = some o ∧ o.cls = .type "tuple" ∧ o.data = .seq its n ∧ its.size ≤ sizeLine ∧ Vals xs its.toList
def absV : Value → Option V
  | .none => some .non
  | .bool b => some (.bl b)
  | .int i _ => some (.int i)
  | .str x _ => some (.str x)
  | .bytes b _ => some (.byt b)
  | .float b _ => some (.flt b)
  | .ref a => some (.ref a)
  | .type n => some (.ty n)
  | _ => none
theorem RelV.abs {x : V} {u : Value} (r : RelV x u) : absV u = some x := by
  cases x with
  | non => cases r; rfl
  | bl _ => cases r; rfl
  | int _ => obtain ⟨t, rfl⟩ := r; rfl
  | str _ => obtain ⟨t, rfl⟩ := r; rfl
  | byt _ => obtain ⟨t, rfl⟩ := r; rfl
  | flt _ => obtain ⟨t, rfl⟩ := r; rfl
  | ref _ => cases r; rfl
  | ty _ => cases r; rfl
theorem RelV.inj {x y : V} {u : Value} (r : RelV x u) (q : RelV y u) : x = y := Option.some.inj (r.abs.symm.trans q.abs)
theorem Vals.inj : ∀ {xs ys : List V} {us : List Value}, Vals xs us → Vals ys us → xs = ys
  | _, _, _, .nil, .nil => rfl
  | _, _, _, .cons r t, .cons r' t' => by rw [r.inj r', Vals.inj t t']
section
variable {X : Cx} {pins : List (Addr × Obj)} {σ : St} {H : Hp} {s : Shared} {a : Addr} {xs ys : List V}
theorem SqL.of {K : PySem.W.Frag} (h : H a = some (.lst xs)) : SqL K H a xs := .inl (.inl h)
theorem SqT.of {K : PySem.W.Frag} (h : H a = some (.tup xs)) : SqT K H a xs := .inl (.inl h)
theorem Inv.list (I : Inv X pins σ H s) (h : SqL X.K H a xs) : ∃ its : List Value, Vals xs its ∧ PlainL s.heap a its.toArray ∧ xs.length ≤ sizeLine := by
  rcases h with h | ⟨o, its, n, hk, hc, hd, hs, hz, r⟩
  · obtain ⟨z, its, n, r, e⟩ := h.ok I.hok
    exact ⟨its, r, ⟨_, n, e, rfl, rfl, rfl⟩, z⟩
  · refine ⟨its.toList, r, ⟨o, n, I.kIn a o hk, hc, hd, by simpa using hs⟩, ?_⟩
    have e := r.length
    simp only [Array.length_toList] at e
    omega
theorem Inv.tuple (I : Inv X pins σ H s) (h : SqT X.K H a xs) : ∃ its : List Value, Vals xs its ∧ IsTup s.heap a its.toArray ∧ xs.length ≤ sizeLine := by
  rcases h with h | ⟨o, its, n, hk, hc, hs, hz, r⟩
  · obtain ⟨z, its, r, p⟩ := h.ok I.hok
    exact ⟨its, r, p, z⟩
  · refine ⟨its.toList, r, ⟨o, I.kIn a o hk, hc, n, by simpa using hs⟩, ?_⟩
    have e := r.length
    simp only [Array.length_toList] at e
    omega
theorem Inv.list_inj (I : Inv X pins σ H s) (h : SqL X.K H a xs) (h' : SqL X.K H a ys) : xs = ys := by
  obtain ⟨its, r, ⟨o, n, e, _, _, d⟩, _⟩ := I.list h
  obtain ⟨its', r', ⟨o', n', e', _, _, d'⟩, _⟩ := I.list h'
  rw [e] at e'; cases e'
  rw [d] at d'
  injection d' with d1 _
  have : its = its' := by simpa using congrArg Array.toList d1
  subst this
  exact r.inj r'
theorem Inv.tuple_inj (I : Inv X pins σ H s) (h : SqT X.K H a xs) (h' : SqT X.K H a ys) : xs = ys := by
  obtain ⟨its, r, ⟨o, e, _, n, d⟩, _⟩ := I.tuple h
  obtain ⟨its', r', ⟨o', e', _, n', d'⟩, _⟩ := I.tuple h'
  rw [e] at e'; cases e'
  rw [d] at d'
  injection d' with d1 _
  have : its = its' := by simpa using congrArg Array.toList d1
  subst this
  exact r.inj r'
end
abbrev Cx.wish (X : Cx) (E : Value → Shared → Prop) : Cx := { X with xe := E }
abbrev Cx.nox (X : Cx) : Cx := X.wish fun _ _ => False
theorem Cx.Ok.wish {X : Cx} (ok : X.Ok) (E : Value → Shared → Prop) : (X.wish E).Ok :=
  ⟨ok.mod, ok.kind, ok.glob, ok.blt, ok.above, ok.inj, ok.has, ok.cab, ok.hd, ok.frames, ok.stk, ok.exf, ok.bs, ok.bsz, ok.noex, ok.exfs, ok.funs, ok.frf⟩
theorem Cx.Ok.unwish {X : Cx} {E : Value → Shared → Prop} (ok : (X.wish E).Ok) : X.Ok :=
  ⟨ok.mod, ok.kind, ok.glob, ok.blt, ok.above, ok.inj, ok.has, ok.cab, ok.hd, ok.frames, ok.stk, ok.exf, ok.bs, ok.bsz, ok.noex, ok.exfs, ok.funs, ok.frf⟩
section
variable {X : Cx} {pins : List (Addr × Obj)} {σ : St} {H : Hp} {s : Shared} {E : Value → Shared → Prop}
theorem Inv.wish (I : Inv X pins σ H s) (E : Value → Shared → Prop) : Inv (X.wish E) pins σ H s := ⟨I.ok.wish E, I.os, I.bare, I.base, I.loc, I.cell, I.free, I.freeC, I.pin, I.hok, I.len⟩
theorem Inv.unwish (I : Inv (X.wish E) pins σ H s) : Inv X pins σ H s := ⟨I.ok.unwish, I.os, I.bare, I.base, I.loc, I.cell, I.free, I.freeC, I.pin, I.hok, I.len⟩
theorem SP.unwish {D : Ends} {f : Flow} {s' : Shared} (h : SP (X.wish E) pins D f s') : SP X pins D f s' := by
  cases f with
  | next => obtain ⟨σ', H', I, q⟩ := h; exact ⟨σ', H', I.unwish, q⟩
  | brk => obtain ⟨σ', H', I, q⟩ := h; exact ⟨σ', H', I.unwish, q⟩
  | cont => obtain ⟨σ', H', I, q⟩ := h; exact ⟨σ', H', I.unwish, q⟩
  | ret u => obtain ⟨v, σ', H', I, r, q⟩ := h; exact ⟨v, σ', H', I.unwish, r, q⟩
theorem PE.nox {e : Expr} {t : TE} (h : PE X.nox e t) : PE X e t := fun pins s σ H Q I hw =>
  wpAny_mono (h pins s σ H Q (I.wish _) hw) (fun _ _ ⟨v, H', I', r, q⟩ => ⟨v, H', I'.unwish, r, q⟩) fun _ _ z => False.elim z
theorem PT.nox {e : Expr} {t : TT} (h : PT X.nox e t) : PT X e t := fun pins s σ H Q I hw =>
  wpAny_mono (h pins s σ H Q (I.wish _) hw) (fun _ _ ⟨H', I', q⟩ => ⟨H', I'.unwish, q⟩) fun _ _ z => False.elim z
theorem PSs.nox {st : List Stmt} {t : TS} (h : PSs X.nox st t) : PSs X st t := fun pins s σ H D I hw =>
  wpAny_mono (h pins s σ H D (I.wish _) hw) (fun _ _ q => q.unwish) fun _ _ z => False.elim z
end
section
variable {X : Cx} {st : Stmt} {rest : List Stmt} {t u : TS} {e : Expr} {te : TE} {pos : Pos}
def tNext : TS := fun D σ H => D.nx σ H
def tSeq (t u : TS) : TS := fun D σ H => t { D with nx := u D } σ H
theorem pss_nil : PSs X [] tNext := fun _ _ σ H _ I h => wpAny_execs_nil ⟨σ, H, I, h⟩
theorem pss_cons (h1 : PS X st t) (h2 : PSs X rest u) : PSs X (st :: rest) (tSeq t u) := by
  intro pins s σ H D I h
  refine wpAny_execs_cons (thn (h1 pins s σ H { D with nx := u D } I h) fun f s1 q => ?_)
  cases f with
  | next =>
    obtain ⟨σ', H', I', q⟩ := q
    exact h2 pins s1 σ' H' D I' q
  | ret v => exact q
  | brk => exact q
  | cont => exact q
theorem pss_one (h1 : PS X st t) : PSs X [st] t := by
  intro pins s σ H D I h
  refine wpAny_execs_cons (thn (h1 pins s σ H D I h) fun f s1 q => ?_)
  cases f with
  | next => exact wpAny_execs_nil q
  | ret v => exact q
  | brk => exact q
  | cont => exact q
theorem Inv.quiet {pins : List (Addr × Obj)} {σ : St} {H : Hp} {s : Shared} (I : Inv X pins σ H s) : interactive X.env = false := by simp [interactive, I.ok.kind]
def tDrop (te : TE) : TS := fun D σ H => te σ H fun _ H1 => D.nx σ H1
theorem ps_expr (he : PE X e te) (hs : swapsWith e none pos.line X.env = pure false := by rfl) : PS X (.Expr e pos) (tDrop te) := by
  intro pins s σ H D I h
  exact wpAny_Expr_any (thn (he pins s σ H _ I h) fun v s1 ⟨x, H1, I1, r1, q1⟩ => ⟨σ, H1, I1, q1⟩) I.quiet hs
def tRet (te : TE) : TS := fun D σ H => te σ H D.rt
theorem ps_ret (he : PE X e te) : PS X (.Return (some e) pos) (tRet te) := by
  intro pins s σ H D I h
  exact wpAny_Return_some (thn (he pins s σ H _ I h) fun v s1 ⟨x, H1, I1, r1, q1⟩ => ⟨x, σ, H1, I1, r1, q1⟩)
def tIfS (c : TT) (t u : TS) : TS := fun D σ H => c σ H fun b H1 => if b = true then t D σ H1 else u D σ H1
theorem ps_if {c : Expr} {a b : List Stmt} {tc : TT} (hc : PT X c tc) (ha : PSs X a t) (hb : PSs X b u) : PS X (.If c a b pos) (tIfS tc t u) := by
  intro pins s σ H D I h
  refine wpAny_If (thn (hc pins s σ H _ I h) fun d s1 ⟨H1, I1, q1⟩ => ?_)
  cases d with
  | true => exact ha pins s1 σ H1 D I1 q1
  | false => exact hb pins s1 σ H1 D I1 q1
def tNever : TS := fun _ _ _ => False
theorem ps_never : PS X st tNever := fun _ _ _ _ _ _ h => h.elim
end
abbrev TG := V → St → Hp → (St → Hp → Prop) → Prop
abbrev TGs := List V → St → Hp → (St → Hp → Prop) → Prop
def PG (X : Cx) (target : Expr) (t : TG) : Prop :=
  ∀ (pins : List (Addr × Obj)) (s : Shared) (σ : St) (H : Hp) (v : V) (u : Value) (Q : St → Hp → Prop), Inv X pins σ H s → RelV v u → t v σ H Q →
    wpAny (model X.prog X.w) X.A (assign target X.env u) (fun _ s' => ∃ σ' H', Inv X pins σ' H' s' ∧ Q σ' H') X.xe s
def PGs (X : Cx) (ts : List Expr) (t : TGs) : Prop :=
  ∀ (pins : List (Addr × Obj)) (s : Shared) (σ : St) (H : Hp) (vs : List V) (us : List Value) (Q : St → Hp → Prop), Inv X pins σ H s → Vals vs us → t vs σ H Q →
    wpAny (model X.prog X.w) X.A (assignInOrder ((assignEach ts X.env).map (·.2)) us) (fun _ s' => ∃ σ' H', Inv X pins σ' H' s' ∧ Q σ' H') X.xe s
abbrev TSet := V → V → V → Hp → (Hp → Prop) → Prop
def PSet (X : Cx) (t : TSet) : Prop :=
  ∀ (pins : List (Addr × Obj)) (s : Shared) (σ : St) (H : Hp) (o i v : V) (ov iv u : Value) (Q : Hp → Prop), Inv X pins σ H s → RelV o ov → RelV i iv → RelV v u → t o i v H Q →
    wpAny (model X.prog X.w) X.A (setItem ov iv u) (fun _ s' => ∃ H', Inv X pins σ H' s' ∧ Q H') X.xe s
abbrev TIp := V → V → Hp → VK → Prop
def PIp (X : Cx) (op : Operator) (t : TIp) : Prop :=
  ∀ (pins : List (Addr × Obj)) (s : Shared) (σ : St) (H : Hp) (x y : V) (v u : Value) (Q : VK), Inv X pins σ H s → RelV x v → RelV y u → t x y H Q →
    wpAny (model X.prog X.w) X.A (inplaceOp op v u) (EP X pins σ Q) X.xe s
section
variable {X : Cx} {pos : Pos}
def gName (i : Nat) : TG := fun v σ H Q => Q (σ.set i (some v)) H
theorem pg_name {i : Nat} {x : Str} (hN : X.N.Nodup) (hi : X.N[i]? = some x) (hx : Loc X.env.scope x) (hf : X.fn x = true ∨ X.env.scope.names.lookup x = some .local := by first | exact .inl rfl | exact .inr rfl | assumption) : PG X (.Name x pos) (gName i) := by
  intro pins s σ H v u Q I r h
  exact wpAny_assign_Name (store_ok I hN hi hx r (fun s' I' => ⟨_, H, I', h⟩) hf)
def gNil : TGs := fun vs σ H Q => vs = [] ∧ Q σ H
def gCons (t : TG) (u : TGs) : TGs := fun vs σ H Q => ∃ v r, vs = v :: r ∧ t v σ H fun σ' H' => u r σ' H' Q
theorem pgs_nil : PGs X [] gNil := by
  intro pins s σ H vs us Q I r h
  obtain ⟨e, h⟩ := h
  subst e
  cases r
  exact assignInOrder_nil ⟨σ, H, I, h⟩
theorem pgs_cons {e : Expr} {es : List Expr} {t : TG} {u : TGs} (h1 : PG X e t) (h2 : PGs X es u)
    (hs : (assignEach (e :: es) X.env).map (·.2) = assign e X.env :: (assignEach es X.env).map (·.2) := by rfl) : PGs X (e :: es) (gCons t u) := by
  intro pins s σ H vs us Q I r h
  obtain ⟨v, vr, e1, h⟩ := h
  subst e1
  cases r with
  | cons r rr =>
    rw [hs]
    refine assignInOrder_cons (thn (h1 pins s σ H _ _ _ I r h) fun _ s1 ⟨σ1, H1, I1, q1⟩ => ?_)
    exact h2 pins s1 σ1 H1 _ _ Q I1 rr q1
def gTup (K : PySem.W.Frag) (n : Nat) (t : TGs) : TG := fun v σ H Q => ∃ a xs, v = .ref a ∧ SqT K H a xs ∧ xs.length = n ∧ t xs σ H Q
theorem pg_tup {es : List Expr} {k : Nat} {t : TGs} {n : Nat} (hc : X.calm = true) (h : PGs X es t)
    (hn : (assignEach es X.env).length = n := by rfl) (hst : (assignEach es X.env).findIdx? (·.1) = none := by rfl) : PG X (.Tuple es k pos) (gTup X.K n t) := by
  intro pins s σ H v u Q I r hw
  obtain ⟨a, xs, e1, hq, hl, hw⟩ := hw
  subst e1
  cases r
  obtain ⟨its, rv, ht, hz⟩ := I.tuple hq
  refine assign_Tuple_tuple (I.ok.hd hc) ht (by simp [hn, ← hl, rv.length]) hst fun h' hx => ?_
  have I1 : Inv X pins σ H { s with heap := h' } := I.kept (t' := s.toks) fun b o e => hx b o (Nat.ne_of_lt (Heap.lt_size e)) e
  exact h pins _ σ H xs _ Q I1 (by simpa using rv) hw
def gSub (to ti : TE) (t : TSet) : TG := fun v σ H Q => to σ H fun o H1 => ti σ H1 fun i H2 => t o i v H2 fun H3 => Q σ H3
theorem pg_sub {o i : Expr} {to ti : TE} {t : TSet} (ho : PE X o to) (hi : PE X i ti) (hs : PSet X t)
    (ha : ∀ v, assign (.Subscript o i pos) X.env v = (do
      let ov ← holding [v] (eval o X.env)
      let iv ← holding [v, ov] (eval i X.env)
      standAt pos
      holding [v, ov, iv] (setItem ov iv v)
      release [v, ov, iv] []) := by intro _; rfl) : PG X (.Subscript o i pos) (gSub to ti t) := by
  intro pins s σ H v u Q I r h
  rw [ha]
  refine wpAny_bind (wpAny_holding (thn (ho pins s σ H _ I h) fun ov s1 ⟨x, H1, I1, r1, q1⟩ => ?_))
  refine wpAny_bind (wpAny_holding (thn (hi pins s1 σ H1 _ I1 q1) fun iv s2 ⟨y, H2, I2, r2, q2⟩ => ?_))
  refine wpAny_bind (wpAny_standAt (wpAny_bind (wpAny_holding (thn (hs pins s2 σ H2 x y v ov iv u _ I2 r1 r2 r q2) fun _ s3 ⟨H3, I3, q3⟩ => ?_))))
  exact wpAny_release ⟨σ, H3, I3, q3⟩
def tAsg (te : TE) (g : TG) : TS := fun D σ H => te σ H fun x H1 => g x σ H1 D.nx
theorem ps_asg {tg e : Expr} {te : TE} {g : TG} (he : PE X e te) (hg : PG X tg g) (hs : swapsWithSole [tg] e pos.line X.env = pure false := by rfl) (hw : swappedStores [tg] e X.env = pure none := by rfl)
    (h1 : (assignEach [tg] X.env).map (·.2) = [assign tg X.env] := by rfl) : PS X (.Assign [tg] e pos) (tAsg te g) := by
  intro pins s σ H D I h
  refine wpAny_Assign_stores (thn (he pins s σ H _ I h) fun v s1 ⟨x, H1, I1, r1, q1⟩ => ?_) hs hw
  rw [h1]
  exact thn (hg pins s1 σ H1 x v _ I1 r1 q1) fun _ s2 q => q
theorem ps_set {i : Nat} {x : Str} {e : Expr} {te : TE} {pos' : Pos} (hN : X.N.Nodup) (hi : X.N[i]? = some x) (hx : Loc X.env.scope x) (he : PE X e te) (hs : swapsWith e (some (.Name x pos')) pos.line X.env = pure false := by rfl) (hf : X.fn x = true ∨ X.env.scope.names.lookup x = some .local := by first | exact .inl rfl | exact .inr rfl | assumption) :
    PS X (.Assign [.Name x pos'] e pos) (tAsg te (gName i)) := by
  intro pins s σ H D I h
  refine wpAny_Assign_Name (thn (he pins s σ H _ I h) fun v s1 ⟨y, H1, I1, r1, q1⟩ => ?_) hs
  exact store_ok I1 hN hi hx r1 (fun s2 I2 => ⟨_, H1, I2, q1⟩) hf
def tAug (i : Nat) (te : TE) (ti : TIp) : TS := fun D σ H => ∃ x, σ[i]? = some (some x) ∧ te σ H fun y H1 => ti x y H1 fun z H2 => D.nx (σ.set i (some z)) H2
theorem ps_aug {i : Nat} {x : Str} {e : Expr} {te : TE} {op : Operator} {ti : TIp} {pos' : Pos} (hN : X.N.Nodup) (hi : X.N[i]? = some x) (hx : Loc X.env.scope x) (he : PE X e te) (ho : PIp X op ti) (hf : X.fn x = true ∨ X.env.scope.names.lookup x = some .local := by first | exact .inl rfl | exact .inr rfl | assumption) :
    PS X (.AugAssign (.Name x pos') op e pos) (tAug i te ti) := by
  intro pins s σ H D I h
  obtain ⟨v, e1, h⟩ := h
  obtain ⟨m, hn, hl⟩ := I.loc
  have vis : Vis X.env.scope x := by rcases hx with k | k; exact .inl k; exact .inr (.inl k)
  obtain ⟨u, r, l⟩ := hl i x v hi e1 vis
  refine wpAny_AugAssign_Name ?_
  have go : wpAny (model X.prog X.w) X.A (eval e X.env) (fun w s₂ => wpAny (model X.prog X.w) X.A (inplaceOp op u w) (fun r s₃ => wpAny (model X.prog X.w) X.A (storeName X.env x r) (fun _ => SP X pins D .next) X.xe s₃) X.xe s₂) X.xe s := by
    refine thn (he pins s σ H _ I h) fun w s1 ⟨y, H1, I1, r1, q1⟩ => ?_
    refine thn (ho pins s1 σ H1 v y u w _ I1 r r1 q1) fun z s2 ⟨zv, H2, I2, r2, q2⟩ => ?_
    exact store_ok I2 hN hi hx r2 (fun s3 I3 => ⟨_, H2, I3, q2⟩) hf
  rcases l with ⟨hk, hm⟩ | ⟨hk, c, hc, hcell⟩
  · exact wpAny_loadName_local I.ok.kind hk hn hm go
  · rcases hk with hk | hk
    · exact wpAny_loadName_cell I.ok.kind hk hc hcell go
    · rcases hx with k | k
      · have : X.env.scope.names.lookup x = some .free := hk
        rw [k] at this; cases this
      · have : X.env.scope.names.lookup x = some .free := hk
        rw [k] at this; cases this
def ipI (f : Int → Int → Int) : TIp := fun x y H Q => ∃ i j, x = .int i ∧ y = .int j ∧ Q (.int (f i j)) H
theorem ip_add : PIp X .Add (ipI fun i j => i + j) := by
  intro pins s σ H x y v u Q I r1 r2 h
  obtain ⟨i, j, e1, e2, q⟩ := h
  subst e1; subst e2
  obtain ⟨t, rfl⟩ := r1
  obtain ⟨t', rfl⟩ := r2
  exact iadd_int ⟨.int _, H, I.tok _, ⟨_, rfl⟩, q⟩
theorem ip_sub : PIp X .Sub (ipI fun i j => i - j) := by
  intro pins s σ H x y v u Q I r1 r2 h
  obtain ⟨i, j, e1, e2, q⟩ := h
  subst e1; subst e2
  obtain ⟨t, rfl⟩ := r1
  obtain ⟨t', rfl⟩ := r2
  exact isub_int ⟨.int _, H, I.tok _, ⟨_, rfl⟩, q⟩
end
section
variable {X : Cx} {pos : Pos}
def tWhile (c : TT) (tb : TS) : TS := fun D σ H => ∃ W : Nat → St → Hp → Prop, (∃ m, W m σ H) ∧ ∀ m σ H, W m σ H →
  c σ H fun b H1 => if b = true then ∃ N : St → Hp → Prop, (∀ σ' H', N σ' H' → ∃ m', m' < m ∧ W m' σ' H') ∧ tb { D with nx := N, ct := N, bk := D.nx } σ H1 else D.nx σ H1
theorem ps_while {c : Expr} {body : List Stmt} {tc : TT} {tb : TS} (hp : PassesOwn (model X.prog X.w) X.A X.env X.xe) (hc : PT X c tc) (hb : PSs X body tb) : PS X (.While c body [] pos) (tWhile tc tb) := by
  intro pins s σ H D I h
  obtain ⟨W, ⟨m0, w0⟩, turn⟩ := h
  refine wpAny_While (codeAny_whileLoop (fun n s' => ∃ σ' H', Inv X pins σ' H' s' ∧ W n σ' H') ?_ m0 ⟨σ, H, I, w0⟩)
  rintro n s1 ⟨σ1, H1, I1, w1⟩
  refine wpAny_passesOwn hp (thn (hc pins s1 σ1 H1 _ I1 (turn n σ1 H1 w1)) fun b s2 ⟨H2, I2, q2⟩ => ?_)
  cases b with
  | true =>
    obtain ⟨N, hN, q2⟩ := q2
    rw [if_pos rfl]
    refine wpAny_passesOwn hp (thn (hb pins s2 σ1 H2 _ I2 q2) fun f s3 q3 => ?_)
    cases f with
    | next =>
      obtain ⟨σ3, H3, I3, n3⟩ := q3
      obtain ⟨m', hm, w3⟩ := hN σ3 H3 n3
      exact ⟨m', hm, σ3, H3, I3, w3⟩
    | cont =>
      obtain ⟨σ3, H3, I3, n3⟩ := q3
      obtain ⟨m', hm, w3⟩ := hN σ3 H3 n3
      exact ⟨m', hm, σ3, H3, I3, w3⟩
    | brk => exact q3
    | ret v => exact q3
  | false =>
    rw [if_neg Bool.false_ne_true]
    exact wpAny_execs_nil ⟨σ1, H2, I2, q2⟩
end
structure It where
  go : Nat → Hp → Prop
  yld : Nat → Hp → V → Hp → Prop
  stop : Nat → Hp → Prop
def FpOk (X : Cx) (pins : List (Addr × Obj)) (H : Hp) (b : Addr) : Prop :=
  H b = none ∧ b ≠ X.env.locals ∧ b ∉ X.fs ∧ (b ∈ X.ex ∨ X.s₀.heap.objs.size ≤ b) ∧ (∀ x c, X.env.cells.lookup x = some c → c ≠ b) ∧ ∀ p ∈ X.pn ++ pins, p.1 ≠ b
theorem Inv.fpOk {X : Cx} {pins : List (Addr × Obj)} {σ : St} {H H' : Hp} {s : Shared} {b : Addr} (I : Inv X pins σ H s) (hb : s.heap.objs.size ≤ b) (hn : H' b = none) : FpOk X pins H' b := by
  refine ⟨hn, Nat.ne_of_gt (Nat.lt_of_lt_of_le I.lt hb), I.nofs hb, .inr (Nat.le_trans I.sz hb), fun x c e z => ?_, fun p hp z => ?_⟩
  · obtain ⟨v, q⟩ := I.cell x c e
    exact absurd (Nat.lt_of_lt_of_le q.lt (by rw [z]; exact hb)) (Nat.lt_irrefl _)
  · exact absurd (Nat.lt_of_lt_of_le (Heap.lt_size (I.pin p hp).1) (by rw [z]; exact hb)) (Nat.lt_irrefl _)
structure Turn (P : Program) (w : World) (K : PySem.W.Frag) (tg : Expr) (J : It) (fp : List Addr) (it : Addr) (tn : Nat → Heap → Prop) : Prop where
  mem : it ∈ fp
  obj : ∀ i h, tn i h → ∀ b ∈ fp, ∃ o, h.get? b = some o ∧ ∀ v, o.data ≠ .cell v
  keep : ∀ i h h', tn i h → (∀ b ∈ fp, ∀ o, h.get? b = some o → h'.get? b = some o) → tn i h'
  item : ∀ (X : Cx), X.prog = P → X.w = w → X.K = K → X.calm = true → ∀ (i : Nat) (pins : List (Addr × Obj)) (s : Shared) (σ : St) (H : Hp) (E : Value → Shared → Prop), Inv X pins σ H s → (∀ b ∈ fp, FpOk X pins H b) → tn i s.heap → J.go i H →
    wpAny (model P w) X.A (pyNext (.ref it)) (fun r s1 => ∃ u, r = some u ∧
      wpAny (model P w) X.A (letOwnedTupleGo tg (.ref it) u) (fun _ s2 => ∃ x H', Inv X pins σ H' s2 ∧ RelV x u ∧ J.yld i H x H' ∧ tn (i + 1) s2.heap ∧ ∀ b ∈ fp, H' b = none) E s1) E s
  done : ∀ (X : Cx), X.prog = P → X.w = w → X.K = K → X.calm = true → ∀ (i : Nat) (pins : List (Addr × Obj)) (s : Shared) (σ : St) (H : Hp) (E : Value → Shared → Prop), Inv X pins σ H s → (∀ b ∈ fp, FpOk X pins H b) → tn i s.heap → J.stop i H →
    wpAny (model P w) X.A (pyNext (.ref it)) (fun r s1 => r = none ∧ Inv X pins σ H s1) E s
  self : ∀ (A : Around) (i : Nat) (s : Shared) (Q : Value → Shared → Prop) (E : Value → Shared → Prop), tn i s.heap → Q (.ref it) s → wpAny (model P w) A (pyIter (.ref it)) Q E s
abbrev TI := St → Hp → (It → Hp → Prop) → Prop
def PIE (X : Cx) (pins : List (Addr × Obj)) (σ : St) (tg : Expr) (R : It → Hp → Prop) (itv : Value) (s2 : Shared) : Prop :=
  ∃ (it : Addr) (fp : List Addr) (tn : Nat → Heap → Prop) (J : It) (H' : Hp), itv = .ref it ∧ Inv X pins σ H' s2 ∧ Turn X.prog X.w X.K tg J fp it tn ∧ tn 0 s2.heap ∧ (∀ b ∈ fp, FpOk X pins H' b) ∧ R J H'
def PI (X : Cx) (tg iter : Expr) (wi : TI) : Prop :=
  ∀ (pins : List (Addr × Obj)) (s : Shared) (σ : St) (H : Hp) (R : It → Hp → Prop), Inv X pins σ H s → wi σ H R →
    wpAny (model X.prog X.w) X.A (eval iter X.env) (fun v s1 => wpAny (model X.prog X.w) X.A (pyIter v) (PIE X pins σ tg R) X.xe s1) X.xe s
theorem go_of {M : Model} {A : Around} {E : Value → Shared → Prop} {s : Shared} {tg : Expr} {it : Addr} {u : Value} {o : Obj} {n : String} {vs : Array Value} {Q : Unit → Shared → Prop} (ho : s.heap.get? it = some o) (hc : o.cls = .type n) (hd : o.data = .fields vs)
    (hn : ["enumerate", "zip", "dict_itemiterator", "dict_reverseitemiterator", "odict_iterator", "itertools.zip_longest", "itertools.pairwise"].contains n = false) (hQ : Q () s) : wpAny M A (letOwnedTupleGo tg (.ref it) u) Q E s := by
  unfold letOwnedTupleGo
  cases tg <;> first
    | exact wpAny_pure hQ
    | (cases u <;> first
        | exact wpAny_pure hQ
        | (refine wpAny_bind (wpAny_load ho ?_)
           rw [hc, hd]
           show wpAny M A (if (["enumerate", "zip", "dict_itemiterator", "dict_reverseitemiterator", "odict_iterator", "itertools.zip_longest", "itertools.pairwise"].contains n && vs[0]? == some (rawInt _)) = true then _ else _) Q E s
           rw [if_neg (by intro h; rw [hn, Bool.false_and] at h; cases h)]
           exact wpAny_pure hQ))
def Itl (K : PySem.W.Frag) (a : Addr) : It :=
  ⟨fun i H => ∃ xs x, SqL K H a xs ∧ xs[i]? = some x, fun i H x H' => H' = H ∧ ∀ xs, SqL K H a xs → xs[i]? = some x, fun i H => ∃ xs, SqL K H a xs ∧ xs.length ≤ i⟩
def Itr (lo : Int) (n : Nat) : It := ⟨fun i _ => i < n, fun i H x H' => H' = H ∧ x = .int (lo + i), fun i _ => n ≤ i⟩
theorem turn_list {P : Program} {w : World} {K : PySem.W.Frag} {tg : Expr} (a it : Addr) : Turn P w K tg (Itl K a) [it] it (fun i h => h.IsListIter it a i) where
  mem := by simp
  obj := fun i h st b hb => by
    have e : b = it := by simpa using hb
    subst e
    obtain ⟨o, e, c, d⟩ := st
    exact ⟨o, e, fun v z => by rw [d] at z; cases z⟩
  keep := fun i h h' st k => st.at fun o e => k it (by simp) o e
  item := by
    intro X hP hw hK hc i pins s σ H E I hf st hg
    subst hP hw hK
    obtain ⟨xs, x, hq, hx⟩ := hg
    obtain ⟨its, rv, p, hz⟩ := I.list hq
    obtain ⟨u, hu, ru⟩ := rv.get hx
    obtain ⟨f0, f1, f2, f3, f4, f5⟩ := hf it (by simp)
    refine wpAny_pyNext_list_item st p.isList (x := u) (by simpa using hu) fun h' st' sb => ?_
    have I1 : Inv X pins σ H { s with heap := h' } := I.turned (t' := s.toks) (fun b o hb e => (sb.2 b hb).trans e) f0 f1 f3 f4 f5
    obtain ⟨o, e, c, d⟩ := id st'
    exact ⟨u, rfl, go_of (s := { s with heap := h' }) e c d (by decide) ⟨x, H, I1, ru, ⟨rfl, fun ys hy => by rw [I.list_inj hy hq]; exact hx⟩, st', fun b hb => (hf b hb).1⟩⟩
  done := by
    intro X hP hw hK hc i pins s σ H E I hf st hg
    subst hP hw hK
    obtain ⟨xs, hq, hx⟩ := hg
    obtain ⟨its, rv, p, hz⟩ := I.list hq
    obtain ⟨f0, f1, f2, f3, f4, f5⟩ := hf it (by simp)
    have hl := rv.length
    exact wpAny_pyNext_list_end (I.ok.hd hc) st p.isList (by simp; omega) fun h' eb => ⟨rfl, I.turned (t' := s.toks) (fun b o hb e => eb b o hb e) f0 f1 f3 f4 f5⟩
  self := fun _ _ _ _ _ st h => wpAny_pyIter_listiter st h
theorem turn_range {P : Program} {w : World} {K : PySem.W.Frag} {tg : Expr} (it : Addr) (lo : Int) (n : Nat) : Turn P w K tg (Itr lo n) [it] it (fun i h => IsRangeIter h it (lo + (i : Nat) * 1) ((n : Int) - (i : Nat)) 1) where
  mem := by simp
  obj := fun i h st b hb => by
    have e : b = it := by simpa using hb
    subst e
    exact ⟨_, st, fun v z => by
      have z' : Data.fields _ = Data.cell v := z
      cases z'⟩
  keep := fun i h h' st k => k it (by simp) _ st
  item := by
    intro X hP hw hK hc i pins s σ H E I hf st hg
    subst hP hw hK
    obtain ⟨f0, f1, f2, f3, f4, f5⟩ := hf it (by simp)
    have W := Walks.range (prog := X.prog) (w := X.w) (I.ok.hd hc) it lo 1 n
    refine W.item i s _ _ hg st fun v h' tk hv st' kk => ?_
    obtain ⟨t, rfl⟩ := hv
    have I1 : Inv X pins σ H { s with heap := h', toks := tk } := I.turned (fun b o hb e => kk b o (by simpa using hb) e) f0 f1 f3 f4 f5
    refine ⟨_, rfl, go_of (s := { s with heap := h', toks := tk }) (n := "range_iterator") st' rfl rfl (by decide) ⟨.int (lo + i), H, I1, ⟨t, ?_⟩, ⟨rfl, rfl⟩, st', fun b hb => (hf b hb).1⟩⟩
    rw [Int.mul_one]
  done := by
    intro X hP hw hK hc i pins s σ H E I hf st hg
    subst hP hw hK
    obtain ⟨f0, f1, f2, f3, f4, f5⟩ := hf it (by simp)
    exact wpAny_pyNext_range_end (I.ok.hd hc) st (by have : n ≤ i := hg; omega) fun h' eb => ⟨rfl, I.turned (t' := s.toks) (fun b o hb e => eb b o hb e) f0 f1 f3 f4 f5⟩
  self := fun _ _ _ _ _ st h => wpAny_pyIter_rangeiter st h
end L2
namespace L2
open PySem PySem.Spec PyProof.Rows
section
variable {X : Cx} {tg : Expr}
def iList (K : PySem.W.Frag) (tl : TE) : TI := fun σ H R => tl σ H fun x H1 => ∃ a, x = .ref a ∧ (∃ xs, SqL K H1 a xs) ∧ R (Itl K a) H1
theorem pi_list {l : Expr} {tl : TE} (hl : PE X l tl) : PI X tg l (iList X.K tl) := by
  intro pins s σ H R I h
  refine thn (hl pins s σ H _ I h) fun v s1 ⟨x, H1, I1, r1, q1⟩ => ?_
  obtain ⟨a, e, ⟨xs, hq⟩, q⟩ := q1
  subst e
  cases r1
  obtain ⟨its, rv, p, hz⟩ := I1.list hq
  refine wpAny_pyIter_list p.isList ?_
  refine ⟨s1.heap.objs.size, [s1.heap.objs.size], _, _, H1, rfl, I1.kept (t' := s1.toks) fun b o e => Heap.get?_push_of_some _ e, turn_list a _, ⟨_, Heap.get?_push_size _ rfl, rfl, rfl⟩, fun b hb => ?_, q⟩
  have e : b = s1.heap.objs.size := by simpa using hb
  subst e
  exact I1.fpOk (Nat.le_refl _) (I1.hok.fresh (Nat.le_refl _))
theorem range_it {pins : List (Addr × Obj)} {σ : St} {H : Hp} {s : Shared} {R : It → Hp → Prop} {E : Value → Shared → Prop} {lo hi : Int} {t u v : Tok} {tk : Nat} (I : Inv X pins σ H s) (h1 : -(2 ^ 62) ≤ lo) (h2 : lo < 2 ^ 62) (h3 : -(2 ^ 62) ≤ hi) (h4 : hi < 2 ^ 62)
    (q : R (Itr lo (hi - lo).toNat) H) : wpAny (model X.prog X.w) X.A (pyIter (.ref s.heap.objs.size)) (PIE X pins σ tg R) E { s with heap := s.heap.push { cls := .type "range", data := .fields #[.int lo t, .int hi u, .int 1 v] }, toks := tk } := by
  refine wpAny_pyIter_range (IsRange.new ..) (small_one h1 h2 h3 h4) ?_
  have I1 : Inv X pins σ H { s with heap := s.heap.push { cls := .type "range", data := .fields #[.int lo t, .int hi u, .int 1 v] }, toks := tk } := I.kept fun b o e => Heap.get?_push_of_some _ e
  refine ⟨(s.heap.push { cls := .type "range", data := .fields #[.int lo t, .int hi u, .int 1 v] }).objs.size, [(s.heap.push { cls := .type "range", data := .fields #[.int lo t, .int hi u, .int 1 v] }).objs.size], _, _, H, rfl,
    I1.kept (t' := tk) fun b o e => Heap.get?_push_of_some _ e, turn_range _ lo (hi - lo).toNat, ?_, fun b hb => ?_, q⟩
  · have e1 : lo + ((0 : Nat) : Int) * 1 = lo := by simp
    have e2 : (((hi - lo).toNat : Nat) : Int) - ((0 : Nat) : Int) = Builtin.Range.rangeSize lo hi 1 := by rw [rangeSize_one]; split <;> omega
    show IsRangeIter _ _ (lo + ((0 : Nat) : Int) * 1) ((((hi - lo).toNat : Nat) : Int) - ((0 : Nat) : Int)) 1
    rw [e1, e2]
    exact Heap.get?_push_size _ rfl
  · have e : b = (s.heap.push { cls := .type "range", data := .fields #[.int lo t, .int hi u, .int 1 v] }).objs.size := by simpa using hb
    subst e
    exact I1.fpOk (Nat.le_refl _) (I1.hok.fresh (Nat.le_refl _))
def iRng1 (ta : TA) : TI := fun σ H R => ta σ H fun vs H1 => ∃ j : Int, vs = [.int j] ∧ -(2 ^ 62) ≤ j ∧ j < 2 ^ 62 ∧ R (Itr 0 j.toNat) H1
def iRng2 (ta : TA) : TI := fun σ H R => ta σ H fun vs H1 => ∃ i j : Int, vs = [.int i, .int j] ∧ (-(2 ^ 62) ≤ i ∧ i < 2 ^ 62 ∧ -(2 ^ 62) ≤ j ∧ j < 2 ^ 62) ∧ R (Itr i (j - i).toNat) H1
theorem pi_range1 {a : Expr} {ta : TA} {p pos : Pos} (hg : Gl X "range") (hm : X.mg "range" = none) (ha : PA X [a] ta) (hs : starEach [a] X.env = [(false, eval a X.env)] := by rfl) : PI X tg (.Call (.Name "range" p) [a] [] pos) (iRng1 ta) := by
  intro pins s σ H R I h
  refine Call_ (ld_blt I hg hm boot_range (PyProof.Rows.callWith_type1 (thn (ha pos pins s σ H _ I h) fun us s1 ⟨vs, H1, I1, r1, q1⟩ => ?_) hs rfl))
  obtain ⟨j, e, q1, q2, q⟩ := q1
  subst e
  cases r1 with
  | cons r rr =>
    cases rr
    obtain ⟨t, rfl⟩ := r
    exact call_range_1 (range_it I1 (by omega) (by omega) q1 q2 (by simpa using q))
theorem pi_range2 {a b : Expr} {ta : TA} {p pos : Pos} (hg : Gl X "range") (hm : X.mg "range" = none) (ha : PA X [a, b] ta) (hs : starEach [a, b] X.env = [(false, eval a X.env), (false, eval b X.env)] := by rfl) (hs2 : starEach [b] X.env = [(false, eval b X.env)] := by rfl) :
    PI X tg (.Call (.Name "range" p) [a, b] [] pos) (iRng2 ta) := by
  intro pins s σ H R I h
  refine Call_ (ld_blt I hg hm boot_range (PyProof.Rows.callWith_type1 (thn (ha pos pins s σ H _ I h) fun us s1 ⟨vs, H1, I1, r1, q1⟩ => ?_) (by rw [hs, hs2]) (by rw [hs2]; rfl)))
  obtain ⟨i, j, e, ⟨q1, q2, q3, q4⟩, q⟩ := q1
  subst e
  cases r1 with
  | cons r rr =>
    cases rr with
    | cons r' rr =>
      cases rr
      obtain ⟨t, rfl⟩ := r
      obtain ⟨t', rfl⟩ := r'
      exact call_range_2 (range_it I1 q1 q2 q3 q4 q)
def tFor (wi : TI) (g : TG) (tb : TS) : TS := fun D σ H => wi σ H fun J H1 => ∃ W : Nat → Nat → St → Hp → Prop, (∃ m, W 0 m σ H1) ∧ ∀ i m σ H, W i m σ H →
  (J.stop i H ∧ D.nx σ H) ∨ (J.go i H ∧ ∃ N : St → Hp → Prop, (∀ σ' H', N σ' H' → ∃ m', m' < m ∧ W (i + 1) m' σ' H') ∧ ∀ x H', J.yld i H x H' → g x σ H' fun σ2 H2 => tb { D with nx := N, ct := N, bk := D.nx } σ2 H2)
def pinsAt (fp : List Addr) (h : Heap) : List (Addr × Obj) := fp.filterMap fun b => (h.get? b).map fun o => (b, o)
theorem mem_pinsAt {fp : List Addr} {h : Heap} {b : Addr} {o : Obj} (hb : b ∈ fp) (e : h.get? b = some o) : (b, o) ∈ pinsAt fp h := List.mem_filterMap.mpr ⟨b, hb, by rw [e]; rfl⟩
theorem of_pinsAt {fp : List Addr} {h : Heap} {p : Addr × Obj} (hp : p ∈ pinsAt fp h) : p.1 ∈ fp ∧ h.get? p.1 = some p.2 := by
  obtain ⟨b, hb, e⟩ := List.mem_filterMap.mp hp
  cases q : h.get? b with
  | none => rw [q] at e; cases e
  | some o =>
    rw [q] at e
    have e' : (b, o) = p := Option.some.inj e
    subst e'
    exact ⟨hb, q⟩
theorem Inv.pinned {pins : List (Addr × Obj)} {σ : St} {H : Hp} {s : Shared} {fp : List Addr} (I : Inv X pins σ H s) (hf : ∀ b ∈ fp, FpOk X pins H b) (ho : ∀ b ∈ fp, ∃ o, s.heap.get? b = some o ∧ ∀ v, o.data ≠ .cell v) : Inv X (pins ++ pinsAt fp s.heap) σ H s :=
  I.pins_of fun p hp => (List.mem_append.mp hp).elim (fun z => I.pin p (List.mem_append_right _ z)) fun z => by
    obtain ⟨hb, e⟩ := of_pinsAt z
    obtain ⟨f0, f1, f2, _⟩ := hf p.1 hb
    obtain ⟨o, e', d⟩ := ho p.1 hb
    rw [e] at e'; cases e'
    exact ⟨e, f0, f1, f2, d⟩
theorem Inv.unpinned {pins pl : List (Addr × Obj)} {σ : St} {H : Hp} {s : Shared} (I : Inv X (pins ++ pl) σ H s) : Inv X pins σ H s := I.pins_of fun p hp => I.pin p (List.mem_append_right _ (List.mem_append_left _ hp))
theorem ps_for {iter : Expr} {body : List Stmt} {wi : TI} {g : TG} {tb : TS} {pos : Pos} (hp : PassesOwn (model X.prog X.w) X.A X.env X.xe) (hc : X.calm = true) (hi : PI X tg iter wi) (hg : PG X tg g) (hb : PSs X body tb)
    (hs : ∀ x, foldedSetIterable iter X.env x = pure x := by intro _; rfl) : PS X (.For tg iter body [] pos) (tFor wi g tb) := by
  intro pins s σ H D I h
  refine wpAny_For (thn (hi pins s σ H _ I h) fun v s1 h1 => thn h1 fun itv s2 h2 => ?_) hs
  obtain ⟨it, fp, tn, J, H2, e, I2, T, st2, f2, W, ⟨m0, w0⟩, turn⟩ := h2
  subst e
  have stat : ∀ {H' : Hp}, (∀ b ∈ fp, H' b = none) → ∀ b ∈ fp, FpOk X pins H' b := fun hn b hb => ⟨hn b hb, (f2 b hb).2⟩
  refine codeAny_forLoop_any (fun n s' => ∃ i σ' H', Inv X pins σ' H' s' ∧ tn i s'.heap ∧ (∀ b ∈ fp, H' b = none) ∧ W i n σ' H') ?_ m0 ⟨0, σ, H2, I2, st2, fun b hb => (f2 b hb).1, w0⟩
  rintro n s3 ⟨i, σ3, H3, I3, st3, fr3, w3⟩
  rcases turn i n σ3 H3 w3 with ⟨stop, qn⟩ | ⟨go, N, hN, step⟩
  · refine wpAny_passesOwn hp (thn (T.done X rfl rfl rfl hc i pins s3 σ3 H3 X.xe I3 (stat fr3) st3 stop) fun r s4 ⟨hr, I4⟩ => ?_)
    subst hr
    exact wpAny_execs_nil ⟨σ3, H3, I4, qn⟩
  · refine wpAny_passesOwn hp (thn (T.item X rfl rfl rfl hc i pins s3 σ3 H3 X.xe I3 (stat fr3) st3 go) fun r s4 ⟨u, hr, h4⟩ => ?_)
    subst hr
    refine wpAny_passesOwn hp (thn h4 fun _ s5 ⟨x, H5, I5, r5, y5, st5, fr5⟩ => ?_)
    have I5' := I5.pinned (stat fr5) (T.obj _ _ st5)
    refine wpAny_passesOwn hp (thn (hg _ s5 σ3 H5 x u _ I5' r5 (step x H5 y5)) fun _ s6 ⟨σ6, H6, I6, q6⟩ => ?_)
    refine wpAny_passesOwn hp (thn (hb _ s6 σ6 H6 _ I6 q6) fun f s7 q7 => ?_)
    have again : ∀ {σ7 : St} {H7 : Hp}, Inv X (pins ++ pinsAt fp s5.heap) σ7 H7 s7 → N σ7 H7 → ∃ m, m < n ∧ ∃ i σ' H', Inv X pins σ' H' s7 ∧ tn i s7.heap ∧ (∀ b ∈ fp, H' b = none) ∧ W i m σ' H' := fun {σ7 H7} I7 n7 => by
      obtain ⟨m', hm, w7⟩ := hN σ7 H7 n7
      refine ⟨m', hm, i + 1, σ7, H7, I7.unpinned, T.keep _ _ _ st5 fun b hb o e => (I7.pin (b, o) (List.mem_append_right _ (List.mem_append_right _ (mem_pinsAt hb e)))).1, fun b hb => ?_, w7⟩
      obtain ⟨o, e, d⟩ := T.obj _ _ st5 b hb
      exact (I7.pin (b, o) (List.mem_append_right _ (List.mem_append_right _ (mem_pinsAt hb e)))).2.1
    cases f with
    | next => obtain ⟨σ7, H7, I7, n7⟩ := q7; exact again I7 n7
    | cont => obtain ⟨σ7, H7, I7, n7⟩ := q7; exact again I7 n7
    | brk => obtain ⟨σ7, H7, I7, q7⟩ := q7; exact ⟨σ7, H7, I7.unpinned, q7⟩
    | ret v => obtain ⟨x7, σ7, H7, I7, r7, q7⟩ := q7; exact ⟨x7, σ7, H7, I7.unpinned, r7, q7⟩
end
theorem for_list {K : PySem.W.Frag} {a : Addr} {xs : List V} {g : TG} {tb : TS} {D : Ends} {σ : St} {H : Hp} (Pv : Nat → St → Hp → Prop) (h0 : Pv 0 σ H) (hl : ∀ i σ H, i ≤ xs.length → Pv i σ H → SqL K H a xs)
    (hs : ∀ i x σ H, xs[i]? = some x → Pv i σ H → g x σ H fun σ2 H2 => tb { D with nx := Pv (i + 1), ct := Pv (i + 1), bk := D.nx } σ2 H2) (hd : ∀ σ H, Pv xs.length σ H → D.nx σ H) :
    ∃ W : Nat → Nat → St → Hp → Prop, (∃ m, W 0 m σ H) ∧ ∀ i m σ H, W i m σ H →
      ((Itl K a).stop i H ∧ D.nx σ H) ∨ ((Itl K a).go i H ∧ ∃ N : St → Hp → Prop, (∀ σ' H', N σ' H' → ∃ m', m' < m ∧ W (i + 1) m' σ' H') ∧ ∀ x H', (Itl K a).yld i H x H' → g x σ H' fun σ2 H2 => tb { D with nx := N, ct := N, bk := D.nx } σ2 H2) := by
  refine ⟨fun i m σ H => m = xs.length - i ∧ i ≤ xs.length ∧ Pv i σ H, ⟨xs.length, by simp, Nat.zero_le _, h0⟩, ?_⟩
  rintro i m σ H ⟨rfl, hi, p⟩
  have q := hl i σ H hi p
  by_cases hlt : i < xs.length
  · refine .inr ⟨⟨xs, xs[i], q, by simp [hlt]⟩, Pv (i + 1), fun σ' H' p' => ⟨xs.length - (i + 1), by omega, rfl, hlt, p'⟩, fun x H' y => ?_⟩
    obtain ⟨e, y⟩ := y
    subst e
    exact hs i x σ _ (y xs q) p
  · have e : i = xs.length := by omega
    subst e
    exact .inl ⟨⟨xs, q, Nat.le_refl _⟩, hd σ H p⟩
theorem for_range {lo : Int} {n : Nat} {g : TG} {tb : TS} {D : Ends} {σ : St} {H : Hp} (Pv : Nat → St → Hp → Prop) (h0 : Pv 0 σ H)
    (hs : ∀ i σ H, i < n → Pv i σ H → g (.int (lo + i)) σ H fun σ2 H2 => tb { D with nx := Pv (i + 1), ct := Pv (i + 1), bk := D.nx } σ2 H2) (hd : ∀ σ H, Pv n σ H → D.nx σ H) :
    ∃ W : Nat → Nat → St → Hp → Prop, (∃ m, W 0 m σ H) ∧ ∀ i m σ H, W i m σ H →
      ((Itr lo n).stop i H ∧ D.nx σ H) ∨ ((Itr lo n).go i H ∧ ∃ N : St → Hp → Prop, (∀ σ' H', N σ' H' → ∃ m', m' < m ∧ W (i + 1) m' σ' H') ∧ ∀ x H', (Itr lo n).yld i H x H' → g x σ H' fun σ2 H2 => tb { D with nx := N, ct := N, bk := D.nx } σ2 H2) := by
  refine ⟨fun i m σ H => m = n - i ∧ i ≤ n ∧ Pv i σ H, ⟨n, by simp, Nat.zero_le _, h0⟩, ?_⟩
  rintro i m σ H ⟨rfl, hi, p⟩
  by_cases hlt : i < n
  · refine .inr ⟨hlt, Pv (i + 1), fun σ' H' p' => ⟨n - (i + 1), by omega, rfl, hlt, p'⟩, fun x H' y => ?_⟩
    obtain ⟨e, y⟩ := y
    subst e y
    exact hs i σ _ hlt p
  · have e : i = n := by omega
    subst e
    exact .inl ⟨Nat.le_refl _, hd σ H p⟩
theorem while_by {c : TT} {tb : TS} {D : Ends} {σ : St} {H : Hp} (Pv : St → Hp → Prop) (μ : St → Hp → Nat) (h0 : Pv σ H)
    (hs : ∀ σ H, Pv σ H → c σ H fun b H1 => if b = true then tb { D with nx := fun σ' H' => Pv σ' H' ∧ μ σ' H' < μ σ H, ct := fun σ' H' => Pv σ' H' ∧ μ σ' H' < μ σ H, bk := D.nx } σ H1 else D.nx σ H1)
    (mono : ∀ σ H Q Q', (∀ b H1, Q b H1 → Q' b H1) → c σ H Q → c σ H Q') : tWhile c tb D σ H := by
  refine ⟨fun m σ H => m = μ σ H ∧ Pv σ H, ⟨_, rfl, h0⟩, ?_⟩
  rintro m σ H ⟨rfl, p⟩
  refine mono σ H _ _ (fun b H1 q => ?_) (hs σ H p)
  cases b with
  | true => exact ⟨_, fun σ' H' ⟨p', l⟩ => ⟨_, l, rfl, p'⟩, q⟩
  | false => exact q
end L2
namespace L2
open PySem PySem.Spec PyProof.Rows
abbrev R2 := V → V → Hp → VK → Prop
def OpR (X : Cx) (f : Value → Value → Sem Value) (r : R2) : Prop :=
  ∀ (pins : List (Addr × Obj)) (s : Shared) (σ : St) (H : Hp) (x y : V) (v u : Value) (Q : VK), Inv X pins σ H s → RelV x v → RelV y u → r x y H Q →
    wpAny (model X.prog X.w) X.A (f v u) (EP X pins σ Q) X.xe s
def UnR (X : Cx) (f : Value → Sem Value) (r : V → Hp → VK → Prop) : Prop :=
  ∀ (pins : List (Addr × Obj)) (s : Shared) (σ : St) (H : Hp) (x : V) (v : Value) (Q : VK), Inv X pins σ H s → RelV x v → r x H Q →
    wpAny (model X.prog X.w) X.A (f v) (EP X pins σ Q) X.xe s
def CallR (X : Cx) (f : Value) (r : List V → Hp → VK → Prop) : Prop :=
  ∀ (pins : List (Addr × Obj)) (s : Shared) (σ : St) (H : Hp) (xs : List V) (us : List Value) (Q : VK), Inv X pins σ H s → Vals xs us → r xs H Q →
    wpAny (model X.prog X.w) X.A (call f us) (EP X pins σ Q) X.xe s
def tOp (r : R2) (ta tb : TE) : TE := fun σ H Q => ta σ H fun x H1 => tb σ H1 fun y H2 => r x y H2 Q
def tUn (r : V → Hp → VK → Prop) (ta : TE) : TE := fun σ H Q => ta σ H fun x H1 => r x H1 Q
def rI (C : Int → Int → Prop) (g : Int → Int → V) : R2 := fun x y H Q => ∃ i j, x = .int i ∧ y = .int j ∧ C i j ∧ Q (g i j) H
def rI0 (g : Int → Int → V) : R2 := fun x y H Q => ∃ i j, x = .int i ∧ y = .int j ∧ Q (g i j) H
def rU (g : Int → V) : V → Hp → VK → Prop := fun x H Q => ∃ i, x = .int i ∧ Q (g i) H
section
variable {X : Cx} {a b c : Expr} {ta tb tc : TE} {pos : Pos}
theorem binT (ha : PE X a ta) (hb : PE X b tb) {pins : List (Addr × Obj)} {s : Shared} {σ : St} {H : Hp} {R : V → V → Hp → Prop} (I : Inv X pins σ H s)
    (h : ta σ H fun x H1 => tb σ H1 fun y H2 => R x y H2) {Q : Value → Shared → Prop} {f : Value → Value → Sem Value}
    (hf : ∀ v u s2 x y H2, Inv X pins σ H2 s2 → RelV x v → RelV y u → R x y H2 → wpAny (model X.prog X.w) X.A (f v u) Q X.xe s2) :
    wpAny (model X.prog X.w) X.A (eval a X.env) (fun v s₁ => wpAny (model X.prog X.w) X.A (eval b X.env) (fun u s₂ => wpAny (model X.prog X.w) X.A (f v u) Q X.xe s₂) X.xe s₁) X.xe s := by
  refine thn (ha pins s σ H _ I h) fun v s1 ⟨x, H1, I1, r1, q1⟩ => ?_
  refine thn (hb pins s1 σ H1 _ I1 q1) fun u s2 ⟨y, H2, I2, r2, q2⟩ => ?_
  exact hf v u s2 x y H2 I2 r1 r2 q2
theorem pe_op {op : Operator} {r : R2} (ho : OpR X (binaryOp op) r) (ha : PE X a ta) (hb : PE X b tb) : PE X (.BinOp a op b pos) (tOp r ta tb) := by
  intro pins s σ H Q I h
  exact wpAny_BinOp (binT ha hb I h fun v u s2 x y H2 I2 rx ry q => ho pins s2 σ H2 x y v u Q I2 rx ry q)
theorem pe_un {op : UnaryOp} {r : V → Hp → VK → Prop} (ho : UnR X (unaryOp op) r) (ha : PE X a ta) : PE X (.UnaryOp op a pos) (tUn r ta) := by
  intro pins s σ H Q I h
  exact UnaryOp_ (thn (ha pins s σ H _ I h) fun v s1 ⟨x, H1, I1, r1, q1⟩ => ho pins s1 σ H1 x v Q I1 r1 q1)
theorem opI {f : Value → Value → Sem Value} {C : Int → Int → Prop} {g : Int → Int → Int}
    (rule : ∀ (i j : Int) (t u : Tok) (s : Shared) (Q : Value → Shared → Prop) (E : Value → Shared → Prop), C i j → Q (.int (g i j) s.toks) { s with toks := s.toks + 1 } → wpAny (model X.prog X.w) X.A (f (.int i t) (.int j u)) Q E s) :
    OpR X f (rI C fun i j => .int (g i j)) := by
  intro pins s σ H x y v u Q I rx ry h
  obtain ⟨i, j, rfl, rfl, hc, q⟩ := h
  obtain ⟨t, rfl⟩ := rx
  obtain ⟨t', rfl⟩ := ry
  exact rule i j t t' s _ _ hc ⟨.int (g i j), H, I.tok _, ⟨_, rfl⟩, q⟩
theorem opI0 {f : Value → Value → Sem Value} {g : Int → Int → Int}
    (rule : ∀ (i j : Int) (t u : Tok) (s : Shared) (Q : Value → Shared → Prop) (E : Value → Shared → Prop), Q (.int (g i j) s.toks) { s with toks := s.toks + 1 } → wpAny (model X.prog X.w) X.A (f (.int i t) (.int j u)) Q E s) :
    OpR X f (rI0 fun i j => .int (g i j)) := by
  intro pins s σ H x y v u Q I rx ry h
  obtain ⟨i, j, rfl, rfl, q⟩ := h
  obtain ⟨t, rfl⟩ := rx
  obtain ⟨t', rfl⟩ := ry
  exact rule i j t t' s _ _ ⟨.int (g i j), H, I.tok _, ⟨_, rfl⟩, q⟩
theorem opB0 {f : Value → Value → Sem Value} {g : Int → Int → Bool}
    (rule : ∀ (i j : Int) (t u : Tok) (s : Shared) (Q : Value → Shared → Prop) (E : Value → Shared → Prop), Q (.bool (g i j)) s → wpAny (model X.prog X.w) X.A (f (.int i t) (.int j u)) Q E s) :
    OpR X f (rI0 fun i j => .bl (g i j)) := by
  intro pins s σ H x y v u Q I rx ry h
  obtain ⟨i, j, rfl, rfl, q⟩ := h
  obtain ⟨t, rfl⟩ := rx
  obtain ⟨t', rfl⟩ := ry
  exact rule i j t t' s _ _ ⟨.bl (g i j), H, I, rfl, q⟩
def CPow (i j : Int) : Prop := 0 ≤ j ∧ j ≤ 1000000 ∧ i.natAbs < 2 ^ 64
def CMul (i j : Int) : Prop := (-(2 ^ 64) < i ∧ i < 2 ^ 64) ∨ (-(2 ^ 64) < j ∧ j < 2 ^ 64)
theorem CMul.ok {i j : Int} (h : CMul i j) : IntMulOk i j := by
  rcases h with ⟨h1, h2⟩ | ⟨h1, h2⟩
  · exact .of_left (intBits_le_64 h1 h2)
  · exact .of_right (intBits_le_64 h1 h2)
theorem op_add : OpR X (binaryOp .Add) (rI0 fun i j => .int (i + j)) := opI0 fun _ _ _ _ _ _ _ q => add_int q
theorem op_sub : OpR X (binaryOp .Sub) (rI0 fun i j => .int (i - j)) := opI0 fun _ _ _ _ _ _ _ q => sub_int q
theorem op_mul : OpR X (binaryOp .Mult) (rI CMul fun i j => .int (i * j)) := opI fun _ _ _ _ _ _ _ hc q => mul_int q hc.ok
theorem op_mod : OpR X (binaryOp .Mod) (rI (fun _ j => 0 < j) fun i j => .int (i % j)) := opI fun i j _ _ _ _ _ hc q => by
  have h1 : (0 : Int) < j := hc
  exact mod_int' (by omega) (by rw [Int.fmod_eq_emod_of_nonneg i (by omega)]; exact q)
theorem op_pow : OpR X (binaryOp .Pow) (rI CPow fun i j => .int (i ^ j.toNat)) := opI fun _ _ _ _ _ _ _ hc q => pow_int_small hc.1 hc.2.1 hc.2.2 q
theorem unI {f : Value → Sem Value} {g : Int → Int}
    (rule : ∀ (i : Int) (t : Tok) (s : Shared) (Q : Value → Shared → Prop) (E : Value → Shared → Prop), Q (.int (g i) s.toks) { s with toks := s.toks + 1 } → wpAny (model X.prog X.w) X.A (f (.int i t)) Q E s) :
    UnR X f (rU fun i => .int (g i)) := by
  intro pins s σ H x v Q I rx h
  obtain ⟨i, rfl, q⟩ := h
  obtain ⟨t, rfl⟩ := rx
  exact rule i t s _ _ ⟨.int (g i), H, I.tok _, ⟨_, rfl⟩, q⟩
theorem un_neg : UnR X (unaryOp .USub) (rU fun i => .int (-i)) := unI fun _ _ _ _ _ q => neg_int q
end
def scal : V → V → Bool
  | .non, .non => true | .non, .int _ => true | .int _, .non => true | .non, .bl _ => true | .bl _, .non => true | .non, .str _ => true | .str _, .non => true
  | .int _, .int _ => true | .bl _, .bl _ => true | .str _, .str _ => true | .byt _, .byt _ => true
  | .int _, .str _ => true | .str _, .int _ => true | .bl _, .str _ => true | .str _, .bl _ => true
  | _, _ => false
def rEq : R2 := fun x y H Q => scal x y = true ∧ Q (.bl (decide (x = y))) H
def rNe : R2 := fun x y H Q => scal x y = true ∧ Q (.bl (!decide (x = y))) H
theorem dec_int {i j : Int} : decide (V.int i = V.int j) = (i == j) := by
  rw [Bool.eq_iff_iff]
  simp
theorem dec_bl {i j : Bool} : decide (V.bl i = V.bl j) = (i == j) := by
  rw [Bool.eq_iff_iff]
  simp
theorem dec_str {i j : Str} : decide (V.str i = V.str j) = (i == j) := by
  rw [Bool.eq_iff_iff]
  simp
theorem dec_byt {i j : Array UInt8} : decide (V.byt i = V.byt j) = (i.toList == j.toList) := by
  rw [Bool.eq_iff_iff]
  cases i
  cases j
  simp
section
variable {X : Cx} {a b c : Expr} {ta tb tc : TE} {pos : Pos}
theorem fin_bl {pins : List (Addr × Obj)} {σ : St} {H : Hp} {s : Shared} {Q : VK} {k k' : Bool} (I : Inv X pins σ H s) (q : Q (.bl k) H) (e : k = k') : EP X pins σ Q (.bool k') s := by
  subst e
  exact ⟨.bl k, H, I, rfl, q⟩
theorem op_eq : OpR X (compareOp .Eq) rEq := by
  intro pins s σ H x y v u Q I rx ry h
  obtain ⟨hs, q⟩ := h
  cases x with
  | non =>
    cases rx
    cases y with
    | non => cases ry; exact PySem.EqNone.eq_none_none (fin_bl I q (by simp))
    | bl j => cases ry; exact PySem.EqNone.eq_none_bool (fin_bl I q (by simp))
    | int j => obtain ⟨t', rfl⟩ := ry; exact PySem.EqNone.eq_none_int (fin_bl I q (by simp))
    | str j => obtain ⟨t', rfl⟩ := ry; exact PySem.EqNone.eq_none_str (fin_bl I q (by simp))
    | _ => exact absurd (show false = true from hs) Bool.false_ne_true
  | bl i =>
    cases rx
    cases y with
    | non => cases ry; exact PySem.EqNone.eq_bool_none (fin_bl I q (by simp))
    | bl j => cases ry; exact eq_bool (fin_bl I q dec_bl)
    | str j => obtain ⟨t', rfl⟩ := ry; exact PySem.EqMixed.eq_bool_str (fin_bl I q (by simp))
    | _ => exact absurd (show false = true from hs) Bool.false_ne_true
  | int i =>
    obtain ⟨t, rfl⟩ := rx
    cases y with
    | non => cases ry; exact PySem.EqNone.eq_int_none (fin_bl I q (by simp))
    | int j => obtain ⟨t', rfl⟩ := ry; exact eq_int (fin_bl I q dec_int)
    | str j => obtain ⟨t', rfl⟩ := ry; exact PySem.EqMixed.eq_int_str (fin_bl I q (by simp))
    | _ => exact absurd (show false = true from hs) Bool.false_ne_true
  | str i =>
    obtain ⟨t, rfl⟩ := rx
    cases y with
    | non => cases ry; exact PySem.EqNone.eq_str_none (fin_bl I q (by simp))
    | bl j => cases ry; exact PySem.EqMixed.eq_str_bool (fin_bl I q (by simp))
    | int j => obtain ⟨t', rfl⟩ := ry; exact PySem.EqMixed.eq_str_int (fin_bl I q (by simp))
    | str j => obtain ⟨t', rfl⟩ := ry; exact eq_str (fin_bl I q dec_str)
    | _ => exact absurd (show false = true from hs) Bool.false_ne_true
  | byt i =>
    obtain ⟨t, rfl⟩ := rx
    cases y with
    | byt j => obtain ⟨t', rfl⟩ := ry; exact PySem.W.eq_bytes (fin_bl I q dec_byt)
    | _ => exact absurd (show false = true from hs) Bool.false_ne_true
  | _ => cases y <;> exact absurd (show false = true from hs) Bool.false_ne_true
theorem op_ne : OpR X (compareOp .NotEq) rNe := by
  intro pins s σ H x y v u Q I rx ry h
  obtain ⟨hs, q⟩ := h
  cases x with
  | non =>
    cases rx
    cases y with
    | non => cases ry; exact PySem.EqNone.ne_none_none (fin_bl I q (by simp))
    | bl j => cases ry; exact PySem.EqNone.ne_none_bool (fin_bl I q (by simp))
    | int j => obtain ⟨t', rfl⟩ := ry; exact PySem.EqNone.ne_none_int (fin_bl I q (by simp))
    | str j => obtain ⟨t', rfl⟩ := ry; exact PySem.EqNone.ne_none_str (fin_bl I q (by simp))
    | _ => exact absurd (show false = true from hs) Bool.false_ne_true
  | bl i =>
    cases rx
    cases y with
    | non => cases ry; exact PySem.EqNone.ne_bool_none (fin_bl I q (by simp))
    | bl j => cases ry; exact ne_bool (fin_bl I q (congrArg not dec_bl))
    | str j => obtain ⟨t', rfl⟩ := ry; exact PySem.EqMixed.ne_bool_str (fin_bl I q (by simp))
    | _ => exact absurd (show false = true from hs) Bool.false_ne_true
  | int i =>
    obtain ⟨t, rfl⟩ := rx
    cases y with
    | non => cases ry; exact PySem.EqNone.ne_int_none (fin_bl I q (by simp))
    | int j => obtain ⟨t', rfl⟩ := ry; exact ne_int (fin_bl I q (congrArg not dec_int))
    | str j => obtain ⟨t', rfl⟩ := ry; exact PySem.EqMixed.ne_int_str (fin_bl I q (by simp))
    | _ => exact absurd (show false = true from hs) Bool.false_ne_true
  | str i =>
    obtain ⟨t, rfl⟩ := rx
    cases y with
    | non => cases ry; exact PySem.EqNone.ne_str_none (fin_bl I q (by simp))
    | bl j => cases ry; exact PySem.EqMixed.ne_str_bool (fin_bl I q (by simp))
    | int j => obtain ⟨t', rfl⟩ := ry; exact PySem.EqMixed.ne_str_int (fin_bl I q (by simp))
    | str j => obtain ⟨t', rfl⟩ := ry; exact ne_str (fin_bl I q (congrArg not dec_str))
    | _ => exact absurd (show false = true from hs) Bool.false_ne_true
  | byt i =>
    obtain ⟨t, rfl⟩ := rx
    cases y with
    | byt j => obtain ⟨t', rfl⟩ := ry; exact PySem.W.ne_bytes (fin_bl I q (congrArg not dec_byt))
    | _ => exact absurd (show false = true from hs) Bool.false_ne_true
  | _ => cases y <;> exact absurd (show false = true from hs) Bool.false_ne_true
theorem op_lt : OpR X (compareOp .Lt) (rI0 fun i j => .bl (decide (i < j))) := opB0 fun _ _ _ _ _ _ _ q => lt_int q
theorem op_le : OpR X (compareOp .LtE) (rI0 fun i j => .bl (decide (i ≤ j))) := opB0 fun _ _ _ _ _ _ _ q => le_int q
theorem op_gt : OpR X (compareOp .Gt) (rI0 fun i j => .bl (decide (j < i))) := opB0 fun _ _ _ _ _ _ _ q => gt_int q
theorem op_ge : OpR X (compareOp .GtE) (rI0 fun i j => .bl (decide (j ≤ i))) := opB0 fun _ _ _ _ _ _ _ q => ge_int q
theorem op_isN : OpR X (compareOp .Is) (fun x y H Q => y = .non ∧ Q (.bl (decide (x = .non))) H) := by
  intro pins s σ H x y v u Q I rx ry h
  obtain ⟨rfl, q⟩ := h
  cases ry
  refine is_none_gen (fin_bl I q ?_)
  cases x <;> first
    | (cases rx; rfl)
    | (obtain ⟨t, rfl⟩ := rx; rfl)
theorem op_notN : OpR X (compareOp .IsNot) (fun x y H Q => y = .non ∧ Q (.bl (!decide (x = .non))) H) := by
  intro pins s σ H x y v u Q I rx ry h
  obtain ⟨rfl, q⟩ := h
  cases ry
  refine isnot_none_gen (fin_bl I q ?_)
  cases x <;> first
    | (cases rx; rfl)
    | (obtain ⟨t, rfl⟩ := rx; rfl)
theorem nomark (b : Expr) {op : CmpOp} (h : op ≠ .In := by decide) (h2 : op ≠ .NotIn := by decide) : behindInMarks op b = false := by
  have e1 : (op == CmpOp.In) = false := by cases op <;> first | rfl | exact absurd rfl h
  have e2 : (op == CmpOp.NotIn) = false := by cases op <;> first | rfl | exact absurd rfl h2
  cases b <;> simp [behindInMarks, e1, e2]
theorem pe_cmpR {op : CmpOp} {r : R2} (ho : OpR X (compareOp op) r) (ha : PE X a ta) (hb : PE X b tb) (hm : behindInMarks op b = false) : PE X (.Compare a [op] [b] pos) (tOp r ta tb) := by
  intro pins s σ H Q I h
  exact wpAny_Compare1 (binT ha hb I h fun v u s2 x y H2 I2 rx ry q => ho pins s2 σ H2 x y v u Q I2 rx ry q) hm
def tTest (t : TE) : TT := fun σ H Q => t σ H fun x H' => ∃ k, x = .bl k ∧ Q k H'
theorem pt_cmpR {op : CmpOp} {r : R2} (ho : OpR X (compareOp op) r) (ha : PE X a ta) (hb : PE X b tb) (hm : behindInMarks op b = false) : PT X (.Compare a [op] [b] pos) (tTest (tOp r ta tb)) := by
  intro pins s σ H Q I h
  refine wpAny_isTrue_Compare1 (thn (ha pins s σ H _ I h) fun v s1 ⟨x, H1, I1, r1, q1⟩ => thn (hb pins s1 σ H1 _ I1 q1) fun u s2 ⟨y, H2, I2, r2, q2⟩ =>
    thn (ho pins s2 σ H2 x y v u _ I2 r1 r2 q2) fun c s3 ⟨z, H3, I3, r3, k, e, q3⟩ => ?_) hm
  subst e
  cases r3
  exact wpAny_truthy_bool ⟨H3, I3, q3⟩
def tChain (r r' : R2) (ta tb tc : TE) : TE := fun σ H Q => ta σ H fun x H1 => tb σ H1 fun y H2 => r x y H2 fun z H3 => ∃ k, z = .bl k ∧
  (if k = true then tc σ H3 fun w' H4 => r' y w' H4 Q else Q (.bl false) H3)
theorem pe_chain {op op' : CmpOp} {r r' : R2} (ho : OpR X (compareOp op) r) (ho' : OpR X (compareOp op') r') (ha : PE X a ta) (hb : PE X b tb) (hc : PE X c tc)
    (hm : lastMarks [op, op'] [b, c] = false := by with_unfolding_all rfl) : PE X (.Compare a [op, op'] [b, c] pos) (tChain r r' ta tb tc) := by
  intro pins s σ H Q I h
  refine Compare_chain (thn (ha pins s σ H _ I h) fun v s1 ⟨x, H1, I1, r1, q1⟩ => chain_link (thn (hb pins s1 σ H1 _ I1 q1) fun u s2 ⟨y, H2, I2, r2, q2⟩ =>
    thn (ho pins s2 σ H2 x y v u _ I2 r1 r2 q2) fun d s3 ⟨z, H3, I3, r3, k, e, q3⟩ => ?_)) hm
  subst e
  cases r3
  refine wpAny_truthy_bool ?_
  cases k with
  | false => exact ite_ff ⟨.bl false, H3, I3, rfl, q3⟩
  | true => exact ite_tt (chain_last (thn (hc pins s3 σ H3 _ I3 q3) fun w' s4 ⟨z', H4, I4, r4, q4⟩ => ho' pins s4 σ H4 y z' u w' Q I4 r2 r4 q4))
theorem pt_chain {op op' : CmpOp} {r r' : R2} (ho : OpR X (compareOp op) r) (ho' : OpR X (compareOp op') r') (ha : PE X a ta) (hb : PE X b tb) (hc : PE X c tc)
    (hm : lastMarks [op, op'] [b, c] = false := by with_unfolding_all rfl) : PT X (.Compare a [op, op'] [b, c] pos) (tTest (tChain r r' ta tb tc)) := by
  intro pins s σ H Q I h
  refine isTrue_chain (thn (ha pins s σ H _ I h) fun v s1 ⟨x, H1, I1, r1, q1⟩ => test_link (thn (hb pins s1 σ H1 _ I1 q1) fun u s2 ⟨y, H2, I2, r2, q2⟩ =>
    thn (ho pins s2 σ H2 x y v u _ I2 r1 r2 q2) fun d s3 ⟨z, H3, I3, r3, k, e, q3⟩ => ?_)) hm
  subst e
  cases r3
  refine wpAny_truthy_bool ?_
  cases k with
  | false =>
    obtain ⟨k', e', q'⟩ := q3
    cases e'
    exact ite_ff ⟨H3, I3, q'⟩
  | true =>
    refine ite_tt (test_last (thn (hc pins s3 σ H3 _ I3 q3) fun w' s4 ⟨z', H4, I4, r4, q4⟩ => thn (ho' pins s4 σ H4 y z' u w' _ I4 r2 r4 q4) fun d' s5 ⟨z2, H5, I5, r5, k2, e2, q5⟩ => ?_))
    subst e2
    cases r5
    exact wpAny_truthy_bool ⟨H5, I5, q5⟩
theorem line63 : (sizeLine : Nat) < 2 ^ 63 := by rw [sizeLine_eq]; decide
theorem vals1 {x : V} {us : List Value} (r : Vals [x] us) : ∃ u, us = [u] ∧ RelV x u := by
  cases r with
  | cons r1 r2 => cases r2; exact ⟨_, rfl, r1⟩
theorem vals2 {x y : V} {us : List Value} (r : Vals [x, y] us) : ∃ u w', us = [u, w'] ∧ RelV x u ∧ RelV y w' := by
  cases r with
  | cons r1 r2 =>
    cases r2 with
    | cons r3 r4 => cases r4; exact ⟨_, _, rfl, r1, r3⟩
theorem call_max2 (hc : X.calm = true) : CallR X (.builtin "max") (fun xs H Q => ∃ i j, xs = [.int i, .int j] ∧ Q (.int (if j > i then j else i)) H) := by
  intro pins s σ H xs us Q I r h
  obtain ⟨i, j, rfl, q⟩ := h
  obtain ⟨u, w', rfl, ⟨t, rfl⟩, ⟨t', rfl⟩⟩ := vals2 r
  refine max_two_ints (I.ok.hd hc) fun h' tk k => ⟨_, H, I.kept k, ?_, q⟩
  by_cases hj : j > i
  · rw [if_pos hj, if_pos hj]; exact ⟨_, rfl⟩
  · rw [if_neg hj, if_neg hj]; exact ⟨_, rfl⟩
theorem call_min2 (hc : X.calm = true) : CallR X (.builtin "min") (fun xs H Q => ∃ i j, xs = [.int i, .int j] ∧ Q (.int (if j < i then j else i)) H) := by
  intro pins s σ H xs us Q I r h
  obtain ⟨i, j, rfl, q⟩ := h
  obtain ⟨u, w', rfl, ⟨t, rfl⟩, ⟨t', rfl⟩⟩ := vals2 r
  refine min_two_ints (I.ok.hd hc) fun h' tk k => ⟨_, H, I.kept k, ?_, q⟩
  by_cases hj : j < i
  · rw [if_pos hj, if_pos hj]; exact ⟨_, rfl⟩
  · rw [if_neg hj, if_neg hj]; exact ⟨_, rfl⟩
theorem call_int1 : CallR X (.type "int") (fun xs H Q => (∃ i, xs = [.int i] ∧ Q (.int i) H) ∨ ∃ k, xs = [.bl k] ∧ Q (.int (if k then 1 else 0)) H) := by
  intro pins s σ H xs us Q I r h
  rcases h with ⟨i, rfl, q⟩ | ⟨k, rfl, q⟩
  · obtain ⟨u, rfl, t, rfl⟩ := vals1 r
    exact call_int_int ⟨.int i, H, I, ⟨_, rfl⟩, q⟩
  · obtain ⟨u, rfl, r1⟩ := vals1 r
    cases r1
    exact call_int_bool ⟨.int (if k then 1 else 0), H, I.tok _, ⟨_, rfl⟩, q⟩
end
end L2
namespace L2
open PySem PySem.Spec PyProof.Rows
structure ObjM (h : Heap) (x dx C : Addr) (mA : Str → Option Value) : Prop where
  obj : h.get? x = some (PySem.W.instObj C dx)
  ns : h.Ns1 dx mA
  ne : dx ≠ x
theorem lookIn_ns {h : Heap} {dx : Addr} {mA : Str → Option Value} (n : h.Ns1 dx mA) : ∃ od, h.get? dx = some od ∧ ∀ name, PySem.W.lookIn name od = some (mA name) := by
  obtain ⟨o, es, ep, ho, hd, hk, _, hm⟩ := n
  refine ⟨o, ho, fun name => ?_⟩
  have e := hm name
  unfold nsFind findBy at e
  rw [← Array.find?_toList] at e
  unfold PySem.W.lookIn
  rw [hd]
  dsimp only
  split
  · rename_i y q
    rw [q] at e
    exact congrArg some e
  · rename_i q
    rw [q] at e
    have a : es.toList.any (·.refKey) = false := by
      rw [List.any_eq_false]
      intro y hy
      obtain ⟨z, t, hkey⟩ := hk y (Array.mem_toList_iff.mp hy)
      simp [DictEntry.refKey, hkey]
    have a' : ¬ es.toList.any (·.refKey) = true := by rw [a]; exact Bool.false_ne_true
    rw [if_neg a']
    exact congrArg some e
theorem ObjM.look {h : Heap} {x dx C : Addr} {mA : Str → Option Value} (I : ObjM h x dx C mA) : ∃ od, PySem.W.InstAt h x (PySem.W.instObj C dx) C (some od) ∧ ∀ name, PySem.W.lookIn name od = some (mA name) :=
  let ⟨od, ho, hl⟩ := lookIn_ns I.ns
  ⟨od, ⟨I.obj, rfl, rfl, ho⟩, hl⟩
section
variable {prog : Program} {w : World} {A : Around} {E : Value → Shared → Prop} {s : Shared} {K : PySem.W.Frag} {x dx C f : Addr} {mA : Str → Option Value} {name : Str} {v : Value}
theorem get_map {expr : Bool} {Q : Value → Shared → Prop} (X : K.In s.heap) (I : ObjM s.heap x dx C mA) (hg : PySem.W.plainGet K C name = true) (hh : PySem.W.hasDictIn K C = true)
    (ha : PySem.W.findIn K (.ref C) name = some none) (hv : mA name = some v) (hv' : PySem.W.handedIn v = true) (h : Q v { s with toks := s.toks + 1 }) :
    wpAny (model prog w) A (getAttr (.ref x) name expr) Q E s := by
  obtain ⟨od, J, hl⟩ := I.look
  exact PySem.W.get_value X J (PySem.W.plainGet_of hg).1 (PySem.W.findObj_own hh ha rfl (by rw [hl, hv])) hv' h
theorem get_meth {pl : Sem Bool} {Q : Value × List Value → Shared → Prop} (X : K.In s.heap) (I : ObjM s.heap x dx C mA) (hg : PySem.W.plainGet K C name = true)
    (hf : PySem.W.findIn K (.ref C) name = some (some (.ref f))) (ht : PySem.W.isFn K (.ref f) = true) (hv : mA name = none) (h : Q (.ref f, [.ref x]) s) :
    wpAny (model prog w) A (getMethod (.ref x) name pl) Q E s := by
  obtain ⟨od, J, hl⟩ := I.look
  exact PySem.W.method_fn X J (PySem.W.plainGet_of hg).1 (PySem.W.plainGet_of hg).2 hf (beq_iff_eq.mp ht) (by show (PySem.W.lookIn name od).map (·.isSome) = some false; rw [hl, hv]; rfl) h
theorem set_map {ns : List Str} {Q : Unit → Shared → Prop} (X : K.In s.heap) (I : ObjM s.heap x dx C mA)
    (hs : PySem.W.findIn K (.ref C) "__setattr__" = some (some (.builtin "object.__setattr__"))) (hp : PySem.W.plainOver K C = true) (ht : PySem.W.takerIn K C name = some none) (hh : PySem.W.hasDictIn K C = true)
    (hw : PySem.Within mA ns) (hsz : ns.length ≤ sizeLine)
    (h : ∀ h', ObjM h' x dx C (fun y => if y = name then some v else mA y) → Heap.SameBut dx s.heap h' → Q () { s with heap := h', toks := s.toks + 2 }) :
    wpAny (model prog w) A (setAttr (.ref x) name v) Q E s := by
  obtain ⟨od, J, hl⟩ := I.look
  refine PySem.W.set_plain X J hs (PySem.W.osa_open (s := { s with toks := s.toks + 1 }) (r := none) X J hp ht fun b => ?_)
  obtain ⟨cd, hc, hd'⟩ := PySem.W.any_some hh
  have hx : s.heap.get? x = some ⟨.ref C, some dx, .plain, #[]⟩ := I.obj
  refine wpAny_bind (wpAny_pure (wpAny_bind (wpAny_bind (wpAny_loadPart hx (wpAny_bind (PySem.W.Looks.here (s := { s with toks := s.toks + 1 }) (PySem.W.looks_clsIn X hc) ?_))))))
  rw [hd']
  refine wpAny_pure (a := some dx) (wpAny_bind (wpAny_pure (wpAny_bind ?_)))
  refine wpAny_nsSet1 (s := { s with toks := s.toks + 1 }) I.ns fun h' hn2 hs2 => ?_
  obtain ⟨oD, esD, epD, hoD, hdD, hcD⟩ := hn2.count (PySem.Within.cons name v hw)
  refine wpAny_bind (wpAny_lookBehind hoD (by rw [hdD]; exact pastItsLine_dict (Nat.le_trans hcD (by rw [List.length_cons]; omega))) ?_)
  exact wpAny_pure (h _ ⟨(hs2.2 _ (Ne.symm I.ne)).trans I.obj, hn2, I.ne⟩ hs2)
theorem make_map {R : Result → Shared → Prop} {vs : List Value} {kw : List (Str × Value)} (X : K.In s.heap) (hm : PySem.W.makesIn K C = true)
    (hi : PySem.W.findIn K (.ref C) "__init__" = some (some (.ref f))) (hf : PySem.W.typeIn K (.ref f) = some (.type "function"))
    (h : codeAny (model prog w) (A.under (.builtin "type.__call__" ⟨.ref C :: vs, kw⟩)) (.call (.ref f) ⟨.ref (s.heap.objs.size + 1) :: vs, kw⟩) (PySem.W.InitBack (s.heap.objs.size + 1) R)
      { s with heap := (s.heap.push PySem.W.emptyDict).push (PySem.W.instObj C s.heap.objs.size) }) :
    codeAny (model prog w) A (.call (.ref C) ⟨vs, kw⟩) R s := by
  obtain ⟨hh, g, d, t, os⟩ := s
  exact PySem.W.make_core (PySem.W.makes_of X hm) (PySem.W.looks_findIn X hi) (fun self => PySem.W.bind_fn X self hf) (.inl rfl) h
end
def putF (f : Str) (v : V) : List (Str × V) → List (Str × V)
  | [] => [(f, v)]
  | (g, x) :: r => if g = f then (g, v) :: r else (g, x) :: putF f v r
theorem lookup_putF (f g : Str) (v : V) : ∀ fs : List (Str × V), (putF f v fs).lookup g = if g = f then some v else fs.lookup g
  | [] => by
    show List.lookup g [(f, v)] = _
    by_cases h : g = f
    · have hb : (g == f) = true := beq_iff_eq.mpr h
      simp only [List.lookup, hb, if_pos h]
    · have hb : (g == f) = false := beq_eq_false_iff_ne.mpr h
      simp only [List.lookup, hb, if_neg h]
  | (k, x) :: r => by
    have ih := lookup_putF f g v r
    rw [show putF f v ((k, x) :: r) = (if k = f then (k, v) :: r else (k, x) :: putF f v r) from rfl]
    by_cases hk : k = f
    · rw [if_pos hk]
      by_cases h : g = k
      · have hb : (g == k) = true := beq_iff_eq.mpr h
        simp only [List.lookup, hb, if_pos (h.trans hk)]
      · have hb : (g == k) = false := beq_eq_false_iff_ne.mpr h
        simp only [List.lookup, hb, if_neg (fun e : g = f => h (e.trans hk.symm))]
    · rw [if_neg hk]
      by_cases h : g = k
      · have hb : (g == k) = true := beq_iff_eq.mpr h
        simp only [List.lookup, hb, if_neg (fun e : g = f => hk (h.symm.trans e))]
      · have hb : (g == k) = false := beq_eq_false_iff_ne.mpr h
        simp only [List.lookup, hb]
        exact ih
theorem keys_putF (f : Str) (v : V) : ∀ fs : List (Str × V), f ∈ (putF f v fs).map (·.1) ∧ ∀ g, g ∈ fs.map (·.1) → g ∈ (putF f v fs).map (·.1)
  | [] => ⟨by simp [putF], fun g h => by simp at h⟩
  | (k, x) :: r => by
    obtain ⟨i1, i2⟩ := keys_putF f v r
    rw [show putF f v ((k, x) :: r) = (if k = f then (k, v) :: r else (k, x) :: putF f v r) from rfl]
    by_cases hk : k = f
    · rw [if_pos hk]
      subst hk
      exact ⟨by simp, fun g h => by simpa using h⟩
    · rw [if_neg hk]
      refine ⟨?_, fun g h => ?_⟩
      · rw [List.map_cons]
        exact List.mem_cons_of_mem _ i1
      · rw [List.map_cons] at h ⊢
        rcases List.mem_cons.mp h with e | e
        · exact List.mem_cons.mpr (.inl e)
        · exact List.mem_cons_of_mem _ (i2 g e)
theorem length_putF (f : Str) (v : V) : ∀ fs : List (Str × V), (putF f v fs).length ≤ fs.length + 1
  | [] => by simp [putF]
  | (k, x) :: r => by
    have ih := length_putF f v r
    rw [show putF f v ((k, x) :: r) = (if k = f then (k, v) :: r else (k, x) :: putF f v r) from rfl]
    by_cases hk : k = f
    · rw [if_pos hk, List.length_cons, List.length_cons]; omega
    · rw [if_neg hk, List.length_cons, List.length_cons]; omega
theorem RelO.some_of {v : V} {o : Option Value} (r : RelO (some v) o) : ∃ u, o = some u ∧ RelV v u := by
  cases o with
  | none => exact (show False from r).elim
  | some u => exact ⟨u, rfl, r⟩
theorem RelO.none_of {o : Option Value} (r : RelO none o) : o = none := by
  cases o with
  | none => rfl
  | some u => exact (show False from r).elim
theorem handed_of {v : V} {u : Value} (r : RelV v u) : PySem.W.handedIn u = true := by
  cases v with
  | non => cases (show u = Value.none from r); rfl
  | bl b => cases (show u = Value.bool b from r); rfl
  | int i => obtain ⟨t, e⟩ := (show ∃ t, u = Value.int i t from r); cases e; rfl
  | str x => obtain ⟨t, e⟩ := (show ∃ t, u = Value.str x t from r); cases e; rfl
  | byt b => obtain ⟨t, e⟩ := (show ∃ t, u = Value.bytes b t from r); cases e; rfl
  | flt b => obtain ⟨t, e⟩ := (show ∃ t, u = Value.float b t from r); cases e; rfl
  | ref a => cases (show u = Value.ref a from r); rfl
  | ty n => cases (show u = Value.type n from r); rfl
section
variable {P : Program} {w : World} {H H' : Hp} {h h' : Heap} {a C dx : Addr} {fs fs' : List (Str × V)}
theorem ins_get (hok : HOk P w H h) (e : H a = some (.ins C dx fs)) : ∃ mA, ObjM h a dx C mA ∧ (∀ f, RelO (fs.lookup f) (mA f)) ∧ PySem.Within mA (fs.map (·.1)) ∧ fs.length ≤ 1000 ∧ H dx = some (.own a) := by
  obtain ⟨d, z, ne, ob, mA, n, r, q⟩ := (show ObjOk P w H h a (.ins C dx fs) from hok a _ e)
  exact ⟨mA, ⟨ob, n, ne⟩, r, q, z, d⟩
end
structure Cls (K : PySem.W.Frag) (C : Addr) : Prop where
  pg : PySem.W.plainGet K C Str.empty = true
  hd : PySem.W.hasDictIn K C = true
  po : PySem.W.plainOver K C = true
  sa : PySem.W.findIn K (.ref C) "__setattr__" = some (some (.builtin "object.__setattr__"))
theorem Cls.get {K : PySem.W.Frag} {C : Addr} (c : Cls K C) (f : Str) : PySem.W.plainGet K C f = true := c.pg
def NoAttr (K : PySem.W.Frag) (C : Addr) (f : Str) : Prop := PySem.W.findIn K (.ref C) f = some none
theorem NoAttr.taker {K : PySem.W.Frag} {C : Addr} {f : Str} (n : NoAttr K C f) : PySem.W.takerIn K C f = some none := by
  unfold PySem.W.takerIn
  rw [show PySem.W.findIn K (.ref C) f = some none from n]
  rfl
structure Con (K : PySem.W.Frag) (C : Addr) (f : Str) (v : V) (u : Value) : Prop where
  at_ : PySem.W.findIn K (.ref C) f = some (some u)
  rel : RelV v u
  get : PySem.W.specialIn K u "__get__" = some none
  cp : PySem.W.copiedNames.contains f = false
structure Meth (K : PySem.W.Frag) (C : Addr) (m : Str) (f : Addr) : Prop where
  at_ : PySem.W.findIn K (.ref C) m = some (some (.ref f))
  fn : PySem.W.isFn K (.ref f) = true
  kp : PySem.W.keepIn K (.ref f) = true
section
variable {X : Cx} {pins : List (Addr × Obj)} {σ : St} {H : Hp} {s : Shared} {a C dx : Addr} {fs : List (Str × V)} {f : Str} {v : V} {A : Around} {E : Value → Shared → Prop}
theorem getattr_ok {b : Bool} {Q : Value → Shared → Prop} (I : Inv X pins σ H s) (e : H a = some (.ins C dx fs)) (c : Cls X.K C) (n : NoAttr X.K C f) (l : fs.lookup f = some v)
    (h : ∀ u s', Inv X pins σ H s' → RelV v u → Q u s') : wpAny (model X.prog X.w) A (getAttr (.ref a) f b) Q E s := by
  obtain ⟨mA, O, r, _, _, _⟩ := ins_get I.hok e
  obtain ⟨u, hu, ru⟩ := RelO.some_of (v := v) (o := mA f) (by rw [← l]; exact r f)
  exact get_map I.kIn O (c.get f) c.hd n hu (handed_of ru) (h u _ (I.tok _) ru)
theorem getmeth_ok {m : Str} {g : Addr} {pl : Sem Bool} {Q : Value × List Value → Shared → Prop} (I : Inv X pins σ H s) (e : H a = some (.ins C dx fs)) (c : Cls X.K C) (k : Meth X.K C m g) (l : fs.lookup m = none)
    (h : Q (.ref g, [.ref a]) s) : wpAny (model X.prog X.w) A (getMethod (.ref a) m pl) Q E s := by
  obtain ⟨mA, O, r, _, _, _⟩ := ins_get I.hok e
  have hn : mA m = none := RelO.none_of (by rw [← l]; exact r m)
  exact get_meth I.kIn O (c.get m) k.at_ k.fn hn h
theorem setattr_ok {y : V} {u : Value} {Q : Unit → Shared → Prop} (I : Inv X pins σ H s) (e : H a = some (.ins C dx fs)) (c : Cls X.K C) (n : NoAttr X.K C f) (hl : fs.length < 1000) (ry : RelV y u)
    (h : ∀ s', Inv X pins σ (upd H a (.ins C dx (putF f y fs))) s' → Q () s') : wpAny (model X.prog X.w) A (setAttr (.ref a) f u) Q E s := by
  obtain ⟨mA, O, r, wi, _, ho⟩ := ins_get I.hok e
  have hz : (fs.map (·.1)).length ≤ sizeLine := by rw [List.length_map, sizeLine_eq]; omega
  refine set_map I.kIn O c.sa c.po n.taker c.hd wi hz fun h' O' sb => h _ ?_
  have hd : ∃ o, h'.get? dx = some o := let ⟨o, _, _, e', _⟩ := O'.ns; ⟨o, e'⟩
  refine I.write (x := a) (e := dx) (by rw [e]; exact True.intro) (.inr ho) (fun b q hb z => (sb.2 b hb).trans z) hd ?_
  refine ⟨by rw [upd_ne O.ne]; exact ho, ?_, O.ne, O'.obj, _, O'.ns, fun g => ?_, fun g hg => ?_⟩
  · have := length_putF f y fs; omega
  · show RelO ((putF f y fs).lookup g) (if g = f then some u else mA g)
    rw [lookup_putF]
    by_cases q : g = f
    · rw [if_pos q, if_pos q]; exact ry
    · rw [if_neg q, if_neg q]; exact r g
  · by_cases q : g = f
    · rw [q]; exact (keys_putF f y fs).1
    · refine (keys_putF f y fs).2 g (wi g fun z => hg ?_)
      show (if g = f then some u else mA g) = none
      rw [if_neg q]; exact z
theorem Inv.made (I : Inv X pins σ H s) : Inv X pins σ (upd (upd H s.heap.objs.size (.own (s.heap.objs.size + 1))) (s.heap.objs.size + 1) (.ins C s.heap.objs.size []))
    { s with heap := (s.heap.push PySem.W.emptyDict).push (PySem.W.instObj C s.heap.objs.size) } := by
  have e1 : (s.heap.push PySem.W.emptyDict).get? s.heap.objs.size = some PySem.W.emptyDict := Heap.get?_push_size s.heap rfl
  have e2 : ((s.heap.push PySem.W.emptyDict).push (PySem.W.instObj C s.heap.objs.size)).get? (s.heap.objs.size + 1) = some (PySem.W.instObj C s.heap.objs.size) := by
    have := Heap.get?_push_size (s.heap.push PySem.W.emptyDict) (o := PySem.W.instObj C s.heap.objs.size) rfl
    rwa [Heap.size_push] at this
  have e3 : (s.heap.push PySem.W.emptyDict).Ns s.heap.objs.size (fun _ => none) := ⟨PySem.W.emptyDict, #[], _, e1, rfl, (fun e he => absurd he (by simp)), fun _ => rfl⟩
  have I1 := I.laid (a := s.heap.objs.size) (o := .own (s.heap.objs.size + 1)) (h' := s.heap.push PySem.W.emptyDict) (t' := s.toks) (fun b u q => Heap.get?_push_of_some _ q) (Nat.le_refl _) ⟨_, e1⟩
  refine I1.laid (a := s.heap.objs.size + 1) (o := .ins C s.heap.objs.size []) (t' := s.toks) (fun b u q => Heap.get?_push_of_some _ q) (Nat.le_of_eq (Heap.size_push _ _)) ?_
  have ne : s.heap.objs.size ≠ s.heap.objs.size + 1 := Nat.ne_of_lt (Nat.lt_succ_self _)
  refine ⟨by rw [upd_ne ne, upd_same], Nat.zero_le _, ne, e2, fun _ => none, (Heap.Ns1.of_empty e3).at fun o q => Heap.get?_push_of_some _ q, fun _ => True.intro, fun y hy => absurd rfl hy⟩
theorem attr_of {prog : Program} {w : World} {env : Env} {e : Expr} {f : Str} {pos : Pos} {s : Shared} {Q : Value → Shared → Prop} (hb : attributeBase e f env (eval e env) = eval e env)
    (h : wpAny (model prog w) A (eval e env) (fun o s₁ => wpAny (model prog w) A (getAttr o f true) Q E s₁) E s) : wpAny (model prog w) A (eval (.Attribute e f pos) env) Q E s :=
  Attribute_any_ h (by rw [arm_eval_Attribute, hb])
end
def tFld (K : PySem.W.Frag) (ta : TE) (f : Str) : TE := fun σ H Q => ta σ H fun x H1 => ∃ a C dx fs v, x = .ref a ∧ H1 a = some (.ins C dx fs) ∧ Cls K C ∧ NoAttr K C f ∧ fs.lookup f = some v ∧ Q v H1
def sFld (K : PySem.W.Frag) (ta tv : TE) (f : Str) : TS := fun D σ H => tv σ H fun y H1 => ta σ H1 fun x H2 => ∃ a C dx fs, x = .ref a ∧ H2 a = some (.ins C dx fs) ∧ Cls K C ∧ NoAttr K C f ∧ fs.length < 1000 ∧
  D.nx σ (upd H2 a (.ins C dx (putF f y fs)))
section
variable {X : Cx} {o e value : Expr} {f : Str} {pos pos' tpos : Pos} {ta tv : TE}
theorem pe_fld (he : PE X e ta) (hb : attributeBase e f X.env (eval e X.env) = eval e X.env) : PE X (.Attribute e f pos) (tFld X.K ta f) := by
  intro pins s σ H Q I h
  refine attr_of hb (thn (he pins s σ H _ I h) fun u s1 ⟨x, H1, I1, rx, a, C, dx, fs, v, ex, ea, c, n, l, q⟩ => ?_)
  subst ex
  obtain rfl : u = Value.ref a := rx
  exact getattr_ok I1 ea c n l fun u' s2 I2 ru => ⟨v, H1, I2, ru, q⟩
theorem ps_fld (ha : PE X o ta) (hv : PE X value tv) (hs : swapsWith value (some (.Attribute o f pos')) pos.line X.env = pure false) : PS X (.Assign [.Attribute o f pos'] value pos) (sFld X.K ta tv f) := by
  intro pins s σ H D I h
  refine plainObj_wpAny_Assign_Attribute (thn (hv pins s σ H _ I h) fun u s1 ⟨y, H1, I1, ry, q⟩ => thn (ha pins s1 σ H1 _ I1 q) fun ov s2 ⟨x, H2, I2, rx, a, C, dx, fs, ex, ea, c, n, l, q2⟩ => ?_) hs
  subst ex
  obtain rfl : ov = Value.ref a := rx
  exact setattr_ok I2 ea c n l ry fun s3 I3 => ⟨σ, _, I3, q2⟩
end
section
variable {X : Cx} {pins : List (Addr × Obj)} {σ : St} {H : Hp} {s : Shared} {A : Around} {E : Value → Shared → Prop} {Q : Value → Shared → Prop} {c : Value} {b : Bool}
inductive TyOf (K : PySem.W.Frag) (H : Hp) : V → Value → Prop where
  | non : TyOf K H .non (.type "NoneType")
  | bl (x : Bool) : TyOf K H (.bl x) (.type "bool")
  | int (i : Int) : TyOf K H (.int i) (.type "int")
  | str (x : Str) : TyOf K H (.str x) (.type "str")
  | flt (x : UInt64) : TyOf K H (.flt x) (.type "float")
  | lst {a : Addr} {xs : List V} (e : H a = some (.lst xs)) : TyOf K H (.ref a) (.type "list")
  | frz {a : Addr} {o : Obj} {xs : List V} (e : H a = some (.frz o (.lst xs))) : TyOf K H (.ref a) (.type "list")
  | tup {a : Addr} {xs : List V} (e : H a = some (.tup xs)) : TyOf K H (.ref a) (.type "tuple")
  | dK {a : Addr} {kvs : List (Key × V)} (e : H a = some (.dK kvs)) : TyOf K H (.ref a) (.type "dict")
  | dT {a : Addr} {kvs : List (List Key × V)} (e : H a = some (.dT kvs)) : TyOf K H (.ref a) (.type "dict")
  | ins {a C dx : Addr} {fs : List (Str × V)} (e : H a = some (.ins C dx fs)) (cl : Cls K C) (ha : PySem.W.findIn K (.ref C) "__class__" = some (some (.builtin "object.__class__")))
      (hn : PySem.W.specialIn K (.builtin "object.__class__") "__get__" = some (some (.builtin "getset_descriptor.__get__"))) (htk : PySem.W.takesIn K (.builtin "object.__class__") = some true)
      (hm : PySem.W.mroIn K C (.type "object") = some true) : TyOf K H (.ref a) (.ref C)
theorem isinst_ok {x : V} {u t : Value} (I : Inv X pins σ H s) (rx : RelV x u) (ty : TyOf X.K H x t) (e : PySem.W.kitOne X.K t c = some b) (h : ∀ tk, Q (.bool b) { s with toks := tk }) :
    wpAny (model X.prog X.w) A (call (.builtin "isinstance") [u, c]) Q E s := by
  cases ty with
  | non => cases (show u = Value.none from rx); exact PySem.W.kia_one PySem.W.kitx_none I.kIn True.intro e (fun z => nomatch z) h
  | bl y => cases (show u = Value.bool y from rx); exact PySem.W.kia_one PySem.W.kitx_bool I.kIn True.intro e (fun z => nomatch z) h
  | int i => obtain ⟨t, q⟩ := (show ∃ t, u = Value.int i t from rx); cases q; exact PySem.W.kia_one PySem.W.kitx_int I.kIn True.intro e (fun z => nomatch z) h
  | str y => obtain ⟨t, q⟩ := (show ∃ t, u = Value.str y t from rx); cases q; exact PySem.W.kia_one PySem.W.kitx_str I.kIn True.intro e (fun z => nomatch z) h
  | flt y => obtain ⟨t, q⟩ := (show ∃ t, u = Value.float y t from rx); cases q; exact PySem.W.kia_one PySem.W.kitx_float I.kIn True.intro e (fun z => nomatch z) h
  | @lst a xs ea =>
    cases (show u = Value.ref a from rx)
    obtain ⟨_, _, n, _, h1⟩ := (show ObjOk X.prog X.w H s.heap a (.lst xs) from I.hok a _ ea)
    exact PySem.W.kia_one PySem.W.kitx_list I.kIn ⟨_, h1, rfl⟩ e (fun z => nomatch z) h
  | @frz a ob xs ea =>
    cases (show u = Value.ref a from rx)
    obtain ⟨_, _, _, n, _, h1⟩ := (show ObjOk X.prog X.w H s.heap a (.frz ob (.lst xs)) from I.hok a _ ea)
    exact PySem.W.kia_one PySem.W.kitx_list I.kIn ⟨_, h1, rfl⟩ e (fun z => nomatch z) h
  | @tup a xs ea =>
    cases (show u = Value.ref a from rx)
    obtain ⟨_, _, _, p⟩ := (show ObjOk X.prog X.w H s.heap a (.tup xs) from I.hok a _ ea)
    obtain ⟨o, h1, h2, _⟩ := p
    exact PySem.W.kia_one PySem.W.kitx_tuple I.kIn ⟨o, h1, h2⟩ e (fun z => nomatch z) h
  | @dK a kvs ea =>
    cases (show u = Value.ref a from rx)
    obtain ⟨_, _, vs, _, p⟩ := (show ObjOk X.prog X.w H s.heap a (.dK kvs) from I.hok a _ ea)
    obtain ⟨o, es, ep, h1, h2, _⟩ := p
    exact PySem.W.kia_one PySem.W.kitx_dict I.kIn ⟨o, h1, h2.1⟩ e (fun z => nomatch z) h
  | @dT a kvs ea =>
    cases (show u = Value.ref a from rx)
    obtain ⟨_, _, xs, _, o, es, ep, h1, h2, _⟩ := (show ObjOk X.prog X.w H s.heap a (.dT kvs) from I.hok a _ ea)
    exact PySem.W.kia_one PySem.W.kitx_dict I.kIn ⟨o, h1, h2.1⟩ e (fun z => nomatch z) h
  | @ins a C dx fs ea cl ha hn htk hm =>
    cases (show u = Value.ref a from rx)
    obtain ⟨mA, O, _⟩ := ins_get I.hok ea
    obtain ⟨od, J, _⟩ := O.look
    exact PySem.W.kia_one (PySem.W.kitx_own (cl.get _) cl.hd ha hn htk hm) I.kIn J e (fun z => nomatch z) h
end
end L2
namespace L2
open PySem PySem.Spec PyProof.Rows
structure Room (k : Nat) (A : Around) : Prop where
  hd : A.handled = none
  dp : A.depth + 3 * k + 5 < recursionLimit
  un : A.units + 16 * k + 200 < cLine
theorem Room.mono {j k : Nat} {A : Around} (r : Room k A) (h : j ≤ k) : Room j A := ⟨r.hd, by have := r.dp; omega, by have := r.un; omega⟩
theorem Room.deeper {k : Nat} {A : Around} (r : Room (k + 1) A) (env : Env) : Room k (A.deeper env) :=
  ⟨r.hd, by have := r.dp; show A.depth + 1 + 3 * k + 5 < _; omega, by have := r.un; show A.units + 3 + 16 * k + 200 < _; omega⟩
theorem Room.in1 {k : Nat} {A : Around} (r : Room (k + 1) A) : Room k A.in1 :=
  ⟨r.hd, by have := r.dp; show A.depth + 3 * k + 5 < _; omega, by have := r.un; show A.units + 1 + 16 * k + 200 < _; omega⟩
theorem make_depth {A : Around} {C : Addr} {us : List Value} {kw : List (Str × Value)} : (A.under (.builtin "type.__call__" ⟨.ref C :: us, kw⟩)).depth = A.depth + 1 := by
  first | rfl | simp [Around.under, Code.weight, Code.isCreation, Code.isGuard, Code.isCaller, Code.frames, Code.isFrame, guardIds]
theorem make_units {A : Around} {C : Addr} {us : List Value} {kw : List (Str × Value)} : (A.under (.builtin "type.__call__" ⟨.ref C :: us, kw⟩)).units = A.units + 1 := by
  first | rfl | simp [Around.under, Code.cUnits, Code.frames, Code.isFrame]
theorem Room.make {k : Nat} {A : Around} (r : Room (k + 1) A) (C : Addr) (us : List Value) (kw : List (Str × Value)) : Room k (A.under (.builtin "type.__call__" ⟨.ref C :: us, kw⟩)) :=
  ⟨r.hd, by have := r.dp; rw [make_depth]; omega, by have := r.un; rw [make_units]; omega⟩
theorem Room.depth {k : Nat} {A : Around} (r : Room k A) : A.depth < recursionLimit := by have := r.dp; omega
theorem Room.units {k : Nat} {A : Around} (r : Room k A) : A.units + 64 < cLine := by have := r.un; omega
def tNil : TA := fun _ H Q => Q [] H
def tCons (ta : TE) (tr : TA) : TA := fun σ H Q => ta σ H fun x H1 => tr σ H1 fun xs H2 => Q (x :: xs) H2
section
variable {X : Cx} {e : Expr} {es : List Expr} {te : TE} {t : TA} {pos : Pos}
theorem pa_nil : PA X [] tNil := fun _ _ _ _ H Q I h => Calls.spliced_nil ⟨[], H, I, .nil, h⟩
theorem pa_cons (ha : PE X e te) (hr : PA X es t) (hs : starEach (e :: es) X.env = (false, eval e X.env) :: starEach es X.env := by rfl) : PA X (e :: es) (tCons te t) := by
  intro pos pins s σ H Q I h
  rw [hs]
  show wpAny _ _ (spliced ((false, eval e X.env) :: backTo pos (starEach es X.env))) _ _ s
  refine Calls.spliced_cons (thn (ha pins s σ H _ I h) fun u s1 ⟨x, H1, I1, r1, q1⟩ => ?_)
  exact thn (hr pos pins s1 σ H1 _ I1 q1) fun us s2 ⟨xs, H2, I2, r2, q2⟩ => ⟨x :: xs, H2, I2, .cons r1 r2, q2⟩
def tTup (t : TA) : TE := fun σ H Q => t σ H fun xs H1 => xs.length ≤ sizeLine ∧ ∀ p, H1 p = none → Q (.ref p) (upd H1 p (.tup xs))
def tLst (t : TA) : TE := fun σ H Q => t σ H fun xs H1 => xs.length ≤ sizeLine ∧ ∀ p, H1 p = none → Q (.ref p) (upd H1 p (.lst xs))
theorem pe_tup {x1} (h : PA X es t) : PE X (.Tuple es x1 pos) (tTup t) := by
  intro pins s σ H Q I hq
  refine wpAny_Tuple_spliced (thn (h pos pins s σ H _ I hq) fun us s1 ⟨xs, H1, I1, r, z, q⟩ => ⟨by rw [← r.length]; exact z, ?_⟩)
  have hf : H1 s1.heap.objs.size = none := I1.hok.fresh (Nat.le_refl _)
  refine ⟨.ref s1.heap.objs.size, upd H1 s1.heap.objs.size (.tup xs), I1.laid (t' := s1.toks) (fun b u e => Heap.get?_push_of_some _ e) (Nat.le_refl _) ?_, rfl, q _ hf⟩
  exact ⟨z, us, r, ⟨_, Heap.get?_push_size _ rfl, rfl, _, rfl⟩⟩
theorem pe_lst (h : PA X es t) : PE X (.List es pos) (tLst t) := by
  intro pins s σ H Q I hq
  refine wpAny_List_spliced (thn (h pos pins s σ H _ I hq) fun us s1 ⟨xs, H1, I1, r, z, q⟩ => ⟨by rw [← r.length]; exact z, ?_⟩)
  have hf : H1 s1.heap.objs.size = none := I1.hok.fresh (Nat.le_refl _)
  refine ⟨.ref s1.heap.objs.size, upd H1 s1.heap.objs.size (.lst xs), I1.laid (t' := s1.toks) (fun b u e => Heap.get?_push_of_some _ e) (Nat.le_refl _) ?_, rfl, q _ hf⟩
  exact ⟨z, us, 0, r, Heap.get?_push_size _ rfl⟩
end
abbrev Sp := List V → Hp → VK → XK → Prop
abbrev CXT := List Env → Hp → Shared → XK → Value → Shared → Prop
structure Env0 (P : Program) (w : World) (K : PySem.W.Frag) (mg : Str → Option Value) (base : Heap) (A : Around) (outer : List Env) (s : Shared) (H : Hp) : Prop where
  frames : A.frames = some outer
  mod : Mod K mg base
  bs : ∀ b o, base.get? b = some o → s.heap.get? b = some o ∧ H b = none
  bsz : base.objs.size ≤ s.heap.objs.size
  funs : s.heap.FunFrames base outer
  frf : ∀ b ∈ frs outer, H b = none
  hok : HOk P w H s.heap
  bare : AllBare s.gens
def CE (outer : List Env) (P : Program) (w : World) (H : Hp) (s : Shared) (Q : VK) (u : Value) (s' : Shared) : Prop :=
  ∃ v H', s'.os = s.os ∧ AllBare s'.gens ∧ Un (frs outer) [] H H' s.heap s'.heap ∧ HOk P w H' s'.heap ∧ RelV v u ∧ Q v H'
def CR (CX : CXT) (outer : List Env) (P : Program) (w : World) (H : Hp) (s : Shared) (Q : VK) (E : XK) (r : Result) (s' : Shared) : Prop :=
  match r with
  | .ok (.ret u) => CE outer P w H s Q u s'
  | .ok _ => False
  | .error e => CX outer H s E e s'
structure FnOk (P : Program) (w : World) (K : PySem.W.Frag) (mg : Str → Option Value) (base : Heap) (CX : CXT) (k : Nat) (f : Addr) (fd : FuncData) (ps : List Str) (sp : Sp) : Prop where
  len : ∀ vs H Q E, sp vs H Q E → vs.length = ps.length
  run : ∀ (A : Around) (outer : List Env) (s : Shared) (H : Hp) (args : Args) (us : List Value) (vs : List V) (Q : VK) (E : XK), Room k A → Env0 P w K mg base A outer s H → BindsTo s fd args (ps.zip us) → Vals vs us → sp vs H Q E →
    codeAny (model P w) A (.call (.ref f) args) (CR CX outer P w H s Q E) s
theorem FnOk.mono {P : Program} {w : World} {K : PySem.W.Frag} {mg : Str → Option Value} {base : Heap} {CX : CXT} {j k : Nat} {f : Addr} {fd : FuncData} {ps : List Str} {sp : Sp} (F : FnOk P w K mg base CX j f fd ps sp) (h : j ≤ k) :
    FnOk P w K mg base CX k f fd ps sp := ⟨F.len, fun A outer s H args us vs Q E hr => F.run A outer s H args us vs Q E (hr.mono h)⟩
theorem Env0.make {P : Program} {w : World} {K : PySem.W.Frag} {mg : Str → Option Value} {base : Heap} {A : Around} {outer : List Env} {s : Shared} {H : Hp} (e : Env0 P w K mg base A outer s H) (C : Addr) (us : List Value) (kw : List (Str × Value)) :
    Env0 P w K mg base (A.under (.builtin "type.__call__" ⟨.ref C :: us, kw⟩)) outer s H := ⟨by first | exact e.frames | (simpa [Around.under, Code.envs, Code.isFrame, pushEnvs] using e.frames), e.mod, e.bs, e.bsz, e.funs, e.frf, e.hok, e.bare⟩
theorem Env0.in1 {P : Program} {w : World} {K : PySem.W.Frag} {mg : Str → Option Value} {base : Heap} {A : Around} {outer : List Env} {s : Shared} {H : Hp} (e : Env0 P w K mg base A outer s H) :
    Env0 P w K mg base A.in1 outer s H := ⟨e.frames, e.mod, e.bs, e.bsz, e.funs, e.frf, e.hok, e.bare⟩
section
variable {X : Cx} {pins : List (Addr × Obj)} {σ : St} {H : Hp} {s s' : Shared}
theorem Inv.env0 (I : Inv X pins σ H s) : Env0 X.prog X.w X.K X.mg X.base X.A X.stack s H :=
  ⟨I.ok.frames, I.ok.mod, I.bs, Nat.le_trans I.ok.bsz I.sz, I.stack, I.stkFree, I.hok, I.bare⟩
theorem Inv.after {Q : VK} {u : Value} (I : Inv X pins σ H s) (h : CE X.stack X.prog X.w H s Q u s') : EP X pins σ Q u s' := by
  obtain ⟨v, H', os, bare, un, hok, r, q⟩ := h
  obtain ⟨hh, g, d, t, os'⟩ := s'
  obtain rfl : os' = s.os := os
  exact ⟨v, H', I.call (h' := hh) (g' := g) (d' := d) (t' := t) (ch := []) un hok bare (fun b z => absurd z (by simp)), r, q⟩
end
def tCall (sp : Sp) (dvs : List V) (E : XK) (t : TA) : TE := fun σ H Q => t σ H fun vs H1 => sp (vs ++ dvs) H1 Q E
def tMeth (C : Addr) (m : Str) (sp : Sp) (dvs : List V) (E : XK) (ta : TE) (t : TA) : TE := fun σ H Q => ta σ H fun x H1 => ∃ a dx fs, x = .ref a ∧ H1 a = some (.ins C dx fs) ∧ fs.lookup m = none ∧
  t σ H1 fun vs H2 => sp (x :: (vs ++ dvs)) H2 Q E
def tMake (C : Addr) (sp : Sp) (dvs : List V) (E : XK) (t : TA) : TE := fun σ H Q => t σ H fun vs H1 => ∀ x dx, H1 x = none → H1 dx = none → dx ≠ x →
  sp (.ref x :: (vs ++ dvs)) (upd (upd H1 dx (.own x)) x (.ins C dx [])) (fun v H2 => v = .non ∧ Q (.ref x) H2) E
def Binds (K : PySem.W.Frag) (fd : FuncData) (ps : List Str) (ds : List Value) : Prop :=
  ∀ (s : Shared) (us : List Value), K.In s.heap → (us ++ ds).length = ps.length → BindsTo s fd ⟨us, []⟩ (ps.zip (us ++ ds))
theorem Binds.all {K : PySem.W.Frag} {fd : FuncData} {ps : List Str} (h : ∀ us : List Value, us.length = ps.length → bindArgs fd ⟨us, []⟩ = pure (ps.zip us)) : Binds K fd ps [] := fun s us _ hl => by
  rw [List.append_nil] at hl ⊢
  exact .of_eq (h us hl)
def Passes (CX : CXT) (X : Cx) (E : XK) : Prop := ∀ (pins : List (Addr × Obj)) (σ : St) (H : Hp) (s : Shared) (e : Value) (s' : Shared), Inv X pins σ H s → CX X.stack H s E e s' → X.xe e s'
section
variable {X : Cx} {CX : CXT} {k : Nat} {f C : Addr} {fd : FuncData} {ps : List Str} {sp : Sp} {dvs : List V} {ds : List Value} {E : XK} {x m : Str} {p pos apos : Pos} {e o : Expr} {es : List Expr} {ta : TE} {t : TA}
theorem run_fn {pins : List (Addr × Obj)} {σ : St} {H : Hp} {s : Shared} {Q : VK} {us : List Value} {vs : List V} (F : FnOk X.prog X.w X.K X.mg X.base CX k f fd ps sp) (hr : Room k X.A) (hb : Binds X.K fd ps ds) (hd : Vals dvs ds) (hx : Passes CX X E)
    (I : Inv X pins σ H s) (r : Vals vs us) (h : sp (vs ++ dvs) H Q E) : wpAny (model X.prog X.w) X.A (call (.ref f) us) (EP X pins σ Q) X.xe s := by
  have r2 : Vals (vs ++ dvs) (us ++ ds) := r.append hd
  have hl : (us ++ ds).length = ps.length := by rw [← r2.length]; exact F.len _ _ _ _ h
  refine wpAny_call (codeAny_mono (F.run X.A X.stack s H ⟨us, []⟩ (us ++ ds) (vs ++ dvs) Q E hr I.env0 (hb s us I.kIn hl) r2 h) fun r s' hq => ?_)
  cases r with
  | error e => exact hx pins σ H s e s' I hq
  | ok fl =>
    cases fl with
    | ret u => exact I.after hq
    | next => exact False.elim hq
    | brk => exact False.elim hq
    | cont => exact False.elim hq
theorem pe_call (F : FnOk X.prog X.w X.K X.mg X.base CX k f fd ps sp) (hr : Room k X.A) (hg : Gl X x) (hm : X.mg x = some (.ref f)) (hk : PySem.W.keepIn X.K (.ref f) = true) (hb : Binds X.K fd ps ds) (hd : Vals dvs ds) (hx : Passes CX X E)
    (ha : PA X (e :: es) t) (hdb : (x == ("__debug__" : Str)) = false := by decide) (he : starEach (e :: es) X.env = (false, eval e X.env) :: starEach es X.env := by rfl) (hpl : (backTo pos (starEach es X.env)).any (·.1) = false := by rfl) :
    PE X (.Call (.Name x p) (e :: es) [] pos) (tCall sp dvs E t) := by
  intro pins s σ H Q I h
  refine wpAny_Call_Name_kw (ld_glob I hg hm ?_ hdb)
  refine PySem.W.callWith_K (h₀ := X.base) I.ok.mod.kin hk (thn (ha pos pins s σ H _ I h) fun us s1 ⟨vs, H1, I1, r, q⟩ => ⟨I1.kIn, ?_⟩) he hpl
  exact run_fn F hr hb hd hx I1 r q
theorem pe_meth {pl : Sem Bool} (he : PE X o ta) (c : Cls X.K C) (hm : Meth X.K C m f) (F : FnOk X.prog X.w X.K X.mg X.base CX k f fd ps sp) (hr : Room k X.A) (hb : Binds X.K fd ps ds) (hd : Vals dvs ds) (hx : Passes CX X E) (ha : PA X (e :: es) t)
    (hst : starEach (e :: es) X.env = (false, eval e X.env) :: starEach es X.env := by rfl) (hpl : (backTo pos (starEach es X.env)).any (·.1) = false := by rfl)
    (ht : eval (.Call (.Attribute o m apos) (e :: es) [] pos) X.env = (do
      let ov ← eval o X.env
      standAt apos.atName
      let (f, first) ← holding [ov] (getMethod ov m pl)
      callWith pos f first (backTo pos (starEach (e :: es) X.env)) (backToKw pos (keywordEach [] X.env))) := by rfl) :
    PE X (.Call (.Attribute o m apos) (e :: es) [] pos) (tMeth C m sp dvs E ta t) := by
  intro pins s σ H Q I h
  refine PySem.W.methodCall_KW (pl := pl) (thn (he pins s σ H _ I h) fun u s1 ⟨x, H1, I1, rx, a, dx, fs, ex, ea, l, q⟩ => ?_) ht
  subst ex
  obtain rfl : u = Value.ref a := rx
  refine getmeth_ok I1 ea c hm l ?_
  refine PySem.W.callWith_K (first := [.ref a]) (h₀ := X.base) I.ok.mod.kin hm.kp (thn (ha pos pins s1 σ H1 _ I1 q) fun us s2 ⟨vs, H2, I2, r, q2⟩ => ⟨I2.kIn, ?_⟩) hst hpl
  exact run_fn (us := .ref a :: us) (vs := .ref a :: vs) F hr hb hd hx I2 (.cons rfl r) q2
theorem pe_meth0 {pl : Sem Bool} (he : PE X o ta) (c : Cls X.K C) (hm : Meth X.K C m f) (F : FnOk X.prog X.w X.K X.mg X.base CX k f fd ps sp) (hr : Room k X.A) (hb : Binds X.K fd ps ds) (hd : Vals dvs ds) (hx : Passes CX X E)
    (ht : eval (.Call (.Attribute o m apos) [] [] pos) X.env = (do
      let ov ← eval o X.env
      standAt apos.atName
      let (f, first) ← holding [ov] (getMethod ov m pl)
      callWith pos f first (backTo pos (starEach [] X.env)) (backToKw pos (keywordEach [] X.env))) := by rfl) :
    PE X (.Call (.Attribute o m apos) [] [] pos) (tMeth C m sp dvs E ta tNil) := by
  intro pins s σ H Q I h
  refine PySem.W.methodCall_KW (pl := pl) (thn (he pins s σ H _ I h) fun u s1 ⟨x, H1, I1, rx, a, dx, fs, ex, ea, l, q⟩ => ?_) ht
  subst ex
  obtain rfl : u = Value.ref a := rx
  refine getmeth_ok I1 ea c hm l ?_
  exact PySem.W.callWith_K0 (first := [.ref a]) I1.kIn hm.kp (run_fn (us := [.ref a]) (vs := [.ref a]) F hr hb hd hx I1 (.cons rfl .nil) q)
structure Mk (K : PySem.W.Frag) (C f : Addr) : Prop where
  makes : PySem.W.makesIn K C = true
  init : PySem.W.findIn K (.ref C) "__init__" = some (some (.ref f))
  fn : PySem.W.isFn K (.ref f) = true
  kp : PySem.W.keepIn K (.ref C) = true
theorem run_make {pins : List (Addr × Obj)} {σ : St} {H : Hp} {s : Shared} {Q : VK} {us : List Value} {vs : List V} (M : Mk X.K C f) (F : FnOk X.prog X.w X.K X.mg X.base CX k f fd ps sp) (hr : Room (k + 1) X.A) (hb : Binds X.K fd ps ds) (hd : Vals dvs ds)
    (hx : Passes CX X E) (I : Inv X pins σ H s) (r : Vals vs us)
    (h : ∀ x dx, H x = none → H dx = none → dx ≠ x → sp (.ref x :: (vs ++ dvs)) (upd (upd H dx (.own x)) x (.ins C dx [])) (fun v H2 => v = .non ∧ Q (.ref x) H2) E) :
    wpAny (model X.prog X.w) X.A (call (.ref C) us) (EP X pins σ Q) X.xe s := by
  have hq := h (s.heap.objs.size + 1) s.heap.objs.size (I.hok.fresh (Nat.le_succ _)) (I.hok.fresh (Nat.le_refl _)) (Nat.ne_of_lt (Nat.lt_succ_self _))
  have I2 := Inv.made (C := C) I
  have r2 : Vals (V.ref (s.heap.objs.size + 1) :: (vs ++ dvs)) (Value.ref (s.heap.objs.size + 1) :: (us ++ ds)) := .cons rfl (r.append hd)
  have hl : (Value.ref (s.heap.objs.size + 1) :: us ++ ds).length = ps.length := by
    have e := r2.length
    rw [F.len _ _ _ _ hq] at e
    exact e.symm
  refine wpAny_call (make_map (f := f) I.kIn M.makes M.init (beq_iff_eq.mp M.fn) (codeAny_mono (F.run _ X.stack _ _ ⟨Value.ref (s.heap.objs.size + 1) :: us, []⟩ (Value.ref (s.heap.objs.size + 1) :: (us ++ ds)) _ _ E (hr.make C us [])
    (I2.env0.make C us []) (hb _ (Value.ref (s.heap.objs.size + 1) :: us) I2.kIn hl) r2 hq) fun r s' hq' => ?_))
  cases r with
  | error e => exact hx pins σ _ _ e s' I2 hq'
  | ok fl =>
    cases fl with
    | ret u =>
      obtain ⟨v, H', I3, rv, ev, q3⟩ := I2.after hq'
      subst ev
      exact ⟨rv, ⟨V.ref (s.heap.objs.size + 1), H', I3, rfl, q3⟩⟩
    | next => exact False.elim hq'
    | brk => exact False.elim hq'
    | cont => exact False.elim hq'
theorem pe_make (M : Mk X.K C f) (F : FnOk X.prog X.w X.K X.mg X.base CX k f fd ps sp) (hr : Room (k + 1) X.A) (hg : Gl X x) (hm : X.mg x = some (.ref C)) (hb : Binds X.K fd ps ds) (hd : Vals dvs ds) (hx : Passes CX X E)
    (ha : PA X (e :: es) t) (hdb : (x == ("__debug__" : Str)) = false := by decide) (he : starEach (e :: es) X.env = (false, eval e X.env) :: starEach es X.env := by rfl) (hpl : (backTo pos (starEach es X.env)).any (·.1) = false := by rfl) :
    PE X (.Call (.Name x p) (e :: es) [] pos) (tMake C sp dvs E t) := by
  intro pins s σ H Q I h
  refine wpAny_Call_Name_kw (ld_glob I hg hm ?_ hdb)
  refine PySem.W.callWith_K (h₀ := X.base) I.ok.mod.kin M.kp (thn (ha pos pins s σ H _ I h) fun us s1 ⟨vs, H1, I1, r, q⟩ => ⟨I1.kIn, ?_⟩) he hpl
  exact run_make M F hr hb hd hx I1 r q
end
section
variable {X : Cx} {CX : CXT} {k : Nat} {f C : Addr} {fd : FuncData} {ps ks : List Str} {sp : Sp} {E : XK} {x m : Str} {p pos apos kpos : Pos} {e o : Expr} {es : List Expr} {kws : List Keyword} {te ta : TE} {t tk : TA} {nm : Option Str}
structure KBinds (K : PySem.W.Frag) (fd : FuncData) (ps ks : List Str) (g : List Value → List Value → List Value) (gV : List V → List V → List V) : Prop where
  to : ∀ (s : Shared) (us ws : List Value), K.In s.heap → (g us ws).length = ps.length → BindsTo s fd ⟨us, ks.zip ws⟩ (ps.zip (g us ws))
  rel : ∀ {vs : List V} {us : List Value} {zs : List V} {ws : List Value}, Vals vs us → Vals zs ws → Vals (gV vs zs) (g us ws)
variable {g : List Value → List Value → List Value} {gV : List V → List V → List V}
end
structure FnScope (N P : List Str) (sc : Scope) : Prop where
  kind : sc.kind = .function
  co : sc.isCoroutine = false
  gen : sc.isGenerator = false
  nd : N.Nodup
  pre : N.take P.length = P
  par : ∀ x ∈ P, sc.names.lookup x = some .local ∨ sc.names.lookup x = some .cell
  nofree : ∀ y ∈ sc.names, y.2 ≠ .free
theorem bindL_out {kindOf : Str → Option NameKind} {x : Str} : ∀ {binds : List (Str × Value)} {m : Str → Option Value}, (∀ v, (x, v) ∉ binds) → bindL kindOf binds m x = m x
  | [], _, _ => rfl
  | (n, v) :: r, m, h => by
    unfold bindL
    rw [bindL_out fun w hw => h w (List.mem_cons_of_mem _ hw)]
    split
    · have : x ≠ n := by rintro rfl; exact h v List.mem_cons_self
      simp [this]
    · rfl
theorem bindC_out {kindOf : Str → Option NameKind} {x : Str} : ∀ {binds : List (Str × Value)} {m : Str → Option Value}, (∀ v, (x, v) ∉ binds) → bindC kindOf binds m x = m x
  | [], _, _ => rfl
  | (n, v) :: r, m, h => by
    unfold bindC
    rw [bindC_out fun w hw => h w (List.mem_cons_of_mem _ hw)]
    split
    · rfl
    · have : x ≠ n := by rintro rfl; exact h v List.mem_cons_self
      simp [this]
theorem bindL_get {kindOf : Str → Option NameKind} {x : Str} {v : Value} : ∀ {P : List Str} {vs : List Value} {i : Nat} {m : Str → Option Value}, P.Nodup → P[i]? = some x → vs[i]? = some v → kindOf x = some .local →
    bindL kindOf (P.zip vs) m x = some v
  | [], _, _, _, _, h, _, _ => by simp at h
  | _ :: _, [], _, _, _, _, h, _ => by simp at h
  | p :: P, w :: vs, 0, m, nd, h1, h2, hk => by
    simp at h1 h2; subst h1; subst h2
    show bindL kindOf ((p, w) :: P.zip vs) m p = _
    unfold bindL
    rw [bindL_out fun v hv => (List.nodup_cons.mp nd).1 (List.of_mem_zip hv).1, if_pos hk]
    simp
  | p :: P, w :: vs, i + 1, m, nd, h1, h2, hk => by
    show bindL kindOf ((p, w) :: P.zip vs) m x = _
    unfold bindL
    exact bindL_get (i := i) (List.nodup_cons.mp nd).2 (by simpa using h1) (by simpa using h2) hk
theorem bindC_get {kindOf : Str → Option NameKind} {x : Str} {v : Value} : ∀ {P : List Str} {vs : List Value} {i : Nat} {m : Str → Option Value}, P.Nodup → P[i]? = some x → vs[i]? = some v → kindOf x ≠ some .local →
    bindC kindOf (P.zip vs) m x = some v
  | [], _, _, _, _, h, _, _ => by simp at h
  | _ :: _, [], _, _, _, _, h, _ => by simp at h
  | p :: P, w :: vs, 0, m, nd, h1, h2, hk => by
    simp at h1 h2; subst h1; subst h2
    show bindC kindOf ((p, w) :: P.zip vs) m p = _
    unfold bindC
    rw [bindC_out fun v hv => (List.nodup_cons.mp nd).1 (List.of_mem_zip hv).1, if_neg hk]
    simp
  | p :: P, w :: vs, i + 1, m, nd, h1, h2, hk => by
    show bindC kindOf ((p, w) :: P.zip vs) m x = _
    unfold bindC
    exact bindC_get (i := i) (List.nodup_cons.mp nd).2 (by simpa using h1) (by simpa using h2) hk
def start (N : List Str) (vs : List V) : St := vs.map some ++ List.replicate (N.length - vs.length) none
def cxOf (CX : CXT) (P : Program) (w : World) (K : PySem.W.Frag) (mg : Str → Option Value) (base : Heap) (N : List Str) (qual : Str) (scope : Scope) (f : Addr) (cd : Value) (A : Around) (outer : List Env) (s : Shared) (H : Hp) (E : XK) : Cx where
  prog := P
  w := w
  K := K
  mg := mg
  base := base
  A := A.deeper (envOfC qual scope s.heap.objs.size f cd)
  N := N
  s₀ := s
  H₀ := H
  env := envOfC qual scope s.heap.objs.size f cd
  outer := outer
  stack := envOfC qual scope s.heap.objs.size f cd :: outer
  ex := []
  calm := true
  fn := fun _ => true
  pn := []
  xe := fun e s' => wpAny (model P w) (A.deeper (envOfC qual scope s.heap.objs.size f cd)) (leaving (envOfC qual scope s.heap.objs.size f cd) e) (fun _ s'' => CX outer H s E e s'') (fun e' s'' => CX outer H s E e' s'') s'
theorem cell_has {sc : Scope} {n : Nat} {x : Str} (h : sc.names.lookup x = some .cell) : ∃ c, (cellsFrom n sc.names []).lookup x = some c := by
  have q := PySem.W.cellsFrom_some sc.names n [] (.inl h)
  exact Option.isSome_iff_exists.mp q
theorem inv_start {CX : CXT} {P : Program} {w : World} {K : PySem.W.Frag} {mg : Str → Option Value} {base : Heap} {N ps : List Str} {qual : Str} {scope : Scope} {f : Addr} {cd : Value} {A : Around} {outer : List Env} {s s1 : Shared} {H : Hp} {E : XK} {us : List Value} {vs : List V}
    (S : FnScope N ps scope) (hd : A.handled = none) (e0 : Env0 P w K mg base A outer s H) (hl : vs.length = ps.length) (r : Vals vs us)
    (x : InCallC s s.heap.objs.size (bindL (envOfC qual scope s.heap.objs.size f cd).kindOf (ps.zip us) fun _ => none) (cellsFrom (s.heap.objs.size + 1) scope.names []) (bindC (envOfC qual scope s.heap.objs.size f cd).kindOf (ps.zip us) fun _ => none) s1) :
    Inv (cxOf CX P w K mg base N qual scope f cd A outer s H E) [] (start N vs) H s1 := by
  have hpl : ps.length ≤ N.length := by have := congrArg List.length S.pre; rw [List.length_take] at this; omega
  obtain ⟨h1, tk, rfl, hk⟩ := x.done
  have noA : ∀ b : Addr, b ∉ (cxOf CX P w K mg base N qual scope f cd A outer s H E).ex := fun b z => absurd (show b ∈ ([] : List Addr) from z) (by simp)
  refine ⟨⟨e0.mod, S.kind, rfl, rfl, Nat.le_refl _, fun y z c h1 h2 => ?_, fun y hy => ?_, fun y c _ h => ?_, fun _ => hd, Around.frames_deeper e0.frames, .inr ⟨rfl, rfl⟩, fun b z => absurd z (noA b), e0.bs, e0.bsz, fun b _ _ => noA b, fun b z => absurd z (noA b), e0.funs, e0.frf⟩,
    rfl, e0.bare, Un.kept hk, ⟨_, x.toInCall.ns, fun i y v h1 h2 h3 => ?_⟩, fun y c h => ⟨_, x.cell y c h⟩, e0.hok.fresh (Nat.le_refl _), fun y c h => ?_, fun p hp => absurd (show p ∈ ([] : List (Addr × Obj)) from hp) (by simp), e0.hok.kept hk, ?_⟩
  · exact name_of_addr x.apart (PySem.mem_of_lookup h1) (PySem.mem_of_lookup h2)
  · have hy : scope.names.lookup y = some .cell ∨ scope.names.lookup y = some .free := hy
    rcases hy with hy | hy
    · exact cell_has hy
    · exact absurd rfl (S.nofree _ (PySem.mem_of_lookup hy))
  · exact Nat.le_of_lt (x.above y c (PySem.mem_of_lookup h))
  · have hi : i < vs.length := by
      unfold start at h2
      by_cases hi : i < vs.length
      · exact hi
      · rw [List.getElem?_append_right (by simpa using hi)] at h2
        rw [List.getElem?_replicate] at h2
        split at h2 <;> cases h2
    have ha : vs[i]? = some v := by
      unfold start at h2
      rw [List.getElem?_append_left (by simpa using hi), List.getElem?_map] at h2
      cases e : vs[i]? with
      | none => rw [e] at h2; cases h2
      | some a => rw [e] at h2; cases h2; rfl
    obtain ⟨u, hu, rv⟩ := r.get ha
    have hp : ps[i]? = some y := by
      rw [← S.pre, List.getElem?_take_of_lt (by omega)]; exact h1
    have ndP : ps.Nodup := by rw [← S.pre]; exact S.nd.sublist (List.take_sublist _ _)
    refine ⟨u, rv, ?_⟩
    rcases S.par y (List.mem_of_getElem? hp) with k | k
    · exact .inl ⟨k, bindL_get ndP hp hu k⟩
    · obtain ⟨c, e⟩ := cell_has (n := s.heap.objs.size + 1) k
      refine .inr ⟨.inl k, c, e, ?_⟩
      have q := x.cell y c e
      rw [bindC_get ndP hp hu (by show scope.names.lookup y ≠ _; rw [k]; decide)] at q
      exact q
  · exact e0.hok.fresh (Nat.le_of_lt (x.above y c (PySem.mem_of_lookup h)))
  · unfold start
    show _ = N.length
    rw [List.length_append, List.length_map, List.length_replicate]
    omega
theorem fn_of {CX : CXT} {P : Program} {w : World} {K : PySem.W.Frag} {mg : Str → Option Value} {base : Heap} {k : Nat} {f : Addr} {name qual : Str} {params : Arguments} {body : List Stmt} {scope : Scope} {dV kV doc pm cdv ct oc : Value} {an od : Option Addr}
    {osl : Array (Option Value)} {N ps : List Str} {sp : Sp} (lk : K.lookup f = some ⟨oc, od, .func (PySem.W.fnOf name qual params body scope dV kV doc pm an cdv ct), osl⟩) (hcd : PySem.W.codeIn K cdv qual = true) (S : FnScope N ps scope)
    (len : ∀ vs H Q E, sp vs H Q E → vs.length = ps.length)
    (hbody : ∀ (A : Around) (outer : List Env) (s : Shared) (H : Hp) (vs : List V) (Q : VK) (E : XK), Room k (A.deeper (envOfC qual scope s.heap.objs.size f cdv)) → sp vs H Q E →
      ∃ t, PSs (cxOf CX P w K mg base N qual scope f cdv A outer s H E) body t ∧ t { nx := fun _ H' => Q .non H', rt := Q } (start N vs) H) :
    FnOk P w K mg base CX (k + 1) f (PySem.W.fnOf name qual params body scope dV kV doc pm an cdv ct) ps sp := by
  refine ⟨len, fun A outer s H args us vs Q E hr e0 hb r hsp => ?_⟩
  have hl := len _ _ _ _ hsp
  have KX : K.In s.heap := e0.mod.kin.keeps fun b o e => (e0.bs b o e).1
  have lim : s.heap.NoLimit := e0.mod.nolimit.keeps fun b o e => (e0.bs b o e).1
  have hkind : ∀ y ∈ ps.zip us, scope.names.lookup y.1 = some .local ∨ (scope.names.lookup y.1 = some .cell ∧ ((cellsFrom (s.heap.objs.size + 1) scope.names []).lookup y.1).isSome = true) := fun ⟨n, v⟩ hy => by
    rcases S.par n (List.of_mem_zip hy).1 with q | q
    · exact .inl q
    · exact .inr ⟨q, PySem.W.cellsFrom_some _ _ _ (.inl q)⟩
  refine codeAny_call_function hr.depth (KX _ _ lk) rfl S.co S.gen rfl (PySem.W.codeRec_of KX hcd) (hb _ _ _ _ ?_)
  refine wpAny_newFunctionEnv_cells S.kind hkind fun env he s1 x => ?_
  subst he
  refine ⟨lim.keeps x.toInCall.keep, codeAny_func ?_⟩
  obtain ⟨t, ht, hq⟩ := hbody A outer s H vs Q E (hr.deeper _) hsp
  have I : Inv (cxOf CX P w K mg base N qual scope f cdv A outer s H E) [] (start N vs) H s1 := inv_start S hr.hd e0 hl r x
  refine wpAny_mono (ht [] s1 (start N vs) H _ I hq) (fun fl s' hs => ?_) fun e s' hs => hs
  have fin : ∀ {σ' : St} {H' : Hp} {v : V} {u : Value}, Inv (cxOf CX P w K mg base N qual scope f cdv A outer s H E) [] σ' H' s' → RelV v u → Q v H' → CE outer P w H s Q u s' :=
    fun {σ' H' v u} J rv q => ⟨v, H', J.os, J.bare, J.base, J.hok, rv, q⟩
  cases fl with
  | ret u =>
    obtain ⟨v, σ', H', J, rv, q⟩ := hs
    exact fin J rv q
  | next =>
    obtain ⟨σ', H', J, q⟩ := hs
    exact fin (v := V.non) (u := Value.none) J rfl q
  | brk =>
    obtain ⟨_, _, _, q⟩ := hs
    exact False.elim q
  | cont =>
    obtain ⟨_, _, _, q⟩ := hs
    exact False.elim q
end L2
namespace L2
open PySem PySem.Spec PyProof.Rows
section
variable {X : Cx} {x : Str} {p pos : Pos} {e : Expr} {es : List Expr} {t : TA} {id T : String} {r : List V → Hp → VK → Prop}
def tCB (r : List V → Hp → VK → Prop) (t : TA) : TE := fun σ H Q => t σ H fun vs H1 => r vs H1 Q
theorem pe_callB (hc : CallR X (.builtin id) r) (hg : Gl X x) (hm : X.mg x = none) (hv : bootBuiltins x = some (.builtin id)) (ha : PA X (e :: es) t) (hn : x ≠ "__name__" := by decide) (hdb : (x == ("__debug__" : Str)) = false := by decide)
    (he : starEach (e :: es) X.env = (false, eval e X.env) :: starEach es X.env := by rfl) (hpl : (backTo pos (starEach es X.env)).any (·.1) = false := by rfl) : PE X (.Call (.Name x p) (e :: es) [] pos) (tCB r t) := by
  intro pins s σ H Q I h
  refine wpAny_Call_Name_kw (ld_blt I hg hm hv ?_ hn hdb)
  exact PyProof.Rows.callWith_builtin1 (thn (ha pos pins s σ H _ I h) fun us s1 ⟨vs, H1, I1, r1, q1⟩ => hc pins s1 σ H1 vs us Q I1 r1 q1) he hpl
theorem pe_callTy (hc : CallR X (.type T) r) (hg : Gl X x) (hm : X.mg x = none) (hv : bootBuiltins x = some (.type T)) (ha : PA X (e :: es) t) (hn : x ≠ "__name__" := by decide) (hdb : (x == ("__debug__" : Str)) = false := by decide)
    (he : starEach (e :: es) X.env = (false, eval e X.env) :: starEach es X.env := by rfl) (hpl : (backTo pos (starEach es X.env)).any (·.1) = false := by rfl) : PE X (.Call (.Name x p) (e :: es) [] pos) (tCB r t) := by
  intro pins s σ H Q I h
  refine wpAny_Call_Name_kw (ld_blt I hg hm hv ?_ hn hdb)
  exact PyProof.Rows.callWith_type1 (thn (ha pos pins s σ H _ I h) fun us s1 ⟨vs, H1, I1, r1, q1⟩ => hc pins s1 σ H1 vs us Q I1 r1 q1) he hpl
end
end L2
namespace HT
open PySem PyProof.Rows
def lexLt : List Int → List Int → Bool
  | [], [] => false
  | [], _ :: _ => true
  | _ :: _, [] => false
  | x :: xs, y :: ys => if x = y then lexLt xs ys else decide (x < y)
theorem lexLt_cons (x y : Int) (xs ys : List Int) : lexLt (x :: xs) (y :: ys) = if x = y then lexLt xs ys else decide (x < y) := rfl
theorem lexLt_nil_nil : lexLt [] [] = false := rfl
theorem lexLt_nil_cons (y : Int) (ys : List Int) : lexLt [] (y :: ys) = true := rfl
theorem lexLt_cons_nil (x : Int) (xs : List Int) : lexLt (x :: xs) [] = false := rfl
theorem eqAt_int (A : Around) (s : Shared) (a : Int) (t : Tok) (c : Int) (u : Tok) : ∃ e, SeqAt.EqAt A s (.int a t) (.int c u) e ∧ (e = true ↔ a = c) :=
  ⟨(a == c), SeqAt.EqAt.int_int a t c u, by simp⟩
theorem rcLt_int (A : Around) (s : Shared) (a : Int) (t : Tok) (c : Int) (u : Tok) (prog : Program) (w : World) (E : Value → Shared → Prop) (Q : Value → Shared → Prop) (h : Q (.bool (decide (a < c))) s) :
    wpAny (model prog w) A (richCompare .Lt (.int a t) (.int c u)) Q E s :=
  (PyProof.Rows.lt_int h : wpAny (model prog w) A (compareOp .Lt (.int a t) (.int c u)) Q E s)
section
open PySem.SeqAt
open PySem.AutoSeq1 (wpAny_loadPart')
open PySem.MeetsSeq PySem.MeetsSeq2 PySem.MeetsSeq3
end
section
variable {prog : Program} {w : World} {A : Around} {E : Value → Shared → Prop} {s : Shared}
def sIx (n d : Nat) : Option Int → Nat
  | none => d
  | some v => if v < 0 then (v + (n : Int)).toNat else min v.toNat n
theorem sIx_none (n d : Nat) : sIx n d none = d := rfl
theorem sIx_nat (n d k : Nat) : sIx n d (some (k : Int)) = min k n := by
  show (if (k : Int) < 0 then ((k : Int) + (n : Int)).toNat else min (k : Int).toNat n) = min k n
  rw [if_neg (by omega), Int.toNat_natCast]
end
end HT
namespace L2
open PySem PySem.Spec PyProof.Rows
abbrev TO := St → Hp → (Option Int → Hp → Prop) → Prop
def PO (X : Cx) (e : Option Expr) (t : TO) : Prop :=
  ∀ (pins : List (Addr × Obj)) (s : Shared) (σ : St) (H : Hp) (Q : Option Int → Hp → Prop), Inv X pins σ H s → t σ H Q →
    wpAny (model X.prog X.w) X.A (evalPart e X.env) (fun u s' => ∃ o H', Inv X pins σ H' s' ∧ IsPart u o ∧ Q o H') X.xe s
def tNoPart : TO := fun _ H Q => Q none H
def tPart (t : TE) : TO := fun σ H Q => t σ H fun x H1 => ∃ i, x = .int i ∧ Q (some i) H1
theorem intsAre_of {ns : List Int} : ∀ {us : List Value}, Vals (ns.map V.int) us → IntsAre us ns := by
  induction ns with
  | nil => intro us r; rw [List.map_nil] at r; cases r; exact .nil
  | cons n ns ih =>
    intro us r
    rw [List.map_cons] at r
    cases r with
    | cons r1 r2 =>
      obtain ⟨t, e⟩ := r1
      subst e
      exact .cons n t (ih r2)
section
variable {X : Cx} {e : Expr} {te : TE} {lo hi : Option Expr} {tl th : TO} {pos p2 : Pos}
theorem po_none : PO X none tNoPart := by
  intro pins s σ H Q I h
  rw [evalPart_none]
  exact wpAny_pure ⟨none, H, I, .none, h⟩
theorem po_some (h : PE X e te) : PO X (some e) (tPart te) := by
  intro pins s σ H Q I hw
  rw [evalPart_some]
  refine thn (h pins s σ H _ I hw) fun u s1 ⟨x, H1, I1, r1, q1⟩ => ?_
  obtain ⟨i, rfl, q⟩ := q1
  obtain ⟨t, rfl⟩ := r1
  exact ⟨some i, H1, I1, .int i t, q⟩
def SlR (X : Cx) (r : V → Option Int → Option Int → Hp → VK → Prop) : Prop :=
  ∀ (pins : List (Addr × Obj)) (s : Shared) (σ : St) (H : Hp) (x : V) (v vl vu : Value) (lo hi : Option Int) (sl : Addr) (Q : VK), Inv X pins σ H s → RelV x v → s.heap.IsSliceOf sl vl vu .none → IsPart vl lo → IsPart vu hi → r x lo hi H Q →
    ∃ T id, typeLookup (.type T) "__getitem__" = pure (some (.builtin id)) ∧ s.TypeIs v T ∧ wpAny (model X.prog X.w) X.A (getItem v (.ref sl)) (EP X pins σ Q) X.xe s
def tSl (r : V → Option Int → Option Int → Hp → VK → Prop) (te : TE) (tl th : TO) : TE := fun σ H Q => te σ H fun x H1 => tl σ H1 fun l H2 => th σ H2 fun u H3 => r x l u H3 Q
theorem pe_slice {r : V → Option Int → Option Int → Hp → VK → Prop} (hr : SlR X r) (he : PE X e te) (hl : PO X lo tl) (hu : PO X hi th) : PE X (.Subscript e (.Slice lo hi none p2) pos) (tSl r te tl th) := by
  intro pins s σ H Q I h
  refine Subscript_ (thn (he pins s σ H _ I h) fun v s1 ⟨x, H1, I1, r1, q1⟩ => ?_)
  refine wpAny_Slice (thn (hl pins s1 σ H1 _ I1 q1) fun vl s2 ⟨l, H2, I2, pl, q2⟩ => thn (hu pins s2 σ H2 _ I2 q2) fun vu s3 ⟨u, H3, I3, pu, q3⟩ => ?_)
  rw [evalPart_none]
  refine wpAny_pure ?_
  have I4 : Inv X pins σ H3 { s3 with heap := s3.heap.push { cls := .type "slice", data := .fields #[vl, vu, .none] } } := I3.kept (t' := s3.toks) fun b ob q => Heap.get?_push_of_some _ q
  obtain ⟨T, id, hT, ht, hg⟩ := hr pins { s3 with heap := s3.heap.push { cls := .type "slice", data := .fields #[vl, vu, .none] } } σ H3 x v vl vu l u s3.heap.objs.size Q I4 r1 (Heap.IsSliceOf.new ..) pl pu q3
  show wpAny (model X.prog X.w) X.A (subscriptTail e (.Slice lo hi none p2) v (.ref s3.heap.objs.size)) (EP X pins σ Q) X.xe { s3 with heap := s3.heap.push { cls := .type "slice", data := .fields #[vl, vu, .none] } }
  exact tail_any (ops := [.ref s3.heap.objs.size, v]) ht hT hg (by with_unfolding_all rfl)
def cutV (xs : List V) (lo hi : Option Int) : List V := (xs.drop (HT.sIx xs.length 0 lo)).take (HT.sIx xs.length xs.length hi - HT.sIx xs.length 0 lo)
theorem cutV_length (xs : List V) (lo hi : Option Int) : (cutV xs lo hi).length ≤ xs.length := by
  unfold cutV
  rw [List.length_take, List.length_drop]
  omega
end
end L2
namespace L2
open PySem PySem.Spec PyProof.Rows
def ixN (n : Nat) (i : Int) : Option Nat := if 0 ≤ i then (if i < n then some i.toNat else none) else if -(n : Int) ≤ i then some (i + n).toNat else none
def atI {α : Type} (xs : List α) (i : Int) : Option α := (ixN xs.length i).bind fun j => xs[j]?
theorem ixN_seq {n : Nat} {i : Int} {j : Nat} (h : ixN n i = some j) : seqIndex? i n = some j ∧ j < n ∧ -(n : Int) ≤ i ∧ i < n := by
  unfold ixN at h
  by_cases h0 : 0 ≤ i
  · rw [if_pos h0] at h
    by_cases h1 : i < n
    · rw [if_pos h1] at h
      have e : i.toNat = j := Option.some.inj h
      exact ⟨by rw [seqIndex_of h0 h1, e], by omega, by omega, h1⟩
    · rw [if_neg h1] at h; cases h
  · rw [if_neg h0] at h
    by_cases h1 : -(n : Int) ≤ i
    · rw [if_pos h1] at h
      have e : (i + n).toNat = j := Option.some.inj h
      exact ⟨by rw [seqIndex_neg (by omega) h1, e], by omega, h1, by omega⟩
    · rw [if_neg h1] at h; cases h
theorem atI_get {α : Type} {xs : List α} {i : Int} {v : α} (h : atI xs i = some v) : ∃ j, seqIndex? i xs.length = some j ∧ xs[j]? = some v ∧ j < xs.length ∧ -(xs.length : Int) ≤ i ∧ i < xs.length := by
  unfold atI at h
  cases e : ixN xs.length i with
  | none => rw [e] at h; cases h
  | some j =>
    rw [e] at h
    obtain ⟨h1, h2, h3, h4⟩ := ixN_seq e
    exact ⟨j, h1, h, h2, h3, h4⟩
theorem atI_nat {α : Type} {xs : List α} {j : Nat} {v : α} (h : xs[j]? = some v) : atI xs (j : Int) = some v := by
  have hj : j < xs.length := (List.getElem?_eq_some_iff.mp h).1
  have e : ixN xs.length (j : Int) = some j := by
    unfold ixN
    rw [if_pos (by omega), if_pos (by omega)]; simp
  unfold atI; rw [e]; exact h
theorem atI_last {α : Type} (xs : List α) (v : α) : atI (xs ++ [v]) (-1) = some v := by
  have hl : (xs ++ [v]).length = xs.length + 1 := by simp
  have e : ixN (xs ++ [v]).length (-1) = some xs.length := by
    unfold ixN
    rw [hl, if_neg (by decide), if_pos (by omega)]
    congr 1
    omega
  unfold atI
  rw [e]
  show (xs ++ [v])[xs.length]? = some v
  simp
def PlainIx (b : Expr) : Prop := ∀ o i, subscripted b false o i = operate [o, i] (getItem o i)
def IxR (X : Cx) (r : R2) : Prop :=
  ∀ (value slice : Expr) (pins : List (Addr × Obj)) (s : Shared) (σ : St) (H : Hp) (x y : V) (v u : Value) (Q : VK), Inv X pins σ H s → RelV x v → RelV y u → r x y H Q →
    subscripted slice false v u = operate [v, u] (getItem v u) → wpAny (model X.prog X.w) X.A (subscriptTail value slice v u) (EP X pins σ Q) X.xe s
def MtR (X : Cx) (id : String) (r : V → List V → Hp → VK → Prop) : Prop :=
  ∀ (pins : List (Addr × Obj)) (s : Shared) (σ : St) (H : Hp) (x : V) (xs : List V) (v : Value) (us : List Value) (Q : VK), Inv X pins σ H s → RelV x v → Vals xs us → r x xs H Q →
    wpAny (model X.prog X.w) X.A (call (.builtin id) (v :: us)) (EP X pins σ Q) X.xe s
section
variable {X : Cx} {a b : Expr} {ta tb : TE} {pos : Pos}
theorem pe_ix {r : R2} (hr : IxR X r) (ha : PE X a ta) (hb : PE X b tb) (hs : PlainIx b) : PE X (.Subscript a b pos) (tOp r ta tb) := by
  intro pins s σ H Q I h
  exact Subscript_ (binT ha hb I h fun v u s2 x y H2 I2 rx ry q => hr a b pins s2 σ H2 x y v u Q I2 rx ry q (hs _ _))
def rIxL (K : PySem.W.Frag) : R2 := fun x y H Q => ∃ p xs i v, x = .ref p ∧ y = .int i ∧ SqL K H p xs ∧ atI xs i = some v ∧ Q v H
def rIxT (K : PySem.W.Frag) : R2 := fun x y H Q => ∃ p xs i v, x = .ref p ∧ y = .int i ∧ SqT K H p xs ∧ atI xs i = some v ∧ Q v H
theorem ix_list : IxR X (rIxL X.K) := by
  intro value slice pins s σ H x y v u Q I rx ry h hs
  obtain ⟨p, xs, i, z, rfl, rfl, hq, he, q⟩ := h
  cases rx
  obtain ⟨t, rfl⟩ := ry
  obtain ⟨its, r, pl, hz⟩ := I.list hq
  obtain ⟨j, h1, h2, h3, h4, h5⟩ := atI_get he
  obtain ⟨w, ew, rw'⟩ := r.get h2
  have hl := r.length
  have hn := line63
  have fin : EP X pins σ Q w s := ⟨z, H, I, rw', q⟩
  by_cases h0 : 0 ≤ i
  · have hj : i.toNat = j := by
      rw [seqIndex_of h0 h5] at h1
      exact Option.some.inj h1
    exact item_listR pl.isList h0 (by omega) (by rw [hj]; simpa using ew) fin hs
  · have hj : (i + (its.toArray.size : Int)).toNat = j := by
      rw [seqIndex_neg (by omega) h4] at h1
      rw [List.size_toArray, ← hl]
      exact Option.some.inj h1
    exact subscriptTail_builtinR (x := w) pl.isList.typeIs slot_list_getitem.lookup
      (wpAny_getItem_list_neg (Q := fun r s' => r = w ∧ EP X pins σ Q r s') pl.isList (by omega) (by rw [List.size_toArray] <;> omega) (by omega) (by rw [hj]; simpa using ew) ⟨rfl, fin⟩) hs
theorem ix_tup : IxR X (rIxT X.K) := by
  intro value slice pins s σ H x y v u Q I rx ry h hs
  obtain ⟨p, xs, i, z, rfl, rfl, hq, he, q⟩ := h
  cases rx
  obtain ⟨t, rfl⟩ := ry
  obtain ⟨its, r, pl, hz⟩ := I.tuple hq
  obtain ⟨j, h1, h2, h3, h4, h5⟩ := atI_get he
  obtain ⟨w, ew, rw'⟩ := r.get h2
  have hl := r.length
  have hn := line63
  have fin : EP X pins σ Q w s := ⟨z, H, I, rw', q⟩
  exact subscriptTail_builtinR (x := w) pl.typeIs slot_tuple_getitem.lookup
    (getItem_tuple (j := j) (Q := fun r s' => r = w ∧ EP X pins σ Q r s') pl (by omega) (by omega) (by rw [List.size_toArray, ← hl]; exact h1) (by simpa using ew) ⟨rfl, fin⟩) hs
theorem mapSeq_set (its : List Value) (n j : Nat) (u : Value) : Obj.mapSeq (·.setIfInBounds j u) { cls := .type "list", data := .seq its.toArray n } = { cls := .type "list", data := .seq (its.set j u).toArray n } := by
  simp [Obj.mapSeq]
theorem Inv.lst {pins : List (Addr × Obj)} {σ : St} {H : Hp} {s : Shared} {p : Addr} {xs : List V} (I : Inv X pins σ H s) (h : H p = some (.lst xs)) :
    ∃ (its : List Value) (n : Nat), Vals xs its ∧ s.heap.get? p = some { cls := .type "list", data := .seq its.toArray n } ∧ xs.length ≤ sizeLine := by
  obtain ⟨z, its, n, r, e⟩ := I.hok p _ h
  exact ⟨its, n, r, e, z⟩
theorem Inv.lstUpd {pins : List (Addr × Obj)} {σ : St} {H : Hp} {s : Shared} {p : Addr} {xs ys : List V} {its its' : List Value} {n n' : Nat} {f : Obj → Obj} (I : Inv X pins σ H s) (h : H p = some (.lst xs))
    (ho : s.heap.get? p = some { cls := .type "list", data := .seq its.toArray n }) (hf : f { cls := .type "list", data := .seq its.toArray n } = { cls := .type "list", data := .seq its'.toArray n' }) (r : Vals ys its') (hz : ys.length ≤ sizeLine) (t : Nat) :
    Inv X pins σ (upd H p (.lst ys)) { s with heap := s.heap.update p f, toks := t } := by
  have e : (s.heap.update p f).get? p = some { cls := .type "list", data := .seq its'.toArray n' } := by
    rw [Heap.get?_update_self f ho (by rw [hf] <;> rfl), hf]
  refine I.write (x := p) (e := p) (by rw [h]; trivial) (.inl rfl) (fun b u hb q => (Heap.get?_update_other _ _ (Ne.symm hb)).trans q) ⟨_, e⟩ ?_
  exact ⟨hz, its', n', r, e⟩
def rSetL : V → V → V → Hp → (Hp → Prop) → Prop := fun o i v H Q => ∃ p xs k j, o = .ref p ∧ i = .int k ∧ H p = some (.lst xs) ∧ ixN xs.length k = some j ∧ Q (upd H p (.lst (xs.set j v)))
theorem set_list : PSet X rSetL := by
  intro pins s σ H o i v ov iv u Q I ro ri rv h
  obtain ⟨p, xs, k, j, rfl, rfl, hp, hj, q⟩ := h
  cases ro
  obtain ⟨t, rfl⟩ := ri
  obtain ⟨its, n, r, ho, hz⟩ := I.lst hp
  obtain ⟨h1, h2, h3, h4⟩ := ixN_seq hj
  have hl := r.length
  have hn := line63
  have I' : Inv X pins σ (upd H p (.lst (xs.set j v))) { s with heap := s.heap.update p (Obj.mapSeq (·.setIfInBounds j u)) } :=
    I.lstUpd hp ho (mapSeq_set its n j u) (r.set rv j) (by rw [List.length_set]; exact hz) s.toks
  by_cases h0 : 0 ≤ k
  · have hk : k.toNat = j := by
      rw [seqIndex_of h0 h4] at h1
      exact Option.some.inj h1
    exact PySem.W.ki_setAt ho h0 (by omega) (by rw [List.size_toArray, ← hl]; exact h4) (by rw [hk]; exact ⟨_, I', q⟩)
  · have hk : (k + (its.toArray.size : Int)).toNat = j := by
      rw [seqIndex_neg (by omega) h3] at h1
      rw [List.size_toArray, ← hl]
      exact Option.some.inj h1
    exact PySem.W.ki_setBack ho (by omega) (by rw [List.size_toArray, ← hl]; exact h3) (by omega) (by rw [hk]; exact ⟨_, I', q⟩)
theorem slice_bounds (lo hi : Option Int) (n : Nat) : (sliceBounds lo hi none n).1 = ((HT.sIx n 0 lo : Nat) : Int) ∧ (sliceBounds lo hi none n).2.1 = ((HT.sIx n n hi : Nat) : Int) ∧ (sliceBounds lo hi none n).2.2 = 1 := by
  refine ⟨?_, ?_, rfl⟩
  · cases lo with
    | none => simp [sliceBounds, HT.sIx]
    | some i =>
      simp only [sliceBounds, HT.sIx, Option.getD_none, show (1 : Int) > 0 by decide, if_true]
      by_cases h : i < 0
      · simp only [h, if_true] <;> omega
      · simp only [h, if_false] <;> omega
  · cases hi with
    | none => simp [sliceBounds, HT.sIx]
    | some i =>
      simp only [sliceBounds, HT.sIx, Option.getD_none, show (1 : Int) > 0 by decide, if_true]
      by_cases h : i < 0
      · simp only [h, if_true] <;> omega
      · simp only [h, if_false] <;> omega
theorem slicePick_cut (its : List Value) (lo hi : Option Int) : slicePick its.toArray lo hi none = ((its.drop (HT.sIx its.length 0 lo)).take (HT.sIx its.length its.length hi - HT.sIx its.length 0 lo)).toArray := by
  obtain ⟨h1, h2, h3⟩ := slice_bounds lo hi its.toArray.size
  unfold slicePick
  rw [h1, h2, h3]
  simp only [sliceRange_one, pick_run, List.size_toArray] <;> rfl
def rSlL (K : PySem.W.Frag) : V → Option Int → Option Int → Hp → VK → Prop := fun x lo hi H Q => ∃ a xs, x = .ref a ∧ SqL K H a xs ∧ ∀ p, H p = none → Q (.ref p) (upd H p (.lst (cutV xs lo hi)))
theorem sl_list : SlR X (rSlL X.K) := by
  intro pins s σ H x v vl vu lo hi sl Q I rx hs pl pu h
  obtain ⟨a, xs, rfl, hx, q⟩ := h
  cases rx
  obtain ⟨its, r, ht, hz⟩ := I.list hx
  have hlen := r.length
  refine ⟨"list", _, slot_list_getitem.lookup, ht.isList.typeIs, ?_⟩
  refine wpAny_getItem_list_slice ht.isList hs pl pu .none (by simp) ?_ (by rw [List.size_toArray] <;> omega)
  rw [slicePick_cut, ← hlen]
  refine ⟨.ref s.heap.objs.size, _, I.laid (t' := s.toks) (o := .lst (cutV xs lo hi)) (fun b ob q => Heap.get?_push_of_some _ q) (Nat.le_refl _) ?_, rfl, q _ (I.hok.fresh (Nat.le_refl _))⟩
  exact ⟨Nat.le_trans (cutV_length xs lo hi) hz, _, 0, (r.drop (HT.sIx xs.length 0 lo)).take (HT.sIx xs.length xs.length hi - HT.sIx xs.length 0 lo), Heap.get?_push_size _ rfl⟩
theorem call_len_seq : CallR X (.builtin "len") (fun xs H Q => ∃ p ys, xs = [.ref p] ∧ (SqL X.K H p ys ∨ SqT X.K H p ys) ∧ Q (.int ys.length) H) := by
  intro pins s σ H xs us Q I r h
  obtain ⟨p, ys, rfl, hq, q⟩ := h
  obtain ⟨u, rfl, rx⟩ := vals1 r
  cases rx
  have hn := line63
  rcases hq with hq | hq
  · obtain ⟨its, r', pl, hz⟩ := I.list hq
    have hlen := r'.length
    exact Calls.call_len_list pl.isList (by simp only [List.size_toArray] <;> omega) ⟨.int ys.length, H, I.tok _, ⟨s.toks + 1, by rw [List.size_toArray, hlen]⟩, q⟩
  · obtain ⟨its, r', pl, hz⟩ := I.tuple hq
    have hlen := r'.length
    exact len_tuple pl (by simp only [List.size_toArray] <;> omega) ⟨.int ys.length, H, I.tok _, ⟨s.toks + 1, by rw [List.size_toArray, hlen]⟩, q⟩
def tyV (K : PySem.W.Frag) (T : String) (x : V) (H : Hp) : Prop := match x with
  | .str _ => T = "str"
  | .int _ => T = "int"
  | .ref p => (T = "list" ∧ ∃ xs, SqL K H p xs) ∨ (T = "tuple" ∧ ∃ o, K.lookup p = some o ∧ o.cls = .type "tuple" ∧ o.dict = none) ∨
      (T = "dict" ∧ ((∃ kvs, H p = some (.dK kvs)) ∨ ∃ kvs, H p = some (.dT kvs))) ∨ (T = "set" ∧ ∃ S n, H p = some (.set S n))
  | _ => False
theorem tyV_is {pins : List (Addr × Obj)} {σ : St} {H : Hp} {s : Shared} {T : String} {x : V} {v : Value} (I : Inv X pins σ H s) (r : RelV x v) (ty : tyV X.K T x H) :
    s.TypeIs v T ∧ ∀ a, v = .ref a → ∃ ob, s.heap.get? a = some ob ∧ ob.dict = none := by
  cases x with
  | str z =>
    obtain ⟨t, rfl⟩ := r
    cases (show T = "str" from ty)
    exact ⟨typeIs_str s z t, fun _ e => nomatch e⟩
  | int i =>
    obtain ⟨t, rfl⟩ := r
    cases (show T = "int" from ty)
    exact ⟨typeIs_int s i t, fun _ e => nomatch e⟩
  | ref p =>
    cases r
    rcases ty with ⟨rfl, xs, hq⟩ | ⟨rfl, o, hk, hc, hd⟩ | ⟨rfl, hk⟩ | ⟨rfl, S, n, hk⟩
    · obtain ⟨its, _, pl, _⟩ := I.list hq
      refine ⟨pl.isList.typeIs, fun a e => ?_⟩
      cases e
      obtain ⟨o, n, e, c, hd, _⟩ := pl
      exact ⟨o, e, hd⟩
    · refine ⟨⟨o, I.kIn p o hk, hc⟩, fun a e => ?_⟩
      cases e
      exact ⟨o, I.kIn _ o hk, hd⟩
    · have z : ∃ o, s.heap.get? p = some o ∧ o.ExactDict := by
        rcases hk with ⟨kvs, hk⟩ | ⟨kvs, hk⟩
        · obtain ⟨_, _, _, _, o, _, _, e, ex, _⟩ := I.hok p _ hk
          exact ⟨o, e, ex⟩
        · obtain ⟨_, _, _, _, o, _, _, e, ex, _⟩ := I.hok p _ hk
          exact ⟨o, e, ex⟩
      obtain ⟨o, e, ex⟩ := z
      refine ⟨⟨o, e, ex.1⟩, fun a e2 => ?_⟩
      cases e2
      exact ⟨o, e, ex.2.1⟩
    · obtain ⟨o, _, _, _, e, ex, _⟩ := I.hok p _ hk
      refine ⟨⟨o, e, ex.1⟩, fun a e2 => ?_⟩
      cases e2
      exact ⟨o, e, ex.2.1⟩
  | _ => exact False.elim ty
def tBM (K : PySem.W.Frag) (T : String) (r : V → List V → Hp → VK → Prop) (to : TE) (t : TA) : TE := fun σ H Q => to σ H fun x H1 => tyV K T x H1 ∧ t σ H1 fun xs H2 => r x xs H2 Q
variable {o e : Expr} {es : List Expr} {to : TE} {t : TA} {name : Str} {apos cpos : Pos} {T id : String} {r : V → List V → Hp → VK → Prop}
theorem pe_bm (pa : PlainAttrs T) (slot : Slot T name id) (hty : typeOf (.builtin id) = pure (.type "method_descriptor")) (hm : MtR X id r) (ho : PE X o to) (ha : PA X (e :: es) t)
    (hbase : attributeBase o name X.env (eval o X.env) = eval o X.env := by rfl)
    (hfew : ((backTo cpos (starEach (e :: es) X.env)).all (fun x => !x.1) && (backToKw cpos (keywordEach [] X.env)).all (fun x => x.1.isSome)
      && decide ((e :: es).length + ([] : List Keyword).length + (if ([] : List Keyword).isEmpty then 0 else 1) < 30)) = true := by rfl)
    (hline : (apos.endLine == cpos.line) = true := by rfl) (hs : starEach (e :: es) X.env = (false, eval e X.env) :: starEach es X.env := by rfl) (hplain : (backTo cpos (starEach es X.env)).any (·.1) = false := by rfl) :
    PE X (.Call (.Attribute o name apos) (e :: es) [] cpos) (tBM X.K T r to t) := by
  intro pins s σ H Q I h
  refine wpAny_Call_method_late hbase hfew hline rfl (thn (ho pins s σ H _ I h) fun v s1 ⟨x, H1, I1, r1, ty, q1⟩ => ?_)
  obtain ⟨h1, h2⟩ := tyV_is I1 r1 ty
  refine ⟨T, id, pa, slot, hty, h1, h2, ?_⟩
  have hA := ha cpos pins s1 σ H1 _ I1 q1
  rw [hs] at hA ⊢
  refine Calls.callWith_builtin (by show (false || (backTo cpos (starEach es X.env)).any (·.1)) = false; rw [hplain] <;> rfl) (Calls.evalArgs_plain ?_)
  exact thn hA fun us s2 ⟨vs, H2, I2, r2, q2⟩ => hm pins s2 σ H2 x vs v us Q I2 r1 r2 q2
end
end L2
namespace L2
open PySem PySem.Spec PyProof.Rows
def MtM (X : Cx) (id : String) (r : V → List V → Hp → VK → Prop) : Prop :=
  ∀ (pins : List (Addr × Obj)) (s : Shared) (σ : St) (H : Hp) (x : V) (xs : List V) (v : Value) (us : List Value) (Q : VK), Inv X pins σ H s → RelV x v → Vals xs us → r x xs H Q →
    wpAny (model X.prog X.w) X.A (call (.builtin id) (v :: us)) (EP X pins σ Q) X.xe s
theorem Vals.one : ∀ {x : V} {us : List Value}, Vals [x] us → ∃ u, us = [u] ∧ RelV x u
  | _, _, .cons r .nil => ⟨_, rfl, r⟩
theorem Vals.zero : ∀ {us : List Value}, Vals [] us → us = []
  | _, .nil => rfl
theorem Vals.dropLast {xs : List V} {us : List Value} (h : Vals xs us) : Vals xs.dropLast us.dropLast := by
  induction h with
  | nil => exact .nil
  | cons r t ih =>
    cases t with
    | nil => exact .nil
    | cons q t' => exact .cons r ih
theorem Vals.eraseIdx : ∀ {xs : List V} {us : List Value} (i : Nat), Vals xs us → Vals (xs.eraseIdx i) (us.eraseIdx i)
  | _, _, _, .nil => .nil
  | _, _, 0, .cons _ t => t
  | _, _, i + 1, .cons r t => .cons r (Vals.eraseIdx i t)
theorem Vals.reverse {xs : List V} {us : List Value} (h : Vals xs us) : Vals xs.reverse us.reverse := by
  induction h with
  | nil => exact .nil
  | cons r t ih => rw [List.reverse_cons, List.reverse_cons]; exact Vals.append ih (.cons r .nil)
theorem Vals.rep {xs : List V} {us : List Value} (h : Vals xs us) : ∀ k : Nat, Vals (List.replicate k xs).flatten (List.replicate k us).flatten
  | 0 => .nil
  | k + 1 => by
    rw [List.replicate_succ, List.replicate_succ, List.flatten_cons, List.flatten_cons]
    exact Vals.append h (Vals.rep h k)
theorem len_erase {α : Type} : ∀ (l : List α) (i : Nat), (l.eraseIdx i).length ≤ l.length
  | [], _ => Nat.le_refl _
  | _ :: _, 0 => Nat.le_succ _
  | _ :: r, i + 1 => Nat.succ_le_succ (len_erase r i)
theorem foldl_rep (its : List Value) : ∀ (k : Nat) (acc : List Value),
    List.foldl (fun x1 x2 => x1 ++ x2) acc.toArray (List.replicate k its.toArray) = (acc ++ (List.replicate k its).flatten).toArray
  | 0, acc => by simp
  | k + 1, acc => by
    have e : acc.toArray ++ its.toArray = (acc ++ its).toArray := by simp
    have e2 : (acc ++ its) ++ (List.replicate k its).flatten = acc ++ (List.replicate (k + 1) its).flatten := by
      rw [List.replicate_succ, List.flatten_cons, List.append_assoc]
    rw [← e2, ← foldl_rep its k (acc ++ its), ← e, List.replicate_succ, List.foldl_cons]
section
variable {X : Cx} {pins : List (Addr × Obj)} {σ : St} {H : Hp} {s : Shared} {l b : Addr} {xs ys zs : List V}
theorem Inv.lset {its its' : List Value} {n : Nat} {f : Array Value → Array Value} {t' : Nat} (I : Inv X pins σ H s) (hH : H l = some (.lst xs))
    (e : s.heap.get? l = some { cls := .type "list", data := .seq its.toArray n }) (hf : f its.toArray = its'.toArray) (hv : Vals ys its') (hz : ys.length ≤ sizeLine) :
    Inv X pins σ (upd H l (.lst ys)) { s with heap := s.heap.update l (Obj.mapSeq f), toks := t' } := by
  have q := PySem.IsL.update e f
  rw [hf] at q
  refine I.write (x := l) (e := l) (by rw [hH]; exact trivial) (.inl rfl) (fun b' u hb hu => (Heap.get?_update_other s.heap (Obj.mapSeq f) (Ne.symm hb)).trans hu) ⟨_, q⟩ ?_
  exact ⟨hz, its', _, hv, q⟩
theorem Inv.lnew {its : List Value} {t' : Nat} (I : Inv X pins σ H s) (hv : Vals ys its) (hz : ys.length ≤ sizeLine) :
    Inv X pins σ (upd H s.heap.objs.size (.lst ys)) { s with heap := s.heap.push { cls := .type "list", data := .seq its.toArray }, toks := t' } :=
  I.laid (fun _ _ q => Heap.get?_push_of_some _ q) (Nat.le_refl _) ⟨hz, its, 0, hv, Heap.get?_push_size _ rfl⟩
theorem Inv.fresh (I : Inv X pins σ H s) : H s.heap.objs.size = none := I.hok.fresh (Nat.le_refl _)
theorem Inv.lstM (I : Inv X pins σ H s) (hH : H l = some (.lst xs)) : xs.length ≤ sizeLine ∧ ∃ (its : List Value) (n : Nat), Vals xs its ∧ xs.length = its.length ∧ s.heap.get? l = some { cls := .type "list", data := .seq its.toArray n } := by
  obtain ⟨z, its, n, r, e⟩ := I.hok l _ hH
  exact ⟨z, its, n, r, r.length, e⟩
theorem notLongL {n : Nat} (h : n ≤ sizeLine) : Builtin.List.listTooLong n = false := by
  unfold Builtin.List.listTooLong
  exact decide_eq_false (by omega)
end
section
variable {X : Cx}
def rAppend : V → List V → Hp → VK → Prop := fun x vs H Q => ∃ l xs y, x = .ref l ∧ vs = [y] ∧ H l = some (.lst xs) ∧ xs.length < sizeLine ∧ Q .non (upd H l (.lst (xs ++ [y])))
theorem mt_append : MtM X "list.append" rAppend := by
  intro pins s σ H x vs v us Q I rx rv h
  obtain ⟨l, xs, y, rfl, rfl, hH, hz, q⟩ := h
  cases rx
  obtain ⟨u, rfl, ru⟩ := rv.one
  obtain ⟨z, its, n, r, hl, e⟩ := I.lstM hH
  refine call_meets F.slot_list_append ⟨_, e, rfl⟩ F.entry_list_append (F.args_list_append_2 _ _) (PySem.list_append l its.toArray n u (by rw [List.size_toArray]; omega)) ⟨e, ?_⟩
  refine ⟨.non, _, I.lset (its' := its ++ [u]) hH e (by simp) (r.append (.cons ru .nil)) ?_, rfl, q⟩
  rw [List.length_append, List.length_singleton]
  omega
def rCat : R2 := fun x y H Q => ∃ l b xs zs, x = .ref l ∧ y = .ref b ∧ H l = some (.lst xs) ∧ H b = some (.lst zs) ∧ xs.length + zs.length ≤ sizeLine ∧ ∀ p, H p = none → Q (.ref p) (upd H p (.lst (xs ++ zs)))
theorem op_cat : OpR X (binaryOp .Add) rCat := by
  intro pins s σ H x y v u Q I rx ry h
  obtain ⟨l, b, xs, zs, rfl, rfl, hH, hB, hz, q⟩ := h
  cases rx
  cases ry
  obtain ⟨z, its, n, r, hl, e⟩ := I.lstM hH
  obtain ⟨z2, its2, n2, r2, hl2, e2⟩ := I.lstM hB
  refine PySem.P.add_list e e2 ?_ (by rw [List.size_toArray, List.size_toArray]; omega)
  have ea : its.toArray ++ its2.toArray = (its ++ its2).toArray := by simp
  rw [ea]
  exact ⟨.ref _, _, I.lnew (t' := s.toks) (r.append r2) (by rw [List.length_append]; omega), rfl, q _ I.fresh⟩
def rRep : R2 := fun x y H Q => ∃ l k xs, x = .ref l ∧ y = .int k ∧ H l = some (.lst xs) ∧ -(2 ^ 63) ≤ k ∧ k < 2 ^ 63 ∧ xs.length * k.toNat ≤ sizeLine ∧
  ∀ p, H p = none → Q (.ref p) (upd H p (.lst (List.replicate k.toNat xs).flatten))
theorem len_rep {α : Type} (xs : List α) (k : Nat) : (List.replicate k xs).flatten.length = k * xs.length := by
  induction k with
  | zero => simp
  | succ k ih => rw [List.replicate_succ, List.flatten_cons, List.length_append, ih, Nat.succ_mul, Nat.add_comm]
theorem op_rep : OpR X (binaryOp .Mult) rRep := by
  intro pins s σ H x y v u Q I rx ry h
  obtain ⟨l, k, xs, rfl, rfl, hH, h1, h2, hz, q⟩ := h
  cases rx
  obtain ⟨t, rfl⟩ := ry
  obtain ⟨z, its, n, r, hl, e⟩ := I.lstM hH
  have hlen : its.toArray.size * k.toNat ≤ sizeLine := by rw [List.size_toArray, ← hl]; exact hz
  have hcap : ¬ its.toArray.size * k.toNat > (2 ^ 63 - 1) / 8 := by
    have : (sizeLine : Nat) ≤ (2 ^ 63 - 1) / 8 := by decide
    omega
  have hfit : ¬ (!Builtin.List.listFitsIndex k) = true := by
    rw [fitsIndex_both h1 h2]
    exact Bool.false_ne_true
  have hlong : ¬ Builtin.List.listTooLong (its.toArray.size * k.toNat) = true := by
    rw [notLongL hlen]
    exact Bool.false_ne_true
  have hnew : List.foldl (fun x1 x2 => x1 ++ x2) #[] (List.replicate (if its.toArray.isEmpty = true then 0 else k.toNat) its.toArray) = (List.replicate k.toNat its).flatten.toArray := by
    have f0 : ∀ m : Nat, List.foldl (fun x1 x2 => x1 ++ x2) #[] (List.replicate m its.toArray) = (List.replicate m its).flatten.toArray := fun m => by
      have := foldl_rep its m []
      rw [List.nil_append] at this
      exact this
    rw [f0]
    cases its with
    | nil => simp
    | cons a r' => rw [if_neg (by simp)]
  refine wpAny_binaryOp_repeat_ref (T := "list") (U := "int") (by decide) ⟨_, e, rfl⟩ (fun s' => typeIs_int s' k t) noFill_list_mul F.fills_int_mul F.slot_int_rmul repeat_list F.slot_int_index.lookup
    (call_meets F.slot_int_rmul (typeIs_int s k t) F.entry_int_rmul (F.args_int_rmul_2 _ _) (int___rmul___int_list k t l its.toArray n)
      ⟨e, rfl, ⟨_, e, rfl⟩, call_meets F.slot_list_mul ⟨_, e, rfl⟩ F.entry_list_mul (F.args_list_mul_2 _ _) (AutoListH.list___mul___list_int_3 l its.toArray n k t hfit hcap hlong) ⟨e, ?_⟩⟩)
  rw [hnew]
  exact ⟨.ref _, _, I.lnew (t' := s.toks) (r.rep k.toNat) (by rw [len_rep, Nat.mul_comm]; exact hz), rfl, q _ I.fresh⟩
end
section
variable {prog : Program} {w : World} {A : Around} {E : Value → Shared → Prop} {s : Shared}
end
section
variable {X : Cx}
end
end L2
namespace Att
open PySem PySem.W PySem.Calls PyProof.Rows
theorem ints_of_wellAll {P : Params} {h : Heap} : ∀ (ns : List Int) (vs : List Value), WellAll P h vs (ns.map WData.int) → IntsAre vs ns := by
  intro ns
  induction ns with
  | nil =>
    intro vs w
    rw [List.map_nil] at w
    cases w
    exact .nil
  | cons n ns ih =>
    intro vs w
    rw [List.map_cons] at w
    cases w with
    | cons a b =>
      cases a
      exact .cons _ _ (ih _ b)
theorem script_of {l : OpenLaw} {n : Nat} (hn : l.most = some n) {P : Params} {h : Heap} {args : List WData} {vals : List Value}
    (hpre : l.row.toRowW.claim.pre args = true) (hwl : WellAll P h vals args) :
    ∃ a vs ns, vals = [Value.ref a] ∧ args = [WData.list (ns.map WData.int)] ∧ h.get? a = some { cls := .type "list", data := .seq vs.toArray } ∧ IntsAre vs ns ∧ ns.length ≤ n := by
  have hsh : WShape.hasAll [] args [.list .int] = true := (pre_splitW hpre).1
  have hc : l.pre.holds [] { args := args } = true := (pre_splitW hpre).2
  obtain ⟨d, r, rfl, h1, h2⟩ := hasAllW_cons hsh
  obtain rfl := hasAllW_nil h2
  obtain ⟨xs, rfl, h3⟩ := hasW_list h1
  obtain ⟨ns, rfl⟩ := items_int h3
  have hlen : ns.length ≤ n := by
    unfold OpenLaw.pre at hc
    have h4 : (WTm.not (.lt (.lit (.int (n : Int))) (.len (.arg 0)))).holds [] { args := [.list (ns.map .int)] } = true := by
      have h4 := (holds_andW hc).1
      rw [hn] at h4
      exact h4
    have h5 := condW_of h4 (w_not (w_lt w_lit (w_len_list (w_arg rfl))))
    rw [List.length_map] at h5
    refine Nat.le_of_not_lt fun q => ?_
    have q' : (n : Int) < ((ns.length : Nat) : Int) := by omega
    first
      | (rw [decide_eq_true q'] at h5; exact absurd h5 (by decide))
      | (simp at h5; omega)
  cases hwl with
  | cons w1 w2 =>
    cases w2
    cases w1 with
    | list ho hall => exact ⟨_, _, ns, rfl, rfl, ho, ints_of_wellAll ns _ hall, hlen⟩
theorem post_true (l : OpenLaw) (args : List WData) : l.row.toRowW.claim.post args (.bool true) args = true :=
  postW_of (r := l.row.toRowW) (X := (true == true))
    (show WShape.has [] (.bool true) .bool = true by first | rfl | decide | simp [WShape.has, WShape.arms, WShape.armsAll])
    (show (WTm.eq .res (.lit (.bool true))).value [] { args := args, res := some (.bool true), after := args } = some (.bool (true == true)) from w_eq_bool (w_res rfl) w_lit) rfl
theorem attach_call {l : OpenLaw} {n : Nat} {q : Program} {loose : List Str} {XP : (Str → Option Value) → Heap → Prop} {YP : World → Heap → Prop} {d : DefRec}
    (hn : l.most = some n) (hdf : d.params.defaults = [])
    (call : ∀ (w : World) (s₀ s₁ : Shared) (mg mb : Str → Option Value) (fa : Addr) (o : Obj) (pm cd doc : Value) (a : Addr) (vs : List Value) (ns : List Int),
      Ground q loose [] XP w s₀ mg mb s₁.heap → YP w s₁.heap →
      s₁.heap.get? fa = some o → o.data = .func (docDef d.name d.params d.body d.scope pm cd doc) → s₁.heap.CodeRec cd d.name → mg d.name = some (.ref fa) →
      s₁.heap.get? a = some { cls := .type "list", data := .seq vs.toArray } → IntsAre vs ns → ns.length ≤ n → s₁.gens = #[] →
      codeAny (model l.prog w) callerA (.call (.ref fa) ⟨[.ref a], []⟩) (fun r s' => r = .ok (.ret (.bool true)) ∧ OldK s₁.heap s'.heap ∧ s'.os = s₁.os ∧ AllBare s'.gens) s₁) :
    WalkO q loose XP YP l.row.toRowW d [] (fun f vs => PySem.call f vs) := by
  intro w s₀ s₁ mg mb G Y fa o pm cd doc dV kV ho hd hcd hD hmg hg args vals as hpre hlay hrd hwl hlo
  obtain rfl : dV = .none := Dflts.none hD hdf
  obtain rfl : kV = .none := Dflts.noKw hD
  obtain ⟨a, vs, ns, rfl, rfl, hobj, hints, hlen⟩ := script_of hn hpre hwl
  refine enter_call (codeAny_mono (call w s₀ s₁ mg mb fa o pm cd doc a vs ns G Y ho (fd_plain hd) hcd hmg hobj hints hlen hg) fun r s' hq => ?_)
  obtain ⟨rfl, h2, h3, h4⟩ := hq
  exact ⟨.inl ⟨.bool true, .bool true, [], rfl, fun _ => rfl, .bool true, post_true l _, fun _ => ⟨List.Pairwise.nil, fun _ hm => (nomatch hm)⟩⟩, h2, h3, h4⟩
section
variable {prog : Program} {w : World} {A : Around} {E : Value → Shared → Prop} {s : Shared} {K : Frag}
end
end Att
namespace L2
open PySem PySem.Spec PyProof.Rows
theorem vals_ints : ∀ {vs : List Value} {ns : List Int}, IntsAre vs ns → Vals (ns.map V.int) vs
  | _, _, .nil => .nil
  | _, _, .cons n t h => .cons ⟨t, rfl⟩ (vals_ints h)
end L2
namespace L2
open PySem PySem.Spec PyProof.Rows
end L2
namespace L2
open PySem PySem.Spec PyProof.Rows
def inClass (s : Stmt) (j : Nat) : Stmt := match s with
  | .ClassDef _ _ _ body _ _ _ _ _ _ _ => body.getD j (.Pass ⟨0, 0, 0, 0⟩)
  | _ => .Pass ⟨0, 0, 0, 0⟩
def defArgs (s : Stmt) : Arguments := match s with
  | .FunctionDef _ a _ _ _ _ _ _ _ _ => a
  | _ => { posonlyargs := [], args := [], vararg := none, kwonlyargs := [], kw_defaults := [], kwarg := none, defaults := [] }
def defBody (s : Stmt) : List Stmt := match s with
  | .FunctionDef _ _ b _ _ _ _ _ _ _ => b
  | _ => []
def defScope (s : Stmt) : Scope := match s with
  | .FunctionDef _ _ _ _ _ _ sc _ _ _ => sc
  | _ => { kind := .function, names := [], isGenerator := false, isCoroutine := false }
abbrev CX0 : CXT := fun _ _ _ _ _ _ => False
abbrev E0 : XK := fun _ _ _ => False
theorem pass0 {X : Cx} : Passes CX0 X E0 := fun _ _ _ _ _ _ _ h => h.elim
structure Fun (K : PySem.W.Frag) (x qual : Str) (st : Stmt) (f : Addr) (fd : FuncData) : Prop where
  ex : ∃ (oc : Value) (od : Option Addr) (kV doc pm : Value) (an : Option Addr) (cdv ct : Value) (osl : Array (Option Value)),
    fd = PySem.W.fnOf x qual (defArgs st) (defBody st) (defScope st) .none kV doc pm an cdv ct ∧ K.lookup f = some ⟨oc, od, .func fd, osl⟩ ∧ PySem.W.codeIn K cdv qual = true
  kp : PySem.W.keepIn K (.ref f) = true
section
variable {P : Program} {w : World} {K : PySem.W.Frag} {mg : Str → Option Value} {base : Heap}
theorem Fun.ok {x qual : Str} {st : Stmt} {f : Addr} {fd : FuncData} {N ps : List Str} {k : Nat} {sp : Sp} (F : Fun K x qual st f fd) (S : FnScope N ps (defScope st)) (len : ∀ vs H Q E, sp vs H Q E → vs.length = ps.length)
    (hbody : ∀ (cdv : Value) (A : Around) (outer : List Env) (s : Shared) (H : Hp) (vs : List V) (Q : VK) (E : XK), Room k (A.deeper (envOfC qual (defScope st) s.heap.objs.size f cdv)) → sp vs H Q E →
      ∃ t, PSs (cxOf CX0 P w K mg base N qual (defScope st) f cdv A outer s H E).nox (defBody st) t ∧ t { nx := fun _ H' => Q .non H', rt := Q } (start N vs) H) : FnOk P w K mg base CX0 (k + 1) f fd ps sp := by
  obtain ⟨oc, od, kV, doc, pm, an, cdv, ct, osl, rfl, lk, hcd⟩ := F.ex
  refine fn_of lk hcd S len fun A outer s H vs Q E hr hsp => ?_
  obtain ⟨t, h, q⟩ := hbody cdv A outer s H vs Q E hr hsp
  exact ⟨t, h.nox, q⟩
theorem Fun.binds {x qual : Str} {st : Stmt} {f : Addr} {fd : FuncData} {ps : List Str} (F : Fun K x qual st f fd)
    (h : ∀ (kV doc pm : Value) (an : Option Addr) (cdv ct : Value) (us : List Value), us.length = ps.length → bindArgs (PySem.W.fnOf x qual (defArgs st) (defBody st) (defScope st) .none kV doc pm an cdv ct) ⟨us, []⟩ = pure (ps.zip us)) : Binds K fd ps [] := by
  obtain ⟨oc, od, kV, doc, pm, an, cdv, ct, osl, rfl, lk, hcd⟩ := F.ex
  exact .all (h kV doc pm an cdv ct)
theorem fun_mk {x qual : Str} {st : Stmt} {f : Addr} {oc : Value} {od an : Option Addr} {osl : Array (Option Value)} {kV doc pm cdv ct : Value} (l : K.lookup f = some ⟨oc, od, .func (PySem.W.fnOf x qual (defArgs st) (defBody st) (defScope st) .none kV doc pm an cdv ct), osl⟩)
    (c : PySem.W.codeIn K cdv qual = true) (k : PySem.W.keepIn K (.ref f) = true) : Fun K x qual st f (PySem.W.fnOf x qual (defArgs st) (defBody st) (defScope st) .none kV doc pm an cdv ct) := ⟨⟨oc, od, kV, doc, pm, an, cdv, ct, osl, rfl, l, c⟩, k⟩
end
section
variable {X : Cx}
theorem pv (i : Nat) {x : Str} {pos : Pos} (hN : X.N[i]? = some x := by rfl) (hv : Vis X.env.scope x := by first | exact Or.inl rfl | exact Or.inr (Or.inl rfl) | exact Or.inr (Or.inr rfl)) (hd : (x == ("__debug__" : Str)) = false := by decide)
    (hcd : (x == ("__classdict__" : Str)) = false := by decide) : PE X (.Name x pos) (tVar i) := pe_var hN hv hd hcd
end
theorem iteF {A B : Prop} (h : B) : if false = true then A else B := by
  rw [if_neg Bool.false_ne_true]
  exact h
theorem iteT {A B : Prop} (h : A) : if true = true then A else B := by
  rw [if_pos rfl]
  exact h
theorem ite2 {c A B : Prop} [Decidable c] (h1 : c → A) (h2 : ¬ c → B) : if c then A else B := by
  by_cases h : c
  · rw [if_pos h]
    exact h1 h
  · rw [if_neg h]
    exact h2 h
def Same (H H' : Hp) : Prop := ∀ b o, H b = some o → H' b = some o
theorem Same.refl (H : Hp) : Same H H := fun _ _ h => h
theorem Same.trans {H H1 H2 : Hp} (a : Same H H1) (b : Same H1 H2) : Same H H2 := fun c o h => b c o (a c o h)
theorem Same.free {H H' : Hp} (e : Same H H') {l : Addr} (h : H' l = Option.none) : H l = Option.none := by
  cases q : H l with
  | none => rfl
  | some o =>
    rw [e l o q] at h
    cases h
theorem Same.seq {K : PySem.W.Frag} {H H' : Hp} {a : Addr} {xs : List V} (e : Same H H') (h : SqL K H a xs) : SqL K H' a xs := by
  rcases h with (h | ⟨o, h⟩) | h
  · exact .inl (.inl (e _ _ h))
  · exact .inl (.inr ⟨o, e _ _ h⟩)
  · exact .inr h
end L2
set_option Elab.async false
set_option linter.all false
set_option maxRecDepth 100000
namespace L2
open PySem PySem.Spec PyProof.Rows
def closOf (cells : List (Str × Addr)) : List (Str × NameKind) → List (Str × Addr) → List (Str × Addr)
  | [], cs => cs
  | (n, k) :: r, cs => closOf cells r (if k = .free then (match cells.lookup n with | some c => (n, c) :: cs | none => cs) else cs)
theorem closureFor_loop {env : Env} : ∀ (names : List (Str × NameKind)) (cs : List (Str × Addr)), (∀ x ∈ names, x.2 = .free → ∃ c, env.cells.lookup x.1 = some c) →
    (forIn names cs fun (x : Str × NameKind) (r : List (Str × Addr)) => if (x.2 == .free) = true then (do let c ← cellOf env x.1; pure (ForInStep.yield ((x.1, c) :: r)) : Sem _) else pure (ForInStep.yield r)) = pure (closOf env.cells names cs)
  | [], cs, _ => rfl
  | (n, k) :: r, cs, h => by
    have ih := fun cs' => closureFor_loop (env := env) r cs' fun x hx => h x (List.mem_cons_of_mem _ hx)
    rw [List.forIn_cons]
    by_cases hk : k = .free
    · subst hk
      obtain ⟨c, hc⟩ := h (n, .free) List.mem_cons_self rfl
      have e : cellOf env n = pure c := by unfold cellOf; rw [hc]
      simp only [beq_self_eq_true, if_true, e, pure_bind, closOf, hc]
      exact ih _
    · have hb : (k == NameKind.free) = false := by simpa using hk
      simp only [hb, Bool.false_eq_true, if_false, pure_bind, closOf, hk]
      exact ih _
theorem closureFor_eq {scope : Scope} {env : Env} (h : ∀ x ∈ scope.names, x.2 = .free → ∃ c, env.cells.lookup x.1 = some c) : closureFor scope env = pure (closOf env.cells scope.names []) := by
  have e := closureFor_loop scope.names [] h
  unfold closureFor
  first
    | (simp only [bind_pure]; exact e)
    | (show (forIn scope.names [] _ >>= fun r => pure r) = _
       rw [show (forIn scope.names ([] : List (Str × Addr)) _ : Sem _) = _ from e]
       rfl)
theorem closOf_sub {cells : List (Str × Addr)} {y : Str} {c : Addr} : ∀ {names : List (Str × NameKind)} {cs : List (Str × Addr)}, (∀ y c, cs.lookup y = some c → cells.lookup y = some c) → (closOf cells names cs).lookup y = some c → cells.lookup y = some c
  | [], cs, h, e => h y c e
  | (n, k) :: r, cs, h, e => by
    refine closOf_sub (names := r) ?_ e
    intro y' c' e'
    by_cases hk : k = .free
    · rw [if_pos hk] at e'
      cases q : cells.lookup n with
      | none => rw [q] at e'; exact h _ _ e'
      | some d =>
        rw [q] at e'
        simp only [List.lookup_cons] at e'
        cases hb : y' == n with
        | true =>
          rw [hb] at e'
          cases e'
          have : y' = n := by simpa using hb
          rw [this]; exact q
        | false => rw [hb] at e'; exact h _ _ e'
    · rw [if_neg hk] at e'; exact h _ _ e'
theorem closOf_has {cells : List (Str × Addr)} {y : Str} : ∀ {names : List (Str × NameKind)} {cs : List (Str × Addr)}, ((∃ c, cs.lookup y = some c) ∨ ((y, NameKind.free) ∈ names ∧ ∃ c, cells.lookup y = some c)) → ∃ c, (closOf cells names cs).lookup y = some c
  | [], cs, h => by
    rcases h with h | ⟨h, _⟩
    · exact h
    · cases h
  | (n, k) :: r, cs, h => by
    refine closOf_has (names := r) ?_
    rcases h with ⟨c, h⟩ | ⟨h, c, hc⟩
    · left
      by_cases hk : k = .free
      · rw [if_pos hk]
        cases q : cells.lookup n with
        | none => exact ⟨c, h⟩
        | some d =>
          simp only [List.lookup_cons]
          cases hb : y == n with
          | true => exact ⟨d, rfl⟩
          | false => exact ⟨c, h⟩
      · rw [if_neg hk]; exact ⟨c, h⟩
    · rcases List.mem_cons.mp h with e | h
      · cases e
        left
        rw [if_pos rfl, hc]
        exact ⟨c, by simp⟩
      · exact .inr ⟨h, c, hc⟩
theorem lookup_relabel {env : Env} : ∀ {names : List (Str × NameKind)} {x : Str} {k : NameKind},
    (names.map fun (n, k) => if (k == NameKind.free && env.scope.kind == .function && env.kindOf n == some .cell) then (n, NameKind.cell) else (n, k)).lookup x = some k → names.lookup x = some k ∨ (k = .cell ∧ names.lookup x = some .free)
  | [], _, _, h => by simp at h
  | (n, k0) :: r, x, k, h => by
    have ih := @lookup_relabel env r x k
    rw [List.map_cons] at h
    by_cases hc : (k0 == NameKind.free && env.scope.kind == .function && env.kindOf n == some .cell) = true
    · simp only [hc, if_true, List.lookup_cons] at h
      have hk0 : k0 = .free := by
        simp only [Bool.and_eq_true] at hc
        simpa using hc.1.1
      cases hx : x == n with
      | true => rw [hx] at h; cases h; right; simp [List.lookup_cons, hx, hk0]
      | false => rw [hx] at h; simp only [List.lookup_cons, hx]; exact ih h
    · have hc' : (k0 == NameKind.free && env.scope.kind == .function && env.kindOf n == some .cell) = false := by simpa using hc
      simp only [hc', Bool.false_eq_true, if_false, List.lookup_cons] at h
      cases hx : x == n with
      | true => rw [hx] at h; cases h; left; simp [List.lookup_cons, hx]
      | false => rw [hx] at h; simp only [List.lookup_cons, hx]; exact ih h
def cxC (X : Cx) (N : List Str) (scope : Scope) (C : Addr) (s₀ : Shared) (H₀ : Hp) (ex : List Addr) : Cx where
  prog := X.prog
  w := X.w
  K := X.K
  mg := X.mg
  base := X.base
  A := X.A
  N := N
  s₀ := s₀
  H₀ := H₀
  env := compEnvC scope (closOf X.env.cells scope.names []) C X.env
  outer := X.stack
  stack := X.stack
  ex := ex
  fn := fun _ => false
  calm := X.calm
  pn := []
  xe := fun _ _ => False
def capt (js : List Nat) (σ : St) : St := js.map fun j => (σ[j]?).join
theorem capt_get {js : List Nat} {σ : St} {i : Nat} {v : V} (h : (capt js σ)[i]? = some (some v)) : ∃ j, js[i]? = some j ∧ σ[j]? = some (some v) := by
  unfold capt at h
  rw [List.getElem?_map] at h
  cases e : js[i]? with
  | none => rw [e] at h; cases h
  | some j =>
    rw [e] at h
    have h' : (σ[j]?).join = some v := Option.some.inj h
    refine ⟨j, rfl, ?_⟩
    cases q : σ[j]? with
    | none => rw [q] at h'; cases h'
    | some z => rw [q] at h'; exact congrArg some h'
structure CScope (sc : Scope) (scope : Scope) (x : Str) (M : List Str) (ys : List Str) (js : List Nat) : Prop where
  kind : scope.kind = .function
  cell : ∀ y ∈ scope.names, y.2 ≠ .cell
  loc : ∀ y ∈ scope.names, y.2 = .local → scope.names.lookup y.1 = some .local
  var : scope.names.lookup x = some .local
  free : ∀ y ∈ scope.names, y.2 = .free → sc.names.lookup y.1 = some .cell ∨ sc.names.lookup y.1 = some .free
  caps : js.map (M[·]?) = ys.map some
  fr : ∀ y ∈ ys, scope.names.lookup y = some .free
  nd : (x :: ys).Nodup
section
variable {X : Cx} {pins : List (Addr × Obj)} {σ : St} {H : Hp} {s : Shared}
theorem inv_comp {scope : Scope} {x : Str} {ys : List Str} {js : List Nat} {fp : List Addr} {h₁ : Heap} {tk : Nat} {C : Addr} (I : Inv X pins σ H s) (S : CScope X.env.scope scope x X.N ys js) (hf : ∀ b ∈ fp, FpOk X pins H b) (ho : ∀ b ∈ fp, ∃ o, s.heap.get? b = some o)
    (hC : s.heap.objs.size ≤ C) (hk : ∀ b o, s.heap.get? b = some o → h₁.get? b = some o) (hn : h₁.Ns C fun _ => none) :
    Inv (cxC X (x :: ys) scope C s H fp) [] (none :: capt js σ) H { s with heap := h₁, toks := tk } := by
  have sub : ∀ y c, (closOf X.env.cells scope.names []).lookup y = some c → X.env.cells.lookup y = some c := fun y c e => closOf_sub (fun _ _ z => by simp at z) e
  have has : ∀ y, scope.names.lookup y = some .free → ∃ c, (closOf X.env.cells scope.names []).lookup y = some c := fun y e => by
    have m : (y, NameKind.free) ∈ scope.names := PySem.mem_of_lookup e
    exact closOf_has (.inr ⟨m, I.ok.has y (S.free _ m rfl)⟩)
  have lt : ∀ b ∈ fp, b < s.heap.objs.size := fun b hb => by obtain ⟨o, e⟩ := ho b hb; exact Heap.lt_size e
  have ok : (cxC X (x :: ys) scope C s H fp).Ok := by
    refine ⟨I.ok.mod, S.kind, I.ok.glob, I.ok.blt, hC, fun y z c e1 e2 => I.ok.inj y z c (sub _ _ e1) (sub _ _ e2), fun y hy => ?_, fun y c z => ?_, I.ok.hd, I.ok.frames, .inl rfl, fun b hb => ?_, I.bs, Nat.le_trans I.ok.bsz I.sz, fun b o e hb => ?_, fun b hb z => ?_, I.stack, I.stkFree⟩
    · have hy' : (relabel scope X.env).names.lookup y = some .cell ∨ (relabel scope X.env).names.lookup y = some .free := hy
      have nocell : scope.names.lookup y ≠ some .cell := fun z => S.cell _ (PySem.mem_of_lookup z) rfl
      rcases hy' with e | e
      · rcases lookup_relabel e with z | ⟨_, z⟩
        · exact absurd z nocell
        · exact has y z
      · rcases lookup_relabel e with z | ⟨z, _⟩
        · exact has y z
        · cases z
    · exact absurd (show false = true from z) Bool.false_ne_true
    · refine ⟨Nat.ne_of_lt (Nat.lt_of_lt_of_le (lt b hb) hC), fun y c e => (hf b hb).2.2.2.2.1 y c (sub y c e)⟩
    · rcases (hf b hb).2.2.2.1 with z | z
      · exact I.ok.noex b o e z
      · exact absurd (Nat.lt_of_lt_of_le (Heap.lt_size e) (Nat.le_trans I.ok.bsz z)) (Nat.lt_irrefl _)
    · rcases List.mem_cons.mp (I.stkSub b z) with e | e
      · exact (hf b hb).2.1 e
      · exact (hf b hb).2.2.1 e
  refine ⟨ok, rfl, I.bare, Un.kept hk, ⟨_, hn, fun i y v e1 e2 e3 => ?_⟩, fun y c e => ?_, I.hok.fresh hC, fun y c e => I.freeC y c (sub y c e), fun p hp => absurd (show p ∈ ([] : List (Addr × Obj)) from hp) (by simp), I.hok.kept hk, ?_⟩
  · cases i with
    | zero => simp at e2
    | succ i =>
      have e1' : ys[i]? = some y := by simpa [cxC] using e1
      have e2' : (capt js σ)[i]? = some (some v) := by simpa using e2
      obtain ⟨j, hj, hσ⟩ := capt_get e2'
      have hN : X.N[j]? = some y := by
        have z := congrArg (fun l => l[i]?) S.caps
        simp only [List.getElem?_map, hj, e1', Option.map_some] at z
        exact Option.some.inj z
      have hfr := S.fr y (List.mem_of_getElem? e1')
      have m : (y, NameKind.free) ∈ scope.names := PySem.mem_of_lookup hfr
      have hkind := S.free _ m rfl
      obtain ⟨m', hns, hl⟩ := I.loc
      obtain ⟨u, r, lk⟩ := hl j y v hN hσ (by rcases hkind with z | z; exact .inr (.inl z); exact .inr (.inr z))
      refine ⟨u, r, .inr ⟨?_, ?_⟩⟩
      · have e3' : (relabel scope X.env).names.lookup y = some .local ∨ (relabel scope X.env).names.lookup y = some .cell ∨ (relabel scope X.env).names.lookup y = some .free := e3
        rcases e3' with z | z | z
        · rcases lookup_relabel z with q | ⟨q, _⟩
          · rw [hfr] at q; cases q
          · cases q
        · exact .inl z
        · exact .inr z
      · obtain ⟨c, hc⟩ := has y hfr
        refine ⟨c, hc, ?_⟩
        rcases lk with ⟨z, _⟩ | ⟨_, c', hc', cell⟩
        · rcases hkind with q | q
          · have q' : X.env.kindOf y = some .cell := q
            rw [show X.env.kindOf y = some .local from z] at q'; cases q'
          · have q' : X.env.kindOf y = some .free := q
            rw [show X.env.kindOf y = some .local from z] at q'; cases q'
        · rw [sub y c hc] at hc'
          cases hc'
          obtain ⟨o, e, d⟩ := cell
          exact ⟨o, hk _ _ e, d⟩
  · obtain ⟨v, o, e', d⟩ := I.cell y c (sub y c e)
    exact ⟨v, o, hk _ _ e', d⟩
  · have z := congrArg List.length S.caps
    simp only [List.length_map] at z
    show (none :: capt js σ).length = (x :: ys).length
    simp [capt, z]
end
end L2
set_option Elab.async false
set_option linter.all false
set_option maxRecDepth 100000
namespace L2
open PySem PySem.Spec PyProof.Rows
theorem from_pure {α β : Type} {M : Model} {A : Around} {a : α} {Q : α → Shared → Prop} {E E' : Value → Shared → Prop} {s : Shared} {t : Sem β} {Q' : β → Shared → Prop} (h : wpAny M A (pure a) Q E s) (k : Q a s → wpAny M A t Q' E' s) : wpAny M A t Q' E' s :=
  fun Γ p hΓ => k (h Γ p hΓ) Γ p hΓ
def PTs (X : Cx) (ifs : List Expr) (t : TT) : Prop :=
  ∀ (pins : List (Addr × Obj)) (s : Shared) (σ : St) (H : Hp) (Q : Bool → Hp → Prop), Inv X pins σ H s → t σ H Q →
    wpAny (model X.prog X.w) X.A (forIn ifs true fun c r => if r = true then do let ok ← isTrue c X.env (eval c X.env); pure (ForInStep.yield ok) else pure (ForInStep.yield r)) (TP X pins σ Q) X.xe s
def tYes : TT := fun _ H Q => Q true H
theorem pts_nil {X : Cx} : PTs X [] tYes := fun pins s σ H Q I h => wpAny_tests_nil ⟨H, I, h⟩
theorem pts_one {X : Cx} {c : Expr} {t : TT} (h : PT X c t) : PTs X [c] t := fun pins s σ H Q I hw => wpAny_tests_one (h pins s σ H Q I hw)
def CompLoop (J : It) (js : List Nat) (tt : TT) (te : TE) (σ : St) (Q : VK) (H : Hp) : Prop := ∃ W : Nat → Nat → List V → Hp → Prop, (∃ m, W 0 m [] H) ∧ ∀ i m ys H, W i m ys H →
  (J.stop i H ∧ ∀ D, H D = none → Q (.ref D) (upd H D (.lst ys))) ∨
  (J.go i H ∧ ys.length < sizeLine ∧ ∃ N : List V → Hp → Prop, (∀ ys' H', N ys' H' → ∃ m', m' < m ∧ W (i + 1) m' ys' H') ∧ ∀ x H', J.yld i H x H' → tt (some x :: capt js σ) H' fun b H2 => if b = true then te (some x :: capt js σ) H2 fun v H3 => N (ys ++ [v]) H3 else N ys H2)
def tComp (wi : TI) (js : List Nat) (tt : TT) (te : TE) : TE := fun σ H Q => wi σ H fun J H1 => CompLoop J js tt te σ Q H1
theorem HOk.track {P : Program} {w : World} {H : Hp} {h : Heap} {a : Addr} {o : HO} (x : HOk P w H h) (hn : H a = none) (new : ObjOk P w (upd H a o) h a o) : HOk P w (upd H a o) h := fun b u e => by
  by_cases hb : b = a
  · subst hb; rw [upd_same] at e; cases e; exact new
  · rw [upd_ne hb] at e
    exact (x b u e).stay (fun _ _ _ q => q) (fun c q => by rw [upd_ne (ne_of_none q hn)]; exact q) fun c xs q => by rw [upd_ne (ne_of_none q hn)]; exact q
section
variable {X : Cx} {elt iter : Expr} {ifs : List Expr} {x : Str} {px pos : Pos} {scope : Scope} {ys : List Str} {js : List Nat} {wi : TI} {tt : TT} {te : TE}
theorem comp_block {pins : List (Addr × Obj)} {σ : St} {H : Hp} {s : Shared} {J : It} {fp : List Addr} {it : Addr} {tn : Nat → Heap → Prop} {Q : VK} {E : Value → Shared → Prop} {R : Value → Addr → Result → Shared → Prop}
    (S : CScope X.env.scope scope x X.N ys js) (hc : X.calm = true) (ht : ∀ C s₀ H₀ ex, PTs (cxC X (x :: ys) scope C s₀ H₀ ex) ifs tt) (he : ∀ C s₀ H₀ ex, PE (cxC X (x :: ys) scope C s₀ H₀ ex) elt te)
    (I : Inv X pins σ H s) (T : Turn X.prog X.w X.K (.Name x px) J fp it tn) (st : tn 0 s.heap) (hf : ∀ b ∈ fp, FpOk X pins H b)
    (hw : ∃ W : Nat → Nat → List V → Hp → Prop, (∃ m, W 0 m [] H) ∧ ∀ i m zs H, W i m zs H →
      (J.stop i H ∧ ∀ D, H D = none → Q (.ref D) (upd H D (.lst zs))) ∨
      (J.go i H ∧ zs.length < sizeLine ∧ ∃ N : List V → Hp → Prop, (∀ ys' H', N ys' H' → ∃ m', m' < m ∧ W (i + 1) m' ys' H') ∧ ∀ x H', J.yld i H x H' → tt (some x :: capt js σ) H' fun b H2 => if b = true then te (some x :: capt js σ) H2 fun v H3 => N (zs ++ [v]) H3 else N zs H2))
    (hR : ∀ D C s' H' m', Inv X pins σ H' s' → Q (.ref D) H' → s.heap.objs.size ≤ C → H' C = none → s'.heap.Ns C m' → R (.ref D) C (.ok .next) s') :
    wpAny (model X.prog X.w) X.A (newList []) (fun acc s₃ => wpAny (model X.prog X.w) X.A (newFunctionEnv scope X.env.globals (closOf X.env.cells scope.names []) [] X.env.qual none .none (some X.env)) (fun cenv s₄ =>
      codeAny (model X.prog X.w) X.A (.compStart (.ListComp elt [⟨.Name x px, iter, ifs, 0⟩] scope pos) 0 (.ref it) acc { cenv with scope := relabel scope X.env }) (R acc cenv.locals) s₄) E s₃) E s := by
  obtain ⟨W, ⟨m0, w0⟩, turn⟩ := hw
  refine wpAny_newObj_type (wpAny_newFunctionEnv S.cell (by intro y hy; simp at hy) (fun h₁ hns₁ hsb₁ => ?_) S.kind)
  dsimp only at hns₁ hsb₁ ⊢
  generalize hH2 : s.heap.push { cls := .type "list", dict := none, data := .seq ([] : List Value).toArray } = G at hns₁ hsb₁ ⊢
  generalize hD : s.heap.objs.size = D at *
  generalize hCe : G.objs.size = C at *
  have hC : C = D + 1 := by rw [← hCe, ← hH2, Heap.size_push, hD]
  have hDlt : D < C := by rw [hC]; exact Nat.lt_succ_self D
  have hDC : D ≠ C := Nat.ne_of_lt hDlt
  have old : ∀ b o, s.heap.get? b = some o → h₁.get? b = some o := fun b o e => by
    have hb : b < D := hD ▸ Heap.lt_size e
    exact (hsb₁.2 b (Nat.ne_of_lt (Nat.lt_trans hb hDlt))).trans (Heap.get?_push_of_some _ (hH2 ▸ Heap.get?_push_of_some _ e))
  have hacc : h₁.get? D = some { cls := .type "list", data := .seq ([] : List Value).toArray 0 } := by
    refine (hsb₁.2 D hDC).trans (Heap.get?_push_of_some _ ?_)
    rw [← hH2, ← hD]
    exact Heap.get?_push_size _ rfl
  have obj0 := T.obj 0 _ st
  have fplt : ∀ b ∈ fp, b < D := fun b hb => by obtain ⟨o, e, _⟩ := obj0 b hb; exact hD ▸ Heap.lt_size e
  generalize hX : cxC X (x :: ys) scope C s H fp = X'
  have I1 : Inv X' [] (none :: capt js σ) H { s with heap := h₁, toks := s.toks + ([] : List (Str × Value)).length } := by
    subst hX
    exact inv_comp I S hf (fun b hb => by obtain ⟨o, e, _⟩ := obj0 b hb; exact ⟨o, e⟩) (by omega) old (by simpa using hns₁)
  have eP : X'.prog = X.prog := by subst hX; rfl
  have eW : X'.w = X.w := by subst hX; rfl
  have eK : X'.K = X.K := by subst hX; rfl
  have eA : X'.A = X.A := by subst hX; rfl
  have eC : X'.calm = true := by subst hX; exact hc
  have eL : X'.env.locals = C := by subst hX; rfl
  have eS : X'.s₀ = s := by subst hX; rfl
  have eN : X'.N = x :: ys := by subst hX; rfl
  have eE : X'.env = compEnvC scope (closOf X.env.cells scope.names []) C X.env := by subst hX; rfl
  have eXe : X'.xe = fun _ _ => False := by subst hX; rfl
  have eX : X'.ex = fp := by subst hX; rfl
  have ePn : X'.pn = [] := by subst hX; rfl
  have efs : ∀ b, b ∈ X'.fs → b ∈ frs X.stack := fun b z => by subst hX; exact z
  have cellLt : ∀ y c, X'.env.cells.lookup y = some c → c < D := fun y c e => by
    have e' : (closOf X.env.cells scope.names []).lookup y = some c := by rw [eE] at e; exact e
    obtain ⟨v, o, e2, _⟩ := I.cell y c (closOf_sub (fun _ _ z => by simp at z) e')
    exact hD ▸ Heap.lt_size e2
  have frLt : ∀ b, b ∈ X'.fs → b < D := fun b z => by
    rcases List.mem_cons.mp (I.stkSub b (efs b z)) with e | e
    · rw [e]; exact hD ▸ I.lt
    · exact Nat.lt_of_not_le fun h => I.nofs (hD ▸ h) e
  have fpOk : ∀ (p : List (Addr × Obj)) (H' : Hp), (∀ b ∈ fp, H' b = none) → (∀ q ∈ p, q.1 = D) → ∀ b ∈ fp, FpOk X' p H' b := fun p H' hn hp b hb => by
    refine ⟨hn b hb, ?_, fun z => ?_, .inl (eX ▸ hb), fun y c e => ?_, fun q hq => ?_⟩
    · rw [eL]; exact Nat.ne_of_lt (Nat.lt_trans (fplt b hb) hDlt)
    · rcases List.mem_cons.mp (I.stkSub b (efs b z)) with e | e
      · exact (hf b hb).2.1 e
      · exact (hf b hb).2.2.1 e
    · have e' : (closOf X.env.cells scope.names []).lookup y = some c := by rw [eE] at e; exact e
      exact (hf b hb).2.2.2.2.1 y c (closOf_sub (fun _ _ z => by simp at z) e')
    · rw [ePn, List.nil_append] at hq
      rw [hp q hq]; exact Nat.ne_of_gt (fplt b hb)
  have noCell : ∀ (its : List Value) (k : Nat) v, ({ cls := .type "list", data := .seq its.toArray k } : Obj).data ≠ .cell v := fun its k v z => by cases z
  have done : ∀ {zs : List V} {its : List Value} {k : Nat} {H' : Hp} {s' : Shared}, Inv X' [] (none :: capt js σ) H' s' → s'.heap.get? D = some { cls := .type "list", data := .seq its.toArray k } → Vals zs its → H' D = none → zs.length ≤ sizeLine →
      (∀ D, H' D = none → Q (.ref D) (upd H' D (.lst zs))) → R (.ref D) C (.ok .next) s' := fun {zs its k H' s'} I' hd hv hn hz q => by
    have un := I'.base
    obtain ⟨m', hns, _⟩ := I'.loc
    rw [eL] at hns
    have hCn : H' C = none := by have := I'.free; rw [eL] at this; exact this
    have hH0 : X'.H₀ = H := by subst hX; rfl
    rw [hH0, eS, eX] at un
    have un2 : Un (frs X.stack) fp H (upd H' D (.lst zs)) s.heap s'.heap := by
      have ne : ∀ b o, s.heap.get? b = some o → b ≠ D := fun b o e => Nat.ne_of_lt (hD ▸ Heap.lt_size e)
      have un' : Un (frs X.stack) fp H H' s.heap s'.heap := by subst hX; exact un
      exact ⟨un'.keep, un'.slot, fun b o e n hx => by rw [upd_ne (ne b o e)]; exact un'.free b o e n hx, un'.there, fun b xs e => by rw [upd_ne (ne_of_none (un'.tups b xs e) hn)]; exact un'.tups b xs e,
        fun b o u e => by rw [upd_ne (ne_of_none (un'.frzs b o u e) hn)]; exact un'.frzs b o u e, fun b ps e => by
          obtain ⟨more, z⟩ := un'.tbls b ps e
          exact ⟨more, by rw [upd_ne (ne_of_none z hn)]; exact z⟩⟩
    have hok : HOk X.prog X.w (upd H' D (.lst zs)) s'.heap := by
      have h0 := I'.hok
      rw [eP, eW] at h0
      exact h0.track hn ⟨hz, its, k, hv, hd⟩
    have I2 : Inv X pins σ (upd H' D (.lst zs)) s' := I.call' (by have := I'.os; rw [eS] at this; exact this) un2 hok I'.bare fun b hb => ⟨(hf b hb).2.2.2.1, (hf b hb).2.1, (hf b hb).2.2.2.2.1, (hf b hb).2.2.2.2.2⟩
    exact hR D C s' _ m' I2 (q D hn) (by omega) (by rw [upd_ne (Ne.symm hDC)]; exact hCn) hns
  have loop : codeAny (model X.prog X.w) X.A (.compLoop (.ListComp elt [⟨.Name x px, iter, ifs, 0⟩] scope pos) 0 (.ref it) (.ref D) X'.env) (R (.ref D) C) { s with heap := h₁, toks := s.toks + ([] : List (Str × Value)).length } := by
    refine codeAny_compLoop_tests (fun n s' => ∃ i zs its k H', Inv X' [] (none :: capt js σ) H' s' ∧ tn i s'.heap ∧ (∀ b ∈ fp, H' b = none) ∧ s'.heap.get? D = some { cls := .type "list", data := .seq its.toArray k } ∧ Vals zs its ∧ H' D = none ∧ zs.length ≤ sizeLine ∧ W i n zs H')
      ?_ m0 ⟨0, [], [], 0, H, I1, T.keep _ _ _ st (fun b hb o e => old b o e), fun b hb => (hf b hb).1, hacc, .nil, I.hok.fresh (by omega), Nat.zero_le _, w0⟩ (fun _ => rfl)
    rintro n s3 ⟨i, zs, its, k, H3, I3, st3, fr3, d3, v3, n3, z3, w3⟩
    have pinD : Inv X' [(D, { cls := .type "list", data := .seq its.toArray k })] (none :: capt js σ) H3 s3 := I3.pins_of fun p hp => by
      have e : p = (D, { cls := .type "list", data := .seq its.toArray k }) := by simpa using hp
      subst e
      exact ⟨d3, n3, by rw [eL]; exact hDC, fun z => Nat.lt_irrefl _ (frLt D z), noCell its k⟩
    have hpD : ∀ q ∈ [(D, ({ cls := .type "list", data := .seq its.toArray k } : Obj))], q.1 = D := fun q hq => by
      have e : q = (D, { cls := .type "list", data := .seq its.toArray k }) := by simpa using hq
      rw [e]
    rcases turn i n zs H3 w3 with ⟨stop, qn⟩ | ⟨go, hzl, NN, hNN, step⟩
    · refine thn (eA ▸ T.done X' eP eW eK eC i _ s3 _ H3 _ pinD (fpOk _ _ fr3 hpD) st3 stop) fun r s4 ⟨hr, I4⟩ => ?_
      subst hr
      exact done (I4.pins_of fun p hp => absurd hp (by simp)) (I4.pin (D, { cls := .type "list", data := .seq its.toArray k }) (List.mem_append_right _ (by simp))).1 v3 n3 z3 qn
    · refine thn (eA ▸ T.item X' eP eW eK eC i _ s3 _ H3 _ pinD (fpOk _ _ fr3 hpD) st3 go) fun r s4 ⟨u, hr, h4⟩ => ?_
      subst hr
      refine from_pure (a := ()) h4 fun ⟨v, H5, I5, r5, y5, st5, fr5⟩ => ?_
      have I5' := I5.pinned (fpOk _ _ fr5 hpD) (T.obj _ _ st5)
      have ev : ∀ {α : Type} {t : Sem α} {Q' : α → Shared → Prop} {E' : Value → Shared → Prop} {s' : Shared}, wpAny (model X'.prog X'.w) X'.A t Q' X'.xe s' → wpAny (model X.prog X.w) X.A t Q' E' s' := fun {α t Q' E' s'} hh => by
        rw [eP, eW, eA, eXe] at hh
        exact wpAny_mono hh (fun _ _ q => q) fun _ _ z => z.elim
      refine ev (thn (pg_name (X := X') (i := 0) (by rw [eN]; exact S.nd) (by rw [eN]; rfl) (.inl (by rw [eE]; exact lookup_relabel_local S.var)) (.inr (by rw [eE]; exact lookup_relabel_local S.var)) _ s4 _ H5 v u (fun σ' H' => σ' = some v :: capt js σ ∧ H' = H5) I5' r5 ⟨rfl, rfl⟩) fun _ s6 ⟨σ6, H6, I6, e6, e6'⟩ => ?_)
      subst e6 e6'
      have back : ∀ {σ' : St} {H7 : Hp} {s7 : Shared}, Inv X' ([(D, { cls := .type "list", data := .seq its.toArray k })] ++ pinsAt fp s4.heap) (some v :: capt js σ) H7 s7 → Inv X' [] (none :: capt js σ) H7 s7 := fun {_ H7 s7} I7 => by
        refine (I7.pins_of fun p hp => absurd hp (by simp)).weak rfl fun i v' e => ?_
        cases i with
        | zero => simp at e
        | succ i => simpa using e
      have fps : ∀ {σ' : St} {H7 : Hp} {s7 : Shared}, Inv X' ([(D, { cls := .type "list", data := .seq its.toArray k })] ++ pinsAt fp s4.heap) σ' H7 s7 → (∀ b ∈ fp, H7 b = none) ∧ (∀ b ∈ fp, ∀ o, s4.heap.get? b = some o → s7.heap.get? b = some o) ∧ s7.heap.get? D = some { cls := .type "list", data := .seq its.toArray k } ∧ H7 D = none := fun {σ' H7 s7} I7 => by
        have g : ∀ b ∈ fp, ∀ o, s4.heap.get? b = some o → s7.heap.get? b = some o ∧ H7 b = none := fun b hb o e => by
          have z := I7.pin (b, o) (List.mem_append_right _ (List.mem_append_right _ (mem_pinsAt hb e)))
          exact ⟨z.1, z.2.1⟩
        refine ⟨fun b hb => ?_, fun b hb o e => (g b hb o e).1, (I7.pin (D, { cls := .type "list", data := .seq its.toArray k }) (List.mem_append_right _ (by simp))).1, (I7.pin (D, { cls := .type "list", data := .seq its.toArray k }) (List.mem_append_right _ (by simp))).2.1⟩
        obtain ⟨o, e, _⟩ := T.obj _ _ st5 b hb
        exact (g b hb o e).2
      have hte : PTs X' ifs tt := hX ▸ ht C s H fp
      have hee : PE X' elt te := hX ▸ he C s H fp
      refine ev (thn (hte _ s6 _ H6 _ I6 (step v H6 y5)) fun b s7 ⟨H7, I7, q7⟩ => ?_)
      cases b with
      | false =>
        rw [if_neg Bool.false_ne_true]
        rw [if_neg Bool.false_ne_true] at q7
        obtain ⟨m', hm, w7⟩ := hNN _ _ q7
        obtain ⟨g1, g2, g3, g4⟩ := fps I7
        exact ⟨m', hm, i + 1, zs, its, k, H7, back (σ' := []) I7, T.keep _ _ _ st5 g2, g1, g3, v3, g4, z3, w7⟩
      | true =>
        rw [if_pos rfl]
        rw [if_pos rfl] at q7
        refine ev (thn (hee _ s7 _ H7 _ I7 q7) fun u8 s8 ⟨v8, H8, I8, r8, q8⟩ => ?_)
        obtain ⟨m', hm, w8⟩ := hNN _ _ q8
        obtain ⟨g1, g2, g3, g4⟩ := fps I8
        have hil := v3.length
        refine call_meets F.slot_list_append ⟨_, g3, rfl⟩ F.entry_list_append (F.args_list_append_2 _ _) (PySem.list_append D its.toArray k u8 (by rw [List.size_toArray]; omega)) ⟨g3, ?_⟩
        have q := PySem.IsL.update g3 (fun a => a.push u8)
        have ea : its.toArray.push u8 = (its ++ [u8]).toArray := by simp
        rw [ea] at q
        have kk : ∀ b o, b ≠ D → s8.heap.get? b = some o → (s8.heap.update D (Obj.mapSeq fun a => a.push u8)).get? b = some o := fun b o hb e => (Heap.get?_update_other _ _ (Ne.symm hb)).trans e
        have I9 : Inv X' [] (none :: capt js σ) H8 { s8 with heap := s8.heap.update D (Obj.mapSeq fun a => a.push u8), toks := s8.toks } := by
          refine (back (σ' := []) I8).turned kk g4 (by rw [eL]; exact hDC) (.inr (by rw [eS]; omega)) (fun y c e => Nat.ne_of_lt (cellLt y c e)) fun p hp => ?_
          rw [ePn] at hp
          exact absurd hp (by simp)
        refine ⟨m', hm, i + 1, zs ++ [v8], its ++ [u8], _, H8, I9, T.keep _ _ _ st5 (fun b hb o e => kk b o (Nat.ne_of_lt (fplt b hb)) (g2 b hb o e)), g1, q, v3.append (.cons r8 .nil), g4, ?_, w8⟩
        rw [List.length_append, List.length_singleton]
        omega
  rw [eE] at loop
  exact codeAny_compStart_list loop (T.self _ 0 _ _ _ (T.keep _ _ _ st (fun b hb o e => old b o e)) loop)
theorem pe_comp (S : CScope X.env.scope scope x X.N ys js) (hc : X.calm = true) (hi : PI X (.Name x px) iter wi) (ht : ∀ C s₀ H₀ ex, PTs (cxC X (x :: ys) scope C s₀ H₀ ex) ifs tt) (he : ∀ C s₀ H₀ ex, PE (cxC X (x :: ys) scope C s₀ H₀ ex) elt te)
    (hs : ∀ x, foldedSetIterable iter X.env x = pure x := by intro _; rfl) : PE X (.ListComp elt [⟨.Name x px, iter, ifs, 0⟩] scope pos) (tComp wi js tt te) := by
  intro pins s σ H Q I h
  rw [eval_ListComp]
  refine wpAny_comprehension_free (use := none) rfl hs (closureFor_eq fun y hy e => I.ok.has _ (S.free y hy e)) S.kind S.loc (thn (hi pins s σ H _ I h) fun v s1 h1 => thn h1 fun itv s2 h2 => ?_)
  obtain ⟨it, fp, tn, J, H2, e, I2, T, st2, f2, hw⟩ := h2
  subst e
  refine comp_block (Q := Q) (R := fun acc C => compPost (model X.prog X.w) X.A X.xe none (EP X pins σ Q) acc C) S hc ht he I2 T st2 f2 hw ?_
  intro D C s' H' m' I' q hC hn hns
  refine ⟨m', hns, fun h' hs' => ⟨.ref D, H', ?_, rfl, q⟩⟩
  have e := I2.fpOk hC hn
  exact I'.turned (t' := s'.toks) (fun b o hb e => (hs'.2 b hb).trans e) hn e.2.1 e.2.2.2.1 e.2.2.2.2.1 e.2.2.2.2.2
theorem ps_setComp {i : Nat} {y : Str} {py spos : Pos} (S : CScope X.env.scope scope x X.N ys js) (hc : X.calm = true) (hN : X.N.Nodup) (hy : X.N[i]? = some y) (hl : Loc X.env.scope y) (hi : PI X (.Name x px) iter wi) (ht : ∀ C s₀ H₀ ex, PTs (cxC X (x :: ys) scope C s₀ H₀ ex) ifs tt) (he : ∀ C s₀ H₀ ex, PE (cxC X (x :: ys) scope C s₀ H₀ ex) elt te)
    (hf : X.fn y = true ∨ X.env.scope.names.lookup y = some .local := by first | exact .inl rfl | exact .inr rfl | assumption)
    (hsw : swapsWith (.ListComp elt [⟨.Name x px, iter, ifs, 0⟩] scope pos) (some (.Name y py)) spos.line X.env = pure true := by rfl)
    (hs : ∀ x, foldedSetIterable iter X.env x = pure x := by intro _; rfl) : PS X (.Assign [.Name y py] (.ListComp elt [⟨.Name x px, iter, ifs, 0⟩] scope pos) spos) (tAsg (tComp wi js tt te) (gName i)) := by
  intro pins s σ H D I h
  rw [exec_Assign_Name_used _ _ _ _ hsw]
  refine wpAny_bind (wpAny_standAt (wpAny_bind ?_))
  show wpAny _ X.A (do let _ ← comprehension (.ListComp elt [⟨.Name x px, iter, ifs, 0⟩] scope pos) scope X.env _ (newList []) false (eval iter X.env) (some (assign (.Name y py) X.env))) _ _ s
  refine wpAny_bind (wpAny_mono (wpAny_comprehension_free (use := some (assign (.Name y py) X.env)) (Q := fun _ s' => SP X pins D .next s') rfl hs (closureFor_eq fun y hy e => I.ok.has _ (S.free y hy e)) S.kind S.loc
    (thn (hi pins s σ H _ I h) fun v s1 h1 => thn h1 fun itv s2 h2 => ?_)) (fun _ s' hq => wpAny_pure (wpAny_pure hq)) fun _ _ e => e)
  obtain ⟨it, fp, tn, J, H2, e, I2, T, st2, f2, hw⟩ := h2
  subst e
  refine comp_block (Q := fun v H' => gName i v σ H' D.nx) (R := fun acc C => compPost (model X.prog X.w) X.A X.xe (some (assign (.Name y py) X.env)) (fun _ s' => SP X pins D .next s') acc C) S hc ht he I2 T st2 f2 hw ?_
  intro Da C s' H' m' I' q hC hn hns
  have e := I2.fpOk hC hn
  show wpAny _ X.A (assign (.Name y py) X.env (.ref Da)) _ _ _
  refine wpAny_assign_Name (store_ok2 I' hN hy hl (show RelV (.ref Da) (.ref Da) from rfl) (fun s2' I3 ⟨a, sb, ha⟩ => ?_) hf)
  have hCa : C ≠ a := by
    rcases ha with z | z
    · rw [z]; exact e.2.1
    · intro w; exact e.2.2.2.2.1 _ _ z w.symm
  refine ⟨m', hns.sameBut sb hCa, fun h' hs' => ⟨_, H', ?_, q⟩⟩
  exact I3.turned (t' := s2'.toks) (fun b o hb e => (hs'.2 b hb).trans e) hn e.2.1 e.2.2.2.1 e.2.2.2.2.1 e.2.2.2.2.2
end
theorem comp_list {K : PySem.W.Frag} {a : Addr} {xs : List V} {js : List Nat} {tt : TT} {te : TE} {σ : St} {H : Hp} {Q : VK} (Pv : Nat → List V → Hp → Prop) (h0 : Pv 0 [] H) (hl : ∀ i ys H, i ≤ xs.length → Pv i ys H → SqL K H a xs)
    (hs : ∀ i x ys H, xs[i]? = some x → Pv i ys H → ys.length < sizeLine ∧ tt (some x :: capt js σ) H fun b H2 => if b = true then te (some x :: capt js σ) H2 fun v H3 => Pv (i + 1) (ys ++ [v]) H3 else Pv (i + 1) ys H2)
    (hd : ∀ ys H, Pv xs.length ys H → ∀ D, H D = none → Q (.ref D) (upd H D (.lst ys))) :
    CompLoop (Itl K a) js tt te σ Q H := by
  refine ⟨fun i m ys H => m = xs.length - i ∧ i ≤ xs.length ∧ Pv i ys H, ⟨xs.length, by simp, Nat.zero_le _, h0⟩, ?_⟩
  rintro i m ys H ⟨rfl, hi, p⟩
  have q := hl i ys H hi p
  by_cases hlt : i < xs.length
  · have hx : xs[i]? = some xs[i] := List.getElem?_eq_getElem hlt
    obtain ⟨hz, hst⟩ := hs i xs[i] ys H hx p
    refine .inr ⟨⟨xs, xs[i], q, hx⟩, hz, Pv (i + 1), fun ys' H' p' => ⟨xs.length - (i + 1), by omega, rfl, hlt, p'⟩, fun x H' y => ?_⟩
    obtain ⟨e, y⟩ := y
    subst e
    have e2 := y xs q
    rw [hx] at e2
    cases e2
    exact hst
  · have e : i = xs.length := by omega
    subst e
    exact .inl ⟨⟨xs, q, Nat.le_refl _⟩, hd ys H p⟩
theorem comp_range {lo : Int} {n : Nat} {js : List Nat} {tt : TT} {te : TE} {σ : St} {H : Hp} {Q : VK} (Pv : Nat → List V → Hp → Prop) (h0 : Pv 0 [] H)
    (hs : ∀ i ys H, i < n → Pv i ys H → ys.length < sizeLine ∧ tt (some (.int (lo + i)) :: capt js σ) H fun b H2 => if b = true then te (some (.int (lo + i)) :: capt js σ) H2 fun v H3 => Pv (i + 1) (ys ++ [v]) H3 else Pv (i + 1) ys H2)
    (hd : ∀ ys H, Pv n ys H → ∀ D, H D = none → Q (.ref D) (upd H D (.lst ys))) :
    CompLoop (Itr lo n) js tt te σ Q H := by
  refine ⟨fun i m ys H => m = n - i ∧ i ≤ n ∧ Pv i ys H, ⟨n, by simp, Nat.zero_le _, h0⟩, ?_⟩
  rintro i m ys H ⟨rfl, hi, p⟩
  by_cases hlt : i < n
  · obtain ⟨hz, hst⟩ := hs i ys H hlt p
    refine .inr ⟨hlt, hz, Pv (i + 1), fun ys' H' p' => ⟨n - (i + 1), by omega, rfl, hlt, p'⟩, fun x H' y => ?_⟩
    obtain ⟨e, y⟩ := y
    subst e y
    exact hst
  · have e : i = n := by omega
    subst e
    exact .inl ⟨Nat.le_refl _, hd ys H p⟩
end L2
set_option Elab.async false
set_option linter.all false
set_option maxRecDepth 100000
namespace L2
open PySem PySem.Spec PyProof.Rows
structure CScopeT (sc : Scope) (scope : Scope) (xs : List Str) (M : List Str) (ys : List Str) (js : List Nat) : Prop where
  kind : scope.kind = .function
  cell : ∀ y ∈ scope.names, y.2 ≠ .cell
  loc : ∀ y ∈ scope.names, y.2 = .local → scope.names.lookup y.1 = some .local
  var : ∀ x ∈ xs, scope.names.lookup x = some .local
  free : ∀ y ∈ scope.names, y.2 = .free → sc.names.lookup y.1 = some .cell ∨ sc.names.lookup y.1 = some .free
  caps : js.map (M[·]?) = ys.map some
  fr : ∀ y ∈ ys, scope.names.lookup y = some .free
  nd : (xs ++ ys).Nodup
theorem CScope.nofree {sc scope : Scope} {x : Str} {M : List Str} (kind : scope.kind = .function) (cell : ∀ y ∈ scope.names, y.2 ≠ .cell) (loc : ∀ y ∈ scope.names, y.2 = .local → scope.names.lookup y.1 = some .local) (var : scope.names.lookup x = some .local) (free : ∀ y ∈ scope.names, y.2 ≠ .free) : CScope sc scope x M [] [] :=
  ⟨kind, cell, loc, var, fun y hy e => absurd e (free y hy), rfl, by simp, by simp⟩
section
variable {X : Cx} {pins : List (Addr × Obj)} {σ : St} {H : Hp} {s : Shared}
end
section
variable {prog : Program} {w : World} {A : Around} {R : Result → Shared → Prop} {s : Shared}
end
section
variable {X : Cx} {elt iter : Expr} {ifs : List Expr} {tg : Expr} {xs : List Str} {pos : Pos} {g : TG} {scope : Scope} {ys : List Str} {js : List Nat} {wi : TI} {tt : TT} {te : TE}
end
end L2
set_option Elab.async false
set_option linter.all false
set_option maxRecDepth 100000
namespace L2
open PySem PySem.Spec PyProof.Rows PySem.SeqAt
inductive Tr where
  | non | bl (b : Bool) | int (i : Int) | str (x : Str) | lst (ts : List Tr) | tup (ts : List Tr)
mutual
def TrAt (K : PySem.W.Frag) (H : Hp) : Tr → V → Prop
  | .non, v => v = .non
  | .bl b, v => v = .bl b
  | .int i, v => v = .int i
  | .str x, v => v = .str x
  | .lst ts, v => ∃ a xs, v = .ref a ∧ SqL K H a xs ∧ TrsAt K H ts xs
  | .tup ts, v => ∃ a xs, v = .ref a ∧ SqT K H a xs ∧ TrsAt K H ts xs
def TrsAt (K : PySem.W.Frag) (H : Hp) : List Tr → List V → Prop
  | [], xs => xs = []
  | t :: ts, xs => ∃ y ys, xs = y :: ys ∧ TrAt K H t y ∧ TrsAt K H ts ys
end
mutual
def teq : Tr → Tr → Bool
  | .non, .non => true
  | .bl a, .bl b => a == b
  | .bl a, .int b => (if a then 1 else 0) == b
  | .int a, .bl b => a == (if b then 1 else 0)
  | .int a, .int b => a == b
  | .str a, .str b => a == b
  | .lst a, .lst b => teqs a b
  | .tup a, .tup b => teqs a b
  | _, _ => false
def teqs : List Tr → List Tr → Bool
  | [], [] => true
  | t :: ts, u :: us => teq t u && teqs ts us
  | _, _ => false
end
mutual
def tdep : Tr → Nat
  | .lst ts => tdeps ts + 1
  | .tup ts => tdeps ts + 1
  | _ => 0
def tdeps : List Tr → Nat
  | [] => 0
  | t :: ts => max (tdep t) (tdeps ts)
end
theorem tdep_mem {t : Tr} : ∀ {ts : List Tr}, t ∈ ts → tdep t ≤ tdeps ts
  | u :: ts, h => by
    rw [tdeps]
    rcases List.mem_cons.mp h with e | h
    · rw [e]; exact Nat.le_max_left _ _
    · exact Nat.le_trans (tdep_mem h) (Nat.le_max_right _ _)
section
variable {K : PySem.W.Frag} {H : Hp}
theorem TrsAt.length : ∀ {ts : List Tr} {xs : List V}, TrsAt K H ts xs → ts.length = xs.length
  | [], xs, h => by rw [TrsAt] at h; subst h; rfl
  | t :: ts, xs, h => by
    rw [TrsAt] at h
    obtain ⟨y, ys, rfl, _, h⟩ := h
    rw [List.length_cons, List.length_cons, TrsAt.length h]
theorem TrsAt.get : ∀ {ts : List Tr} {xs : List V} {j : Nat} {t : Tr}, TrsAt K H ts xs → ts[j]? = some t → ∃ x, xs[j]? = some x ∧ TrAt K H t x
  | [], xs, j, t, h, e => by simp at e
  | u :: ts, xs, 0, t, h, e => by
    rw [TrsAt] at h
    obtain ⟨y, ys, rfl, hy, h⟩ := h
    simp at e
    subst e
    exact ⟨y, rfl, hy⟩
  | u :: ts, xs, j + 1, t, h, e => by
    rw [TrsAt] at h
    obtain ⟨y, ys, rfl, hy, h⟩ := h
    obtain ⟨x, e1, e2⟩ := TrsAt.get (j := j) h (by simpa using e)
    exact ⟨x, by simpa using e1, e2⟩
theorem TrsAt.ints : ∀ {ns : List Int}, TrsAt K H (ns.map Tr.int) (ns.map V.int)
  | [] => by rw [List.map_nil, TrsAt]; rfl
  | n :: ns => by rw [List.map_cons, TrsAt]; exact ⟨_, _, rfl, by rw [TrAt], TrsAt.ints⟩
def tInts (ns : List Int) : Tr := .lst (ns.map Tr.int)
theorem TrAt.ints {a : Addr} {ns : List Int} (h : SqL K H a (ns.map V.int)) : TrAt K H (tInts ns) (.ref a) := by
  unfold tInts; rw [TrAt]; exact ⟨a, _, rfl, h, TrsAt.ints⟩
end
mutual
theorem teq_refl : ∀ t : Tr, teq t t = true
  | .non => by rw [teq]
  | .bl b => by rw [teq]; simp
  | .int i => by rw [teq]; simp
  | .str x => by rw [teq]; simp
  | .lst ts => by rw [teq]; exact teqs_refl ts
  | .tup ts => by rw [teq]; exact teqs_refl ts
theorem teqs_refl : ∀ ts : List Tr, teqs ts ts = true
  | [] => by rw [teqs]
  | t :: ts => by rw [teqs, teq_refl t, teqs_refl ts]; rfl
end
theorem teqs_map {α : Type} [DecidableEq α] {f : α → Tr} (h : ∀ a b, teq (f a) (f b) = decide (a = b)) : ∀ (xs ys : List α), teqs (xs.map f) (ys.map f) = decide (xs = ys)
  | [], [] => by simp [teqs]
  | [], _ :: _ => by simp [teqs]
  | _ :: _, [] => by simp [teqs]
  | x :: xs, y :: ys => by
    rw [List.map_cons, List.map_cons, teqs, h, teqs_map h xs ys, Bool.eq_iff_iff]
    simp
theorem teq_int (a b : Int) : teq (.int a) (.int b) = decide (a = b) := by rw [teq, Bool.eq_iff_iff]; simp
theorem teq_ints (a b : List Int) : teq (tInts a) (tInts b) = decide (a = b) := by unfold tInts; rw [teq]; exact teqs_map teq_int a b
theorem tdeps_ints : ∀ ns : List Int, tdeps (ns.map Tr.int) = 0
  | [] => by simp [tdeps]
  | n :: ns => by rw [List.map_cons, tdeps, tdeps_ints ns, tdep] <;> simp
theorem tdep_tInts (ns : List Int) : tdep (tInts ns) = 1 := by unfold tInts; rw [tdep, tdeps_ints]
theorem teqs_length : ∀ {ts us : List Tr}, ts.length ≠ us.length → teqs ts us = false
  | [], [], h => absurd rfl h
  | [], _ :: _, _ => by simp [teqs]
  | _ :: _, [], _ => by simp [teqs]
  | t :: ts, u :: us, h => by rw [teqs, teqs_length (by simpa using h), Bool.and_false]
def eAt (ts us : List Tr) (j : Nat) : Bool := match ts[j]?, us[j]? with
  | some t, some u => teq t u
  | _, _ => true
theorem all_eAt : ∀ {ts us : List Tr}, ts.length = us.length → (List.range ts.length).all (eAt ts us) = teqs ts us
  | [], [], _ => by simp [teqs]
  | [], _ :: _, h => by simp at h
  | _ :: _, [], h => by simp at h
  | t :: ts, u :: us, h => by
    rw [List.length_cons, List.range_succ_eq_map, List.all_cons, List.all_map, teqs, ← all_eAt (ts := ts) (us := us) (by simpa using h)]
    rfl
section
variable {X : Cx} {pins : List (Addr × Obj)} {σ : St} {H : Hp} {s : Shared}
theorem tr_inj (I : Inv X pins σ H s) : ∀ (n : Nat) {t u : Tr} {v : V}, tdep t ≤ n → TrAt X.K H t v → TrAt X.K H u v → t = u := by
  intro n
  induction n with
  | zero =>
    intro t u v hd ht hu
    cases t with
    | lst ts => rw [tdep] at hd; omega
    | tup ts => rw [tdep] at hd; omega
    | _ => (rw [TrAt] at ht; subst ht; cases u <;> (rw [TrAt] at hu) <;> first | rfl | (obtain ⟨_, _, z, _⟩ := hu; cases z) | (cases hu; rfl) | cases hu)
  | succ n ih =>
    intro t u v hd ht hu
    have lists : ∀ {ts us : List Tr} {xs : List V}, tdeps ts ≤ n → TrsAt X.K H ts xs → TrsAt X.K H us xs → ts = us := by
      intro ts us xs hd h1 h2
      apply List.ext_getElem?
      intro j
      have l1 := h1.length
      have l2 := h2.length
      by_cases hj : j < ts.length
      · obtain ⟨t, e⟩ : ∃ t, ts[j]? = some t := ⟨_, List.getElem?_eq_getElem hj⟩
        obtain ⟨u, e'⟩ : ∃ u, us[j]? = some u := ⟨_, List.getElem?_eq_getElem (by omega)⟩
        obtain ⟨x, ex, hx⟩ := h1.get e
        obtain ⟨y, ey, hy⟩ := h2.get e'
        rw [ex] at ey
        cases ey
        rw [e, e', ih (Nat.le_trans (tdep_mem (List.mem_of_getElem? e)) hd) hx hy]
      · rw [List.getElem?_eq_none (by omega), List.getElem?_eq_none (by omega)]
    cases t with
    | lst ts =>
      rw [TrAt] at ht
      obtain ⟨a, xs, rfl, q, h1⟩ := ht
      cases u with
      | lst us =>
        rw [TrAt] at hu
        obtain ⟨b, ys, e, q', h2⟩ := hu
        cases e
        rw [I.list_inj q' q] at h2
        rw [lists (by rw [tdep] at hd; omega) h1 h2]
      | tup us =>
        rw [TrAt] at hu
        obtain ⟨b, ys, e, q', h2⟩ := hu
        cases e
        obtain ⟨_, _, pl, _⟩ := I.list q
        obtain ⟨_, _, pt, _⟩ := I.tuple q'
        exact absurd rfl (ne_of_list_tuple pl.isList pt)
      | _ => rw [TrAt] at hu; cases hu
    | tup ts =>
      rw [TrAt] at ht
      obtain ⟨a, xs, rfl, q, h1⟩ := ht
      cases u with
      | tup us =>
        rw [TrAt] at hu
        obtain ⟨b, ys, e, q', h2⟩ := hu
        cases e
        rw [I.tuple_inj q' q] at h2
        rw [lists (by rw [tdep] at hd; omega) h1 h2]
      | lst us =>
        rw [TrAt] at hu
        obtain ⟨b, ys, e, q', h2⟩ := hu
        cases e
        obtain ⟨_, _, pl, _⟩ := I.list q'
        obtain ⟨_, _, pt, _⟩ := I.tuple q
        exact absurd rfl (ne_of_list_tuple pl.isList pt)
      | _ => rw [TrAt] at hu; cases hu
    | _ => (rw [TrAt] at ht; subst ht; cases u <;> (rw [TrAt] at hu) <;> first | rfl | (obtain ⟨_, _, z, _⟩ := hu; cases z) | (cases hu; rfl) | cases hu)
structure Cmps (A : Around) (s : Shared) (a b : Value) (r : Bool) : Prop where
  rc : RcAt A s a b r
  ne : RcNeAt A s a b (!r)
  eq : EqAt A s a b r
theorem units_in1 (A : Around) : A.in1.units = A.units + 1 := rfl
theorem tr_cmps (I : Inv X pins σ H s) : ∀ (n : Nat) {t u : Tr} {v w : V} {a b : Value} {A : Around}, tdep t ≤ n → TrAt X.K H t v → TrAt X.K H u w → RelV v a → RelV w b → A.units + n < cLine → Cmps A s a b (teq t u) := by
  intro n
  induction n with
  | zero =>
    intro t u v w a b A hd ht hu ra rb hA
    have hA' : A.units < cLine := by omega
    cases t with
    | lst ts => rw [tdep] at hd; omega
    | tup ts => rw [tdep] at hd; omega
    | non =>
      rw [TrAt] at ht; subst ht; cases ra
      cases u with
      | non => rw [TrAt] at hu; subst hu; cases rb; rw [teq]; exact ⟨.none_none, .none_none, .same _⟩
      | bl b => rw [TrAt] at hu; subst hu; cases rb; simp only [teq]; exact ⟨.none_bool _, .none_bool _, .none_bool _⟩
      | int b => rw [TrAt] at hu; subst hu; obtain ⟨_, rfl⟩ := rb; simp only [teq]; exact ⟨.none_int _ _, .none_int _ _, .none_int _ _⟩
      | str b => rw [TrAt] at hu; subst hu; obtain ⟨_, rfl⟩ := rb; simp only [teq]; exact ⟨.none_str _ _, .none_str _ _, .none_str _ _⟩
      | lst us => rw [TrAt] at hu; obtain ⟨p, ys, rfl, q, _⟩ := hu; cases rb; obtain ⟨_, _, pl, _⟩ := I.list q; simp only [teq]; exact ⟨.none_list pl.isList hA', .none_list pl.isList hA', .none_list pl.isList hA'⟩
      | tup us => rw [TrAt] at hu; obtain ⟨p, ys, rfl, q, _⟩ := hu; cases rb; obtain ⟨_, _, pl, _⟩ := I.tuple q; simp only [teq]; exact ⟨.none_tuple pl hA', .none_tuple pl hA', .none_tuple pl hA'⟩
    | bl c =>
      rw [TrAt] at ht; subst ht; cases ra
      cases u with
      | non => rw [TrAt] at hu; subst hu; cases rb; simp only [teq]; exact ⟨.bool_none _, .bool_none _, .bool_none _⟩
      | bl b => rw [TrAt] at hu; subst hu; cases rb; rw [teq]; exact ⟨.bool_bool _ _, .bool_bool _ _, .bool_bool _ _⟩
      | int b => rw [TrAt] at hu; subst hu; obtain ⟨_, rfl⟩ := rb; rw [teq]; exact ⟨.bool_int _ _ _, .bool_int _ _ _, .bool_int _ _ _⟩
      | str b => rw [TrAt] at hu; subst hu; obtain ⟨_, rfl⟩ := rb; simp only [teq]; exact ⟨.bool_str _ _ _, .bool_str _ _ _, .bool_str _ _ _⟩
      | lst us => rw [TrAt] at hu; obtain ⟨p, ys, rfl, q, _⟩ := hu; cases rb; obtain ⟨_, _, pl, _⟩ := I.list q; simp only [teq]; exact ⟨.bool_list _ pl.isList hA', .bool_list _ pl.isList hA', .bool_list _ pl.isList hA'⟩
      | tup us => rw [TrAt] at hu; obtain ⟨p, ys, rfl, q, _⟩ := hu; cases rb; obtain ⟨_, _, pl, _⟩ := I.tuple q; simp only [teq]; exact ⟨.bool_tuple _ pl hA', .bool_tuple _ pl hA', .bool_tuple _ pl hA'⟩
    | int c =>
      rw [TrAt] at ht; subst ht; obtain ⟨_, rfl⟩ := ra
      cases u with
      | non => rw [TrAt] at hu; subst hu; cases rb; simp only [teq]; exact ⟨.int_none _ _, .int_none _ _, .int_none _ _⟩
      | bl b => rw [TrAt] at hu; subst hu; cases rb; rw [teq]; exact ⟨.int_bool _ _ _, .int_bool _ _ _, .int_bool _ _ _⟩
      | int b => rw [TrAt] at hu; subst hu; obtain ⟨_, rfl⟩ := rb; rw [teq]; exact ⟨.int_int _ _ _ _, .int_int _ _ _ _, .int_int _ _ _ _⟩
      | str b => rw [TrAt] at hu; subst hu; obtain ⟨_, rfl⟩ := rb; simp only [teq]; exact ⟨.int_str _ _ _ _, .int_str _ _ _ _, .int_str _ _ _ _⟩
      | lst us => rw [TrAt] at hu; obtain ⟨p, ys, rfl, q, _⟩ := hu; cases rb; obtain ⟨_, _, pl, _⟩ := I.list q; simp only [teq]; exact ⟨.int_list _ _ pl.isList hA', .int_list _ _ pl.isList hA', .int_list _ _ pl.isList hA'⟩
      | tup us => rw [TrAt] at hu; obtain ⟨p, ys, rfl, q, _⟩ := hu; cases rb; obtain ⟨_, _, pl, _⟩ := I.tuple q; simp only [teq]; exact ⟨.int_tuple _ _ pl hA', .int_tuple _ _ pl hA', .int_tuple _ _ pl hA'⟩
    | str c =>
      rw [TrAt] at ht; subst ht; obtain ⟨_, rfl⟩ := ra
      cases u with
      | non => rw [TrAt] at hu; subst hu; cases rb; simp only [teq]; exact ⟨.str_none _ _, .str_none _ _, .str_none _ _⟩
      | bl b => rw [TrAt] at hu; subst hu; cases rb; simp only [teq]; exact ⟨.str_bool _ _ _, .str_bool _ _ _, .str_bool _ _ _⟩
      | int b => rw [TrAt] at hu; subst hu; obtain ⟨_, rfl⟩ := rb; simp only [teq]; exact ⟨.str_int _ _ _ _, .str_int _ _ _ _, .str_int _ _ _ _⟩
      | str b => rw [TrAt] at hu; subst hu; obtain ⟨_, rfl⟩ := rb; rw [teq]; exact ⟨.str_str _ _ _ _, .str_str _ _ _ _, .str_str _ _ _ _⟩
      | lst us => rw [TrAt] at hu; obtain ⟨p, ys, rfl, q, _⟩ := hu; cases rb; obtain ⟨_, _, pl, _⟩ := I.list q; simp only [teq]; exact ⟨.str_list _ _ pl.isList hA', .str_list _ _ pl.isList hA', .str_list _ _ pl.isList hA'⟩
      | tup us => rw [TrAt] at hu; obtain ⟨p, ys, rfl, q, _⟩ := hu; cases rb; obtain ⟨_, _, pl, _⟩ := I.tuple q; simp only [teq]; exact ⟨.str_tuple _ _ pl hA', .str_tuple _ _ pl hA', .str_tuple _ _ pl hA'⟩
  | succ n ih =>
    intro t u v w a b A hd ht hu ra rb hA
    have hA' : A.units < cLine := by omega
    have items : ∀ {ts us : List Tr} {xs ys : List V} {its its2 : List Value}, tdeps ts ≤ n → TrsAt X.K H ts xs → TrsAt X.K H us ys → Vals xs its → Vals ys its2 →
        ∀ j (h1 : j < its.toArray.size) (h2 : j < its2.toArray.size), EqAt A.in1 s its.toArray[j] its2.toArray[j] (eAt ts us j) := by
      intro ts us xs ys its its2 hdn h1 h2 r1 r2 j hj1 hj2
      have l1 := h1.length
      have l2 := h2.length
      have m1 := r1.length
      have m2 := r2.length
      rw [List.size_toArray] at hj1 hj2
      obtain ⟨t, e⟩ : ∃ t, ts[j]? = some t := ⟨_, List.getElem?_eq_getElem (by omega)⟩
      obtain ⟨u, e'⟩ : ∃ u, us[j]? = some u := ⟨_, List.getElem?_eq_getElem (by omega)⟩
      obtain ⟨x, ex, hx⟩ := h1.get e
      obtain ⟨y, ey, hy⟩ := h2.get e'
      obtain ⟨vx, fx, rx⟩ := r1.get ex
      obtain ⟨vy, fy, ry⟩ := r2.get ey
      have g1 : its.toArray[j]'(by simpa using hj1) = vx := by
        have z : its[j] = vx := Option.some.inj ((List.getElem?_eq_getElem hj1).symm.trans fx)
        simpa using z
      have g2 : its2.toArray[j]'(by simpa using hj2) = vy := by
        have z : its2[j] = vy := Option.some.inj ((List.getElem?_eq_getElem hj2).symm.trans fy)
        simpa using z
      rw [g1, g2]
      have q := (ih (A := A.in1) (Nat.le_trans (tdep_mem (List.mem_of_getElem? e)) hdn) hx hy rx ry (by rw [units_in1]; omega)).eq
      unfold eAt
      rw [e, e']
      exact q
    by_cases hz : tdep t ≤ n
    · exact ih hz ht hu ra rb (by omega)
    cases t with
    | lst ts =>
      rw [TrAt] at ht; obtain ⟨p, xs, rfl, q, h1⟩ := ht; cases ra
      obtain ⟨its, r1, pl, _⟩ := I.list q
      cases u with
      | non => rw [TrAt] at hu; subst hu; cases rb; simp only [teq]; exact ⟨.list_none pl.isList hA', .list_none pl.isList hA', .list_none pl.isList hA'⟩
      | bl b => rw [TrAt] at hu; subst hu; cases rb; simp only [teq]; exact ⟨.list_bool _ pl.isList hA', .list_bool _ pl.isList hA', .list_bool _ pl.isList hA'⟩
      | int b => rw [TrAt] at hu; subst hu; obtain ⟨_, rfl⟩ := rb; simp only [teq]; exact ⟨.list_int _ _ pl.isList hA', .list_int _ _ pl.isList hA', .list_int _ _ pl.isList hA'⟩
      | str b => rw [TrAt] at hu; subst hu; obtain ⟨_, rfl⟩ := rb; simp only [teq]; exact ⟨.list_str _ _ pl.isList hA', .list_str _ _ pl.isList hA', .list_str _ _ pl.isList hA'⟩
      | tup us => rw [TrAt] at hu; obtain ⟨p', ys, rfl, q', _⟩ := hu; cases rb; obtain ⟨_, _, pl', _⟩ := I.tuple q'; simp only [teq]; exact ⟨.list_tuple pl.isList pl' hA', .list_tuple pl.isList pl' hA', .list_tuple pl.isList pl' hA'⟩
      | lst us =>
        have hu0 := hu
        rw [TrAt] at hu; obtain ⟨p', ys, rfl, q', h2⟩ := hu; cases rb
        obtain ⟨its2, r2, pl', _⟩ := I.list q'
        have l1 := h1.length
        have l2 := h2.length
        have m1 := r1.length
        have m2 := r2.length
        have hdn : tdeps ts ≤ n := by rw [tdep] at hd; omega
        have both : RcAt A s (.ref p) (.ref p') (teqs ts us) ∧ RcNeAt A s (.ref p) (.ref p') (!teqs ts us) := by
          by_cases hsz : ts.length = us.length
          · have hs : its.toArray.size = its2.toArray.size := by rw [List.size_toArray, List.size_toArray]; omega
            have it := items hdn h1 h2 r1 r2
            have e1 : (List.range its.toArray.size).all (eAt ts us) = teqs ts us := by
              rw [List.size_toArray, ← m1, ← l1]; exact all_eAt hsz
            have a1 := RcAt.lists pl.isList pl'.isList hs hA' it
            have a2 := RcNeAt.lists pl.isList pl'.isList hs hA' it
            rw [e1] at a1 a2
            exact ⟨a1, a2⟩
          · have hs : (its.toArray.size != its2.toArray.size) = true := by
              rw [List.size_toArray, List.size_toArray, bne_iff_ne]; omega
            rw [teqs_length hsz]
            exact ⟨.lists_lengths pl.isList pl'.isList hs hA', .lists_lengths pl.isList pl'.isList hs hA'⟩
        rw [teq]
        refine ⟨both.1, both.2, ?_⟩
        by_cases hpp : p = p'
        · subst hpp
          have e : Tr.lst ts = Tr.lst us := tr_inj I (n + 1) hd (show TrAt X.K H (.lst ts) (.ref p) by rw [TrAt]; exact ⟨p, xs, rfl, q, h1⟩) hu0
          cases e
          rw [teqs_refl]
          exact .same _
        · exact .of_refs hpp both.1
    | tup ts =>
      rw [TrAt] at ht; obtain ⟨p, xs, rfl, q, h1⟩ := ht; cases ra
      obtain ⟨its, r1, pl, _⟩ := I.tuple q
      cases u with
      | non => rw [TrAt] at hu; subst hu; cases rb; simp only [teq]; exact ⟨.tuple_none pl hA', .tuple_none pl hA', .tuple_none pl hA'⟩
      | bl b => rw [TrAt] at hu; subst hu; cases rb; simp only [teq]; exact ⟨.tuple_bool _ pl hA', .tuple_bool _ pl hA', .tuple_bool _ pl hA'⟩
      | int b => rw [TrAt] at hu; subst hu; obtain ⟨_, rfl⟩ := rb; simp only [teq]; exact ⟨.tuple_int _ _ pl hA', .tuple_int _ _ pl hA', .tuple_int _ _ pl hA'⟩
      | str b => rw [TrAt] at hu; subst hu; obtain ⟨_, rfl⟩ := rb; simp only [teq]; exact ⟨.tuple_str _ _ pl hA', .tuple_str _ _ pl hA', .tuple_str _ _ pl hA'⟩
      | lst us => rw [TrAt] at hu; obtain ⟨p', ys, rfl, q', _⟩ := hu; cases rb; obtain ⟨_, _, pl', _⟩ := I.list q'; simp only [teq]; exact ⟨.tuple_list pl pl'.isList hA', .tuple_list pl pl'.isList hA', .tuple_list pl pl'.isList hA'⟩
      | tup us =>
        have hu0 := hu
        rw [TrAt] at hu; obtain ⟨p', ys, rfl, q', h2⟩ := hu; cases rb
        obtain ⟨its2, r2, pl', _⟩ := I.tuple q'
        have l1 := h1.length
        have l2 := h2.length
        have m1 := r1.length
        have m2 := r2.length
        have hdn : tdeps ts ≤ n := by rw [tdep] at hd; omega
        have e1 : ((List.range (min its.toArray.size its2.toArray.size)).all (eAt ts us) && its.toArray.size == its2.toArray.size) = teqs ts us := by
          rw [List.size_toArray, List.size_toArray, ← m1, ← l1, ← m2, ← l2]
          by_cases hsz : ts.length = us.length
          · rw [← hsz, Nat.min_self, beq_self_eq_true, Bool.and_true]; exact all_eAt hsz
          · rw [teqs_length hsz, beq_eq_false_iff_ne.mpr hsz, Bool.and_false]
        have it := items hdn h1 h2 r1 r2
        have a1 := RcAt.tuples pl pl' hA' it
        have a2 := RcNeAt.tuples pl pl' hA' it
        rw [e1] at a1 a2
        rw [teq]
        refine ⟨a1, a2, ?_⟩
        by_cases hpp : p = p'
        · subst hpp
          have e : Tr.tup ts = Tr.tup us := tr_inj I (n + 1) hd (show TrAt X.K H (.tup ts) (.ref p) by rw [TrAt]; exact ⟨p, xs, rfl, q, h1⟩) hu0
          cases e
          rw [teqs_refl]
          exact .same _
        · exact .of_refs hpp a1
    | non => exact absurd (Nat.zero_le _) hz
    | bl b => exact absurd (Nat.zero_le _) hz
    | int b => exact absurd (Nat.zero_le _) hz
    | str b => exact absurd (Nat.zero_le _) hz
end
section
variable {X : Cx}
def rEqT (K : PySem.W.Frag) (neg : Bool) : R2 := fun x y H Q => ∃ t u, TrAt K H t x ∧ TrAt K H u y ∧ tdep t ≤ 8 ∧ Q (.bl (if neg then !teq t u else teq t u)) H
theorem op_eqT (hu : X.A.units + 64 < cLine) : OpR X (compareOp .Eq) (rEqT X.K false) := by
  intro pins s σ H x y v u Q I rx ry h
  obtain ⟨t, t', h1, h2, hd, q⟩ := h
  exact (tr_cmps I 8 hd h1 h2 rx ry (by omega)).rc _ _ _ _ ⟨.bl _, H, I, rfl, q⟩
open Classical in
def rInT (K : PySem.W.Frag) (neg : Bool) : R2 := fun x y H Q => ∃ p xs ts u, y = .ref p ∧ SqL K H p xs ∧ TrsAt K H ts xs ∧ TrAt K H u x ∧ tdeps ts ≤ 8 ∧ Q (.bl (if neg then !(ts.any fun t => teq t u) else ts.any fun t => teq t u)) H
open Classical in
theorem in_any {pins : List (Addr × Obj)} {σ : St} {H : Hp} {s : Shared} (I : Inv X pins σ H s) {u : Tr} : ∀ {ts : List Tr} {xs : List V} {its : List Value}, tdeps ts ≤ 8 → TrsAt X.K H ts xs → Vals xs its →
    its.any (fun y => decide (∃ t x, RelV x y ∧ TrAt X.K H t x ∧ teq t u = true)) = ts.any fun t => teq t u
  | [], xs, its, _, h, r => by rw [TrsAt] at h; subst h; cases r; rfl
  | t :: ts, xs, its, hd, h, r => by
    rw [TrsAt] at h
    obtain ⟨y, ys, rfl, hy, h⟩ := h
    cases r with
    | cons r1 r2 =>
      rw [tdeps] at hd
      rw [List.any_cons, List.any_cons, in_any I (by omega) h r2]
      congr 1
      rw [Bool.eq_iff_iff, decide_eq_true_iff]
      constructor
      · rintro ⟨t', x', r', h', e⟩
        rw [r1.inj r'] at hy
        rw [tr_inj I 8 (by omega) hy h']; exact e
      · intro e
        exact ⟨t, y, r1, hy, e⟩
open Classical in
theorem in_core {pins : List (Addr × Obj)} {σ : St} {H : Hp} {s : Shared} (I : Inv X pins σ H s) (hu : X.A.units + 64 < cLine) {u : Tr} {x : V} {v : Value} (hx : TrAt X.K H u x) (rx : RelV x v) {ts : List Tr} {xs : List V} {its : List Value} (hd : tdeps ts ≤ 8) (h : TrsAt X.K H ts xs) (r : Vals xs its) :
    ∀ y, y ∈ its.toArray → SeqAt.EqAt X.A.in1 s y v (decide (∃ t x, RelV x y ∧ TrAt X.K H t x ∧ teq t u = true)) := by
  intro y hy
  have hy' : y ∈ its := by simpa using hy
  obtain ⟨j, hj, e⟩ := List.getElem_of_mem hy'
  have l1 := h.length
  have m1 := r.length
  obtain ⟨t, et⟩ : ∃ t, ts[j]? = some t := ⟨_, List.getElem?_eq_getElem (by omega)⟩
  obtain ⟨z, ez, hz⟩ := h.get et
  obtain ⟨w, ew, rw'⟩ := r.get ez
  have e' : y = w := by
    rw [List.getElem?_eq_getElem hj] at ew
    exact e.symm.trans (Option.some.inj ew)
  subst e'
  have hd' : tdep t ≤ 8 := Nat.le_trans (tdep_mem (List.mem_of_getElem? et)) hd
  have q := (tr_cmps I 8 (A := X.A.in1) hd' hz hx rw' rx (by rw [units_in1]; omega)).eq
  have e2 : decide (∃ t x, RelV x y ∧ TrAt X.K H t x ∧ teq t u = true) = teq t u := by
    rw [Bool.eq_iff_iff, decide_eq_true_iff]
    constructor
    · rintro ⟨t', x', r', h', e3⟩
      rw [rw'.inj r'] at hz
      rw [tr_inj I 8 hd' hz h']; exact e3
    · intro e3
      exact ⟨t, z, rw', hz, e3⟩
  rw [e2]
  exact q
open Classical in
theorem op_notInT (hu : X.A.units + 64 < cLine) : OpR X (compareOp .NotIn) (rInT X.K true) := by
  intro pins s σ H x y v u Q I rx ry h
  obtain ⟨p, xs, ts, t, rfl, hq, hts, ht, hd, q⟩ := h
  cases ry
  obtain ⟨its, r, pl, hz⟩ := I.list hq
  refine SeqAt.notIn_listAt _ pl.isList (in_core I hu ht rx hd hts r) ⟨.bl _, H, I, rfl, ?_⟩
  simp only [List.any_toArray]
  rw [in_any I hd hts r]
  exact q
end
end L2
set_option Elab.async false
set_option linter.all false
set_option maxRecDepth 100000
namespace L2
open PySem PySem.Spec PyProof.Rows
theorem kit_ty {K : PySem.W.Frag} {T U : String} {b : Bool} (h1 : PySem.W.kitMeta U = true) (h2 : (fastBuiltinMro T).map (·.contains (Value.type U)) = some b) (hb : T = U → b = true) : PySem.W.kitOne K (.type T) (.type U) = some b := by
  unfold PySem.W.kitOne
  by_cases e : T = U
  · subst e
    rw [if_pos (by simp), hb rfl]
  · rw [if_neg (by simpa using e)]
    show (if PySem.W.kitMeta U = true then PySem.W.subIn K (.type T) (.type U) else none) = some b
    rw [if_pos h1]
    exact h2
section
variable {K : PySem.W.Frag}
theorem kit_int_int : PySem.W.kitOne K (.type "int") (.type "int") = some true := kit_ty (by decide +kernel) (by decide +kernel) (fun _ => rfl)
theorem kit_int_bool : PySem.W.kitOne K (.type "int") (.type "bool") = some false := kit_ty (by decide +kernel) (by decide +kernel) (fun e => absurd e (by decide))
theorem kit_list_list : PySem.W.kitOne K (.type "list") (.type "list") = some true := kit_ty (by decide +kernel) (by decide +kernel) (fun _ => rfl)
theorem kit_tuple_tuple : PySem.W.kitOne K (.type "tuple") (.type "tuple") = some true := kit_ty (by decide +kernel) (by decide +kernel) (fun _ => rfl)
end
section
variable {X : Cx}
def rIsi (K : PySem.W.Frag) : List V → Hp → VK → Prop := fun xs H Q => ∃ x T t b, xs = [x, .ty T] ∧ TyOf K H x t ∧ PySem.W.kitOne K t (.type T) = some b ∧ Q (.bl b) H
theorem call_isi : CallR X (.builtin "isinstance") (rIsi X.K) := by
  intro pins s σ H xs us Q I r h
  obtain ⟨x, T, t, b, rfl, ty, e, q⟩ := h
  obtain ⟨u, v, rfl, rx, rt⟩ := vals2 r
  cases rt
  exact isinst_ok I rx ty e fun tk => ⟨.bl b, H, I.tok tk, rfl, q⟩
def CDivB (i j : Int) : Prop := 0 < j ∧ j < 2 ^ 200
theorem op_fdivB : OpR X (binaryOp .FloorDiv) (rI CDivB fun i j => .int (i / j)) := opI fun i j _ _ _ _ _ hc q => by
  have h1 : (0 : Int) < j := hc.1
  have h2 : j < 2 ^ 200 := hc.2
  refine floordiv_int (by omega) (by rw [Int.fdiv_eq_ediv_of_nonneg i (by omega)]; exact q) (.inl (PyProof.noPylong_of_log2 ?_))
  have h3 : j.natAbs < 2 ^ 200 := by omega
  have h4 : j.natAbs.log2 < 200 := (Nat.log2_lt (by omega)).mpr h3
  omega
theorem truth_bools {P : Program} {w : World} {A : Around} {its : List Value} {bs : List Bool} (r : Vals (bs.map V.bl) its) : TruthOf P w A (fun i v => its.toArray[i]? = some v) (fun i => bs.getD i false) := by
  intro i v s Q E hP hQ
  have hl := r.length
  rw [List.length_map] at hl
  have e : its[i]? = some v := by simpa using hP
  have hi : i < its.length := (List.getElem?_eq_some_iff.mp e).1
  have e2 : (bs.map V.bl)[i]? = some (.bl (bs[i]'(by omega))) := by rw [List.getElem?_map, List.getElem?_eq_getElem (by omega)]; rfl
  obtain ⟨u, e3, r3⟩ := r.get e2
  rw [e] at e3
  cases e3
  cases r3
  have e4 : bs.getD i false = bs[i] := by rw [List.getD_eq_getElem?_getD, List.getElem?_eq_getElem (by omega)]; rfl
  exact wpAny_truthy_bool (e4 ▸ hQ)
theorem all_getD : ∀ bs : List Bool, (List.range bs.length).all (fun i => bs.getD i false) = bs.all id
  | [] => rfl
  | b :: bs => by
    rw [List.length_cons, List.range_succ_eq_map, List.all_cons, List.all_map, List.all_cons, ← all_getD bs]
    rfl
theorem any_getD : ∀ bs : List Bool, (List.range bs.length).any (fun i => bs.getD i false) = bs.any id
  | [] => rfl
  | b :: bs => by
    rw [List.length_cons, List.range_succ_eq_map, List.any_cons, List.any_map, List.any_cons, ← any_getD bs]
    rfl
def rAll (K : PySem.W.Frag) : List V → Hp → VK → Prop := fun xs H Q => ∃ (a : Addr) (bs : List Bool), xs = [.ref a] ∧ SqL K H a (bs.map V.bl) ∧ Q (.bl (bs.all id)) H
def rAny (K : PySem.W.Frag) : List V → Hp → VK → Prop := fun xs H Q => ∃ (a : Addr) (bs : List Bool), xs = [.ref a] ∧ SqL K H a (bs.map V.bl) ∧ Q (.bl (bs.any id)) H
theorem call_all (hc : X.calm = true) : CallR X (.builtin "all") (rAll X.K) := by
  intro pins s σ H xs us Q I r h
  obtain ⟨a, bs, rfl, hq, q⟩ := h
  obtain ⟨u, rfl, rx⟩ := vals1 r
  cases rx
  obtain ⟨its, rv, pl, hz⟩ := I.list hq
  have hl := rv.length
  rw [List.length_map] at hl
  obtain ⟨o, n, eo, _⟩ := id pl
  have hne : a ≠ s.heap.objs.size := Nat.ne_of_lt (Heap.lt_size eo)
  refine call_all_walk (wpAny_pyIter_list pl.isList ?_)
  refine ⟨_, _, _, _, _, _, _, rfl, Walks.list (A := X.A.in1) (show X.A.in1.handled = none from I.ok.hd hc) s.heap.objs.size a hne its.toArray, ⟨⟨_, Heap.get?_push_size _ rfl, rfl, rfl⟩, pl.isList.at fun o e => Heap.get?_push_of_some _ e⟩, truth_bools rv, fun h' tk hk => ?_⟩
  have I1 : Inv X pins σ H { s with heap := h', toks := tk } := I.kept fun b o e => hk b o (by have := Heap.lt_size e; simp; exact Nat.ne_of_lt this) (Heap.get?_push_of_some _ e)
  refine ⟨.bl _, H, I1, rfl, ?_⟩
  rw [List.size_toArray, ← hl, all_getD]
  exact q
theorem call_any (hc : X.calm = true) : CallR X (.builtin "any") (rAny X.K) := by
  intro pins s σ H xs us Q I r h
  obtain ⟨a, bs, rfl, hq, q⟩ := h
  obtain ⟨u, rfl, rx⟩ := vals1 r
  cases rx
  obtain ⟨its, rv, pl, hz⟩ := I.list hq
  have hl := rv.length
  rw [List.length_map] at hl
  obtain ⟨o, n, eo, _⟩ := id pl
  have hne : a ≠ s.heap.objs.size := Nat.ne_of_lt (Heap.lt_size eo)
  refine call_any_walk (wpAny_pyIter_list pl.isList ?_)
  refine ⟨_, _, _, _, _, _, _, rfl, Walks.list (A := X.A.in1) (show X.A.in1.handled = none from I.ok.hd hc) s.heap.objs.size a hne its.toArray, ⟨⟨_, Heap.get?_push_size _ rfl, rfl, rfl⟩, pl.isList.at fun o e => Heap.get?_push_of_some _ e⟩, truth_bools rv, fun h' tk hk => ?_⟩
  have I1 : Inv X pins σ H { s with heap := h', toks := tk } := I.kept fun b o e => hk b o (by have := Heap.lt_size e; simp; exact Nat.ne_of_lt this) (Heap.get?_push_of_some _ e)
  refine ⟨.bl _, H, I1, rfl, ?_⟩
  rw [List.size_toArray, ← hl, any_getD]
  exact q
theorem nolen_ri : typeLookup (.type "list_reverseiterator") "__len__" = pure none := by rw [typeLookup_type, builtinLookup_eq_fast]; kernel_rfl
theorem hint_ri : typeLookup (.type "list_reverseiterator") "__length_hint__" = pure (some (.builtin "list_reverseiterator.__length_hint__")) := by rw [typeLookup_type, builtinLookup_eq_fast]; kernel_rfl
section
variable {prog : Program} {w : World} {A : Around} {E : Value → Shared → Prop} {s : Shared}
theorem extend_rev {R : Result → Shared → Prop} (hh : A.handled = none) {I l : Addr} {items : Array Value} (hit : s.heap.IsRevIter I l ((items.size : Int) - 1)) (hL : s.heap.IsList l items) (S : Addr) (res : Value) (c₀ : Nat) (hS : s.heap.get? S = some { cls := .type "list", data := .seq #[] c₀ })
    (hSl : S ≠ l) (hR : ∀ s' acc' c', Moved [S, I] (fun a b => b = a) s s' → s'.heap.get? S = some { cls := .type "list", dict := none, data := .seq acc' c', slots := #[] } →
      ItemsOf (fun i v => items[items.size - 1 - i]? = some v) acc' items.size → R (.ok (.ret res)) s') (hn : items.size ≤ sizeLine) :
    wpAny (model prog w) A.in1 (Builtin.List.listExtendWith (.ref S) (.ref I) res)
      (fun fin s' => match fin with | .done f => R (.ok f) s' | .again c' => c'.quiet = true ∧ codeAny (model prog w) A c' R s') (fun e s' => R (.error e) s') s := by
  obtain ⟨oi, hoi, hci, hdi⟩ := id hit
  obtain ⟨ol, hol, hcl, nl, hdl⟩ := id hL
  have hSI : S ≠ I := by
    rintro rfl
    rw [hS] at hoi; cases hoi; exact absurd (show Value.type "list" = Value.type "list_reverseiterator" from hci) (by decide)
  have hne : l ≠ I := by
    rintro rfl
    rw [hol] at hoi; cases hoi; rw [hcl] at hci; exact absurd hci (by decide)
  have hSf : S ∉ [I, l] := fun hm => by
    rcases List.mem_cons.mp hm with e | hm
    · exact hSI e
    · exact hSl (List.mem_singleton.mp hm)
  unfold Builtin.List.listExtendWith
  refine wpAny_bind (wpAny_typeOf (T := "list_reverseiterator") hit.typeIs ?_)
  have h1 : Builtin.List.listSameRef (.ref S) (.ref I) = false := by simp [Builtin.List.listSameRef, hSI]
  have h2 : (Value.type "list_reverseiterator" == Value.type "list") = false := by decide
  have h3 : (Value.type "list_reverseiterator" == Value.type "tuple") = false := by decide
  simp only [h1, h2, h3, Bool.or_false, Bool.false_eq_true, if_false]
  refine wpAny_bind (wpAny_pyIter_revIter hit ?_)
  refine wpAny_bind (wpAny_holding ?_)
  unfold Builtin.List.listLengthHint
  refine wpAny_bind (wpAny_specialOf hit.typeIs nolen_ri ?_)
  show wpAny _ A.in1 (specialOf (Value.ref I) (Str.ofString "__length_hint__") >>= _) _ _ _
  refine wpAny_bind (wpAny_specialOf hit.typeIs hint_ri ?_)
  generalize hid : ("list_reverseiterator.__length_hint__" : String) = id0
  wp_delta
  rw [show splitId id0 = some ("list_reverseiterator", "__length_hint__") from by subst hid; decide +kernel]
  subst hid
  refine wpAny_bind (wpAny_isInstance (b := true) hit.typeIs (by rw [isSubtype_type]; kernel_rfl) ?_)
  refine wpAny_pure ?_
  rw [if_neg (by decide)]
  have W := Walks.listRev (prog := prog) (w := w) (A := A.in1) hh I l hne items
  refine wpAny_pure ⟨plainId_quiet F.plain_extend_loop _, codeAny_extend_loopS W.toS hn _ hSf _ items.size 0 _ _ _ rfl (Nat.zero_le _) ⟨Nat.zero_le _, by simpa using hit, hL⟩ hS (ItemsOf.nil _) fun s' acc' c' hm hS' hacc => ?_⟩
  exact hR s' acc' c' hm hS' hacc
theorem init_rev {R : Result → Shared → Prop} (hh : A.handled = none) {I l : Addr} {items : Array Value} (hit : s.heap.IsRevIter I l ((items.size : Int) - 1)) (hL : s.heap.IsList l items) (S : Addr) (hS : s.heap.get? S = some { cls := .type "list", data := .seq #[] }) (hSl : S ≠ l) (hSI : S ≠ I)
    (hR : ∀ s' acc' c', s'.gens = s.gens → s'.os = s.os → (∀ b o, b ≠ S → b ≠ I → s.heap.get? b = some o → s'.heap.get? b = some o) → s'.heap.get? S = some { cls := .type "list", dict := none, data := .seq acc' c', slots := #[] } →
      ItemsOf (fun i v => items[items.size - 1 - i]? = some v) acc' items.size → R (.ok (.ret .none)) s') (hn : items.size ≤ sizeLine) :
    wpAny (model prog w) A.in1 (Builtin.«list.__init__» ⟨[.ref S, .ref I], []⟩)
      (fun fin s' => match fin with | .done f => R (.ok f) s' | .again c' => c'.quiet = true ∧ codeAny (model prog w) A c' R s') (fun e s' => R (.error e) s') s := by
  show wpAny _ _ (do let old ← Builtin.List.listItems (.ref S); Builtin.List.listUpdate (.ref S) (fun _ => #[]); letGo old.toList.reverse; Builtin.List.listExtendWith (.ref S) (.ref I) .none) _ _ s
  refine wpAny_bind ?_
  unfold Builtin.List.listItems
  refine wpAny_bind (wpAny_seqItems hS rfl (wpAny_pure ?_))
  show wpAny _ _ (updateSeq S (fun _ => #[]) >>= fun _ => letGo (#[] : Array Value).toList.reverse >>= fun _ => Builtin.List.listExtendWith (.ref S) (.ref I) .none) _ _ s
  refine wpAny_bind (wpAny_updateSeq hS rfl ?_)
  have hS₂ := Heap.get?_update_self (Obj.mapSeq (fun _ => (#[] : Array Value))) hS rfl
  have oth : ∀ b o, b ≠ S → s.heap.get? b = some o → (s.heap.update S (Obj.mapSeq (fun _ => (#[] : Array Value)))).get? b = some o :=
    fun b o hb e => (Heap.get?_update_other _ _ (Ne.symm hb)).trans e
  refine wpAny_bind (wpAny_letGo ?_)
  refine extend_rev (hn := hn) hh (hit.at fun o e => oth I o (Ne.symm hSI) e) (hL.at fun o e => oth l o (Ne.symm hSl) e) S .none _ hS₂ hSl fun s' acc' c' hm hS' hacc => ?_
  refine hR s' acc' c' hm.gens hm.os (fun b o hb hi e => hm.heap b o (fun z => ?_) (oth b o hb e)) hS' hacc
  rcases List.mem_cons.mp z with e' | z
  · exact hb e'
  · exact hi (List.mem_singleton.mp z)
theorem call_list_revIter {Q : Value → Shared → Prop} (hh : A.handled = none) {I l : Addr} {items : Array Value} (hit : s.heap.IsRevIter I l ((items.size : Int) - 1)) (hL : s.heap.IsList l items)
    (hQ : ∀ s' acc' c', s'.gens = s.gens → s'.os = s.os → (∀ b o, b ≠ I → s.heap.get? b = some o → s'.heap.get? b = some o) →
      s'.heap.get? s.heap.objs.size = some { cls := .type "list", dict := none, data := .seq acc' c', slots := #[] } → ItemsOf (fun i v => items[items.size - 1 - i]? = some v) acc' items.size → Q (.ref s.heap.objs.size) s') (hn : items.size ≤ sizeLine) :
    wpAny (model prog w) A (call (.type "list") [.ref I]) Q E s := by
  refine callType_codes (Q₁ := fun obj s₁ => obj = .ref s.heap.objs.size ∧ s₁ = { s with heap := s.heap.push { cls := .type "list", data := .seq #[] } }) F.called_list (F.typeCall_list_1 _) F.entry_list_init
    (code_list_new _ ⟨rfl, rfl⟩) fun obj s₁ h₁ => ?_
  obtain ⟨rfl, rfl⟩ := h₁
  have hS : (s.heap.push { cls := .type "list", data := .seq #[] }).get? s.heap.objs.size = some { cls := .type "list", data := .seq #[] } := Heap.get?_push_size _ rfl
  obtain ⟨oi, hoi, _⟩ := id hit
  obtain ⟨ol, hol, _⟩ := id hL
  refine ⟨⟨_, hS, rfl⟩, F.args_list_init_2 _ _, init_rev (A := A.in1) (hn := hn) hh (hit.at fun o e => Heap.get?_push_of_some _ e) (hL.at fun o e => Heap.get?_push_of_some _ e) _ hS (Nat.ne_of_gt (Heap.lt_size hol)) (Nat.ne_of_gt (Heap.lt_size hoi)) fun s' acc' c' hg ho hk hS' hacc => ?_⟩
  exact ⟨rfl, hQ s' acc' c' hg ho (fun b o hI e => hk b o (Nat.ne_of_lt (Heap.lt_size e)) hI (Heap.get?_push_of_some _ e)) hS' hacc⟩
end
theorem rev_items {items acc : Array Value} (h : ItemsOf (fun i v => items[items.size - 1 - i]? = some v) acc items.size) : acc = items.toList.reverse.toArray := by
  apply Array.ext_getElem?
  intro i
  by_cases hi : i < items.size
  · have e : acc[i]? = some (acc[i]'(by rw [h.1]; exact hi)) := Array.getElem?_eq_getElem _
    have q := h.2 i _ e
    rw [e, ← q]
    simp [List.getElem?_reverse, hi]
  · rw [Array.getElem?_eq_none (by rw [h.1]; omega), Array.getElem?_eq_none (by simp; omega)]
def tListRev (K : PySem.W.Frag) (te : TE) : TE := fun σ H Q => te σ H fun x H1 => ∃ (l : Addr) (ys : List V), x = .ref l ∧ SqL K H1 l ys ∧ ∀ q, H1 q = none → Q (.ref q) (upd H1 q (.lst ys.reverse))
theorem pe_listRev {e : Expr} {te : TE} {p1 p2 pos1 pos2 : Pos} (hc : X.calm = true) (hg1 : Gl X "list") (hm1 : X.mg "list" = none) (hg2 : Gl X "reversed") (hm2 : X.mg "reversed" = none) (he : PE X e te)
    (hs : starEach [e] X.env = [(false, eval e X.env)] := by rfl) (hs2 : starEach [.Call (.Name "reversed" p2) [e] [] pos2] X.env = [(false, eval (.Call (.Name "reversed" p2) [e] [] pos2) X.env)] := by rfl) :
    PE X (.Call (.Name "list" p1) [.Call (.Name "reversed" p2) [e] [] pos2] [] pos1) (tListRev X.K te) := by
  intro pins s σ H Q I h
  refine wpAny_Call_Name_kw (ld_blt I hg1 hm1 boot_list ?_)
  refine PyProof.Rows.callWith_type1 ?_ hs2 rfl
  rw [hs2]
  show wpAny _ _ (spliced ((false, eval (.Call (.Name "reversed" p2) [e] [] pos2) X.env) :: backTo pos1 [])) _ _ s
  refine Calls.spliced_cons ?_
  refine wpAny_Call_Name_kw (ld_blt I hg2 hm2 boot_reversed ?_)
  refine PyProof.Rows.callWith_type1 ?_ hs rfl
  rw [hs]
  show wpAny _ _ (spliced ((false, eval e X.env) :: backTo pos2 [])) _ _ s
  refine Calls.spliced_cons (thn (he pins s σ H _ I h) fun v s1 ⟨x, H1, I1, r1, q1⟩ => Calls.spliced_nil ?_)
  obtain ⟨l, ys, rfl, hq, q⟩ := q1
  cases r1
  obtain ⟨its, rv, pl, hz⟩ := I1.list hq
  have hl := rv.length
  refine call_reversed_list pl.isList (Calls.spliced_nil ?_)
  have hsz : (its.toArray.size : Int) = (ys.length : Int) := by rw [List.size_toArray, hl]
  refine call_list_revIter (s := { s1 with heap := s1.heap.push (revObj l ((its.toArray.size : Int) - 1)) }) (I1.ok.hd hc) (I := s1.heap.objs.size) (l := l) (items := its.toArray) ⟨_, Heap.get?_push_size _ rfl, rfl, rfl⟩ (pl.isList.at fun o e => Heap.get?_push_of_some _ e) (fun s' acc c hgn ho hk hS hacc => ?_) (by rw [List.size_toArray, ← hl]; exact hz)
  have e1 : (s1.heap.push (revObj l ((its.toArray.size : Int) - 1))).objs.size = s1.heap.objs.size + 1 := Heap.size_push _ _
  rw [show ({ s1 with heap := s1.heap.push (revObj l ((its.toArray.size : Int) - 1)) } : Shared).heap.objs.size = s1.heap.objs.size + 1 from e1] at hS ⊢
  have kept : ∀ b o, s1.heap.get? b = some o → s'.heap.get? b = some o := fun b o e => hk b o (Nat.ne_of_lt (Heap.lt_size e)) (Heap.get?_push_of_some _ e)
  have hokL := I1.laid (a := s1.heap.objs.size + 1) (o := .lst ys.reverse) (h' := s'.heap) (t' := s'.toks) kept (Nat.le_succ _) ⟨by rw [List.length_reverse]; exact hz, its.reverse, c, rv.reverse, by rw [hS, rev_items hacc]⟩
  have I2 : Inv X pins σ (upd H1 (s1.heap.objs.size + 1) (.lst ys.reverse)) s' := by
    refine I1.call' (ch := []) (by rw [ho]) ?_ hokL.hok (by rw [hgn]; exact I1.bare) fun b z => absurd z (by simp)
    exact Un.laid kept (Nat.le_succ _) (I1.hok.fresh (Nat.le_succ _))
  exact ⟨.ref _, _, I2, rfl, q _ (I1.hok.fresh (Nat.le_succ _))⟩
end
section
variable {X : Cx} (K : PySem.W.Frag)
theorem k_isi (e : X.K = K := by rfl) : CallR X (.builtin "isinstance") (rIsi K) := by subst e; exact call_isi
theorem k_len (e : X.K = K := by rfl) : CallR X (.builtin "len") (fun xs H Q => ∃ p ys, xs = [.ref p] ∧ (SqL K H p ys ∨ SqT K H p ys) ∧ Q (.int ys.length) H) := by subst e; exact call_len_seq
theorem k_ixL (e : X.K = K := by rfl) : IxR X (rIxL K) := by subst e; exact ix_list
theorem k_ixT (e : X.K = K := by rfl) : IxR X (rIxT K) := by subst e; exact ix_tup
theorem k_slL (e : X.K = K := by rfl) : SlR X (rSlL K) := by subst e; exact sl_list
theorem k_all (hc : X.calm = true) (e : X.K = K := by rfl) : CallR X (.builtin "all") (rAll K) := by subst e; exact call_all hc
theorem k_any (hc : X.calm = true) (e : X.K = K := by rfl) : CallR X (.builtin "any") (rAny K) := by subst e; exact call_any hc
theorem k_eqT (hu : X.A.units + 64 < cLine) (e : X.K = K := by rfl) : OpR X (compareOp .Eq) (rEqT K false) := by subst e; exact op_eqT hu
theorem k_notInT (hu : X.A.units + 64 < cLine) (e : X.K = K := by rfl) : OpR X (compareOp .NotIn) (rInT K true) := by subst e; exact op_notInT hu
theorem k_pi {tg l : Expr} {tl : TE} (hl : PE X l tl) (e : X.K = K := by rfl) : PI X tg l (iList K tl) := by subst e; exact pi_list hl
end
structure Df (K : PySem.W.Frag) (mg : Str → Option Value) (x : Str) (st : Stmt) (ps : List Str) (f : Addr) (fd : FuncData) : Prop where
  fn : Fun K x x st f fd
  b : Binds K fd ps []
  g : mg x = some (.ref f)
theorem pcall {X : Cx} {x : Str} {st : Stmt} {ps : List Str} {f : Addr} {fd : FuncData} {k : Nat} {sp : Sp} {e : Expr} {es : List Expr} {t : TA} {p pos : Pos} (D : Df X.K X.mg x st ps f fd) (G : FnOk X.prog X.w X.K X.mg X.base CX0 k f fd ps sp) (hr : Room k X.A) (ha : PA X (e :: es) t) (hg : Gl X x := by rfl)
    (hdb : (x == ("__debug__" : Str)) = false := by decide) (he : starEach (e :: es) X.env = (false, eval e X.env) :: starEach es X.env := by rfl) (hpl : (backTo pos (starEach es X.env)).any (·.1) = false := by rfl) : PE X (.Call (.Name x p) (e :: es) [] pos) (tCall sp [] E0 t) :=
  pe_call G hr hg D.g D.fn.kp D.b .nil pass0 ha hdb he hpl
theorem df_mk {K : PySem.W.Frag} {h : Heap} {mg : Str → Option Value} {x : Str} {st : Stmt} {ps : List Str} {f : Addr} {oc : Value} {od an : Option Addr} {osl : Array (Option Value)} {kV doc pm cdv ct : Value} (X : K.In h) (G : h.Ns mainGlobals mg)
    (a : PySem.W.nsIn K mainGlobals x = some (some (.ref f))) (l : K.lookup f = some ⟨oc, od, .func (PySem.W.fnOf x x (defArgs st) (defBody st) (defScope st) .none kV doc pm an cdv ct), osl⟩) (c : PySem.W.codeIn K cdv x = true) (k : PySem.W.keepIn K (.ref f) = true)
    (hb : ∀ (kV doc pm : Value) (an : Option Addr) (cdv ct : Value) (us : List Value), us.length = ps.length → bindArgs (PySem.W.fnOf x x (defArgs st) (defBody st) (defScope st) .none kV doc pm an cdv ct) ⟨us, []⟩ = pure (ps.zip us)) :
    Df K mg x st ps f (PySem.W.fnOf x x (defArgs st) (defBody st) (defScope st) .none kV doc pm an cdv ct) :=
  ⟨fun_mk l c k, (fun_mk (st := st) l c k).binds hb, PySem.W.mg_of X G a⟩
structure Blt (mg : Str → Option Value) : Prop where
  n_isinstance : mg "isinstance" = none
  n_int : mg "int" = none
  n_bool : mg "bool" = none
  n_list : mg "list" = none
  n_tuple : mg "tuple" = none
  n_reversed : mg "reversed" = none
  n_len : mg "len" = none
  n_max : mg "max" = none
  n_min : mg "min" = none
  n_range : mg "range" = none
  n_all : mg "all" = none
  n_any : mg "any" = none
  n_sorted : mg "sorted" = none
  n_enumerate : mg "enumerate" = none
  n_repr : mg "repr" = none
theorem HUof {A : Around} {k : Nat} (hr : Room k A) : A.units + 64 < cLine := hr.units
def aw (fp : List Addr) (H : Hp) : Hp := fun b => if b ∈ fp then none else H b
theorem aw_in {fp : List Addr} {H : Hp} {b : Addr} (h : b ∈ fp) : aw fp H b = none := by unfold aw; rw [if_pos h]
theorem aw_out {fp : List Addr} {H : Hp} {b : Addr} (h : b ∉ fp) : aw fp H b = H b := by unfold aw; rw [if_neg h]
theorem aw_same (fp : List Addr) (H : Hp) : Same (aw fp H) H := fun b o e => by
  by_cases h : b ∈ fp
  · rw [aw_in h] at e; cases e
  · rw [aw_out h] at e; exact e
theorem Same.aw {H H' : Hp} (h : Same H H') (fp : List Addr) : Same (aw fp H) (aw fp H') := fun b o e => by
  by_cases hb : b ∈ fp
  · rw [aw_in hb] at e; cases e
  · rw [aw_out hb] at e ⊢; exact h b o e
theorem same_upd {H : Hp} {p : Addr} {o : HO} (h : H p = none) : Same H (upd H p o) := fun b u e => by rw [upd_ne (ne_of_none e h)]; exact e
end L2
set_option linter.all false
namespace Lw
def figs (b n : Nat) : List Int := if h : 2 ≤ b ∧ b ≤ n then figs b (n / b) ++ [((n % b : Nat) : Int)] else [(n : Int)]
termination_by n
decreasing_by exact Nat.div_lt_self (by omega) (by omega)
theorem figs_lt {b n : Nat} (h : n < b) : figs b n = [(n : Int)] := by
  rw [figs, dif_neg (by omega)]
theorem figs_ge {b n : Nat} (h2 : 2 ≤ b) (h : b ≤ n) : figs b n = figs b (n / b) ++ [((n % b : Nat) : Int)] := by
  rw [figs, dif_pos ⟨h2, h⟩]
def ahead (b r : Nat) : List Int := if r = 0 then [] else figs b r
theorem figs_step {b n : Nat} (h2 : 2 ≤ b) : figs b n = ahead b (n / b) ++ [((n % b : Nat) : Int)] := by
  unfold ahead
  by_cases h : n < b
  · rw [figs_lt h, if_pos (Nat.div_eq_of_lt h), Nat.mod_eq_of_lt h]; rfl
  · rw [figs_ge h2 (by omega), if_neg]
    have := Nat.div_pos (a := n) (b := b) (by omega) (by omega)
    omega
theorem ahead_step {b r : Nat} (h2 : 2 ≤ b) (hr : 0 < r) : ahead b r = ahead b (r / b) ++ [((r % b : Nat) : Int)] := by
  rw [← figs_step h2]
  unfold ahead
  rw [if_neg (by omega)]
theorem figs_len {b : Nat} (h2 : 2 ≤ b) : ∀ (m n : Nat), n < 2 ^ m → (figs b n).length ≤ m + 1
  | 0, n, h => by rw [figs_lt (by simp at h; omega)]; simp
  | m + 1, n, h => by
    by_cases hn : n < b
    · rw [figs_lt hn]; simp
    · rw [figs_ge h2 (by omega), List.length_append, List.length_singleton]
      have h3 : n / b ≤ n / 2 := Nat.div_le_div_left h2 (by omega)
      have h4 : n / 2 < 2 ^ m := by rw [Nat.pow_succ] at h; omega
      have := figs_len h2 m (n / b) (by omega)
      omega
theorem figs_mem {b : Nat} (h2 : 2 ≤ b) : ∀ (n : Nat), ∀ f ∈ figs b n, 0 ≤ f ∧ f < b := by
  intro n
  induction n using Nat.strongRecOn with
  | _ n ih =>
    intro f hf
    by_cases hn : n < b
    · rw [figs_lt hn] at hf
      have : f = (n : Int) := by simpa using hf
      omega
    · rw [figs_ge h2 (by omega)] at hf
      rcases List.mem_append.mp hf with hf | hf
      · exact ih (n / b) (Nat.div_lt_self (by omega) (by omega)) f hf
      · have e : f = ((n % b : Nat) : Int) := by simpa using hf
        have := Nat.mod_lt n (show 0 < b by omega)
        omega
theorem figs_ne {b n : Nat} : figs b n ≠ [] := by
  rw [figs]
  split
  · simp
  · simp
def tops (b : Nat) : Nat → Nat → List Int
  | 0, n => [((n / b ^ 0 : Nat) : Int)]
  | k + 1, n => ((n / b ^ (k + 1) : Nat) : Int) :: tops b k (n % b ^ (k + 1))
theorem tops_snoc {b : Nat} : ∀ (k n : Nat), tops b (k + 1) n = tops b k (n / b) ++ [((n % b : Nat) : Int)]
  | 0, n => by simp [tops]
  | k + 1, n => by
    rw [tops, tops_snoc k (n % b ^ (k + 2)), tops, List.cons_append]
    have e : b ^ (k + 1 + 1) = b * b ^ (k + 1) := by rw [Nat.pow_succ, Nat.mul_comm]
    have e1 : n % b ^ (k + 1 + 1) / b = n / b % b ^ (k + 1) := by rw [e, Nat.mod_mul_right_div_self]
    have e2 : n % b ^ (k + 1 + 1) % b = n % b := by rw [e, Nat.mod_mul_right_mod]
    have e3 : n / b ^ (k + 1 + 1) = n / b / b ^ (k + 1) := by rw [e, Nat.div_div_eq_div_mul]
    rw [e1, e2, e3]
theorem tops_figs {b : Nat} (h2 : 2 ≤ b) : ∀ (k n : Nat), n < b ^ (k + 1) → (k = 0 ∨ b ^ k ≤ n) → tops b k n = figs b n
  | 0, n, h, _ => by
    rw [figs_lt (by simpa using h)]; simp [tops]
  | k + 1, n, h, hk => by
    have hge : b ^ (k + 1) ≤ n := by
      rcases hk with z | z
      · omega
      · exact z
    have hb : b ≤ n := Nat.le_trans (by rw [Nat.pow_succ]; exact Nat.le_mul_of_pos_left b (Nat.pow_pos (by omega))) hge
    rw [tops_snoc, figs_ge h2 hb]
    have h3 : n / b < b ^ (k + 1) := by
      rw [Nat.div_lt_iff_lt_mul (by omega), ← Nat.pow_succ]; exact h
    have h4 : b ^ k ≤ n / b := by
      rw [Nat.le_div_iff_mul_le (by omega), ← Nat.pow_succ]; exact hge
    rw [tops_figs h2 k (n / b) h3 (.inr h4)]
theorem tops_len {b : Nat} : ∀ (k n : Nat), (tops b k n).length = k + 1
  | 0, n => rfl
  | k + 1, n => by rw [tops, List.length_cons, tops_len k]
end Lw
set_option linter.all false
namespace Lw
def numI (b : Int) (ns : List Int) : Int := ns.foldl (fun n f => n * b + f) 0
theorem numI_snoc (b f : Int) (ns : List Int) : numI b (ns ++ [f]) = numI b ns * b + f := by
  unfold numI; rw [List.foldl_append]; rfl
structure GoodFs (b : Nat) (ns : List Int) : Prop where
  ne : ns ≠ []
  len : ns.length ≤ 200
  fig : ∀ f ∈ ns, 0 ≤ f ∧ f < b
  first : ns.head? ≠ some 0 ∨ ns.length = 1
end Lw
set_option Elab.async false
set_option linter.all false
set_option maxRecDepth 100000
namespace HT
open PySem PyProof.Rows
section
open PySem.SeqAt
open PySem.AutoSeq1 (wpAny_loadPart')
open PySem.MeetsSeq PySem.MeetsSeq2 PySem.MeetsSeq3 PySem.SeqRoads2
theorem ints_at {vs : List Value} {ns : List Int} (h : IntsAre vs ns) {i : Nat} (hi : i < ns.length) : ∃ t, vs[i]? = some (.int (ns[i]) t) := by
  induction h generalizing i with
  | nil => simp at hi
  | cons a t h ih =>
    cases i with
    | zero => exact ⟨t, rfl⟩
    | succ i =>
      obtain ⟨t', e⟩ := ih (i := i) (by simpa using hi)
      exact ⟨t', by simpa using e⟩
theorem lt_loop (l b : Addr) (items items2 : Array Value) (n n2 : Nat) (dd dd2 : Option Addr) (sl sl2 : Array (Option Value)) (ns ms : List Int) (hi : IntsAre items.toList ns) (hj : IntsAre items2.toList ms) (k : Nat) :
    ∀ i : Nat, ns.length - i = k → i ≤ ns.length → i ≤ ms.length → Meets (Builtin.«list.__eq__.loop» ⟨[.ref l, .ref b, rawInt i, rawInt 0], []⟩)
      (fun _ R s => s.heap.get? l = some { cls := .type "list", dict := dd, data := .seq items n, slots := sl } ∧ s.heap.get? b = some { cls := .type "list", dict := dd2, data := .seq items2 n2, slots := sl2 } ∧
        R (.ok (.ret (.bool (lexLt (ns.drop i) (ms.drop i))))) s) := by
  have z1 : items.size = ns.length := by rw [← hi.length]; simp
  have z2 : items2.size = ms.length := by rw [← hj.length]; simp
  induction k with
  | zero =>
    intro i hk h1 h2 prog w A R s h
    obtain ⟨hp, g, d, tk, os⟩ := s; obtain ⟨hl, hb, h⟩ := h
    have hin : i = ns.length := by omega
    wp_walk using wpAny_loadPart' hl, wpAny_loadPart' hb
    have hi1 : items[((i : Nat) : Int).toNat]? = none := by simp; omega
    have hd : ns.drop i = [] := by simp; omega
    rw [hd] at h
    rw [hi1]
    wp_walk using wpAny_loadPart' hl, wpAny_loadPart' hb
    show R (.ok (.ret (.bool (decide (items.size < items2.size))))) _
    have e : lexLt [] (ms.drop i) = decide (items.size < items2.size) := by
      cases q : ms.drop i with
      | nil =>
        rw [lexLt_nil_nil]
        have : ms.length ≤ i := by simpa using List.drop_eq_nil_iff.mp q
        exact (decide_eq_false (by omega)).symm
      | cons x y =>
        rw [lexLt_nil_cons]
        have : i < ms.length := by
          by_cases z : i < ms.length
          · exact z
          · rw [List.drop_of_length_le (by omega)] at q; cases q
        exact (decide_eq_true (by omega)).symm
    rw [← e]
    exact h
  | succ k ih =>
    intro i hk h1 h2 prog w A R s h
    obtain ⟨hp, g, d, tk, os⟩ := s; obtain ⟨hl, hb, h⟩ := h
    have hlt : i < ns.length := by omega
    obtain ⟨t, et⟩ := ints_at hi hlt
    have hi1 : items[((i : Nat) : Int).toNat]? = some (.int (ns[i]) t) := by simpa using et
    by_cases hm : i < ms.length
    · obtain ⟨u, eu⟩ := ints_at hj hm
      have hi2 : items2[((i : Nat) : Int).toNat]? = some (.int (ms[i]) u) := by simpa using eu
      wp_walk using wpAny_loadPart' hl, wpAny_loadPart' hb
      rw [List.drop_eq_getElem_cons hlt, List.drop_eq_getElem_cons hm, lexLt_cons] at h
      have hc : ((i : Int) + 1) = ((i + 1 : Nat) : Int) := by push_cast; rfl
      rw [hi1, hi2]
      obtain ⟨e, he, hiff⟩ := eqAt_int A.in1 ⟨hp, g, d, tk, os⟩ (ns[i]) t (ms[i]) u
      refine wpAny_bind (he prog w _ _ ?_)
      cases e with
      | true =>
        rw [if_pos (hiff.mp rfl)] at h
        wp_walk
        rw [hc]
        exact ⟨plainId_quiet plain_eq_loop _, codeAny_builtin entry_eq_loop (by
          rw [Around.under_plainId plain_eq_loop _]
          exact ih (i + 1) (by omega) (by omega) (by omega) prog w A R _ ⟨hl, hb, h⟩)⟩
      | false =>
        rw [if_neg (fun q => absurd (hiff.mpr q) Bool.false_ne_true)] at h
        have hri := rcLt_int A.in1 ⟨hp, g, d, tk, os⟩ (ns[i]) t (ms[i]) u prog w
        wp_walk using wpAny_loadPart' hl, wpAny_loadPart' hb
        rw [hi1, hi2]
        wp_walk using hri
        simpa using h
    · have hi2 : items2[((i : Nat) : Int).toNat]? = none := by simp; omega
      wp_walk using wpAny_loadPart' hl, wpAny_loadPart' hb
      rw [List.drop_eq_getElem_cons hlt, List.drop_of_length_le (show ms.length ≤ i by omega), lexLt_cons_nil] at h
      rw [hi1, hi2]
      wp_walk using wpAny_loadPart' hl, wpAny_loadPart' hb
      show R (.ok (.ret (.bool (decide (items.size < items2.size))))) _
      rw [decide_eq_false (by omega)]
      exact h
theorem list_lt_ints (l b : Addr) (items items2 : Array Value) (n n2 : Nat) (dd dd2 : Option Addr) (sl sl2 : Array (Option Value)) (ns ms : List Int) (hi : IntsAre items.toList ns) (hj : IntsAre items2.toList ms) :
    Meets (Builtin.«list.__lt__» ⟨[.ref l, .ref b], []⟩)
      (fun _ R s => s.heap.get? l = some { cls := .type "list", dict := dd, data := .seq items n, slots := sl } ∧ s.heap.get? b = some { cls := .type "list", dict := dd2, data := .seq items2 n2, slots := sl2 } ∧
        R (.ok (.ret (.bool (lexLt ns ms)))) s) := by
  intro prog w A R s h
  obtain ⟨hp, g, d, tk, os⟩ := s; obtain ⟨hl, hb, h⟩ := h
  have f3 := AutoSeq1.sub_list_list
  wp_walk using wpAny_loadPart' hl, wpAny_loadPart' hb
  exact ⟨plainId_quiet plain_eq_loop _, codeAny_builtin entry_eq_loop (by
    rw [Around.under_plainId plain_eq_loop _]
    exact lt_loop l b items items2 n n2 dd dd2 sl sl2 ns ms hi hj _ 0 rfl (Nat.zero_le _) (Nat.zero_le _) prog w A R _ ⟨hl, hb, by simpa using h⟩)⟩
end
section
variable {prog : Program} {w : World} {A : Around} {E : Value → Shared → Prop} {s : Shared}
theorem lt_listInts {l b : Addr} {items items2 : Array Value} {ns ms : List Int} {Q : Value → Shared → Prop} (hl : s.heap.IsList l items) (hb : s.heap.IsList b items2) (hi : IntsAre items.toList ns) (hj : IntsAre items2.toList ms)
    (hu : A.units < cLine) (h : Q (.bool (lexLt ns ms)) s) : wpAny (model prog w) A (richCompare .Lt (.ref l) (.ref b)) Q E s := by
  obtain ⟨⟨cls, dd, data, sl⟩, ho, hc, n, hd⟩ := id hl
  obtain ⟨⟨cls2, dd2, data2, sl2⟩, ho2, hc2, n2, hd2⟩ := id hb
  simp only at hc hd hc2 hd2
  subst hc hd hc2 hd2
  exact richCompare_meets_room (op := .Lt) ⟨_, ho, rfl⟩ ⟨_, ho2, rfl⟩ PySem.F.slot_list_lt PySem.F.entry_list_lt (PySem.F.args_list_lt_2 _ _) (list_lt_ints l b items items2 n n2 dd dd2 sl sl2 ns ms hi hj)
    ⟨ho, ho2, show Value.bool (lexLt ns ms) ≠ Value.notImplemented ∧ Q (.bool (lexLt ns ms)) s from ⟨(fun x => nomatch x), h⟩⟩ hu
end
end HT
namespace HT
open PySem PyProof.Rows PySem.W
def krun {α : Type} (c : Nat → Nat → Bool) : KasT α → α
  | .ret a => a
  | .ask i j k => krun c (k (c i j))
def kin {α : Type} (n : Nat) : KasT α → Bool
  | .ret _ => true
  | .ask i j k => decide (i < n) && decide (j < n) && kin n (k true) && kin n (k false)
theorem krun_wp {α : Type} {n : Nat} {c : Nat → Nat → Bool} {cmp : Nat → Nat → (Bool → Shared → Prop) → Shared → Prop} {s : Shared} {Q : α → Shared → Prop} (hc : ∀ i j C, i < n → j < n → C (c i j) s → cmp i j C s) :
    ∀ t : KasT α, kin n t = true → Q (krun c t) s → t.kasWp cmp Q s
  | .ret a, _, q => q
  | .ask i j k, h, q => by
    unfold kin at h
    simp only [Bool.and_eq_true, decide_eq_true_eq] at h
    refine hc i j _ h.1.1.1 h.1.1.2 ?_
    have q' : Q (krun c (k (c i j))) s := q
    cases e : c i j with
    | true => rw [e] at q'; exact krun_wp hc (k true) h.1.2 q'
    | false => rw [e] at q'; exact krun_wp hc (k false) h.2 q'
theorem krun_congr {α : Type} {n : Nat} {c d : Nat → Nat → Bool} (h : ∀ i j, i < n → j < n → c i j = d i j) : ∀ t : KasT α, kin n t = true → krun c t = krun d t
  | .ret a, _ => rfl
  | .ask i j k, hk => by
    unfold kin at hk
    simp only [Bool.and_eq_true, decide_eq_true_eq] at hk
    unfold krun
    rw [h i j hk.1.1.1 hk.1.1.2]
    cases d i j with
    | true => exact krun_congr h (k true) hk.1.2
    | false => exact krun_congr h (k false) hk.2
def tab (b : Nat → Nat → Bool) (i j : Nat) : Bool := if i < j then b i j else if j < i then !b j i else false
def okOut (n : Nat) (c : Nat → Nat → Bool) (p : List Nat) : Bool := p.isPerm (List.range n) && (List.range n).all fun i => (List.range n).all fun j => !decide (i < j) || c (p.getD i 0) (p.getD j 0)
def tr3 (n : Nat) (c : Nat → Nat → Bool) : Bool := (List.range n).all fun i => (List.range n).all fun j => (List.range n).all fun k => !c i j || !c j k || c i k
def half (b01 b02 b03 b12 b13 b23 : Bool) (i j : Nat) : Bool := match i, j with
  | 0, 1 => b01 | 0, 2 => b02 | 0, 3 => b03 | 1, 2 => b12 | 1, 3 => b13 | 2, 3 => b23 | _, _ => false
theorem kin2 : kin 2 (kas_sort 2) = true := by decide +kernel
theorem kin3 : kin 3 (kas_sort 3) = true := by decide +kernel
theorem kin4 : kin 4 (kas_sort 4) = true := by decide +kernel
theorem sort2 : ∀ b01 : Bool, okOut 2 (tab (half b01 true true true true true)) (krun (tab (half b01 true true true true true)) (kas_sort 2)).toList = true := by decide +kernel
theorem sort3 : ∀ b01 b02 b12 : Bool, tr3 3 (tab (half b01 b02 true b12 true true)) = true → okOut 3 (tab (half b01 b02 true b12 true true)) (krun (tab (half b01 b02 true b12 true true)) (kas_sort 3)).toList = true := by decide +kernel
theorem sort4 : ∀ b01 b02 b03 b12 b13 b23 : Bool, tr3 4 (tab (half b01 b02 b03 b12 b13 b23)) = true → okOut 4 (tab (half b01 b02 b03 b12 b13 b23)) (krun (tab (half b01 b02 b03 b12 b13 b23)) (kas_sort 4)).toList = true := by decide +kernel
theorem lexLt_irrefl : ∀ a : List Int, lexLt a a = false
  | [] => rfl
  | x :: a => by rw [lexLt_cons, if_pos rfl, lexLt_irrefl a]
theorem lexLt_flip : ∀ a b : List Int, a ≠ b → lexLt b a = !lexLt a b
  | [], [], h => absurd rfl h
  | [], _ :: _, _ => rfl
  | _ :: _, [], _ => rfl
  | x :: a, y :: b, h => by
    rw [lexLt_cons, lexLt_cons]
    by_cases e : x = y
    · subst e
      rw [if_pos rfl, if_pos rfl]
      exact lexLt_flip a b fun z => h (by rw [z])
    · rw [if_neg e, if_neg (Ne.symm e), Bool.eq_iff_iff]
      simp
      omega
theorem lexLt_trans : ∀ a b c : List Int, lexLt a b = true → lexLt b c = true → lexLt a c = true
  | [], [], _, h, _ => by rw [lexLt_nil_nil] at h; cases h
  | [], _ :: _, [], _, h => by rw [lexLt_cons_nil] at h; cases h
  | [], _ :: _, _ :: _, _, _ => rfl
  | _ :: _, [], _, h, _ => by rw [lexLt_cons_nil] at h; cases h
  | _ :: _, _ :: _, [], _, h => by rw [lexLt_cons_nil] at h; cases h
  | x :: a, y :: b, z :: c, h1, h2 => by
    rw [lexLt_cons] at h1 h2 ⊢
    by_cases e1 : x = y
    · subst e1
      rw [if_pos rfl] at h1
      by_cases e2 : x = z
      · subst e2
        rw [if_pos rfl] at h2 ⊢
        exact lexLt_trans a b c h1 h2
      · rw [if_neg e2] at h2 ⊢; exact h2
    · rw [if_neg e1] at h1
      have h1' := of_decide_eq_true h1
      by_cases e2 : y = z
      · subst e2
        rw [if_neg e1]; exact h1
      · rw [if_neg e2] at h2
        have h2' := of_decide_eq_true h2
        rw [if_neg (show x ≠ z by omega)]
        exact decide_eq_true (by omega)
theorem half_eq {n : Nat} (hn : n ≤ 4) {c : Nat → Nat → Bool} {b01 b02 b03 b12 b13 b23 : Bool} (h01 : 1 < n → b01 = c 0 1) (h02 : 2 < n → b02 = c 0 2) (h03 : 3 < n → b03 = c 0 3) (h12 : 2 < n → b12 = c 1 2) (h13 : 3 < n → b13 = c 1 3) (h23 : 3 < n → b23 = c 2 3) :
    ∀ i j, i < j → j < n → half b01 b02 b03 b12 b13 b23 i j = c i j := by
  intro i j h1 h2
  have hh : (i = 0 ∧ j = 1) ∨ (i = 0 ∧ j = 2) ∨ (i = 0 ∧ j = 3) ∨ (i = 1 ∧ j = 2) ∨ (i = 1 ∧ j = 3) ∨ (i = 2 ∧ j = 3) := by omega
  rcases hh with ⟨rfl, rfl⟩ | ⟨rfl, rfl⟩ | ⟨rfl, rfl⟩ | ⟨rfl, rfl⟩ | ⟨rfl, rfl⟩ | ⟨rfl, rfl⟩
  · exact h01 h2
  · exact h02 h2
  · exact h03 h2
  · exact h12 h2
  · exact h13 h2
  · exact h23 h2
theorem sort_ok {ls : List (List Int)} (nd : ls.Nodup) (h2 : 2 ≤ ls.length) (h4 : ls.length ≤ 4) :
    kin ls.length (kas_sort ls.length) = true ∧ okOut ls.length (fun i j => lexLt (ls.getD i []) (ls.getD j [])) (krun (fun i j => lexLt (ls.getD i []) (ls.getD j [])) (kas_sort ls.length)).toList = true := by
  generalize hc : (fun i j => lexLt (ls.getD i []) (ls.getD j [])) = c
  have cd : ∀ i j, c i j = lexLt (ls.getD i []) (ls.getD j []) := fun i j => by rw [← hc]
  have flip : ∀ i j, i < ls.length → j < ls.length → i ≠ j → c j i = !c i j := fun i j hi hj hij => by
    rw [cd, cd]
    refine lexLt_flip _ _ fun e => hij ?_
    have e1 : ls.getD i [] = ls[i] := by rw [List.getD_eq_getElem?_getD, List.getElem?_eq_getElem hi]; rfl
    have e2 : ls.getD j [] = ls[j] := by rw [List.getD_eq_getElem?_getD, List.getElem?_eq_getElem hj]; rfl
    rw [e1, e2] at e
    exact (List.getElem_inj nd).mp e
  have tabc : ∀ b : Nat → Nat → Bool, (∀ i j, i < j → j < ls.length → b i j = c i j) → ∀ i j, i < ls.length → j < ls.length → tab b i j = c i j := fun b hb i j hi hj => by
    unfold tab
    by_cases h : i < j
    · rw [if_pos h, hb i j h hj]
    · rw [if_neg h]
      by_cases h' : j < i
      · rw [if_pos h', hb j i h' hi, flip j i hj hi (by omega)]
      · rw [if_neg h']
        have : i = j := by omega
        subst this
        rw [cd, lexLt_irrefl]
  have outc : ∀ (b : Nat → Nat → Bool) (p : List Nat), (∀ i j, i < ls.length → j < ls.length → tab b i j = c i j) → okOut ls.length (tab b) p = true → okOut ls.length c p = true := fun b p hb h => by
    unfold okOut at h ⊢
    rw [Bool.and_eq_true] at h ⊢
    refine ⟨h.1, ?_⟩
    have pm := List.isPerm_iff.mp h.1
    have hl : p.length = ls.length := by rw [pm.length_eq, List.length_range]
    rw [List.all_eq_true] at h ⊢
    intro i hi
    have q := h.2 i hi
    rw [List.all_eq_true] at q ⊢
    intro j hj
    have q2 := q j hj
    have hi' := List.mem_range.mp hi
    have hj' := List.mem_range.mp hj
    have m : ∀ k, k < ls.length → p.getD k 0 < ls.length := fun k hk => by
      have e : p.getD k 0 = p[k]'(by omega) := by rw [List.getD_eq_getElem?_getD, List.getElem?_eq_getElem (by omega)]; rfl
      rw [e]
      exact List.mem_range.mp (pm.mem_iff.mp (List.getElem_mem _))
    rw [hb _ _ (m i hi') (m j hj')] at q2
    exact q2
  have trc : ∀ (b : Nat → Nat → Bool), (∀ i j, i < ls.length → j < ls.length → tab b i j = c i j) → tr3 ls.length (tab b) = true := fun b hb => by
    unfold tr3
    simp only [List.all_eq_true, List.mem_range]
    intro i hi j hj k hk
    rw [hb i j hi hj, hb j k hj hk, hb i k hi hk]
    cases e1 : c i j
    · rfl
    · cases e2 : c j k
      · rfl
      · rw [cd] at e1 e2
        rw [cd, lexLt_trans _ _ _ e1 e2]; rfl
  have hn : ls.length = 2 ∨ ls.length = 3 ∨ ls.length = 4 := by omega
  rcases hn with hn | hn | hn
  · rw [hn] at tabc outc trc ⊢
    have t := tabc (half (c 0 1) true true true true true) (half_eq (by decide) (fun _ => rfl) (fun z => by omega) (fun z => by omega) (fun z => by omega) (fun z => by omega) (fun z => by omega))
    refine ⟨kin2, ?_⟩
    rw [krun_congr (fun i j hi hj => (t i j hi hj).symm) _ kin2]
    exact outc _ _ t (sort2 _)
  · rw [hn] at tabc outc trc ⊢
    have t := tabc (half (c 0 1) (c 0 2) true (c 1 2) true true) (half_eq (by decide) (fun _ => rfl) (fun _ => rfl) (fun z => by omega) (fun _ => rfl) (fun z => by omega) (fun z => by omega))
    refine ⟨kin3, ?_⟩
    rw [krun_congr (fun i j hi hj => (t i j hi hj).symm) _ kin3]
    exact outc _ _ t (sort3 _ _ _ (trc _ t))
  · rw [hn] at tabc outc trc ⊢
    have t := tabc (half (c 0 1) (c 0 2) (c 0 3) (c 1 2) (c 1 3) (c 2 3)) (half_eq (by decide) (fun _ => rfl) (fun _ => rfl) (fun _ => rfl) (fun _ => rfl) (fun _ => rfl) (fun _ => rfl))
    refine ⟨kin4, ?_⟩
    rw [krun_congr (fun i j hi hj => (t i j hi hj).symm) _ kin4]
    exact outc _ _ t (sort4 _ _ _ _ _ _ (trc _ t))
end HT
namespace L2
open PySem PySem.Spec PyProof.Rows
section
variable {X : Cx}
def rLtL (K : PySem.W.Frag) : R2 := fun x y H Q => ∃ (a b : Addr) (ns ms : List Int), x = .ref a ∧ y = .ref b ∧ SqL K H a (ns.map V.int) ∧ SqL K H b (ms.map V.int) ∧ Q (.bl (HT.lexLt ns ms)) H
theorem k_ltL (K : PySem.W.Frag) (hu : X.A.units + 64 < cLine) (e : X.K = K := by rfl) : OpR X (compareOp .Lt) (rLtL K) := by
  subst e
  intro pins s σ H x y v u Q I rx ry h
  obtain ⟨a, b, ns, ms, rfl, rfl, ha, hb, q⟩ := h
  cases rx
  cases ry
  obtain ⟨its, r1, p1, _⟩ := I.list ha
  obtain ⟨its2, r2, p2, _⟩ := I.list hb
  exact HT.lt_listInts p1.isList p2.isList (intsAre_of r1) (intsAre_of r2) (by omega) ⟨.bl (HT.lexLt ns ms), H, I, rfl, q⟩
end
end L2
set_option Elab.async false
set_option linter.all false
set_option maxRecDepth 100000
namespace HT
open PySem PyProof.Rows PySem.W
section
variable {prog : Program} {w : World} {A : Around} {E : Value → Shared → Prop} {s : Shared}
theorem one_lt {l b : Addr} {items items2 : Array Value} {ns ms : List Int} {Q : Bool → Shared → Prop} (hl : s.heap.IsList l items) (hb : s.heap.IsList b items2) (hi : IntsAre items.toList ns) (hj : IntsAre items2.toList ms) (hu : A.units + 1 < cLine)
    (h : Q (lexLt ns ms) s) : wpAny (model prog w) A (keyLt' oneType' (.ref l) (.ref b)) Q E s := by
  obtain ⟨⟨cls, dd, data, sl⟩, ho, hc, n, hd⟩ := id hl
  obtain ⟨⟨cls2, dd2, data2, sl2⟩, ho2, hc2, n2, hd2⟩ := id hb
  simp only at hc hd hc2 hd2
  subst hc hd hc2 hd2
  rw [keyLt'_oneType, oneLt'_eq]
  simp only [if_true]
  refine wpAny_bind (wpAny_cRoomFor (by omega) (wpAny_bind (wpAny_callSpecialIfBound?_slot (T := "list") (name := "__lt__") ⟨_, ho, rfl⟩ PySem.F.slot_list_lt
    (call_meets PySem.F.slot_list_lt ⟨_, ho, rfl⟩ PySem.F.entry_list_lt (PySem.F.args_list_lt_2 _ _) (list_lt_ints l b items items2 n n2 dd dd2 sl sl2 ns ms hi hj) ⟨ho, ho2, ?_⟩))))
  exact wpAny_truthy_bool h
theorem perm_getD {α : Type} (d : α) (zs : List α) {p : List Nat} (h : p.Perm (List.range zs.length)) : (p.map fun i => zs.getD i d).Perm zs := by
  have e : (List.range zs.length).map (fun i => zs.getD i d) = zs := by
    apply List.ext_getElem?
    intro i
    rw [List.getElem?_map]
    by_cases hi : i < zs.length
    · rw [List.getElem?_range hi, Option.map_some, List.getD_eq_getElem?_getD, List.getElem?_eq_getElem hi]; rfl
    · rw [List.getElem?_eq_none (by simpa using hi), List.getElem?_eq_none (by omega)]; rfl
  have q := h.map fun i => zs.getD i d
  rw [e] at q
  exact q
theorem sortL_tree {a : Addr} {zs : List (Addr × List Int)} {n0 : Nat} {P : Fin → Shared → Prop} (ho : s.heap.get? a = some (seqObj "list" (zs.map fun z => Value.ref z.1).toArray n0))
    (hz : ∀ z ∈ zs, z.1 ≠ a ∧ ∃ its : List Value, s.heap.IsList z.1 its.toArray ∧ IntsAre its z.2) (nd : (zs.map (·.2)).Nodup) (h4 : zs.length ≤ 4) (hu : A.units + 1 < cLine)
    (h : ∀ zs' : List (Addr × List Int), zs'.Perm zs → zs'.Pairwise (fun x y => lexLt x.2 y.2 = true) → P (.done (.ret .none)) { s with heap := sortedHeap s.heap a (zs.map fun z => Value.ref z.1) (zs'.map fun z => Value.ref z.1).toArray }) :
    wpAny (model prog w) A (Builtin.«list.sort» ⟨[.ref a], []⟩) P E s := by
  rw [list_sort_plain]
  generalize hvs : (zs.map fun z => Value.ref z.1) = vs at ho h ⊢
  have hvl : vs.length = zs.length := by rw [← hvs, List.length_map]
  have hsl : vs.length ≤ sizeLine := by rw [hvl, sizeLine_eq]; omega
  have ha : a < s.heap.objs.size := Heap.lt_size ho
  obtain ⟨e1, ho1⟩ : ∃ e1, (s.heap.update a (Obj.mapSeq fun _ => #[])).get? a = some (seqObj "list" #[] e1) := ⟨_, get?_update_seq ho (fun _ => #[])⟩
  refine wpAny_bind (listItems_at ho rfl (wpAny_bind (listUpdate_at ho rfl (wpAny_bind (seqEpoch_at ho1 rfl (wpAny_bind (wpAny_newTuple (wpAny_bind (wpAny_newList (wpAny_holding ?_) (Nat.zero_le _))) (by show vs.length ≤ _; exact hsl))))) (by rw [List.size_toArray]; exact hsl) (Nat.zero_le _))))
  generalize hG : (((s.heap.update a (Obj.mapSeq fun _ => (#[] : Array Value))).push (seqObj "tuple" vs.toArray 0)).push (seqObj "list" #[] 0)) = G
  have ho6 : G.get? a = some (seqObj "list" #[] e1) := by
    rw [← hG, Heap.get?_push_ne _ _ _ (by rw [size_push', Heap.size_update]; exact Nat.ne_of_lt (Nat.lt_succ_of_lt ha)), Heap.get?_push_ne _ _ _ (by rw [Heap.size_update]; exact Nat.ne_of_lt ha)]; exact ho1
  have keep : ∀ b o, b ≠ a → s.heap.get? b = some o → G.get? b = some o := fun b o hb e => by
    have hlt := Heap.lt_size e
    rw [← hG, Heap.get?_push_ne _ _ _ (by rw [size_push', Heap.size_update]; exact Nat.ne_of_lt (Nat.lt_succ_of_lt hlt)), Heap.get?_push_ne _ _ _ (by rw [Heap.size_update]; exact Nat.ne_of_lt hlt), Heap.get?_update_other _ _ (Ne.symm hb)]; exact e
  show wpAny (model prog w) A _ P E { s with heap := G }
  dsimp only
  by_cases h2 : vs.toArray.size < 2
  · rw [if_pos h2, if_pos h2]
    refine wpAny_bind (wpAny_pure ?_)
    rw [StateT.run_pure]
    refine wpAny_bind (wpAny_pure ?_)
    dsimp only
    have hout : (arrOf (SortSt.mk' general' (vs.toArray.zip vs.toArray) #[] 7 none)).map (·.2) = vs.toArray := by
      show (vs.toArray.zip vs.toArray).map (·.2) = vs.toArray
      apply Array.toList_inj.mp
      rw [Array.toList_map, Array.toList_zip, List.map_snd_zip (by simp)]
    rw [hout]
    refine wpAny_bind (seqEpoch_at ho6 rfl (wpAny_bind (listUpdate_at ho6 rfl ?_ (Nat.zero_le _) (by rw [List.size_toArray]; exact Nat.le_succ_of_le hsl))))
    have q := h zs (List.Perm.refl _) (by
      rw [List.size_toArray, hvl] at h2
      match zs, h2 with
      | [], _ => exact .nil
      | [_], _ => exact List.pairwise_singleton _ _)
    rw [hvs] at q
    simp only [bne_self_eq_false, Bool.false_eq_true, if_false]
    have e2 : G.update a (Obj.mapSeq fun _ => vs.toArray) = sortedHeap s.heap a vs vs.toArray := by rw [← hG]; rfl
    rw [e2]
    exact wpAny_pure q
  · rw [if_neg h2, if_neg h2]
    rw [List.size_toArray, hvl] at h2
    have ls2 : (zs.map (·.2)).length = zs.length := List.length_map ..
    obtain ⟨hkin, hok⟩ := sort_ok nd (by rw [ls2]; omega) (by rw [ls2]; exact h4)
    rw [ls2] at hkin hok
    generalize hcd : (fun i j => lexLt ((zs.map (·.2)).getD i []) ((zs.map (·.2)).getD j [])) = c at hok
    have gz : ∀ i, i < zs.length → vs.getD i Value.none = .ref (zs.getD i (0, [])).1 ∧ (zs.map (·.2)).getD i [] = (zs.getD i (0, [])).2 ∧ zs.getD i (0, []) ∈ zs := fun i hi => by
      have e : zs.getD i (0, []) = zs[i] := by rw [List.getD_eq_getElem?_getD, List.getElem?_eq_getElem hi]; rfl
      rw [e]
      refine ⟨?_, ?_, List.getElem_mem _⟩
      · rw [← hvs, List.getD_eq_getElem?_getD, List.getElem?_map, List.getElem?_eq_getElem hi]; rfl
      · rw [List.getD_eq_getElem?_getD, List.getElem?_map, List.getElem?_eq_getElem hi]; rfl
    refine wpAny_bind (kas_kind (T := .type "list") (by rw [hvl]; omega) (fun v hv => ?_) (by decide) (by decide) ?_)
    · rw [← hvs] at hv
      obtain ⟨z, hzm, rfl⟩ := List.mem_map.mp hv
      obtain ⟨hza, its, hl, _⟩ := hz z hzm
      obtain ⟨o, e, hcl, _⟩ := hl
      intro A' Q' E' s' k q
      exact wpAny_typeOf (T := "list") ⟨o, k _ _ (keep _ _ hza e), hcl⟩ q
    have est : SortSt.mk' oneType' (vs.toArray.zip vs.toArray) #[] 7 none = kas_st oneType' (pairsOf vs) (List.toArray (List.range vs.length)) := by
      have e := kas_range (pairsOf vs)
      rw [pairsOf_size] at e
      unfold kas_st; rw [e]; rfl
    have ask : (kas_sort vs.length).kasWp (kas_cmp prog w A oneType' (pairsOf vs)) (fun p s' => s' = { s with heap := G } ∧ p = krun c (kas_sort zs.length)) { s with heap := G } := by
      rw [hvl, ← kas_ask_eq]
      refine krun_wp (n := zs.length) (c := c) (fun i j C hi hj hC => ?_) _ hkin ⟨rfl, rfl⟩
      obtain ⟨a1, a2, a3⟩ := gz i hi
      obtain ⟨b1, b2, b3⟩ := gz j hj
      obtain ⟨hza, its, hl, hI⟩ := hz _ a3
      obtain ⟨hzb, its2, hl2, hI2⟩ := hz _ b3
      unfold kas_ask
      rw [a1, b1]
      refine one_lt (s := { s with heap := G }) (hl.at fun o e => keep _ o hza e) (hl2.at fun o e => keep _ o hzb e) (by simpa using hI) (by simpa using hI2) hu ?_
      rw [← hcd] at hC
      simp only [a2, b2] at hC
      exact hC
    have run := kas_runs (E := E) (Q := fun _ st' s' => s' = { s with heap := G } ∧ arrOf st' = (krun c (kas_sort zs.length)).map (kas_item (pairsOf vs)) ∧ failedOf st' = none) (by rw [hvl]; omega) (by rw [hvl]; omega)
      (fun p' st' s' a1 a2 a3 a4 => ⟨a4.1, by rw [a2, a4.2], a3⟩) ask
    rw [← est] at run
    refine wpAny_bind (wpAny_mono run ?_ fun _ _ e => e)
    rintro ⟨⟨⟩, st'⟩ s' ⟨rfl, har, hf⟩
    dsimp only
    generalize hp : krun c (kas_sort zs.length) = p at har hok
    have hout : (arrOf st').map (·.2) = ((p.toList.map fun i => zs.getD i (0, [])).map fun z => Value.ref z.1).toArray := by
      apply Array.toList_inj.mp
      rw [har, Array.map_map, Array.toList_map, List.map_map]
      refine List.map_congr_left fun i hi => ?_
      show (kas_item (pairsOf vs) i).2 = _
      rw [kas_item_eq]
      unfold okOut at hok
      rw [Bool.and_eq_true] at hok
      exact (gz i (List.mem_range.mp ((List.isPerm_iff.mp hok.1).mem_iff.mp hi))).1
    rw [hout]
    have pm : p.toList.Perm (List.range zs.length) := by
      unfold okOut at hok
      rw [Bool.and_eq_true] at hok
      exact List.isPerm_iff.mp hok.1
    have q := h (p.toList.map fun i => zs.getD i (0, [])) (perm_getD _ zs pm) (by
      rw [List.pairwise_map, List.pairwise_iff_getElem]
      intro i j hi hj hij
      have hpl : p.toList.length = zs.length := by rw [pm.length_eq, List.length_range]
      unfold okOut at hok
      simp only [Bool.and_eq_true, List.all_eq_true, List.mem_range] at hok
      have q1 := hok.2 i (by omega) j (by omega)
      rw [decide_eq_true hij] at q1
      have e1 : p.toList.getD i 0 = p.toList[i] := by rw [List.getD_eq_getElem?_getD, List.getElem?_eq_getElem hi]; rfl
      have e2 : p.toList.getD j 0 = p.toList[j] := by rw [List.getD_eq_getElem?_getD, List.getElem?_eq_getElem hj]; rfl
      rw [e1, e2, ← hcd] at q1
      have m1 := List.mem_range.mp (pm.mem_iff.mp (List.getElem_mem hi))
      have m2 := List.mem_range.mp (pm.mem_iff.mp (List.getElem_mem hj))
      rw [← (gz _ m1).2.1, ← (gz _ m2).2.1]
      simpa using q1)
    have hol : ((p.toList.map fun i => zs.getD i (0, [])).map fun z => Value.ref z.1).length = zs.length := by rw [List.length_map, List.length_map, pm.length_eq, List.length_range]
    refine wpAny_bind (seqEpoch_at ho6 rfl (wpAny_bind (listUpdate_at ho6 rfl ?_ (Nat.zero_le _) (by rw [List.size_toArray, hol]; rw [hvl] at hsl; exact Nat.le_succ_of_le hsl))))
    rw [hf]
    simp only [bne_self_eq_false, Bool.false_eq_true, if_false]
    have e2 : ∀ out : Array Value, G.update a (Obj.mapSeq fun _ => out) = sortedHeap s.heap a vs out := fun out => by rw [← hG]; rfl
    rw [e2]
    exact wpAny_pure q
theorem sortedL {l : Addr} {zs : List (Addr × List Int)} {Q : Value → Shared → Prop} (hl : s.heap.IsList l (zs.map fun z => Value.ref z.1).toArray) (hz : ∀ z ∈ zs, ∃ its : List Value, s.heap.IsList z.1 its.toArray ∧ IntsAre its z.2) (nd : (zs.map (·.2)).Nodup) (h4 : zs.length ≤ 4) (hu : A.units + 8 < cLine)
    (h : ∀ zs' : List (Addr × List Int), zs'.Perm zs → zs'.Pairwise (fun x y => lexLt x.2 y.2 = true) → Q (.ref (s.heap.objs.size + 1)) { s with heap := sortedAll s.heap (zs.map fun z => Value.ref z.1) (zs'.map fun z => Value.ref z.1).toArray }) :
    wpAny (model prog w) A (call (.builtin "sorted") [.ref l]) Q E s := by
  have hsl : (zs.map fun z => Value.ref z.1).length ≤ sizeLine := by rw [List.length_map, sizeLine_eq]; omega
  refine Calls.call_function_entry kind_sorted plain_sorted entry_sorted (args_sorted1 _) ?_
  unfold Builtin.«sorted»
  refine wpAny_bind (m := checkCount "sorted" 1 1 _) (wpAny_pure (wpAny_bind (collect_list hl (wpAny_bind (wpAny_newList ?_ hsl)) hsl)))
  generalize hB : (s.heap.push (seqObj "list" #[] 0)).update s.heap.objs.size (Obj.mapSeq (· ++ (zs.map fun z => Value.ref z.1).toArray)) = B
  have hsz : B.objs.size = s.heap.objs.size + 1 := by rw [← hB, Heap.size_update, size_push']
  have keep : ∀ b o, s.heap.get? b = some o → (B.push (seqObj "list" (zs.map fun z => Value.ref z.1).toArray 0)).get? b = some o := fun b o q => by
    have hlt : b < s.heap.objs.size := Heap.lt_size q
    rw [Heap.get?_push_ne _ _ _ (by rw [hsz]; exact Nat.ne_of_lt (Nat.lt_succ_of_lt hlt)), ← hB, Heap.get?_update_ne _ _ _ _ (Nat.ne_of_lt hlt), Heap.get?_push_ne _ _ _ (Nat.ne_of_lt hlt)]; exact q
  have hoL : (B.push (seqObj "list" (zs.map fun z => Value.ref z.1).toArray 0)).get? (s.heap.objs.size + 1) = some (seqObj "list" (zs.map fun z => Value.ref z.1).toArray 0) := by
    rw [← hsz]; exact Heap.get?_push_size _ rfl
  show wpAny _ _ _ _ _ { s with heap := B.push (seqObj "list" (zs.map fun z => Value.ref z.1).toArray 0) }
  dsimp only
  rw [hsz]
  refine wpAny_bind (wpAny_holding (wpAny_call_entry slot_list_sort ⟨_, hoL, rfl⟩ entry_list_sort (sortL_tree (A := A.in1.in1) (s := { s with heap := B.push (seqObj "list" (zs.map fun z => Value.ref z.1).toArray 0) }) hoL (fun z hzm => ?_) nd h4 (by show A.units + 1 + 1 + 1 < cLine; omega) fun zs' a1 a2 => ⟨_, rfl, ?_⟩) (args_list_sort _)))
  · obtain ⟨its, hl', hI⟩ := hz z hzm
    obtain ⟨o, e, _⟩ := id hl'
    exact ⟨Nat.ne_of_lt (Nat.lt_succ_of_lt (Heap.lt_size e)), its, hl'.at fun o e => keep _ o e, hI⟩
  · have q := h zs' a1 a2
    have e2 : sortedHeap (B.push (seqObj "list" (zs.map fun z => Value.ref z.1).toArray 0)) (s.heap.objs.size + 1) (zs.map fun z => Value.ref z.1) (zs'.map fun z => Value.ref z.1).toArray = sortedAll s.heap (zs.map fun z => Value.ref z.1) (zs'.map fun z => Value.ref z.1).toArray := by rw [← hB]; rfl
    show wpAny _ _ _ _ _ { s with heap := sortedHeap (B.push (seqObj "list" (zs.map fun z => Value.ref z.1).toArray 0)) (s.heap.objs.size + 1) (zs.map fun z => Value.ref z.1) (zs'.map fun z => Value.ref z.1).toArray }
    rw [e2]
    exact wpAny_pure ⟨_, rfl, q⟩
end
end HT
namespace L2
open PySem PySem.Spec PyProof.Rows
section
variable {X : Cx}
def rSortL (K : PySem.W.Frag) : List V → Hp → VK → Prop := fun xs H Q => ∃ (a : Addr) (zs : List (Addr × List Int)), xs = [.ref a] ∧ SqL K H a (zs.map fun z => V.ref z.1) ∧ zs.length ≤ 4 ∧ (∀ z ∈ zs, SqL K H z.1 (z.2.map V.int)) ∧ (zs.map (·.2)).Nodup ∧
  ∀ (p : Addr) (zs' : List (Addr × List Int)), H p = none → zs'.Perm zs → zs'.Pairwise (fun x y => HT.lexLt x.2 y.2 = true) → Q (.ref p) (upd H p (.lst (zs'.map fun z => V.ref z.1)))
theorem vals_refs : ∀ {zs : List (Addr × List Int)} {its : List Value}, Vals (zs.map fun z => V.ref z.1) its → its = zs.map fun z => Value.ref z.1
  | [], its, h => by cases h; rfl
  | z :: zs, its, h => by
    cases h with
    | cons r t => rw [vals_refs t]; cases r; rfl
theorem refs_vals : ∀ (zs : List (Addr × List Int)), Vals (zs.map fun z => V.ref z.1) (zs.map fun z => Value.ref z.1)
  | [] => .nil
  | z :: zs => .cons rfl (refs_vals zs)
theorem k_sortL (K : PySem.W.Frag) (hu : X.A.units + 64 < cLine) (e : X.K = K := by rfl) : CallR X (.builtin "sorted") (rSortL K) := by
  subst e
  intro pins s σ H xs us Q I r h
  obtain ⟨a, zs, rfl, ha, h4, hz, nd, q⟩ := h
  obtain ⟨u, rfl, rx⟩ := vals1 r
  cases rx
  obtain ⟨its, r1, p1, _⟩ := I.list ha
  have e1 := vals_refs r1
  subst e1
  refine HT.sortedL p1.isList (fun z hzm => ?_) nd h4 (by omega) fun zs' pm pw => ?_
  · obtain ⟨its, r2, p2, _⟩ := I.list (hz z hzm)
    exact ⟨its, p2.isList, by simpa using intsAre_of r2⟩
  · obtain ⟨c, hat⟩ := sortedAll_at s.heap (zs.map fun z => Value.ref z.1) (zs'.map fun z => Value.ref z.1).toArray
    have hfree : H (s.heap.objs.size + 1) = none := I.hok.fresh (Nat.le_succ _)
    refine ⟨.ref (s.heap.objs.size + 1), _, I.laid (t' := s.toks) (o := .lst (zs'.map fun z => V.ref z.1)) (fun b o e => sortedAll_old e) (Nat.le_succ _) ?_, rfl, q _ zs' hfree pm pw⟩
    exact ⟨by rw [List.length_map, pm.length_eq]; exact Nat.le_trans h4 (by decide), _, c, refs_vals zs', hat⟩
end
end L2
set_option linter.all false
namespace Lw
def hasS (st fs : List Int) : Bool := (List.range fs.length).any fun k => decide ((fs.drop k).take st.length = st)
theorem hasS_iff {st fs : List Int} (h : st ≠ []) : hasS st fs = true ↔ ∃ k, (fs.drop k).take st.length = st := by
  unfold hasS
  simp only [List.any_eq_true, List.mem_range, decide_eq_true_eq]
  constructor
  · rintro ⟨k, _, e⟩; exact ⟨k, e⟩
  · rintro ⟨k, e⟩
    refine ⟨k, ?_, e⟩
    have hl := congrArg List.length e
    rw [List.length_take, List.length_drop] at hl
    have : 0 < st.length := List.length_pos_iff.mpr h
    omega
theorem hasS_short {st fs : List Int} (h : st ≠ []) : hasS st fs = (List.range ((fs.length : Int) - st.length + 1).toNat).any fun k => decide ((fs.drop k).take st.length = st) := by
  rw [Bool.eq_iff_iff, hasS_iff h]
  simp only [List.any_eq_true, List.mem_range, decide_eq_true_eq]
  constructor
  · rintro ⟨k, e⟩
    refine ⟨k, ?_, e⟩
    have hl := congrArg List.length e
    rw [List.length_take, List.length_drop] at hl
    have : 0 < st.length := List.length_pos_iff.mpr h
    omega
  · rintro ⟨k, _, e⟩; exact ⟨k, e⟩
def lacks (ls : List (List Int)) (fs : List Int) : Bool := !ls.any fun st => hasS st fs
end Lw
set_option linter.all false
namespace Lw
theorem figs_head {b : Nat} (h2 : 2 ≤ b) : ∀ n : Nat, 0 < n → (figs b n).head? ≠ some 0 := by
  intro n
  induction n using Nat.strongRecOn with
  | _ n ih =>
    intro hn
    by_cases h : n < b
    · rw [figs_lt h]; simp; omega
    · rw [figs_ge h2 (by omega)]
      have q := ih (n / b) (Nat.div_lt_self hn (by omega)) (Nat.div_pos (by omega) (by omega))
      cases e : figs b (n / b) with
      | nil => exact absurd e figs_ne
      | cons x y => rw [e] at q; simpa using q
theorem figs_more {b n f : Nat} (h2 : 2 ≤ b) (hn : 0 < n) (hf : f < b) : figs b (n * b + f) = figs b n ++ [(f : Int)] := by
  have hge : b ≤ n * b + f := Nat.le_trans (Nat.le_mul_of_pos_left b hn) (Nat.le_add_right _ _)
  have e1 : (n * b + f) / b = n := by rw [Nat.mul_comm, Nat.mul_add_div (by omega), Nat.div_eq_of_lt hf]; rfl
  have e2 : (n * b + f) % b = f := by rw [Nat.mul_comm, Nat.mul_add_mod, Nat.mod_eq_of_lt hf]
  rw [figs_ge h2 hge, e1, e2]
theorem figs_numI {b : Nat} (h2 : 2 ≤ b) : ∀ (k : Nat) (st : List Int), st.length = k → st ≠ [] → (∀ f ∈ st, 0 ≤ f ∧ f < (b : Int)) → (st.head? ≠ some 0 ∨ st.length = 1) → ∃ n : Nat, numI b st = n ∧ figs b n = st ∧ (st.head? ≠ some 0 → 0 < n) := by
  intro k
  induction k with
  | zero => intro st hk ne; exact absurd (List.eq_nil_of_length_eq_zero hk) ne
  | succ k ih =>
    intro st hk ne hf h0
    obtain ⟨ini, x, rfl⟩ : ∃ ini x, st = ini ++ [x] := ⟨st.dropLast, st.getLast ne, (List.dropLast_concat_getLast ne).symm⟩
    have hx := hf x (by simp)
    obtain ⟨g, rfl⟩ := Int.eq_ofNat_of_zero_le hx.1
    cases hi : ini with
    | nil =>
      subst hi
      refine ⟨g, by simp [numI], by rw [figs_lt (by omega)]; rfl, fun h => ?_⟩
      have : (g : Int) ≠ 0 := by simpa using h
      omega
    | cons y ys =>
      have hne : ini ≠ [] := by rw [hi]; simp
      have hhead : ini.head? ≠ some 0 := by
        rcases h0 with h | h
        · rw [hi] at h ⊢; simpa using h
        · rw [hi] at h; simp at h
      obtain ⟨m, e1, e2, e3⟩ := ih ini (by simpa using hk) hne (fun f hm => hf f (by simp [hm])) (.inl hhead)
      have hm := e3 hhead
      rw [← hi]
      refine ⟨m * b + g, ?_, ?_, fun _ => ?_⟩
      · rw [numI_snoc, e1]; push_cast; rfl
      · rw [figs_more h2 hm (by omega), e2]
      · have := Nat.le_mul_of_pos_right m (show 0 < b by omega); omega
theorem hasS_pre {st fs gs : List Int} (h : st ≠ []) (q : hasS st fs = true) : hasS st (fs ++ gs) = true := by
  rw [hasS_iff h] at q ⊢
  obtain ⟨k, e⟩ := q
  refine ⟨k, ?_⟩
  have hl := congrArg List.length e
  rw [List.length_take, List.length_drop] at hl
  have hp : 0 < st.length := List.length_pos_iff.mpr h
  rw [List.drop_append_of_le_length (by omega), List.take_append_of_le_length (by rw [List.length_drop]; omega)]
  exact e
theorem lacks_pre {ls : List (List Int)} {fs gs : List Int} (ne : ∀ l ∈ ls, l ≠ []) (h : lacks ls (fs ++ gs) = true) : lacks ls fs = true := by
  unfold lacks at *
  rw [Bool.not_eq_true', List.any_eq_false] at h ⊢
  intro l hl q
  exact h l hl (hasS_pre (ne l hl) q)
end Lw
set_option linter.all false
namespace Lw
def begs (ls : List (List Int)) (fs : List Int) : Bool := ls.any fun st => decide (st.take fs.length = fs)
def tailS (ls : List (List Int)) : List Int → List Int
  | [] => []
  | x :: fs => if begs ls (x :: fs) then x :: fs else tailS ls fs
theorem tailS_skip {ls : List (List Int)} : ∀ (i : Nat) (fs : List Int), i ≤ fs.length → (∀ k, k < i → begs ls (fs.drop k) = false) → tailS ls fs = tailS ls (fs.drop i)
  | 0, _, _, _ => rfl
  | i + 1, [], h, _ => by simp at h
  | i + 1, x :: fs, h, q => by
    have h0 := q 0 (by omega)
    rw [List.drop_zero] at h0
    rw [tailS, if_neg (by rw [h0]; decide), List.drop_succ_cons]
    exact tailS_skip i fs (by simpa using h) fun k hk => by have := q (k + 1) (by omega); rwa [List.drop_succ_cons] at this
theorem tailS_here {ls : List (List Int)} {fs : List Int} (h : begs ls fs = true) : tailS ls fs = fs := by
  cases fs with
  | nil => rfl
  | cons x fs => rw [tailS, if_pos h]
theorem tailS_at {ls : List (List Int)} {fs : List Int} {i : Nat} (hi : i ≤ fs.length) (h : ∀ k, k < i → begs ls (fs.drop k) = false) (q : begs ls (fs.drop i) = true) : tailS ls fs = fs.drop i := by
  rw [tailS_skip i fs hi h, tailS_here q]
theorem tailS_none {ls : List (List Int)} {fs : List Int} (h : ∀ k, k < fs.length → begs ls (fs.drop k) = false) : tailS ls fs = [] := by
  rw [tailS_skip fs.length fs (Nat.le_refl _) h, List.drop_length]; rfl
end Lw
set_option Elab.async false
set_option linter.all false
set_option maxRecDepth 100000
namespace HT
open PySem PyProof.Rows PySem.W
def KW {α : Type} (c : Nat → Nat → Bool) (n : Nat) : KasT α → (α → Prop) → Prop
  | .ret a, Q => Q a
  | .ask i j k, Q => i < n ∧ j < n ∧ KW c n (k (c i j)) Q
theorem KW.bind {α β : Type} {c : Nat → Nat → Bool} {n : Nat} {f : α → KasT β} {Q : β → Prop} : ∀ {t : KasT α}, KW c n t (fun a => KW c n (f a) Q) → KW c n (t.bind f) Q
  | .ret _, h => h
  | .ask _ _ k, h => ⟨h.1, h.2.1, KW.bind (t := k _) h.2.2⟩
theorem KW.mono {α : Type} {c : Nat → Nat → Bool} {n : Nat} {Q Q' : α → Prop} (hq : ∀ a, Q a → Q' a) : ∀ {t : KasT α}, KW c n t Q → KW c n t Q'
  | .ret a, h => hq a h
  | .ask _ _ k, h => ⟨h.1, h.2.1, KW.mono hq (t := k _) h.2.2⟩
theorem KW.wp {α : Type} {n : Nat} {c : Nat → Nat → Bool} {cmp : Nat → Nat → (Bool → Shared → Prop) → Shared → Prop} {s : Shared} {Q : α → Prop} (hc : ∀ i j C, i < n → j < n → C (c i j) s → cmp i j C s) :
    ∀ t : KasT α, KW c n t Q → t.kasWp cmp (fun a s' => s' = s ∧ Q a) s
  | .ret _, h => ⟨rfl, h⟩
  | .ask i j k, h => hc i j _ h.1 h.2.1 (KW.wp hc (k (c i j)) h.2.2)
structure Ord (c : Nat → Nat → Bool) (n : Nat) : Prop where
  tr : ∀ i j k, i < n → j < n → k < n → c i j = true → c j k = true → c i k = true
  tot : ∀ i j, i < n → j < n → i ≠ j → c i j = false → c j i = true
  asy : ∀ i j, i < n → j < n → c i j = true → c j i = false
structure Pm (n : Nat) (p : Array Nat) : Prop where
  sz : p.size = n
  pm : p.toList.Perm (List.range n)
theorem Pm.lt {n : Nat} {p : Array Nat} (h : Pm n p) (i : Nat) (hi : i < n) : p.getD i 0 < n := by
  have hs := h.sz
  have e : p.getD i 0 = p[i] := by simp [Array.getD, hs, hi]
  rw [e]
  exact List.mem_range.mp (h.pm.mem_iff.mp (by simp))
theorem Pm.ne {n : Nat} {p : Array Nat} (h : Pm n p) {i j : Nat} (hi : i < n) (hj : j < n) (hij : i ≠ j) : p.getD i 0 ≠ p.getD j 0 := by
  have hs := h.sz
  have e1 : p.getD i 0 = p.toList[i]'(by simp [hs, hi]) := by simp [Array.getD, hs, hi]
  have e2 : p.getD j 0 = p.toList[j]'(by simp [hs, hj]) := by simp [Array.getD, hs, hj]
  rw [e1, e2]
  have nd : p.toList.Nodup := h.pm.nodup_iff.mpr List.nodup_range
  intro z
  exact hij ((List.getElem_inj nd).mp z)
theorem Pm.of {n : Nat} {p q : Array Nat} (h : Pm n p) (z : q.Perm p) : Pm n q := ⟨by rw [z.size_eq]; exact h.sz, (Array.perm_iff_toList_perm.mp z).trans h.pm⟩
def Up (c : Nat → Nat → Bool) (p : Array Nat) (m : Nat) : Prop := ∀ i j, i < j → j < m → c (p.getD i 0) (p.getD j 0) = true
def Dn (c : Nat → Nat → Bool) (p : Array Nat) (m : Nat) : Prop := ∀ i j, i < j → j < m → c (p.getD j 0) (p.getD i 0) = true
section
variable {c : Nat → Nat → Bool} {n : Nat}
theorem asc_ok (O : Ord c n) {p : Array Nat} (hp : Pm n p) : ∀ (f m : Nat), 1 ≤ m → m + f ≤ n → Up c p m → KW c n (kas_asc p f m) (fun r => m ≤ r ∧ r ≤ m + f ∧ Up c p r ∧ (r < m + f → c (p.getD r 0) (p.getD (r - 1) 0) = true))
  | 0, m, _, _, u => ⟨Nat.le_refl _, Nat.le_refl _, u, fun z => absurd z (Nat.lt_irrefl _)⟩
  | f + 1, m, h1, h2, u => by
    refine ⟨hp.lt m (by omega), hp.lt (m - 1) (by omega), ?_⟩
    cases e : c (p.getD m 0) (p.getD (m - 1) 0) with
    | true => exact ⟨Nat.le_refl _, by omega, u, fun _ => e⟩
    | false =>
      have hs : c (p.getD (m - 1) 0) (p.getD m 0) = true := O.tot _ _ (hp.lt m (by omega)) (hp.lt (m - 1) (by omega)) (hp.ne (by omega) (by omega) (by omega)) e
      have u' : Up c p (m + 1) := fun i j hij hj => by
        by_cases hjm : j < m
        · exact u i j hij hjm
        · have ej : j = m := by omega
          subst ej
          by_cases hi : i = j - 1
          · rw [hi]; exact hs
          · exact O.tr _ _ _ (hp.lt i (by omega)) (hp.lt (j - 1) (by omega)) (hp.lt j (by omega)) (u i (j - 1) (by omega) (by omega)) hs
      refine KW.mono (fun r h => ?_) (asc_ok O hp f (m + 1) (by omega) (by omega) u')
      exact ⟨by omega, by omega, h.2.2.1, fun z => h.2.2.2 (by omega)⟩
theorem desc_ok (O : Ord c n) {p : Array Nat} (hp : Pm n p) : ∀ (f m : Nat), 1 ≤ m → m + f ≤ n → Dn c p m → KW c n (kas_desc f p m 0) (fun r => r.1 = p ∧ r.2.2 = 0 ∧ m ≤ r.2.1 ∧ r.2.1 ≤ m + f ∧ Dn c p r.2.1)
  | 0, m, _, _, u => ⟨rfl, rfl, Nat.le_refl _, Nat.le_refl _, u⟩
  | f + 1, m, h1, h2, u => by
    refine ⟨hp.lt m (by omega), hp.lt (m - 1) (by omega), ?_⟩
    cases e : c (p.getD m 0) (p.getD (m - 1) 0) with
    | true =>
      have u' : Dn c p (m + 1) := fun i j hij hj => by
        by_cases hjm : j < m
        · exact u i j hij hjm
        · have ej : j = m := by omega
          subst ej
          by_cases hi : i = j - 1
          · rw [hi]; exact e
          · exact O.tr _ _ _ (hp.lt j (by omega)) (hp.lt (j - 1) (by omega)) (hp.lt i (by omega)) e (u i (j - 1) (by omega) (by omega))
      refine KW.mono (fun r h => ?_) (desc_ok O hp f (m + 1) (by omega) (by omega) u')
      exact ⟨h.1, h.2.1, by omega, by omega, h.2.2.2.2⟩
    | false =>
      have hs : c (p.getD (m - 1) 0) (p.getD m 0) = true := O.tot _ _ (hp.lt m (by omega)) (hp.lt (m - 1) (by omega)) (hp.ne (by omega) (by omega) (by omega)) e
      refine ⟨hp.lt (m - 1) (by omega), hp.lt m (by omega), ?_⟩
      rw [hs]
      exact ⟨rfl, rfl, Nat.le_refl _, (show m ≤ m + (f + 1) by omega), u⟩
theorem rev_getD {p : Array Nat} {m : Nat} (hm : m ≤ p.size) (k : Nat) : (kas_rev p 0 m).getD k 0 = if k < m then p.getD (m - 1 - k) 0 else p.getD k 0 := by
  have q := getElem?_mirror_all (xs := p) (i := 0) hm k
  have e : ∀ (a : Array Nat) (j : Nat), a.getD j 0 = (a[j]?).getD 0 := fun a j => by simp [Array.getD_eq_getD_getElem?]
  unfold kas_rev
  rw [e, q]
  by_cases h : k < m
  · rw [if_pos ⟨Nat.zero_le _, h⟩, if_pos h, e, Nat.zero_add]
  · rw [if_neg (by omega), if_neg h, e]
theorem tail3_ok (O : Ord c n) {p : Array Nat} (hp : Pm n p) {m : Nat} (h1 : 1 ≤ m) (h2 : m ≤ n) (u : Dn c p m) : KW c n (kas_tail3 m n p) (fun r => 1 ≤ r.1 ∧ r.1 ≤ n ∧ Pm n r.2 ∧ Up c r.2 r.1) := by
  have hr : Pm n (kas_rev p 0 m) := hp.of (mirror_perm _ _ _ _)
  have hsz : m ≤ p.size := by rw [hp.sz]; exact h2
  have u' : Up c (kas_rev p 0 m) m := fun i j hij hj => by
    rw [rev_getD hsz, rev_getD hsz, if_pos (by omega), if_pos hj]
    exact u _ _ (by omega) (by omega)
  refine KW.bind (KW.mono (fun r h => ?_) (asc_ok O hr (n - m) m h1 (by omega) u'))
  exact ⟨by omega, by omega, hr, h.2.2.1⟩
theorem count_ok (O : Ord c n) {p : Array Nat} (hp : Pm n p) (h2 : 2 ≤ n) : KW c n (kas_count n p) (fun r => 1 ≤ r.1 ∧ r.1 ≤ n ∧ Pm n r.2 ∧ Up c r.2 r.1) := by
  refine KW.bind (KW.mono (fun r h => ?_) (asc_ok O hp (n - 1) 1 (Nat.le_refl _) (by omega) (fun i j hij hj => by omega)))
  obtain ⟨h1, h3, u, st⟩ := h
  by_cases e : r = n
  · subst e
    rw [if_pos (by simp)]
    exact ⟨h1, Nat.le_refl _, hp, u⟩
  · rw [if_neg (by simpa using e)]
    by_cases hr : r > 1
    · rw [if_pos hr]
      refine ⟨hp.lt 0 (by omega), hp.lt (r - 1) (by omega), ?_⟩
      rw [u 0 (r - 1) (by omega) (by omega)]
      exact ⟨h1, by omega, hp, u⟩
    · rw [if_neg hr]
      have er : r = 1 := by omega
      subst er
      have s1 := st (by omega)
      have d : Dn c p 2 := fun i j hij hj => by
        have ei : i = 0 := by omega
        have ej : j = 1 := by omega
        subst ei; subst ej
        exact s1
      refine KW.bind (KW.mono (fun r h => ?_) (desc_ok O hp (n - 2) 2 (by omega) (by omega) d))
      obtain ⟨a1, a2, a3, a4, a5⟩ := h
      obtain ⟨q, m, z⟩ := r
      simp only at a1 a2 a3 a4 a5
      subst a1; subst a2
      show KW c n (if 0 > 0 then _ else _) _
      rw [if_neg (Nat.lt_irrefl 0)]
      exact tail3_ok O hp (show 1 ≤ m by omega) (show m ≤ n by omega) a5
theorem place_ok (O : Ord c n) {p : Array Nat} (hp : Pm n p) {k : Nat} (hk : k < n) (u : Up c p k) : ∀ (f l r : Nat), l ≤ r → r ≤ k → r - l ≤ f → (∀ i, i < l → c (p.getD i 0) (p.getD k 0) = true) → (∀ i, r ≤ i → i < k → c (p.getD k 0) (p.getD i 0) = true) →
    KW c n (kas_place p k f l r) (fun l => l ≤ k ∧ (∀ i, i < l → c (p.getD i 0) (p.getD k 0) = true) ∧ (∀ i, l ≤ i → i < k → c (p.getD k 0) (p.getD i 0) = true))
  | 0, l, r, h1, h2, h3, lo, hi => ⟨by omega, lo, fun i a b => hi i (by omega) b⟩
  | f + 1, l, r, h1, h2, h3, lo, hi => by
    unfold kas_place
    by_cases hlr : l ≥ r
    · rw [if_pos hlr]
      exact ⟨by omega, lo, fun i a b => hi i (by omega) b⟩
    · rw [if_neg hlr]
      have hm : (l + r) / 2 < k := by omega
      refine ⟨hp.lt k hk, hp.lt _ (by omega), ?_⟩
      cases e : c (p.getD k 0) (p.getD ((l + r) / 2) 0) with
      | true =>
        dsimp only
        rw [if_pos rfl]
        refine place_ok O hp hk u f l ((l + r) / 2) (by omega) (by omega) (by omega) lo fun i a b => ?_
        by_cases ei : i = (l + r) / 2
        · rw [ei]; exact e
        · exact O.tr _ _ _ (hp.lt k hk) (hp.lt _ (by omega)) (hp.lt i (by omega)) e (u _ _ (by omega) b)
      | false =>
        dsimp only
        rw [if_neg Bool.false_ne_true]
        have hs : c (p.getD ((l + r) / 2) 0) (p.getD k 0) = true := O.tot _ _ (hp.lt k hk) (hp.lt _ (by omega)) (hp.ne hk (by omega) (by omega)) e
        refine place_ok O hp hk u f ((l + r) / 2 + 1) r (by omega) h2 (by omega) (fun i a => ?_) hi
        by_cases ei : i = (l + r) / 2
        · rw [ei]; exact hs
        · exact O.tr _ _ _ (hp.lt i (by omega)) (hp.lt _ (by omega)) (hp.lt k hk) (u _ _ (by omega) (by omega)) hs
theorem bub_getD {p : Array Nat} {k l : Nat} (hk : k < p.size) (hl : l ≤ k) (i : Nat) : (bubble p k (k - l)).getD i 0 = if i = l then p.getD k 0 else if l < i ∧ i ≤ k then p.getD (i - 1) 0 else p.getD i 0 := by
  have q := getElem?_bubble hk (k - l) (by omega) i
  have e : ∀ (a : Array Nat) (j : Nat), a.getD j 0 = (a[j]?).getD 0 := fun a j => by simp [Array.getD_eq_getD_getElem?]
  rw [show k - (k - l) = l by omega] at q
  rw [e, e p k, e p (i - 1), e p i, q]
  split
  · rfl
  · split
    · rfl
    · rfl
theorem bin_ok (O : Ord c n) : ∀ (f : Nat) {p : Array Nat} {k : Nat}, Pm n p → 1 ≤ k → k + f = n → Up c p k → KW c n (kas_bin f p k) (fun q => Pm n q ∧ Up c q n)
  | 0, p, k, hp, h1, h2, u => by
    have : k = n := by omega
    subst this
    exact ⟨hp, u⟩
  | f + 1, p, k, hp, h1, h2, u => by
    refine KW.bind (KW.mono (fun l h => ?_) (place_ok O hp (show k < n by omega) u k 0 k (Nat.zero_le _) (Nat.le_refl _) (by omega) (fun i hi => by omega) (fun i a b => by omega)))
    obtain ⟨hlk, lo, hi⟩ := h
    have hks : k < p.size := by rw [hp.sz]; omega
    refine bin_ok O f (hp.of (bubble_perm _ _ _)) (by omega) (by omega) fun i j hij hj => ?_
    rw [bub_getD hks hlk, bub_getD hks hlk]
    by_cases hi1 : i = l
    · rw [if_pos hi1, if_neg (by omega), if_pos (by omega)]
      exact hi _ (by omega) (by omega)
    · rw [if_neg hi1]
      by_cases hi2 : l < i ∧ i ≤ k
      · rw [if_pos hi2, if_neg (by omega), if_pos (by omega)]
        exact u _ _ (by omega) (by omega)
      · rw [if_neg hi2]
        by_cases hj1 : j = l
        · rw [if_pos hj1]
          exact lo _ (by omega)
        · rw [if_neg hj1]
          by_cases hj2 : l < j ∧ j ≤ k
          · rw [if_pos hj2]
            exact u _ _ (by omega) (by omega)
          · rw [if_neg hj2]
            exact u _ _ (by omega) (by omega)
theorem sortG (O : Ord c n) (h2 : 2 ≤ n) : KW c n (kas_sort n) (fun p => Pm n p ∧ Up c p n) := by
  have h0 : Pm n (List.toArray (List.range n)) := ⟨by simp, by simp⟩
  refine KW.bind (KW.mono (fun r h => ?_) (count_ok O h0 h2))
  obtain ⟨h1, h3, hp, u⟩ := h
  by_cases hr : r.1 < n
  · rw [if_pos hr, Nat.max_eq_left h1]
    exact bin_ok O _ hp h1 (by omega) u
  · rw [if_neg hr]
    have : r.1 = n := by omega
    rw [this] at u
    exact ⟨hp, u⟩
end
end HT
set_option Elab.async false
set_option linter.all false
set_option maxRecDepth 100000
namespace L2
open PySem PySem.Spec PyProof.Rows PySem.W
def CodeO (c : Addr) (q : Str) : HO := .ext fun h => h.CodeRec (.ref c) q
def LamAt (P : Addr) (pos : Pos) (q : Str) (H : Hp) (c : Addr) : Prop := H P = some (.tbl #[rawInt pos.line, rawInt pos.col, .ref c]) ∧ H c = some (CodeO c q)
def LamTab (P : Addr) (pos : Pos) (q : Str) (H : Hp) : Prop := H P = some (.tbl #[]) ∨ ∃ c, LamAt P pos q H c
section
variable {P : Program} {w : World} {K : Frag} {mg : Str → Option Value} {base : Heap} {N ps : List Str} {k : Nat} {A : Around} {outer : List Env} {s : Shared} {H : Hp} {us : List Value} {vs : List V} {Q : VK} {E : XK} {f : Addr} {o : Obj}
  {name qual : Str} {params : Arguments} {body : Expr} {scope : Scope} {pm cdv ct : Value} {args : Args}
theorem lam_run (ho : s.heap.get? f = some o) (hd : o.data = .func (kla_fn name qual params body scope [] pm cdv ct)) (hcd : s.heap.CodeRec cdv qual) (S : FnScope N ps scope) (hr : Room (k + 1) A) (e0 : Env0 P w K mg base A outer s H)
    (hb : BindsTo s (kla_fn name qual params body scope [] pm cdv ct) args (ps.zip us)) (hl : vs.length = ps.length) (r : Vals vs us)
    (hbody : ∃ t, PE (cxOf CX0 P w K mg base N qual scope f cdv A outer s H E) body t ∧ t (start N vs) H Q) : codeAny (model P w) A (.call (.ref f) args) (CR CX0 outer P w H s Q E) s := by
  have lim : s.heap.NoLimit := e0.mod.nolimit.keeps fun b o e => (e0.bs b o e).1
  have hkind : ∀ y ∈ ps.zip us, scope.names.lookup y.1 = some .local ∨ (scope.names.lookup y.1 = some .cell ∧ ((cellsFrom (s.heap.objs.size + 1) scope.names []).lookup y.1).isSome = true) := fun ⟨n, v⟩ hy => by
    rcases S.par n (List.of_mem_zip hy).1 with q | q
    · exact .inl q
    · exact .inr ⟨q, PySem.W.cellsFrom_some _ _ _ (.inl q)⟩
  refine kla_callFunE hr.depth ho hd S.co S.gen rfl hcd (hb _ _ _ _ ?_)
  refine wpAny_newFunctionEnv_cells S.kind hkind fun env he s1 x => ?_
  subst he
  refine ⟨lim.keeps x.toInCall.keep, kla_codeExpr ?_⟩
  obtain ⟨t, ht, hq⟩ := hbody
  have I : Inv (cxOf CX0 P w K mg base N qual scope f cdv A outer s H E) [] (start N vs) H s1 := inv_start S hr.hd e0 hl r x
  refine wpAny_mono (ht [] s1 (start N vs) H _ I hq) (fun u s' hs => ?_) fun e s' hs => hs
  obtain ⟨v, H', J, rv, q⟩ := hs
  exact ⟨v, H', J.os, J.bare, J.base, J.hok, rv, q⟩
end
section
variable {X : Cx} {pins : List (Addr × Obj)} {σ : St} {H : Hp} {s : Shared} {params : Arguments} {body : Expr} {scope : Scope} {pos : Pos} {c P : Addr} {Q : Value → Shared → Prop}
theorem lam_make (I : Inv X pins σ H s) (hdef : defaultsOf params X.env = ([], [])) (hcl : closureFor scope X.env = pure []) (hcode : X.env.code = .ref c) (hK : codeHdIn X.K c P = true) (hB : X.base.BuiltinsAt X.mg P) (hgP : mainGlobals ≠ P)
    (hT : LamTab P pos (X.env.qual ++ "<lambda>") H)
    (h : ∀ (f c' : Addr) (H' : Hp) (s' : Shared) (pm ct : Value), Inv X pins σ H' s' → LamAt P pos (X.env.qual ++ "<lambda>") H' c' → s'.heap.get? f = some (kla_obj "<lambda>" (X.env.qual ++ "<lambda>") params body scope [] pm c' ct) → H' f = none → s.heap.objs.size ≤ f →
      (∀ b u, b ≠ P → H b = some u → H' b = some u) → Q (.ref f) s') :
    wpAny (model X.prog X.w) X.A (eval (.Lambda params body scope pos) X.env) Q X.xe s := by
  have C : CodeHd s.heap c P := codeHd_of_K I.kIn hK
  have hg : s.heap.Ns mainGlobals X.mg := I.mod.glob.keeps I.bk
  have hb : s.heap.BuiltinsAt X.mg P := by
    obtain ⟨bm, o, b1, b2, b3, b4, b5, b6, b7, b8⟩ := hB
    exact ⟨bm, o, b1, b2, b3, b4, I.bk _ _ b5, b6, b7, b8⟩
  refine kla_eval hdef ?_
  rcases hT with hP | ⟨c', hP, hc'⟩
  · have hPo : s.heap.get? P = some (tabObj #[]) := I.hok P _ hP
    refine kla_makeFunction hcl I.ok.glob hg hcode C hPo (show TriplesOk [] from trivial) rfl hgP hb fun c' ct h' tk hx hge hlt hrec htb => ?_
    have htb' : h'.get? P = some (tabObj #[rawInt pos.line, rawInt pos.col, .ref c']) := htb
    have hPc : P ≠ c' := fun z => by
      have := Heap.lt_size hPo
      rw [z] at this
      exact absurd (Nat.lt_of_lt_of_le this hge) (Nat.lt_irrefl _)
    have hHc : H c' = none := I.hok.fresh hge
    have old : ∀ b o, b ≠ P → s.heap.get? b = some o → (h'.push (kla_obj "<lambda>" (X.env.qual ++ "<lambda>") params body scope [] ((X.mg "__name__").getD .none) c' ct)).get? b = some o := fun b o hb e => Heap.get?_push_of_some _ (hx b o hb e)
    have nP : ∀ b, H b = none → b ≠ P := fun b n z => by rw [z, hP] at n; cases n
    have up : ∀ b u, b ≠ P → H b = some u → upd (upd H P (.tbl #[rawInt pos.line, rawInt pos.col, .ref c'])) c' (CodeO c' (X.env.qual ++ "<lambda>")) b = some u := fun b u hb e => by
      rw [upd_ne (fun z => by rw [z, hHc] at e; cases e), upd_ne hb]; exact e
    have upn : ∀ b, b ≠ P → b ≠ c' → H b = none → upd (upd H P (.tbl #[rawInt pos.line, rawInt pos.col, .ref c'])) c' (CodeO c' (X.env.qual ++ "<lambda>")) b = none := fun b h1 h2 e => by
      rw [upd_ne h2, upd_ne h1]; exact e
    have J : Inv X pins σ (upd (upd H P (.tbl #[rawInt pos.line, rawInt pos.col, .ref c'])) c' (CodeO c' (X.env.qual ++ "<lambda>"))) { s with heap := h'.push (kla_obj "<lambda>" (X.env.qual ++ "<lambda>") params body scope [] ((X.mg "__name__").getD .none) c' ct), toks := tk } := by
      refine I.un ⟨fun b o e n _ _ => old b o (nP b n) e, fun b o e n _ _ => ⟨o.slots, old b o (nP b n) e⟩, fun b o e n _ => upn b (nP b n) (Nat.ne_of_lt (Nat.lt_of_lt_of_le (Heap.lt_size e) hge)) n, fun b o e _ => ?_, fun b xs e => up b _ (fun z => by rw [z, hP] at e; cases e) e, fun b o u e => up b _ (fun z => by rw [z, hP] at e; cases e) e, fun b ps e => ?_⟩ ?_
      · by_cases hb : b = P
        · rw [hb]; exact ⟨_, Heap.get?_push_of_some _ htb'⟩
        · exact ⟨o, old b o hb e⟩
      · by_cases hb : b = P
        · rw [hb] at e ⊢
          rw [hP] at e
          cases e
          exact ⟨#[rawInt pos.line, rawInt pos.col, .ref c'], by rw [upd_ne hPc, upd_same]; rfl⟩
        · exact ⟨#[], by rw [up b _ hb e]; simp⟩
      · intro b u e
        by_cases hbc : b = c'
        · subst hbc
          rw [upd_same] at e
          cases e
          obtain ⟨c2, oc, vs, t, e1, e2, e3, e4⟩ := id hrec
          cases e1
          have q := Heap.get?_push_of_some (kla_obj "<lambda>" (X.env.qual ++ "<lambda>") params body scope [] ((X.mg "__name__").getD .none) b ct) e2
          refine ⟨⟨b, oc, vs, t, rfl, q, e3, e4⟩, ⟨oc, q⟩, fun h1 h2 ⟨c3, o3, v3, t3, a1, a2, a3, a4⟩ k => ?_⟩
          cases a1
          exact ⟨b, o3, v3, t3, rfl, k _ a2, a3, a4⟩
        · rw [upd_ne hbc] at e
          by_cases hbP : b = P
          · rw [hbP] at e ⊢
            rw [upd_same] at e
            cases e
            exact Heap.get?_push_of_some _ htb'
          · rw [upd_ne hbP] at e
            refine (I.hok b u e).stay (fun d v hd q => old d v ?_ q) (fun d q => ?_) fun d xs q => ?_
            · rcases hd with rfl | hd
              · exact hbP
              · intro z; rw [z, hP] at hd; cases hd
            · exact up d _ (fun z => by rw [z, hP] at q; cases q) q
            · exact up d _ (fun z => by rw [z, hP] at q; cases q) q
    have hsz : s.heap.objs.size ≤ h'.objs.size := Nat.le_of_lt (Nat.lt_of_le_of_lt hge hlt)
    refine h _ c' _ _ _ ct J ⟨by rw [upd_ne hPc, upd_same], upd_same⟩ (Heap.get?_push_size _ rfl) ?_ hsz up
    exact upn _ (Nat.ne_of_gt (Nat.lt_of_lt_of_le (Heap.lt_size hPo) hsz)) (Nat.ne_of_gt hlt) (I.hok.fresh hsz)
  · have hPo : s.heap.get? P = some (tabObj #[rawInt pos.line, rawInt pos.col, .ref c']) := I.hok P _ hP
    refine kla_makeFunctionHit hcl I.ok.glob hg hcode C hPo (show TriplesOk [rawInt pos.line, rawInt pos.col, .ref c'] from trivial) (cv := .ref c') ?_ hb fun ct h' tk hk hsz => ?_
    · have := codeAmong_snoc (pos := pos) (c := .ref c') [] trivial rfl
      exact this
    · exact h _ c' H _ _ ct (I.kept (t' := tk) fun b u e => Heap.get?_push_of_some _ (hk b u e)) ⟨hP, hc'⟩ (Heap.get?_push_size _ rfl) (I.hok.fresh hsz) hsz (fun b u _ e => e)
end
end L2
set_option Elab.async false
set_option linter.all false
set_option maxRecDepth 100000
namespace HT
def kLess (a b : List Int) : Bool := if a.length = b.length then lexLt a b else decide (a.length < b.length)
theorem kLess_irrefl (a : List Int) : kLess a a = false := by unfold kLess; rw [if_pos rfl, lexLt_irrefl]
theorem kLess_trans (a b c : List Int) (h1 : kLess a b = true) (h2 : kLess b c = true) : kLess a c = true := by
  unfold kLess at *
  by_cases e1 : a.length = b.length
  · rw [if_pos e1] at h1
    by_cases e2 : b.length = c.length
    · rw [if_pos e2] at h2
      rw [if_pos (e1.trans e2)]
      exact lexLt_trans a b c h1 h2
    · rw [if_neg e2] at h2
      rw [if_neg (by omega)]
      have := of_decide_eq_true h2
      exact decide_eq_true (by omega)
  · rw [if_neg e1] at h1
    have h1' := of_decide_eq_true h1
    by_cases e2 : b.length = c.length
    · rw [if_neg (by omega)]
      exact decide_eq_true (by omega)
    · rw [if_neg e2] at h2
      have := of_decide_eq_true h2
      rw [if_neg (by omega)]
      exact decide_eq_true (by omega)
theorem kLess_flip (a b : List Int) (h : a ≠ b) : kLess b a = !kLess a b := by
  unfold kLess
  by_cases e : a.length = b.length
  · rw [if_pos e, if_pos e.symm, lexLt_flip a b h]
  · rw [if_neg e, if_neg (Ne.symm e), Bool.eq_iff_iff]
    simp
    omega
theorem kOrd {ls : List (List Int)} (nd : ls.Nodup) : Ord (fun i j => kLess (ls.getD i []) (ls.getD j [])) ls.length := by
  have ge : ∀ i, (h : i < ls.length) → ls.getD i [] = ls[i] := fun i h => by rw [List.getD_eq_getElem?_getD, List.getElem?_eq_getElem h]; rfl
  refine ⟨fun i j k _ _ _ h1 h2 => kLess_trans _ _ _ h1 h2, fun i j hi hj hij h => ?_, fun i j hi hj h => ?_⟩
  · have ne : ls.getD i [] ≠ ls.getD j [] := fun z => by
      rw [ge i hi, ge j hj] at z
      exact hij ((List.getElem_inj nd).mp z)
    have := kLess_flip _ _ ne
    rw [h] at this
    exact this
  · cases e : kLess (ls.getD j []) (ls.getD i []) with
    | false => rfl
    | true =>
      have := kLess_trans _ _ _ h e
      rw [kLess_irrefl] at this
      cases this
end HT
namespace L2
open PySem PySem.Spec PyProof.Rows PySem.W
section
variable {X : Cx} {pins : List (Addr × Obj)} {σ : St} {H : Hp} {s : Shared}
theorem key_at (I : Inv X pins σ H s) {p z : Addr} {n : Int} (h : H p = some (.tup [.int n, .ref z])) : ∃ (t : Tok) (o : Obj) (m : Nat), s.heap.get? p = some o ∧ o.cls = .type "tuple" ∧ o.data = .seq #[.int n t, .ref z] m := by
  obtain ⟨_, its, r, o, e, hc, m, hd⟩ := I.hok p _ h
  cases r with
  | cons r1 r2 =>
    cases r2 with
    | cons r3 r4 =>
      cases r4
      obtain ⟨t, rfl⟩ := r1
      cases r3
      exact ⟨t, o, m, e, hc, hd⟩
theorem key_lt (I : Inv X pins σ H s) {A : Around} {p q za zb : Addr} {as bs : List Int} (hp : H p = some (.tup [.int as.length, .ref za])) (hq : H q = some (.tup [.int bs.length, .ref zb])) (ha : H za = some (.lst (as.map V.int))) (hb : H zb = some (.lst (bs.map V.int)))
    (hu : A.units + 2 < cLine) {Q : Bool → Shared → Prop} {E : Value → Shared → Prop} (h : Q (HT.kLess as bs) s) : wpAny (model X.prog X.w) A (keyLt' (tuples' true) (.ref p) (.ref q)) Q E s := by
  obtain ⟨t, o, m, e, _, hd⟩ := key_at I hp
  obtain ⟨t', o', m', e', _, hd'⟩ := key_at I hq
  refine kat_lt e hd e' hd' ?_
  refine kat_cons (wpAny_eqBool_int ?_)
  unfold HT.kLess at h
  by_cases hl : as.length = bs.length
  · rw [if_pos hl] at h
    have e1 : ((as.length : Int) == (bs.length : Int)) = true := by rw [hl]; simp
    rw [e1]
    refine kat_yes (kat_cons ?_)
    refine (tr_cmps I (A := A) 1 (t := tInts as) (u := tInts bs) (v := .ref za) (w := .ref zb) (by rw [tdep_tInts]; exact Nat.le_refl _) (TrAt.ints (SqL.of ha)) (TrAt.ints (SqL.of hb)) rfl rfl (by omega)).eq _ _ _ _ ?_
    rw [teq_ints]
    by_cases hab : as = bs
    · rw [decide_eq_true hab]
      refine kat_yes (kat_nil ?_)
      rw [hab, HT.lexLt_irrefl] at h
      exact h
    · rw [decide_eq_false hab]
      refine kat_no (kat_one _ _ ?_)
      obtain ⟨its, r1, p1, _⟩ := I.list (SqL.of ha)
      obtain ⟨its2, r2, p2, _⟩ := I.list (SqL.of hb)
      exact HT.lt_listInts p1.isList p2.isList (by simpa using intsAre_of r1) (by simpa using intsAre_of r2) (by omega) h
  · rw [if_neg hl] at h
    have e1 : ((as.length : Int) == (bs.length : Int)) = false := by simp; omega
    rw [e1]
    refine kat_no ?_
    refine oneLt_int ?_
    have : decide ((as.length : Int) < (bs.length : Int)) = decide (as.length < bs.length) := by
      rw [Bool.eq_iff_iff]; simp
    rw [this]
    exact h
end
end L2
set_option Elab.async false
set_option linter.all false
set_option maxRecDepth 100000
set_option maxHeartbeats 4000000
namespace L2
open PySem PySem.Spec PyProof.Rows PySem.W
section
variable {X : Cx} {pins : List (Addr × Obj)} {σ : St} {H : Hp} {s : Shared}
structure Late (X : Cx) (pins : List (Addr × Obj)) (n : Nat) (a : Addr) : Prop where
  s0 : X.s₀.heap.objs.size ≤ a
  lo : a ≠ X.env.locals
  ce : ∀ x c, X.env.cells.lookup x = some c → c ≠ a
  fs : a ∉ X.fs
  pn : ∀ p ∈ X.pn ++ pins, p.1 ≠ a
  ge : n ≤ a
theorem Inv.late (I : Inv X pins σ H s) {a : Addr} (h : s.heap.objs.size ≤ a) : Late X pins s.heap.objs.size a :=
  ⟨Nat.le_trans I.sz h, Nat.ne_of_gt (Nat.lt_of_lt_of_le I.lt h), fun x c e z => by
    obtain ⟨v, o, ho, _⟩ := I.cell x c e
    rw [z] at ho
    exact absurd (Nat.lt_of_lt_of_le (Heap.lt_size ho) h) (Nat.lt_irrefl _), I.nofs h, fun p hp z => by
    obtain ⟨e, _⟩ := I.pin p hp
    rw [z] at e
    exact absurd (Nat.lt_of_lt_of_le (Heap.lt_size e) h) (Nat.lt_irrefl _), h⟩
theorem Inv.tell {a : Addr} {xs : List V} {its : List Value} {n : Nat} {h' : Heap} {t' : Nat} (I : Inv X pins σ H s) {m : Nat} (L : Late X pins m a) (hn : H a = none) (k : ∀ b o, b ≠ a → s.heap.get? b = some o → h'.get? b = some o)
    (hv : Vals xs its) (hz : xs.length ≤ sizeLine) (ha : h'.get? a = some (seqObj "list" its.toArray n)) : Inv X pins σ (upd H a (.lst xs)) { s with heap := h', toks := t' } := by
  have na : ∀ b u, H b = some u → b ≠ a := fun b u e z => by rw [z, hn] at e; cases e
  refine I.step (g' := s.gens) (d' := s.drawn) (ch := [a]) (fun b hb => ?_) (fun b o _ _ hc e _ => k b o (fun z => hc (by simp [z])) e) (fun b o _ _ hc e _ => ⟨o.slots, k b o (fun z => hc (by simp [z])) e⟩) (fun b o hc e n => by rw [upd_ne (fun z => hc (by simp [z]))]; exact n)
    (fun b o hc e => ⟨o, k b o (fun z => hc (by simp [z])) e⟩) (fun b xs e => by rw [upd_ne (na b _ e)]; exact e) (fun b o u e => by rw [upd_ne (na b _ e)]; exact e) (fun b ps e => ⟨#[], by rw [upd_ne (na b _ e), e]; simp⟩) (fun m hm => ?_) (fun b u e => ?_) I.bare
  · have e : b = a := by simpa using hb
    subst e
    exact ⟨.inr L.s0, L.lo, L.ce, L.pn⟩
  · obtain ⟨o, es, ep, ho, r⟩ := hm
    exact ⟨o, es, ep, k _ o (Ne.symm L.lo) ho, r⟩
  · by_cases hb : b = a
    · subst hb
      rw [upd_same] at e
      cases e
      exact ⟨hz, its, n, hv, ha⟩
    · rw [upd_ne hb] at e
      refine (I.hok b u e).stay (fun c v hc q => k c v ?_ q) (fun c q => by rw [upd_ne (na c _ q)]; exact q) fun c xs q => by rw [upd_ne (na c _ q)]; exact q
      rcases hc with rfl | hc
      · exact hb
      · exact na c _ hc
def Keyed' (H : Hp) (zs : List (Addr × List Int)) (pl : List Addr) : Prop := ∀ j z, zs[j]? = some z → j < pl.length → ∃ p, pl[j]? = some p ∧ H p = some (.tup [.int z.2.length, .ref z.1])
theorem kat_tups (I : Inv X pins σ H s) : ∀ pl : List Addr, (∀ p ∈ pl, ∃ (n : Int) (z : Addr), H p = some (.tup [.int n, .ref z])) → ∃ fs : List Value, KatTups s.heap (pl.map Value.ref) fs ∧ fs.length = pl.length ∧ ∀ v ∈ fs, ∃ n t, v = Value.int n t
  | [], _ => ⟨[], KatTups.nil, rfl, fun v hv => by cases hv⟩
  | p :: pl, h => by
    obtain ⟨fs, h1, h2, h3⟩ := kat_tups I pl fun q hq => h q (.tail _ hq)
    obtain ⟨n, z, e⟩ := h p (.head _)
    obtain ⟨t, o, m, e1, e2, e3⟩ := key_at I e
    refine ⟨.int n t :: fs, KatTups.cons e1 e2 e3 rfl h1, by simp [h2], fun v hv => ?_⟩
    rcases List.mem_cons.mp hv with rfl | hv
    · exact ⟨n, t, rfl⟩
    · exact h3 v hv
theorem ksk_late {zs : List (Addr × List Int)} {f kS a : Addr} {fo : Obj} {e1 : Nat} {A : Around} {P : PySem.Fin → Shared → Prop} {E : Value → Shared → Prop} {n : Nat}
    (I : Inv X ((f, fo) :: (a, seqObj "list" #[] e1) :: pins) σ H s) (La : Late X pins n a) (Lk : Late X ((f, fo) :: (a, seqObj "list" #[] e1) :: pins) n kS) (hkS : s.heap.get? kS = some (seqObj "list" #[] 0)) (hkn : H kS = none)
    (hz : ∀ z ∈ zs, H z.1 = some (.lst (z.2.map V.int))) (nd : (zs.map (·.2)).Nodup) (h60 : zs.length ≤ 60) (hu : A.units + 2 < cLine)
    (turn : ∀ (H' : Hp) (s' : Shared) (pins' : List (Addr × Obj)) (z : Addr × List Int), Inv X pins' σ H' s' → (f, fo) ∈ pins' → Same H H' → z ∈ zs →
      wpAny (model X.prog X.w) A (call (.ref f) [.ref z.1]) (EP X pins' σ fun v H2 => ∃ p, v = .ref p ∧ H' p = none ∧ H2 = upd H' p (.tup [.int z.2.length, .ref z.1])) (fun _ _ => False) s')
    (done : ∀ (H' : Hp) (s' : Shared) (zs' : List (Addr × List Int)), Inv X pins σ (upd H' a (.lst (zs'.map fun z => V.ref z.1))) s' → Same H H' → H' a = none → zs'.Perm zs → zs'.Pairwise (fun x y => HT.kLess x.2 y.2 = true) → P (.done (.ret .none)) s') :
    wpAny (model X.prog X.w) A (ksk_rest a (.ref f) false (zs.map fun z => Value.ref z.1).toArray e1 (.ref kS)) P E s := by
  unfold ksk_rest
  refine wpAny_bind (wpAny_rule ?_)
  first
    | rw [List.forIn_toArray]
    | (rw [← Array.forIn_toList]; simp only [List.toList_toArray])
    | rw [← Array.forIn_toList]
  refine wpAny_bind (ksk_fold (fun i s' => ∃ (H' : Hp) (pl : List Addr) (e : Nat), Inv X ((f, fo) :: (a, seqObj "list" #[] e1) :: pins) σ H' s' ∧ s'.heap.get? kS = some (seqObj "list" (pl.map Value.ref).toArray e) ∧ H' kS = none ∧ pl.length = i ∧ Keyed' H' zs pl ∧ Same H H') (zs.map fun z => Value.ref z.1) 0 s
    ⟨H, [], 0, I, hkS, hkn, rfl, fun j z _ h => by simp at h, Same.refl _⟩ ?step ?fin)
  case step =>
    rintro j x s' hx ⟨H', pl, e, I', hk', hkn', hpl, hkeys, sm⟩
    rw [Nat.zero_add] at hpl ⊢
    rw [List.getElem?_map] at hx
    obtain ⟨z, hzj, ez⟩ := Option.map_eq_some_iff.mp hx
    subst ez
    have hzm := List.mem_of_getElem? hzj
    have hj : j < zs.length := (List.getElem?_eq_some_iff.mp hzj).1
    have I2 : Inv X ((kS, seqObj "list" (pl.map Value.ref).toArray e) :: (f, fo) :: (a, seqObj "list" #[] e1) :: pins) σ H' s' := I'.pins_of fun p hp => by
      rcases List.mem_cons.mp hp with rfl | hp
      · exact ⟨hk', hkn', Lk.lo, Lk.fs, fun v z => by cases z⟩
      · exact I'.pin p (List.mem_append_right _ hp)
    refine wpAny_bind (wpAny_attempt (wpAny_mono (turn H' s' _ z I2 (by simp) sm hzm) (fun v s'' he => ?_) fun _ _ hF => hF.elim))
    obtain ⟨v', H2, I3, rv, p, rfl, hpf, rfl⟩ := he
    cases rv
    have pk := I3.pin (kS, seqObj "list" (pl.map Value.ref).toArray e) (List.mem_append_right _ (.head _))
    have I4 : Inv X ((f, fo) :: (a, seqObj "list" #[] e1) :: pins) σ (upd H' p (.tup [.int z.2.length, .ref z.1])) s'' := I3.pins_of fun q hq => I3.pin q (List.mem_append_right _ (.tail _ hq))
    obtain ⟨c2, hc2⟩ : ∃ c2, (s''.heap.update kS (Obj.mapSeq (·.push (.ref p)))).get? kS = some (seqObj "list" ((pl.map Value.ref).toArray.push (.ref p)) c2) := ⟨_, get?_update_seq pk.1 (·.push (.ref p))⟩
    have hsl : (pl.map Value.ref).toArray.size ≤ 60 := by rw [List.size_toArray, List.length_map]; omega
    dsimp only
    refine wpAny_bind (listUpdate_at pk.1 rfl ?_ (Nat.le_trans hsl (by decide)) (by rw [Array.size_push]; exact Nat.le_trans (Nat.succ_le_succ hsl) (by decide)))
    refine wpAny_pure ⟨rfl, _, pl ++ [p], c2, I4.turned (t' := s''.toks) (fun b o hb q => ?_) pk.2.1 Lk.lo (.inr Lk.s0) Lk.ce Lk.pn, ?_, pk.2.1, by rw [List.length_append, List.length_singleton, hpl], fun i y hy hi => ?_, sm.trans (same_upd hpf)⟩
    · rw [Heap.get?_update_other _ _ (Ne.symm hb)]; exact q
    · rw [hc2]; simp
    · by_cases hlt : i < pl.length
      · obtain ⟨p', e1', e2'⟩ := hkeys i y hy hlt
        exact ⟨p', by rw [List.getElem?_append_left hlt]; exact e1', by rw [upd_ne (ne_of_none e2' hpf)]; exact e2'⟩
      · have ei : i = pl.length := by rw [List.length_append, List.length_singleton] at hi; omega
        have ej : i = j := by omega
        rw [ej, hzj] at hy
        cases hy
        exact ⟨p, by rw [ei]; simp, upd_same⟩
  case fin =>
    rintro s' ⟨H', pl, e, I', hk', hkn', hpl, hkeys, sm⟩
    rw [Nat.zero_add, List.length_map] at hpl
    try dsimp only
    refine wpAny_bind (listItems_at hk' rfl ?_)
    have ga := I'.pin (a, seqObj "list" #[] e1) (List.mem_append_right _ (.tail _ (.head _)))
    have Ip : Inv X pins σ H' s' := I'.pins_of fun q hq => I'.pin q (by
      rcases List.mem_append.mp (List.mem_append_right X.pn hq) with h | h
      · exact List.mem_append_left _ h
      · exact List.mem_append_right _ (.tail _ (.tail _ h)))
    have nka : kS ≠ a := fun z => Lk.pn (a, seqObj "list" #[] e1) (List.mem_append_right _ (.tail _ (.head _))) z.symm
    have tail : ∀ (st : SortSt) (zs' : List (Addr × List Int)), (arrOf st).map (·.2) = (zs'.map fun z => Value.ref z.1).toArray → failedOf st = none → zs'.Perm zs → zs'.Pairwise (fun x y => HT.kLess x.2 y.2 = true) →
        wpAny (model X.prog X.w) A (ksk_tail a false e1 (.ref kS) st) P E s' := by
      intro st zs' hout hfl pm pw
      have hlen : zs'.length ≤ 60 := by rw [pm.length_eq]; exact h60
      have s1 := Heap.SameBut.update s'.heap kS (Obj.mapSeq fun _ => (#[] : Array Value))
      have na1 : (s'.heap.update kS (Obj.mapSeq fun _ => (#[] : Array Value))).get? a = some (seqObj "list" #[] e1) := (s1.2 a nka.symm).trans ga.1
      obtain ⟨c2, hc2⟩ : ∃ c2, ((s'.heap.update kS (Obj.mapSeq fun _ => (#[] : Array Value))).update a (Obj.mapSeq fun _ => (zs'.map fun z => Value.ref z.1).toArray)).get? a = some (seqObj "list" (zs'.map fun z => Value.ref z.1).toArray c2) :=
        ⟨_, get?_update_seq na1 fun _ => (zs'.map fun z => Value.ref z.1).toArray⟩
      have I5 : Inv X pins σ H' { s' with heap := s'.heap.update kS (Obj.mapSeq fun _ => (#[] : Array Value)), toks := s'.toks } := Ip.turned (fun b o hb q => by rw [Heap.get?_update_other _ _ (Ne.symm hb)]; exact q) hkn' Lk.lo (.inr Lk.s0) Lk.ce (fun q hq => Lk.pn q (by
        rcases List.mem_append.mp hq with h | h
        · exact List.mem_append_left _ h
        · exact List.mem_append_right _ (.tail _ (.tail _ h))))
      have I6 := I5.tell (t' := s'.toks) (h' := (s'.heap.update kS (Obj.mapSeq fun _ => (#[] : Array Value))).update a (Obj.mapSeq fun _ => (zs'.map fun z => Value.ref z.1).toArray)) La ga.2.1 (fun b o hb q => by rw [Heap.get?_update_other _ _ (Ne.symm hb)]; exact q) (refs_vals zs') (by rw [List.length_map]; exact Nat.le_trans hlen (by decide)) hc2
      unfold ksk_tail
      try dsimp only
      refine wpAny_bind (listUpdate_at hk' rfl ?_ (by rw [List.size_toArray, List.length_map, hpl]; exact Nat.le_trans h60 (by decide)) (Nat.zero_le _))
      refine wpAny_bind (wpAny_letGo ?_)
      refine wpAny_bind (seqEpoch_at na1 rfl ?_)
      simp only [Bool.false_eq_true, if_false]
      rw [hout]
      refine wpAny_bind (listUpdate_at na1 rfl ?_ (Nat.zero_le _) (by rw [List.size_toArray, List.length_map]; exact Nat.le_trans hlen (by decide)))
      rw [hfl]
      simp only [bne_self_eq_false, Bool.false_eq_true, if_false]
      exact wpAny_pure (done H' _ zs' I6 sm ga.2.1 pm pw)
    unfold ksk_end
    try dsimp only
    simp only [Bool.false_eq_true, if_false]
    have hvl : (zs.map fun z => Value.ref z.1).toArray.size = zs.length := by rw [List.size_toArray, List.length_map]
    by_cases h2 : (zs.map fun z => Value.ref z.1).toArray.size < 2
    · rw [if_pos h2, if_pos h2]
      refine wpAny_bind (wpAny_pure ?_)
      rw [StateT.run_pure]
      refine wpAny_bind (wpAny_pure ?_)
      try dsimp only
      refine tail _ zs ?_ rfl (List.Perm.refl _) ?_
      · show (((pl.map Value.ref).toArray.zip (zs.map fun z => Value.ref z.1).toArray).map (·.2)) = _
        apply Array.toList_inj.mp
        rw [Array.toList_map, Array.toList_zip, List.map_snd_zip (by simp [hpl])]
      · rw [hvl] at h2
        match zs, h2 with
        | [], _ => exact .nil
        | [_], _ => exact List.pairwise_singleton _ _
    · rw [if_neg h2, if_neg h2]
      rw [hvl] at h2
      have hkl : (pl.map Value.ref).length = (zs.map fun z => Value.ref z.1).length := by rw [List.length_map, List.length_map, hpl]
      have hk2 : ∀ j, j < zs.length → ∃ p, pl[j]? = some p ∧ H' p = some (.tup [.int (zs.getD j (0, [])).2.length, .ref (zs.getD j (0, [])).1]) ∧ zs.getD j (0, []) ∈ zs := fun j hj => by
        have e : zs.getD j (0, []) = zs[j] := by rw [List.getD_eq_getElem?_getD, List.getElem?_eq_getElem hj]; rfl
        rw [e]
        obtain ⟨p, e1, e2⟩ := hkeys j zs[j] (List.getElem?_eq_getElem hj) (by omega)
        exact ⟨p, e1, e2, List.getElem_mem hj⟩
      obtain ⟨fs, ht, hfl, hfi⟩ := kat_tups I' pl fun p hp => by
        obtain ⟨j, hj, rfl⟩ := List.getElem_of_mem hp
        obtain ⟨p', e1, e2, _⟩ := hk2 j (by omega)
        rw [List.getElem?_eq_getElem hj] at e1
        cases e1
        exact ⟨_, _, e2⟩
      refine wpAny_bind (kat_kind (T := .type "int") ht (by omega) (fun v hv => ?_) (by decide) ?_)
      · obtain ⟨n, t, rfl⟩ := hfi v hv
        exact Looks.of_pure rfl
      have ls2 : (zs.map (·.2)).length = zs.length := List.length_map ..
      have ask : (kas_sort (zs.map fun z => Value.ref z.1).length).kasWp (kas_ask X.prog X.w A (tuples' true) (pl.map Value.ref)) (fun p s'' => s'' = s' ∧ (HT.Pm zs.length p ∧ HT.Up (fun i j => HT.kLess ((zs.map (·.2)).getD i []) ((zs.map (·.2)).getD j [])) p zs.length)) s' := by
        rw [List.length_map]
        have O := HT.kOrd nd
        rw [ls2] at O
        refine HT.KW.wp (n := zs.length) (fun i j C hi hj hC => ?_) _ (HT.sortG O (by omega))
        obtain ⟨p, e1, e2, e3⟩ := hk2 i hi
        obtain ⟨q, d1, d2, d3⟩ := hk2 j hj
        have ei : (zs.map (·.2)).getD i [] = (zs.getD i (0, [])).2 := by rw [List.getD_eq_getElem?_getD, List.getD_eq_getElem?_getD, List.getElem?_map, List.getElem?_eq_getElem hi]; rfl
        have ej : (zs.map (·.2)).getD j [] = (zs.getD j (0, [])).2 := by rw [List.getD_eq_getElem?_getD, List.getD_eq_getElem?_getD, List.getElem?_map, List.getElem?_eq_getElem hj]; rfl
        have gi : (pl.map Value.ref).getD i Value.none = .ref p := by rw [List.getD_eq_getElem?_getD, List.getElem?_map, e1]; rfl
        have gj : (pl.map Value.ref).getD j Value.none = .ref q := by rw [List.getD_eq_getElem?_getD, List.getElem?_map, d1]; rfl
        unfold kas_ask
        rw [gi, gj]
        refine key_lt I' e2 d2 (sm _ _ (hz _ e3)) (sm _ _ (hz _ d3)) hu ?_
        try dsimp only at hC
        rw [ei, ej] at hC
        exact hC
      have eT : (Value.type "int" != Value.type "tuple") = true := by decide
      rw [eT]
      refine wpAny_bind (wpAny_mono (kat_run (ks := pl.map Value.ref) (vs := zs.map fun z => Value.ref z.1) (Q := fun st' s'' => ∃ p : Array Nat, s'' = s' ∧ arrOf st' = p.map (kas_item ((pl.map Value.ref).toArray.zip (zs.map fun z => Value.ref z.1).toArray)) ∧ failedOf st' = none ∧ HT.Pm zs.length p ∧ HT.Up (fun i j => HT.kLess ((zs.map (·.2)).getD i []) ((zs.map (·.2)).getD j [])) p zs.length)
        hkl (by rw [List.length_map]; omega) (by rw [List.length_map]; omega) (fun p st' s'' _ a2 a3 a4 => ⟨p, a4.1, a2, a3, a4.2⟩) ask) ?_ fun _ _ e => e)
      rintro ⟨⟨⟩, st'⟩ s'' ⟨p, rfl, har, hfl2, hpm, hup⟩
      try dsimp only
      have hout := kat_snds hkl har
      have hpl2 : p.toList.length = zs.length := by rw [hpm.pm.length_eq, List.length_range]
      refine tail st' (p.toList.map fun i => zs.getD i (0, [])) ?_ hfl2 (HT.perm_getD _ zs hpm.pm) ?_
      · rw [hout, List.map_map]
        congr 1
        refine List.map_congr_left fun i hi => ?_
        have hi' := List.mem_range.mp (hpm.pm.mem_iff.mp hi)
        show _ = Value.ref (zs.getD i (0, [])).1
        rw [List.getD_eq_getElem?_getD, List.getD_eq_getElem?_getD, List.getElem?_map, List.getElem?_eq_getElem hi']; rfl
      · rw [List.pairwise_map, List.pairwise_iff_getElem]
        intro i j hi hj hij
        have q1 := hup i j hij (by omega)
        have e1 : p.getD i 0 = p.toList[i] := by
          have : i < p.size := by rw [hpm.sz]; omega
          simp [Array.getD, this]
        have e2 : p.getD j 0 = p.toList[j] := by
          have : j < p.size := by rw [hpm.sz]; omega
          simp [Array.getD, this]
        rw [e1, e2] at q1
        have m1 := List.mem_range.mp (hpm.pm.mem_iff.mp (List.getElem_mem hi))
        have m2 := List.mem_range.mp (hpm.pm.mem_iff.mp (List.getElem_mem hj))
        have ei : (zs.map (·.2)).getD p.toList[i] [] = (zs.getD p.toList[i] (0, [])).2 := by rw [List.getD_eq_getElem?_getD, List.getD_eq_getElem?_getD, List.getElem?_map, List.getElem?_eq_getElem m1]; rfl
        have ej : (zs.map (·.2)).getD p.toList[j] [] = (zs.getD p.toList[j] (0, [])).2 := by rw [List.getD_eq_getElem?_getD, List.getD_eq_getElem?_getD, List.getElem?_map, List.getElem?_eq_getElem m2]; rfl
        try dsimp only at q1
        rw [ei, ej] at q1
        exact q1
end
end L2
set_option Elab.async false
set_option linter.all false
set_option maxRecDepth 100000
set_option maxHeartbeats 4000000
namespace L2
open PySem PySem.Spec PyProof.Rows PySem.W
section
variable {X : Cx} {pins : List (Addr × Obj)} {σ : St} {H : Hp} {s : Shared}
theorem sorted_late {zs : List (Addr × List Int)} {f l : Addr} {fo : Obj} {Q : VK} (I : Inv X ((f, fo) :: pins) σ H s) (hl : H l = some (.lst (zs.map fun z => V.ref z.1))) (hz : ∀ z ∈ zs, H z.1 = some (.lst (z.2.map V.int))) (nd : (zs.map (·.2)).Nodup) (h60 : zs.length ≤ 60)
    (hu : X.A.in1.in1.units + 2 < cLine)
    (turn : ∀ (H' : Hp) (s' : Shared) (pins' : List (Addr × Obj)) (z : Addr × List Int), Inv X pins' σ H' s' → (f, fo) ∈ pins' → Same H H' → z ∈ zs →
      wpAny (model X.prog X.w) X.A.in1.in1 (call (.ref f) [.ref z.1]) (EP X pins' σ fun v H2 => ∃ p, v = .ref p ∧ H' p = none ∧ H2 = upd H' p (.tup [.int z.2.length, .ref z.1])) (fun _ _ => False) s')
    (q : ∀ (D : Addr) (H' : Hp) (zs' : List (Addr × List Int)), H D = none → Same H H' → H' D = none → zs'.Perm zs → zs'.Pairwise (fun x y => HT.kLess x.2 y.2 = true) → Q (.ref D) (upd H' D (.lst (zs'.map fun z => V.ref z.1)))) :
    wpAny (model X.prog X.w) X.A (call (.builtin "sorted") [.ref l] [(Str.ofString "key", .ref f)]) (EP X pins σ Q) X.xe s := by
  obtain ⟨its, r1, p1, _⟩ := I.list (SqL.of hl)
  have e1 := vals_refs r1
  subst e1
  have hvl : (zs.map fun z => Value.ref z.1).length = zs.length := List.length_map ..
  have hsl : (zs.map fun z => Value.ref z.1).length ≤ sizeLine := by rw [hvl, sizeLine_eq]; omega
  refine call_function_entry_kw kind_sorted plain_sorted entry_sorted (ksk_s1 _ _) ?_
  unfold Builtin.«sorted»
  refine wpAny_bind (m := checkCount "sorted" 1 1 _) (wpAny_pure (wpAny_bind (collect_list p1.isList (wpAny_bind (wpAny_newList ?_ hsl)) hsl)))
  generalize hB : (s.heap.push (seqObj "list" #[] 0)).update s.heap.objs.size (Obj.mapSeq (· ++ (zs.map fun z => Value.ref z.1).toArray)) = B
  have hsz : B.objs.size = s.heap.objs.size + 1 := by rw [← hB, Heap.size_update, size_push']
  have keep : ∀ b o, s.heap.get? b = some o → (B.push (seqObj "list" (zs.map fun z => Value.ref z.1).toArray 0)).get? b = some o := fun b o q => by
    have hlt : b < s.heap.objs.size := Heap.lt_size q
    rw [Heap.get?_push_ne _ _ _ (by rw [hsz]; exact Nat.ne_of_lt (Nat.lt_succ_of_lt hlt)), ← hB, Heap.get?_update_ne _ _ _ _ (Nat.ne_of_lt hlt), Heap.get?_push_ne _ _ _ (Nat.ne_of_lt hlt)]; exact q
  have hoL : (B.push (seqObj "list" (zs.map fun z => Value.ref z.1).toArray 0)).get? (s.heap.objs.size + 1) = some (seqObj "list" (zs.map fun z => Value.ref z.1).toArray 0) := by
    rw [← hsz]; exact Heap.get?_push_size _ rfl
  have hszB : (B.push (seqObj "list" (zs.map fun z => Value.ref z.1).toArray 0)).objs.size = s.heap.objs.size + 2 := by rw [size_push', hsz]
  show wpAny _ _ _ _ _ { s with heap := B.push (seqObj "list" (zs.map fun z => Value.ref z.1).toArray 0) }
  dsimp only
  rw [hsz]
  refine wpAny_bind (wpAny_holding (wpAny_call_entry_kw slot_list_sort ⟨_, hoL, rfl⟩ entry_list_sort ?body (ksk_l1 _ _)))
  case body =>
    show wpAny (model X.prog X.w) X.A.in1.in1 (Builtin.«list.sort» ⟨[.ref (s.heap.objs.size + 1)], [(Str.ofString "key", .ref f)]⟩) _ _ _
    rw [ksk_t1]
    unfold ksk_tree
    generalize hG : B.push (seqObj "list" (zs.map fun z => Value.ref z.1).toArray 0) = G at keep hoL hszB
    generalize hLd : s.heap.objs.size + 1 = L at hoL
    have hLG : L < G.objs.size := Heap.lt_size hoL
    obtain ⟨e1, ho1⟩ : ∃ e1, (G.update L (Obj.mapSeq fun _ => (#[] : Array Value))).get? L = some (seqObj "list" #[] e1) := ⟨_, get?_update_seq hoL fun _ => #[]⟩
    refine wpAny_bind (listItems_at (s := { s with heap := G }) hoL rfl ?_)
    refine wpAny_bind (listUpdate_at (s := { s with heap := G }) hoL rfl ?_ (by rw [List.size_toArray]; exact hsl) (Nat.zero_le _))
    refine wpAny_bind (seqEpoch_at ho1 rfl ?_)
    refine wpAny_bind (wpAny_newTuple ?_ (by show (zs.map fun z => Value.ref z.1).length ≤ _; exact hsl))
    refine wpAny_bind (wpAny_newList ?_ (Nat.zero_le _))
    refine wpAny_holding ?_
    generalize hM : (G.update L (Obj.mapSeq fun _ => (#[] : Array Value))).push (seqObj "tuple" (zs.map fun z => Value.ref z.1).toArray 0) = M
    have hMs : M.objs.size = s.heap.objs.size + 3 := by rw [← hM, size_push', Heap.size_update, hszB]
    have hkS : (M.push (seqObj "list" #[] 0)).get? (s.heap.objs.size + 3) = some (seqObj "list" #[] 0) := by rw [← hMs]; exact Heap.get?_push_size _ rfl
    have hL2 : (M.push (seqObj "list" #[] 0)).get? L = some (seqObj "list" #[] e1) := Heap.get?_push_of_some _ (by rw [← hM]; exact Heap.get?_push_of_some _ ho1)
    have keep2 : ∀ b o, s.heap.get? b = some o → (M.push (seqObj "list" #[] 0)).get? b = some o := fun b o q => by
      have hlt : b < s.heap.objs.size := Heap.lt_size q
      refine Heap.get?_push_of_some _ ?_
      rw [← hM]
      refine Heap.get?_push_of_some _ ?_
      rw [Heap.get?_update_ne _ _ _ _ (by rw [← hLd]; exact Nat.ne_of_lt (Nat.lt_succ_of_lt hlt))]
      exact keep b o q
    have La0 := I.late (a := L) (by rw [← hLd]; exact Nat.le_succ _)
    have Lk0 := I.late (a := s.heap.objs.size + 3) (by omega)
    have I1 : Inv X ((f, fo) :: pins) σ H { s with heap := M.push (seqObj "list" #[] 0), toks := s.toks } := I.kept keep2
    have hLn : H L = none := I.hok.fresh (by rw [← hLd]; exact Nat.le_succ _)
    have I2 : Inv X ((f, fo) :: (L, seqObj "list" #[] e1) :: pins) σ H { s with heap := M.push (seqObj "list" #[] 0), toks := s.toks } := I1.pins_of fun p hp => by
      rcases List.mem_cons.mp hp with rfl | hp
      · exact I1.pin _ (List.mem_append_right _ (.head _))
      · rcases List.mem_cons.mp hp with rfl | hp
        · exact ⟨hL2, hLn, La0.lo, La0.fs, fun v z => by cases z⟩
        · exact I1.pin p (List.mem_append_right _ (.tail _ hp))
    have La : Late X pins s.heap.objs.size L := ⟨La0.s0, La0.lo, La0.ce, La0.fs, fun p hp => La0.pn p (by
      rcases List.mem_append.mp hp with h | h
      · exact List.mem_append_left _ h
      · exact List.mem_append_right _ (.tail _ h)), La0.ge⟩
    have Lk : Late X ((f, fo) :: (L, seqObj "list" #[] e1) :: pins) s.heap.objs.size (s.heap.objs.size + 3) := ⟨Lk0.s0, Lk0.lo, Lk0.ce, Lk0.fs, fun p hp => by
      rcases List.mem_append.mp hp with h | h
      · exact Lk0.pn p (List.mem_append_left _ h)
      · rcases List.mem_cons.mp h with rfl | h
        · exact Lk0.pn _ (List.mem_append_right _ (.head _))
        · rcases List.mem_cons.mp h with rfl | h
          · show L ≠ _
            rw [← hLd]; omega
          · exact Lk0.pn p (List.mem_append_right _ (.tail _ h)), Lk0.ge⟩
    rw [hMs]
    refine ksk_late (s := { s with heap := M.push (seqObj "list" #[] 0) }) I2 La Lk hkS (I.hok.fresh (by omega)) hz nd h60 hu turn fun H' s' zs' I' sm hn pm pw => ⟨_, rfl, ?_⟩
    exact wpAny_pure ⟨_, rfl, .ref L, _, I', rfl, q L H' zs' hLn sm hn pm pw⟩
end
end L2
set_option Elab.async false
set_option linter.all false
set_option maxRecDepth 100000
set_option maxHeartbeats 4000000
namespace L2
open PySem PySem.Spec PyProof.Rows PySem.W
section
variable {X : Cx} {σ : St} {H : Hp} {s : Shared} {params : Arguments} {body : Expr} {scope : Scope} {pos lpos kpos p : Pos} {c P : Addr} {y : Str} {e : Expr} {te : TE}
theorem lam_turn {pins : List (Addr × Obj)} {f c' : Addr} {q : Str} {pm ct : Value} {k : Nat} {v : V} {u : Value} {Q : VK} (I : Inv X pins σ H s) (hf : (f, kla_obj "<lambda>" q params body scope [] pm c' ct) ∈ pins) (hL : LamAt P lpos q H c') (S : FnScope [y] [y] scope) (hr : Room (k + 1) X.A.in1.in1)
    (hb : ∀ (pm ct : Value) (u : Value), bindArgs (kla_fn "<lambda>" q params body scope [] pm (.ref c') ct) ⟨[u], []⟩ = pure [(y, u)]) (rv : RelV v u)
    (hbody : ∃ t, PE (cxOf CX0 X.prog X.w X.K X.mg X.base [y] q scope f (.ref c') X.A.in1.in1 X.stack s H E0) body t ∧ t (start [y] [v]) H Q) :
    wpAny (model X.prog X.w) X.A.in1.in1 (call (.ref f) [u]) (EP X pins σ Q) (fun _ _ => False) s := by
  have pf := I.pin _ (List.mem_append_right X.pn hf)
  have hcd : s.heap.CodeRec (.ref c') q := (I.hok c' _ hL.2).1
  refine wpAny_call (codeAny_mono (lam_run (k := k) (N := [y]) (ps := [y]) (us := [u]) (vs := [v]) (E := E0) pf.1 rfl hcd S hr I.env0.in1.in1 (BindsTo.of_eq (hb pm ct u)) rfl (.cons rv .nil) hbody) fun r s' hq => ?_)
  cases r with
  | error e => exact hq
  | ok fl =>
    cases fl with
    | ret u => exact I.after hq
    | next => exact False.elim hq
    | brk => exact False.elim hq
    | cont => exact False.elim hq
def tSortKey (P : Addr) (lpos : Pos) (q : Str) (te : TE) : TE := fun σ H Q => te σ H fun x H1 => ∃ (l : Addr) (zs : List (Addr × List Int)), x = .ref l ∧ H1 l = some (.lst (zs.map fun z => V.ref z.1)) ∧ (∀ z ∈ zs, H1 z.1 = some (.lst (z.2.map V.int))) ∧ (zs.map (·.2)).Nodup ∧ zs.length ≤ 60 ∧ LamTab P lpos q H1 ∧
  ∀ (D : Addr) (zs' : List (Addr × List Int)) (H2 : Hp), H1 D = none → H2 D = none → (∀ b u, b ≠ P → H1 b = some u → H2 b = some u) → LamTab P lpos q H2 → zs'.Perm zs → zs'.Pairwise (fun x y => HT.kLess x.2 y.2 = true) → Q (.ref D) (upd H2 D (.lst (zs'.map fun z => V.ref z.1)))
theorem pe_sortKey {k : Nat} (he : PE X e te) (hg : Gl X "sorted") (hm : X.mg "sorted" = none) (hr : Room (k + 3) X.A) (hdef : defaultsOf params X.env = ([], [])) (hcl : closureFor scope X.env = pure []) (hcode : X.env.code = .ref c) (hK : codeHdIn X.K c P = true) (hB : X.base.BuiltinsAt X.mg P) (hgP : mainGlobals ≠ P)
    (S : FnScope [y] [y] scope) (hb : ∀ (pm cd ct : Value) (u : Value), bindArgs (kla_fn "<lambda>" (X.env.qual ++ "<lambda>") params body scope [] pm cd ct) ⟨[u], []⟩ = pure [(y, u)])
    (hbody : ∀ (f c' : Addr) (s : Shared) (H : Hp) (z : Addr × List Int), H z.1 = some (.lst (z.2.map V.int)) → ∃ t, PE (cxOf CX0 X.prog X.w X.K X.mg X.base [y] (X.env.qual ++ "<lambda>") scope f (.ref c') X.A.in1.in1 X.stack s H E0) body t ∧
      t (start [y] [.ref z.1]) H fun v H2 => ∃ p, v = .ref p ∧ H p = none ∧ H2 = upd H p (.tup [.int z.2.length, .ref z.1]))
    (hs1 : starEach [e] X.env = [(false, eval e X.env)] := by rfl) :
    PE X (.Call (.Name "sorted" p) [e] [⟨some "key", .Lambda params body scope lpos, kpos⟩] pos) (tSortKey P lpos (X.env.qual ++ "<lambda>") te) := by
  intro pins s σ H Q I h
  refine wpAny_Call_Name_kw (ld_blt I hg hm boot_sorted ?_ (by decide) (by decide))
  have ha : PA X [e] (tCons te tNil) := pa_cons he pa_nil hs1
  refine callWith_kw (thn (ha pos pins s σ H (fun vs H1 => match vs with
    | [x] => ∃ (l : Addr) (zs : List (Addr × List Int)), x = .ref l ∧ H1 l = some (.lst (zs.map fun z => V.ref z.1)) ∧ (∀ z ∈ zs, H1 z.1 = some (.lst (z.2.map V.int))) ∧ (zs.map (·.2)).Nodup ∧ zs.length ≤ 60 ∧ LamTab P lpos (X.env.qual ++ "<lambda>") H1 ∧
      ∀ (D : Addr) (zs' : List (Addr × List Int)) (H2 : Hp), H1 D = none → H2 D = none → (∀ b u, b ≠ P → H1 b = some u → H2 b = some u) → LamTab P lpos (X.env.qual ++ "<lambda>") H2 → zs'.Perm zs → zs'.Pairwise (fun x y => HT.kLess x.2 y.2 = true) → Q (.ref D) (upd H2 D (.lst (zs'.map fun z => V.ref z.1)))
    | _ => False) I h) fun us s1 ⟨vs, H1, I1, r1, q1⟩ => ?_) (by rw [hs1]; rfl) (by rw [hs1]; rfl)
  match vs, q1 with
  | [x], q1 =>
    obtain ⟨l, zs, rfl, hl, hz, nd, h60, hT, q⟩ := q1
    obtain ⟨u, rfl, rx⟩ := vals1 r1
    cases rx
    show wpAny _ _ (evalAll ((do let v ← eval (.Lambda params body scope lpos) X.env; standAt pos; pure v) :: [])) _ _ s1
    refine wpAny_evalAll_cons (wpAny_bind (lam_make I1 hdef hcl hcode hK hB hgP hT fun f c' H2 s2 pm ct I2 hL hfo hfn hsz up => wpAny_bind (wpAny_standAt (wpAny_pure ?_))))
    refine wpAny_evalAll_nil ?_
    have Lf := I1.late hsz
    have I3 : Inv X ((f, kla_obj "<lambda>" (X.env.qual ++ "<lambda>") params body scope [] pm c' ct) :: pins) σ H2 s2 := I2.pins_of fun p hp => by
      rcases List.mem_cons.mp hp with rfl | hp
      · exact ⟨hfo, hfn, Lf.lo, Lf.fs, fun v z => by cases z⟩
      · exact I2.pin p (List.mem_append_right _ hp)
    have hPl : ∀ b xs, H1 b = some (.lst xs) → b ≠ P := fun b xs e z => by
      rw [z] at e
      rcases hT with t | ⟨c2, t, _⟩
      · rw [t] at e; cases e
      · rw [t] at e; cases e
    have hr2 : Room (k + 1) X.A.in1.in1 := (hr.in1).in1
    show wpAny _ _ (call (.builtin "sorted") [.ref l] [(Str.ofString "key", .ref f)]) _ _ s2
    refine sorted_late I3 (up _ _ (hPl _ _ hl) hl) (fun z hzm => up _ _ (hPl _ _ (hz z hzm)) (hz z hzm)) nd h60 (by have := hr2.units; omega) (fun H' s' pins' z I' hf sm hzm => ?_) fun D H' zs' hD sm hn pm pw => ?_
    · have hL' : LamAt P lpos (X.env.qual ++ "<lambda>") H' c' := ⟨sm _ _ hL.1, sm _ _ hL.2⟩
      exact lam_turn (v := .ref z.1) I' hf hL' S hr2 (fun pm ct u => hb pm (.ref c') ct u) rfl (hbody f c' s' H' z (sm _ _ (up _ _ (hPl _ _ (hz z hzm)) (hz z hzm))))
    · refine q D zs' H' ?_ hn (fun b u hb e => sm _ _ (up b u hb e)) (.inr ⟨c', sm _ _ hL.1, sm _ _ hL.2⟩) pm pw
      cases e : H1 D with
      | none => rfl
      | some u =>
        by_cases hDP : D = P
        · rw [hDP, hL.1] at hD; cases hD
        · rw [up D u hDP e] at hD; cases hD
end
end L2
set_option Elab.async false
set_option linter.all false
set_option maxRecDepth 100000
set_option maxHeartbeats 4000000
namespace L2
open PySem PySem.Spec PyProof.Rows PySem.W
theorem law_callP {P : Program} {w : World} {K : Frag} {mg mb : Str → Option Value} {CX : CXT} {k : Nat} {fa a c T : Addr} {fd : FuncData} {x : Str} {sp : Sp} {s₁ : Shared} {vs : List Value} {ns : List Int}
    (KX : K.In s₁.heap) (hns : s₁.heap.Ns mainGlobals mg) (hb : s₁.heap.Ns builtinsNs mb) (hbb : ∀ x : Str, x ≠ "__name__" → mb x = bootBuiltins x) (hlim : s₁.heap.NoLimit) (hg : s₁.gens = #[])
    (hBM : ∃ bm ob, mg "__builtins__" = some (.ref bm) ∧ bm ≠ builtinsNs ∧ s₁.heap.get? bm = some ob ∧ ob.cls = .type "module" ∧ ob.dict = some builtinsNs ∧ ob.data = .plain)
    (hT : s₁.heap.get? T = some (tabObj #[])) (hKT : K.lookup T = none) (hcT : codeHdIn K c T = true)
    (ha : s₁.heap.get? a = some { cls := .type "list", data := .seq vs.toArray }) (hi : IntsAre vs ns) (hl : ns.length ≤ sizeLine) (hr : Room k callerA)
    (F : ∀ base : Heap, K.In base → base.Ns mainGlobals mg → base.BuiltinsAt mg T → FnOk P w K mg base CX k fa fd [x] sp) (hbind : ∀ (s : Shared) (u : Value), BindsTo s fd ⟨[u], []⟩ [(x, u)])
    (hsp : ∀ H : Hp, H T = some (.tbl #[]) → SqL K H a (ns.map V.int) → sp [.ref a] H (fun v _ => v = .bl true) fun _ _ _ => False)
    (hCX : ∀ H e s', CX [] H s₁ (fun _ _ _ => False) e s' → False) :
    codeAny (model P w) callerA (.call (.ref fa) ⟨[.ref a], []⟩) (fun r s' => r = .ok (.ret (.bool true)) ∧ OldK s₁.heap s'.heap ∧ s'.os = s₁.os ∧ AllBare s'.gens) s₁ := by
  have rv := vals_ints hi
  have lenV := hi.length
  have tabT : s₁.heap.TableAt c T #[] := (codeHd_of_K KX hcT).tab hT
  have core : ∀ H : Hp, H T = some (.tbl #[]) → SqL K H a (ns.map V.int) → HOk P w H s₁.heap → (∀ b, H b ≠ none → b = a ∨ b = T) → (∀ b, b ≠ T → H b = none ∨ ∃ o xs, H b = some (.frz o (.lst xs))) → (∀ b, H b ≠ none → K.lookup b = none) →
      codeAny (model P w) callerA (.call (.ref fa) ⟨[.ref a], []⟩) (fun r s' => r = .ok (.ret (.bool true)) ∧ OldK s₁.heap s'.heap ∧ s'.os = s₁.os ∧ AllBare s'.gens) s₁ := by
    intro H hHT hS hok hA hO hK
    have base_of : ∀ {b : Addr} {o : Obj}, s₁.heap.get? b = some o → H b = none → (hidT s₁.heap H).get? b = some o := fun e n => hidT_get e n
    have noA : ∀ {b : Addr} {o : Obj}, s₁.heap.get? b = some o → (∀ xs n, o.data ≠ .seq xs n) → (∀ ps, o.data ≠ .fields ps) → H b = none := fun {b o} e d1 d2 => by
      cases q : H b with
      | none => rfl
      | some u =>
        rcases hA b (by rw [q]; simp) with e' | e'
        · subst e'
          rw [ha] at e; cases e
          exact absurd rfl (d1 _ _)
        · subst e'
          rw [hT] at e; cases e
          exact absurd rfl (d2 _)
    have nsK : ∀ {b : Addr} {m : Str → Option Value}, s₁.heap.Ns b m → (hidT s₁.heap H).Ns b m := fun {b m} ⟨o, es, ep, e, d, r⟩ => ⟨o, es, ep, base_of e (noA e (fun xs n z => by rw [d] at z; cases z) (fun ps z => by rw [d] at z; cases z)), d, r⟩
    have hKb : K.In (hidT s₁.heap H) := fun b o e => base_of (KX b o e) (by
      cases q : H b with
      | none => rfl
      | some u => rw [hK b (by rw [q]; simp)] at e; cases e)
    have hM : Mod K mg (hidT s₁.heap H) := ⟨hKb, nsK hns, ⟨mb, nsK hb, hbb⟩, let ⟨mc, h1, h2⟩ := hlim; ⟨mc, nsK h1, h2⟩⟩
    have hBA : (hidT s₁.heap H).BuiltinsAt mg T := by
      obtain ⟨bm, ob, b1, b2, b3, b4, b5, b6⟩ := hBM
      refine ⟨bm, ob, b1, b2, fun z => ?_, fun z => ?_, base_of b3 (noA b3 (fun xs n z => by rw [b6] at z; cases z) (fun ps z => by rw [b6] at z; cases z)), b4, b5, b6⟩
      · obtain ⟨o, es, ep, e, hd, _⟩ := hns
        rw [z, e] at b3; cases b3
        rw [hd] at b6; cases b6
      · rw [z, hT] at b3; cases b3; cases b4
    have e0 : Env0 P w K mg (hidT s₁.heap H) callerA [] s₁ H := ⟨rfl, hM, fun b o e => of_hidT e, Nat.le_of_eq (hidT_size _ _), trivial, fun b hb => absurd (show b ∈ ([] : List Addr) from hb) (by simp), hok, .of_eq hg⟩
    refine codeAny_mono ((F _ hKb (nsK hns) hBA).run callerA [] s₁ H ⟨[.ref a], []⟩ [.ref a] [.ref a] _ _ hr e0 (hbind s₁ (.ref a)) (.cons rfl .nil) (hsp H hHT hS)) fun r s' h => ?_
    cases r with
    | error e => exact (hCX H e s' h).elim
    | ok fl =>
      cases fl with
      | next => exact False.elim h
      | brk => exact False.elim h
      | cont => exact False.elim h
      | ret u =>
        obtain ⟨v, H', os, bare, un, hok', r', q⟩ := h
        have q' : v = .bl true := q
        subst q'
        obtain rfl : u = Value.bool true := r'
        have oth : ∀ b o, b ≠ T → s₁.heap.get? b = some o → s'.heap.get? b = some o := fun b o hbT e => by
          cases q : H b with
          | none => exact un.keep b o e q (by intro z; exact absurd (show b ∈ ([] : List Addr) from z) (by simp)) (by simp)
          | some u =>
            rcases hO b hbT with z | ⟨ob, xs, z⟩
            · rw [q] at z; cases z
            · have z2 := un.frzs b ob _ z
              obtain ⟨e1, _⟩ := hok b _ z
              obtain ⟨e2, _⟩ := hok' b _ z2
              rw [e] at e1; cases e1
              exact e2
        obtain ⟨more, hm⟩ := un.tbls T _ hHT
        have hTm : s'.heap.get? T = some { cls := .none, data := .fields (#[] ++ more) } := hok' T _ hm
        refine ⟨rfl, ⟨fun b o e => ?_, fun b o e => ?_⟩, os, bare⟩
        · by_cases hbT : b = T
          · subst hbT
            rw [hT] at e; cases e
            exact .inr (.inl ⟨tabT.isCodeTable, rfl, #[], more, rfl, hTm⟩)
          · exact .inl (oth b o hbT e)
        · by_cases hbT : b = T
          · subst hbT; exact ⟨_, hTm⟩
          · exact ⟨o, oth b o hbT e⟩
  have hTa : T ≠ a := fun z => by rw [z, ha] at hT; cases hT
  cases hk : K.lookup a with
  | some o =>
    have e := KX a o hk
    rw [ha] at e
    cases e
    refine core (fun b => if b = T then some (.tbl #[]) else none) (if_pos rfl) (.inr ⟨_, vs.toArray, _, hk, rfl, rfl, rfl, by rw [List.size_toArray, lenV]; exact hl, by simpa using rv⟩) (fun b u z => ?_) (fun b z => ?_) (fun b hb => .inl (if_neg hb)) fun b z => ?_
    · by_cases hb : b = T
      · have z' := (if_pos hb).symm.trans z
        cases z'
        subst hb
        exact hT
      · have z' := (if_neg hb).symm.trans z
        cases z'
    · by_cases hb : b = T
      · exact .inr hb
      · exact absurd (if_neg hb) z
    · by_cases hb : b = T
      · rw [hb]; exact hKT
      · exact absurd (if_neg hb) z
  | none =>
    refine core (fun b => if b = a then some (.frz { cls := .type "list", data := .seq vs.toArray } (.lst (ns.map V.int))) else if b = T then some (.tbl #[]) else none) (by rw [if_neg hTa, if_pos rfl]) (.inl (.inr ⟨{ cls := .type "list", data := .seq vs.toArray }, if_pos rfl⟩)) (fun b u z => ?_) (fun b z => ?_) (fun b hb => ?_) fun b z => ?_
    · by_cases hb : b = a
      · have z' := (if_pos hb).symm.trans z
        cases z'
        subst hb
        exact ⟨ha, by rw [List.length_map]; exact hl, vs, _, rv, ha⟩
      · have z' := (if_neg hb).symm.trans z
        by_cases hb2 : b = T
        · have z2 := (if_pos hb2).symm.trans z'
          cases z2
          subst hb2
          exact hT
        · have z2 := (if_neg hb2).symm.trans z'
          cases z2
    · by_cases hb : b = a
      · exact .inl hb
      · by_cases hb2 : b = T
        · exact .inr hb2
        · exact absurd (by rw [if_neg hb, if_neg hb2]) z
    · by_cases hba : b = a
      · exact .inr ⟨_, _, if_pos hba⟩
      · exact .inl (by rw [if_neg hba, if_neg hb])
    · by_cases hb : b = a
      · rw [hb]; exact hk
      · by_cases hb2 : b = T
        · rw [hb2]; exact hKT
        · exact absurd (by rw [if_neg hb, if_neg hb2]) z
theorem walkP {l : PySem.W.OpenLaw} {n k : Nat} {q : Program} {loose : List Str} {XP : (Str → Option Value) → Heap → Prop} {YP : World → Heap → Prop} {d : DefRec} {K : Params → PySem.W.Frag} {sp : World → Sp} {x : Str} {c T : Addr}
    (hn : l.most = some n) (hn2 : n ≤ sizeLine) (hdf : d.params.defaults = []) (hr : Room k callerA)
    (hY : ∀ (w : World) (h : Heap), YP w h → (K w.params).In h) (hYT : ∀ (w : World) (h : Heap), YP w h → h.get? T = some (tabObj #[])) (hKT : ∀ w : World, (K w.params).lookup T = none) (hcT : ∀ w : World, codeHdIn (K w.params) c T = true)
    (F : ∀ (w : World) (mg : Str → Option Value) (fa : Addr) (h : Heap), (K w.params).In h → h.Ns mainGlobals mg → mg d.name = some (.ref fa) →
      ∃ fd : FuncData, (∀ (s : Shared) (u : Value), BindsTo s fd ⟨[u], []⟩ [(x, u)]) ∧
        ∀ base : Heap, (K w.params).In base → base.Ns mainGlobals mg → base.BuiltinsAt mg T → FnOk l.prog w (K w.params) mg base CX0 k fa fd [x] (sp w))
    (hsp : ∀ (w : World) (H : Hp) (a : Addr) (ns : List Int), ns.length ≤ n → H T = some (.tbl #[]) → SqL (K w.params) H a (ns.map V.int) → sp w [.ref a] H (fun v _ => v = .bl true) fun _ _ _ => False) :
    PySem.W.WalkO q loose XP YP l.row.toRowW d [] (fun f vs => PySem.call f vs) := by
  refine Att.attach_call hn hdf fun w s₀ s₁ mg mb fa o pm cd doc a vs ns G Y ho hd hcd hmg hobj hints hlen hg => ?_
  have KX := hY w _ Y
  obtain ⟨fd, hb, hF⟩ := F w mg fa _ KX G.T.g hmg
  exact law_callP KX G.T.g G.T.b G.T.builtins G.T.nolimit hg G.T.bmain (hYT w _ Y) (hKT w) (hcT w) hobj hints (Nat.le_trans hlen hn2) hr hF hb (fun H hO hS => hsp w H a ns hlen hO hS) fun H e s' h => h
end L2
set_option Elab.async false
set_option linter.all false
set_option maxRecDepth 100000
namespace L2
open PySem PySem.Spec PyProof.Rows
def Itrs (lo c : Int) (n : Nat) : It := ⟨fun i _ => i < n, fun i H x H' => H' = H ∧ x = .int (lo + i * c), fun i _ => n ≤ i⟩
theorem turn_rangeS {P : Program} {w : World} {K : PySem.W.Frag} {tg : Expr} (it : Addr) (lo c : Int) (n : Nat) : Turn P w K tg (Itrs lo c n) [it] it (fun i h => IsRangeIter h it (lo + (i : Nat) * c) ((n : Int) - (i : Nat)) c) where
  mem := by simp
  obj := fun i h st b hb => by
    have e : b = it := by simpa using hb
    subst e
    exact ⟨_, st, fun v z => by
      have z' : Data.fields _ = Data.cell v := z
      cases z'⟩
  keep := fun i h h' st k => k it (by simp) _ st
  item := by
    intro X hP hw hK hc i pins s σ H E I hf st hg
    subst hP hw hK
    obtain ⟨f0, f1, f2, f3, f4, f5⟩ := hf it (by simp)
    have W := Walks.range (prog := X.prog) (w := X.w) (I.ok.hd hc) it lo c n
    refine W.item i s _ _ hg st fun v h' tk hv st' kk => ?_
    obtain ⟨t, rfl⟩ := hv
    have I1 : Inv X pins σ H { s with heap := h', toks := tk } := I.turned (fun b o hb e => kk b o (by simpa using hb) e) f0 f1 f3 f4 f5
    exact ⟨_, rfl, go_of (s := { s with heap := h', toks := tk }) (n := "range_iterator") st' rfl rfl (by decide) ⟨.int (lo + i * c), H, I1, ⟨t, rfl⟩, ⟨rfl, rfl⟩, st', fun b hb => (hf b hb).1⟩⟩
  done := by
    intro X hP hw hK hc i pins s σ H E I hf st hg
    subst hP hw hK
    obtain ⟨f0, f1, f2, f3, f4, f5⟩ := hf it (by simp)
    exact wpAny_pyNext_range_end (I.ok.hd hc) st (by have : n ≤ i := hg; omega) fun h' eb => ⟨rfl, I.turned (t' := s.toks) (fun b o hb e => eb b o hb e) f0 f1 f3 f4 f5⟩
  self := fun _ _ _ _ _ st h => wpAny_pyIter_rangeiter st h
section
variable {X : Cx} {tg : Expr}
theorem for_rangeS {lo c : Int} {n : Nat} {g : TG} {tb : TS} {D : Ends} {σ : St} {H : Hp} (Pv : Nat → St → Hp → Prop) (h0 : Pv 0 σ H)
    (hs : ∀ i σ H, i < n → Pv i σ H → g (.int (lo + i * c)) σ H fun σ2 H2 => tb { D with nx := Pv (i + 1), ct := Pv (i + 1), bk := D.nx } σ2 H2) (hd : ∀ σ H, Pv n σ H → D.nx σ H) :
    ∃ W : Nat → Nat → St → Hp → Prop, (∃ m, W 0 m σ H) ∧ ∀ i m σ H, W i m σ H →
      ((Itrs lo c n).stop i H ∧ D.nx σ H) ∨ ((Itrs lo c n).go i H ∧ ∃ N : St → Hp → Prop, (∀ σ' H', N σ' H' → ∃ m', m' < m ∧ W (i + 1) m' σ' H') ∧ ∀ x H', (Itrs lo c n).yld i H x H' → g x σ H' fun σ2 H2 => tb { D with nx := N, ct := N, bk := D.nx } σ2 H2) := by
  refine ⟨fun i m σ H => m = n - i ∧ i ≤ n ∧ Pv i σ H, ⟨n, by simp, Nat.zero_le _, h0⟩, ?_⟩
  rintro i m σ H ⟨rfl, hi, p⟩
  by_cases hlt : i < n
  · refine .inr ⟨hlt, Pv (i + 1), fun σ' H' p' => ⟨n - (i + 1), by omega, rfl, hlt, p'⟩, fun x H' y => ?_⟩
    obtain ⟨e, y⟩ := y
    subst e y
    exact hs i σ _ hlt p
  · have e : i = n := by omega
    subst e
    exact .inl ⟨Nat.le_refl _, hd σ H p⟩
end
end L2
set_option linter.all false
namespace Lw
def isSt (ls : List (List Int)) (x : List Int) : Prop := x = [] ∨ ∃ st ∈ ls, ∃ k, 1 ≤ k ∧ k < st.length ∧ x = st.take k ∧ lacks ls x = true
structure StandsL (ls : List (List Int)) (xs : List (List Int)) : Prop where
  mem : ∀ x, x ∈ xs ↔ isSt ls x
  up : xs.Pairwise fun x y => HT.kLess x y = true
theorem isSt_len {ls : List (List Int)} (h : ∀ st ∈ ls, st.length ≤ 4) {x : List Int} (q : isSt ls x) : x.length ≤ 3 := by
  rcases q with rfl | ⟨st, hst, k, h1, h2, rfl, _⟩
  · decide
  · have := h st hst
    rw [List.length_take]; omega
end Lw
set_option linter.all false
namespace Lw
theorem begs_init {ls : List (List Int)} {y : List Int} {x : Int} (h : begs ls (y ++ [x]) = true) : begs ls y = true := by
  unfold begs at *
  rw [List.any_eq_true] at h ⊢
  obtain ⟨st, hst, q⟩ := h
  refine ⟨st, hst, decide_eq_true ?_⟩
  have q := of_decide_eq_true q
  have e := congrArg (List.take y.length) q
  rw [List.take_left, List.take_take, List.length_append] at e
  rw [Nat.min_eq_left (by omega)] at e
  exact e
theorem tailS_spec {ls : List (List Int)} : ∀ fs : List Int, ∃ j, j ≤ fs.length ∧ tailS ls fs = fs.drop j ∧ (∀ k, k < j → begs ls (fs.drop k) = false) ∧ (j < fs.length → begs ls (fs.drop j) = true)
  | [] => ⟨0, Nat.le_refl _, rfl, fun k hk => by omega, fun h => by simp at h⟩
  | x :: fs => by
    by_cases h : begs ls (x :: fs) = true
    · exact ⟨0, Nat.zero_le _, by rw [tailS, if_pos h]; rfl, fun k hk => by omega, fun _ => h⟩
    · obtain ⟨j, h1, h2, h3, h4⟩ := tailS_spec (ls := ls) fs
      refine ⟨j + 1, by rw [List.length_cons]; omega, by rw [tailS, if_neg h, h2, List.drop_succ_cons], fun k hk => ?_, fun hj => by rw [List.drop_succ_cons]; exact h4 (by rw [List.length_cons] at hj; omega)⟩
      cases k with
      | zero => rw [List.drop_zero]; simpa using h
      | succ k => rw [List.drop_succ_cons]; exact h3 k (by omega)
theorem tailS_step {ls : List (List Int)} (fs : List Int) (x : Int) : tailS ls (tailS ls fs ++ [x]) = tailS ls (fs ++ [x]) := by
  obtain ⟨j, h1, h2, h3, _⟩ := tailS_spec (ls := ls) fs
  rw [h2, tailS_skip j (fs ++ [x]) (by rw [List.length_append]; omega) (fun k hk => ?_), List.drop_append_of_le_length h1]
  rw [List.drop_append_of_le_length (by omega)]
  cases e : begs ls (fs.drop k ++ [x]) with
  | false => rfl
  | true => rw [← h3 k hk, begs_init e]
theorem hasS_drop {st fs : List Int} (ne : st ≠ []) {j : Nat} (h : hasS st (fs.drop j) = true) : hasS st fs = true := by
  rw [hasS_iff ne] at h ⊢
  obtain ⟨k, e⟩ := h
  exact ⟨j + k, by rw [← List.drop_drop]; exact e⟩
theorem lacks_drop {ls : List (List Int)} (ne : ∀ l ∈ ls, l ≠ []) {fs : List Int} (j : Nat) (h : lacks ls fs = true) : lacks ls (fs.drop j) = true := by
  unfold lacks at *
  rw [Bool.not_eq_true', List.any_eq_false] at h ⊢
  intro st hst q
  exact h st hst (hasS_drop (ne st hst) q)
theorem lacks_step {ls : List (List Int)} (ne : ∀ l ∈ ls, l ≠ []) {fs : List Int} (x : Int) (h : lacks ls fs = true) : lacks ls (tailS ls fs ++ [x]) = lacks ls (fs ++ [x]) := by
  obtain ⟨j, h1, h2, h3, _⟩ := tailS_spec (ls := ls) fs
  rw [h2, ← List.drop_append_of_le_length h1]
  rw [Bool.eq_iff_iff]
  constructor
  · intro q
    unfold lacks at *
    rw [Bool.not_eq_true', List.any_eq_false] at h q ⊢
    intro st hst hs
    rw [hasS_iff (ne st hst)] at hs
    obtain ⟨k, e⟩ := hs
    have hp : 0 < st.length := List.length_pos_iff.mpr (ne st hst)
    have hl := congrArg List.length e
    rw [List.length_take, List.length_drop, List.length_append, List.length_singleton] at hl
    by_cases hin : k + st.length ≤ fs.length
    · refine h st hst ((hasS_iff (ne st hst)).mpr ⟨k, ?_⟩)
      rw [List.drop_append_of_le_length (by omega), List.take_append_of_le_length (by rw [List.length_drop]; omega)] at e
      exact e
    · have hk : k + st.length = fs.length + 1 := by omega
      rw [List.take_of_length_le (by rw [List.length_drop, List.length_append, List.length_singleton]; omega)] at e
      by_cases hkj : j ≤ k
      · refine q st hst ((hasS_iff (ne st hst)).mpr ⟨k - j, ?_⟩)
        rw [List.drop_drop, show j + (k - j) = k by omega, e, List.take_of_length_le (Nat.le_refl _)]
      · have h3k := h3 k (by omega)
        rw [List.drop_append_of_le_length (by omega)] at e
        unfold begs at h3k
        rw [List.any_eq_false] at h3k
        refine h3k st hst (decide_eq_true ?_)
        rw [← e, List.take_left]
  · intro q
    exact lacks_drop ne j q
theorem tailS_isSt {ls : List (List Int)} (ne : ∀ l ∈ ls, l ≠ []) {fs : List Int} (h : lacks ls fs = true) : isSt ls (tailS ls fs) := by
  obtain ⟨j, h1, h2, _, h4⟩ := tailS_spec (ls := ls) fs
  rw [h2]
  by_cases hj : j < fs.length
  · have q := h4 hj
    unfold begs at q
    rw [List.any_eq_true] at q
    obtain ⟨st, hst, q⟩ := q
    have q := of_decide_eq_true q
    have hl := congrArg List.length q
    rw [List.length_take] at hl
    have hlen : (fs.drop j).length = fs.length - j := List.length_drop ..
    have hlk := lacks_drop ne j h
    refine .inr ⟨st, hst, (fs.drop j).length, by omega, ?_, q.symm, hlk⟩
    by_cases hlt : (fs.drop j).length < st.length
    · exact hlt
    · exfalso
      have hle : st.length ≤ (fs.drop j).length := by omega
      rw [List.take_of_length_le hle] at q
      unfold lacks at hlk
      rw [Bool.not_eq_true', List.any_eq_false] at hlk
      refine hlk st hst ((hasS_iff (ne st hst)).mpr ⟨0, ?_⟩)
      rw [List.drop_zero, ← q, List.take_of_length_le (Nat.le_refl _)]
  · left
    exact List.drop_of_length_le (by omega)
end Lw
set_option linter.all false
namespace Lw
end Lw
set_option linter.all false
namespace Lw
theorem StandsL.first {ls xs : List (List Int)} (a : StandsL ls xs) : ∃ r, xs = [] :: r := by
  have h0 : ([] : List Int) ∈ xs := (a.mem []).mpr (.inl rfl)
  cases xs with
  | nil => cases h0
  | cons x r =>
    rcases List.mem_cons.mp h0 with e | e
    · exact ⟨r, by rw [e]⟩
    · have := (List.pairwise_cons.mp a.up).1 [] e
      unfold HT.kLess at this
      by_cases hl : x.length = ([] : List Int).length
      · have : x = [] := List.eq_nil_of_length_eq_zero hl
        exact ⟨r, by rw [this]⟩
      · rw [if_neg hl] at this
        have := of_decide_eq_true this
        simp at this
end Lw
set_option Elab.async false
set_option linter.all false
set_option maxRecDepth 100000
namespace L2
open PySem PySem.Spec PyProof.Rows PySem.SeqAt
section
variable {X : Cx}
def rIndexT (K : PySem.W.Frag) : V → List V → Hp → VK → Prop := fun x vs H Q => ∃ l xs y ts u j, x = .ref l ∧ vs = [y] ∧ SqL K H l xs ∧ TrsAt K H ts xs ∧ TrAt K H u y ∧ tdeps ts ≤ 8 ∧ j < ts.length ∧
  (∀ t, ts[j]? = some t → teq t u = true) ∧ (∀ m t, m < j → ts[m]? = some t → teq t u = false) ∧ Q (.int (j : Nat)) H
open Classical in
theorem mt_indexT (hu : X.A.units + 64 < cLine) : MtM X "list.index" (rIndexT X.K) := by
  intro pins s σ H x vs v us Q I rx rv h
  obtain ⟨l, xs, y, ts, u, j, rfl, rfl, hq, hts, ht, hd, hj, hit, hno, q⟩ := h
  cases rx
  obtain ⟨u0, rfl, ru⟩ := Vals.one rv
  obtain ⟨its, r, pl, hz⟩ := I.list hq
  obtain ⟨⟨cls, dd, data, sl⟩, ho, hc, n, hdat⟩ := id pl.isList
  simp only at hc hdat
  subst hc hdat
  have l1 := hts.length
  have m1 := r.length
  have val : ∀ (m : Nat) (hm : m < its.length) (t : Tr), ts[m]? = some t → decide (∃ t x, RelV x its[m] ∧ TrAt X.K H t x ∧ teq t u = true) = teq t u := by
    intro m hm t et
    obtain ⟨z, ez, hz'⟩ := hts.get et
    obtain ⟨w, ew, rw'⟩ := r.get ez
    have e' : its[m] = w := by
      rw [List.getElem?_eq_getElem hm] at ew
      exact Option.some.inj ew
    rw [e', Bool.eq_iff_iff, decide_eq_true_iff]
    constructor
    · rintro ⟨t', x', r', h', e3⟩
      rw [rw'.inj r'] at hz'
      rw [tr_inj I 8 (Nat.le_trans (tdep_mem (List.mem_of_getElem? et)) hd) hz' h']; exact e3
    · intro e3
      exact ⟨t, z, rw', hz', e3⟩
  have hjs : j < its.length := by omega
  have hsl : (sizeLine : Int) < 2 ^ 63 - 1 := by decide
  refine call_meets PySem.F.slot_list_index ⟨_, ho, rfl⟩ PySem.F.entry_list_index (PySem.F.args_list_index_2 _ _)
    (list_indexAt l its.toArray n dd sl u0 (fun y => decide (∃ t x, RelV x y ∧ TrAt X.K H t x ∧ teq t u = true)) j (by simpa using hjs) (by omega) ?_ ?_) ⟨ho, in_core I hu ht ru hd hts r, ?_⟩
  · have q := val j hjs _ (List.getElem?_eq_getElem hj)
    rw [hit _ (List.getElem?_eq_getElem hj)] at q
    simpa using q
  · intro m hm hlt
    have hm' : m < ts.length := by omega
    have q := val m (by omega) _ (List.getElem?_eq_getElem hm')
    rw [hno m _ hlt (List.getElem?_eq_getElem hm')] at q
    simpa using q
  · exact ⟨.int (j : Nat), H, I.kept fun b o e => e, ⟨_, rfl⟩, q⟩
theorem k_indexT (K : PySem.W.Frag) (hu : X.A.units + 64 < cLine) (e : X.K = K := by rfl) : MtM X "list.index" (rIndexT K) := by subst e; exact mt_indexT hu
end
end L2
set_option Elab.async false
set_option linter.all false
set_option maxRecDepth 100000
namespace L2
open PySem PySem.Spec PyProof.Rows PySem.SeqAt
section
variable {X : Cx}
def rSum (K : PySem.W.Frag) : List V → Hp → VK → Prop := fun xs H Q => ∃ (a : Addr) (ns : List Int), xs = [.ref a] ∧ SqL K H a (ns.map V.int) ∧ Q (.int ns.sum) H
theorem call_sum (hc : X.calm = true) : CallR X (.builtin "sum") (rSum X.K) := by
  intro pins s σ H xs us Q I r h
  obtain ⟨a, ns, rfl, hq, q⟩ := h
  obtain ⟨u, rfl, rx⟩ := vals1 r
  cases rx
  obtain ⟨its, rv, pl, hz⟩ := I.list hq
  have hi := intsAre_of rv
  obtain ⟨ys, hy⟩ := hi.allInts.items
  have hn : (ys.toList.map (·.1)).sum = ns.sum := by
    have e := hi.numsOf
    have e2 := nums_intItems ys
    rw [← hy] at e2
    rw [← e, ← e2]
  refine sum_intListG (xs := ys) (I.ok.hd hc) (by rw [← hy]; exact pl.isList) fun h' tk t' hk => ?_
  refine ⟨.int ns.sum, H, I.kept fun b o e => hk b o e, ?_, q⟩
  refine ⟨t', ?_⟩
  rw [preSum_eq, List.take_of_length_le (by simp), hn]
theorem k_sum (K : PySem.W.Frag) (hc : X.calm = true) (e : X.K = K := by rfl) : CallR X (.builtin "sum") (rSum K) := by subst e; exact call_sum hc
end
end L2
set_option linter.all false
namespace Lw
def cnt (ls : List (List Int)) (b : Nat) : Nat → List Int → Nat
  | 0, _ => 1
  | t + 1, x => ((List.range b).map fun (c : Nat) => if lacks ls (x ++ [(c : Int)]) = true then cnt ls b t (tailS ls (x ++ [(c : Int)])) else 0).sum
def padF (b : Nat) : Nat → Nat → List Int
  | 0, _ => []
  | t + 1, r => ((r / b ^ t : Nat) : Int) :: padF b t (r % b ^ t)
def many (p : Nat → Bool) : Nat → Nat
  | 0 => 0
  | n + 1 => many p n + (if p n = true then 1 else 0)
theorem many_congr {p q : Nat → Bool} : ∀ {N : Nat}, (∀ n, n < N → p n = q n) → many p N = many q N
  | 0, _ => rfl
  | N + 1, h => by rw [many, many, many_congr (N := N) fun n hn => h n (by omega), h N (by omega)]
theorem many_none {p : Nat → Bool} : ∀ {N : Nat}, (∀ n, n < N → p n = false) → many p N = 0
  | 0, _ => rfl
  | N + 1, h => by rw [many, many_none (N := N) fun n hn => h n (by omega), h N (by omega)]; rfl
theorem many_add (p : Nat → Bool) (A : Nat) : ∀ B : Nat, many p (A + B) = many p A + many (fun n => p (A + n)) B
  | 0 => rfl
  | B + 1 => by rw [← Nat.add_assoc, many, many, many_add p A B, Nat.add_assoc]
theorem many_mul (p : Nat → Bool) (B : Nat) : ∀ A : Nat, many p (A * B) = ((List.range A).map fun c => many (fun r => p (c * B + r)) B).sum
  | 0 => by simp [many]
  | A + 1 => by
    rw [Nat.succ_mul, many_add, many_mul p B A, List.range_succ, List.map_append, List.sum_append]
    simp
theorem many_mono (p : Nat → Bool) {A B : Nat} (h : A ≤ B) : many p A ≤ many p B := by
  obtain ⟨k, rfl⟩ := Nat.exists_eq_add_of_le h
  rw [many_add]; omega
theorem many_lt (p : Nat → Bool) {A B : Nat} (h : A < B) (q : p A = true) : many p A < many p B := by
  have e : many p (A + 1) = many p A + 1 := by rw [many, if_pos q]
  have := many_mono p (A := A + 1) (B := B) h
  omega
theorem many_inj (p : Nat → Bool) {A B : Nat} (ha : p A = true) (hb : p B = true) (e : many p A = many p B) : A = B := by
  rcases Nat.lt_trichotomy A B with h | h | h
  · have := many_lt p h ha; omega
  · exact h
  · have := many_lt p h hb; omega
theorem many_sub {p q : Nat → Bool} (h : ∀ n, p n = true → q n = true) : ∀ N : Nat, many p N ≤ many q N
  | 0 => Nat.le_refl _
  | N + 1 => by
    have i := many_sub h N
    rw [many, many]
    by_cases e : p N = true
    · rw [if_pos e, if_pos (h N e)]; omega
    · rw [if_neg e]; omega
theorem many_pos {p : Nat → Bool} : ∀ {N : Nat}, 0 < many p N → ∃ n, n < N ∧ p n = true
  | 0, h => by simp [many] at h
  | N + 1, h => by
    by_cases e : p N = true
    · exact ⟨N, by omega, e⟩
    · rw [many, if_neg e] at h
      obtain ⟨n, hn, q⟩ := many_pos (N := N) (by omega)
      exact ⟨n, by omega, q⟩
theorem pad_cons {b t c r : Nat} (hr : r < b ^ t) : padF b (t + 1) (c * b ^ t + r) = (c : Int) :: padF b t r := by
  have h0 : 0 < b ^ t := by omega
  rw [padF, Nat.add_comm, Nat.add_mul_div_right _ _ h0, Nat.div_eq_of_lt hr, Nat.zero_add, Nat.add_mul_mod_self_right, Nat.mod_eq_of_lt hr]
theorem map_sum_congr {f g : Nat → Nat} : ∀ {N : Nat}, (∀ c, c < N → f c = g c) → ((List.range N).map f).sum = ((List.range N).map g).sum := by
  intro N h
  congr 1
  apply List.map_congr_left
  intro c hc
  exact h c (List.mem_range.mp hc)
theorem cnt_part {ls : List (List Int)} (ne : ∀ l ∈ ls, l ≠ []) {b t : Nat} (ih : ∀ x, lacks ls x = true → many (fun r => lacks ls (x ++ padF b t r)) (b ^ t) = cnt ls b t (tailS ls x)) {x : List Int} (c : Nat) :
    many (fun r => lacks ls (x ++ padF b (t + 1) (c * b ^ t + r))) (b ^ t) = if lacks ls (x ++ [(c : Int)]) = true then cnt ls b t (tailS ls (x ++ [(c : Int)])) else 0 := by
  have e1 : many (fun r => lacks ls (x ++ padF b (t + 1) (c * b ^ t + r))) (b ^ t) = many (fun r => lacks ls (x ++ [(c : Int)] ++ padF b t r)) (b ^ t) := by
    apply many_congr
    intro r hr
    show lacks ls _ = lacks ls _
    rw [pad_cons hr, List.append_assoc]
    rfl
  rw [e1]
  by_cases h : lacks ls (x ++ [(c : Int)]) = true
  · rw [if_pos h, ih _ h]
  · rw [if_neg h]
    apply many_none
    intro r _
    cases hc : lacks ls (x ++ [(c : Int)] ++ padF b t r) with
    | false => rfl
    | true => exact absurd (lacks_pre ne hc) h
theorem cnt_pad {ls : List (List Int)} (ne : ∀ l ∈ ls, l ≠ []) {b : Nat} : ∀ (t : Nat) (x : List Int), lacks ls x = true → many (fun r => lacks ls (x ++ padF b t r)) (b ^ t) = cnt ls b t (tailS ls x)
  | 0, x, h => by
    rw [Nat.pow_zero, many, many, cnt, padF, List.append_nil, if_pos h]
  | t + 1, x, h => by
    rw [Nat.pow_succ', many_mul, cnt]
    apply map_sum_congr
    intro c _
    rw [cnt_part ne (cnt_pad ne t), lacks_step ne _ h, tailS_step]
def gd (ls : List (List Int)) (b n : Nat) : Bool := lacks ls (figs b n)
theorem pad_tops {b : Nat} : ∀ (t n : Nat), padF b (t + 1) n = tops b t n
  | 0, n => by simp [padF, tops]
  | t + 1, n => by rw [padF, pad_tops t, tops]
theorem figs_pad {b t c r : Nat} (h2 : 2 ≤ b) (h1 : 1 ≤ c) (hc : c < b) (hr : r < b ^ t) : figs b (c * b ^ t + r) = (c : Int) :: padF b t r := by
  rw [← pad_cons hr, pad_tops]
  refine (tops_figs h2 t _ ?_ (.inr ?_)).symm
  · rw [Nat.pow_succ']
    have : (c + 1) * b ^ t ≤ b * b ^ t := Nat.mul_le_mul_right _ hc
    rw [Nat.succ_mul] at this
    omega
  · have : 1 * b ^ t ≤ c * b ^ t := Nat.mul_le_mul_right _ h1
    omega
def cntO (ls : List (List Int)) (b : Nat) : Nat → Nat
  | 0 => if lacks ls [0] = true then 1 else 0
  | t + 1 => ((List.range b).map fun (c : Nat) => if c = 0 then cntO ls b t else if lacks ls [(c : Int)] = true then cnt ls b t (tailS ls [(c : Int)]) else 0).sum
theorem cntO_part {ls : List (List Int)} (ne : ∀ l ∈ ls, l ≠ []) {b t c : Nat} (h2 : 2 ≤ b) (h1 : 1 ≤ c) (hc : c < b) : many (fun r => gd ls b (c * b ^ t + r)) (b ^ t) = if lacks ls [(c : Int)] = true then cnt ls b t (tailS ls [(c : Int)]) else 0 := by
  have e := cnt_part (x := []) ne (b := b) (t := t) (cnt_pad ne t) c
  rw [List.nil_append] at e
  rw [← e]
  apply many_congr
  intro r hr
  show gd ls b _ = lacks ls _
  rw [gd, figs_pad h2 h1 hc hr, List.nil_append, pad_cons hr]
theorem cntO_many {ls : List (List Int)} (ne : ∀ l ∈ ls, l ≠ []) {b : Nat} (h2 : 2 ≤ b) : ∀ t : Nat, cntO ls b t = many (gd ls b) (b ^ t)
  | 0 => by
    rw [Nat.pow_zero, many, many, cntO, Nat.zero_add]
    unfold gd
    rw [figs_lt (show 0 < b by omega)]
    rfl
  | t + 1 => by
    rw [Nat.pow_succ', many_mul, cntO]
    apply map_sum_congr
    intro c hc
    by_cases h0 : c = 0
    · subst h0
      rw [if_pos rfl, cntO_many ne h2 t]
      apply many_congr
      intro r _
      rw [Nat.zero_mul, Nat.zero_add]
    · rw [if_neg h0, cntO_part ne h2 (by omega) hc]
end Lw
set_option linter.all false
namespace Lw
theorem same_on {ls : List (List Int)} (ne : ∀ l ∈ ls, l ≠ []) : ∀ (g : List Int) {x y : List Int}, lacks ls x = true → lacks ls y = true → tailS ls x = tailS ls y → lacks ls (x ++ g) = lacks ls (y ++ g) ∧ (lacks ls (x ++ g) = true → tailS ls (x ++ g) = tailS ls (y ++ g))
  | [], x, y, hx, hy, e => by
    rw [List.append_nil, List.append_nil, hx, hy]
    exact ⟨rfl, fun _ => e⟩
  | c :: g, x, y, hx, hy, e => by
    have e1 : lacks ls (x ++ [c]) = lacks ls (y ++ [c]) := by rw [← lacks_step ne c hx, ← lacks_step ne c hy, e]
    have e2 : tailS ls (x ++ [c]) = tailS ls (y ++ [c]) := by rw [← tailS_step x c, ← tailS_step y c, e]
    have a1 : x ++ c :: g = x ++ [c] ++ g := by rw [List.append_assoc]; rfl
    have a2 : y ++ c :: g = y ++ [c] ++ g := by rw [List.append_assoc]; rfl
    rw [a1, a2]
    by_cases h : lacks ls (x ++ [c]) = true
    · exact same_on ne g h (e1 ▸ h) e2
    · have f1 : lacks ls (x ++ [c] ++ g) = false := by
        cases hc : lacks ls (x ++ [c] ++ g) with
        | false => rfl
        | true => exact absurd (lacks_pre ne hc) h
      have f2 : lacks ls (y ++ [c] ++ g) = false := by
        cases hc : lacks ls (y ++ [c] ++ g) with
        | false => rfl
        | true => exact absurd (e1 ▸ lacks_pre ne hc) h
      rw [f1, f2]
      exact ⟨rfl, fun z => by cases z⟩
theorem pigeon {α : Type} [DecidableEq α] : ∀ (xs ws : List α), (∀ x ∈ xs, x ∈ ws) → ws.length < xs.length → ∃ (i j : Nat) (x : α), i < j ∧ xs[i]? = some x ∧ xs[j]? = some x
  | [], ws, _, h => by simp at h
  | x :: xs, ws, hm, h => by
    by_cases hx : x ∈ xs
    · obtain ⟨j, hj⟩ := List.getElem?_of_mem hx
      exact ⟨0, j + 1, x, by omega, rfl, by simpa using hj⟩
    · have hxw := hm x List.mem_cons_self
      obtain ⟨i, j, z, hij, h1, h2⟩ := pigeon xs (ws.erase x) (fun y hy => (List.mem_erase_of_ne (fun e : y = x => hx (by rw [← e]; exact hy))).mpr (hm y (List.mem_cons_of_mem _ hy))) (by
        rw [List.length_erase_of_mem hxw]
        rw [List.length_cons] at h
        have : 0 < ws.length := List.length_pos_of_mem hxw
        omega)
      exact ⟨i + 1, j + 1, z, by omega, by simpa using h1, by simpa using h2⟩
theorem lacks_take {ls : List (List Int)} (ne : ∀ l ∈ ls, l ≠ []) {fs : List Int} (k : Nat) (h : lacks ls fs = true) : lacks ls (fs.take k) = true := by
  apply lacks_pre (gs := fs.drop k) ne
  rw [List.take_append_drop]; exact h
theorem pump {ls ws : List (List Int)} (ne : ∀ l ∈ ls, l ≠ []) (SL : StandsL ls ws) {fs : List Int} (hL : lacks ls fs = true) (hlen : ws.length < fs.length) (L : Nat) :
    ∃ gs : List Int, gs.length = L + 1 ∧ lacks ls gs = true ∧ gs.head? = fs.head? ∧ ∀ f ∈ gs, f ∈ fs := by
  have hx : ∀ x ∈ (List.range fs.length).map (fun i => tailS ls (fs.take (i + 1))), x ∈ ws := by
    intro x hx
    obtain ⟨i, _, rfl⟩ := List.mem_map.mp hx
    exact (SL.mem _).mpr (tailS_isSt ne (lacks_take ne _ hL))
  obtain ⟨i, j, z, hij, h1, h2⟩ := pigeon _ ws hx (by rw [List.length_map, List.length_range]; exact hlen)
  rw [List.getElem?_map] at h1 h2
  obtain ⟨i', hi, e1⟩ := Option.map_eq_some_iff.mp h1
  obtain ⟨j', hj, e2⟩ := Option.map_eq_some_iff.mp h2
  obtain ⟨hi1, hi2⟩ := List.getElem?_eq_some_iff.mp hi
  obtain ⟨hj1, hj2⟩ := List.getElem?_eq_some_iff.mp hj
  rw [List.getElem_range] at hi2 hj2
  subst hi2 hj2
  rw [List.length_range] at hi1 hj1
  let seg := (fs.drop (i + 1)).take (j - i)
  have hseg : fs.take (i + 1) ++ seg = fs.take (j + 1) := by
    show fs.take (i + 1) ++ (fs.drop (i + 1)).take (j - i) = _
    have e : j + 1 = (i + 1) + (j - i) := by omega
    rw [e]
    exact (List.take_add (l := fs) (i := i + 1) (j := j - i)).symm
  have hsl : seg.length = j - i := by
    show ((fs.drop (i + 1)).take (j - i)).length = _
    rw [List.length_take, List.length_drop]; omega
  have round : ∀ k : Nat, ∃ gs : List Int, lacks ls gs = true ∧ tailS ls gs = tailS ls (fs.take (i + 1)) ∧ gs.length = i + 1 + k * (j - i) ∧ gs.head? = fs.head? ∧ ∀ f ∈ gs, f ∈ fs := by
    intro k
    induction k with
    | zero =>
      refine ⟨fs.take (i + 1), lacks_take ne _ hL, rfl, by rw [List.length_take]; omega, ?_, fun f hf => List.mem_of_mem_take hf⟩
      cases fs with
      | nil => simp at hi1
      | cons f r => rfl
    | succ k ih =>
      obtain ⟨gs, g1, g2, g3, g4, g5⟩ := ih
      have q := same_on ne seg g1 (lacks_take ne (i + 1) hL) g2
      rw [hseg] at q
      have l1 : lacks ls (gs ++ seg) = true := by rw [q.1]; exact lacks_take ne _ hL
      refine ⟨gs ++ seg, l1, ?_, ?_, ?_, ?_⟩
      · rw [q.2 l1, e2, ← e1]
      · rw [List.length_append, g3, hsl, Nat.succ_mul]; omega
      · cases gs with
        | nil => simp at g3; omega
        | cons g r => exact g4
      · intro f hf
        rcases List.mem_append.mp hf with h | h
        · exact g5 f h
        · exact List.mem_of_mem_drop (List.mem_of_mem_take h)
  obtain ⟨gs, g1, g2, g3, g4, g5⟩ := round L
  have hbig : L + 1 ≤ gs.length := by
    rw [g3]
    have : L * 1 ≤ L * (j - i) := Nat.mul_le_mul_left _ (by omega)
    omega
  refine ⟨gs.take (L + 1), by rw [List.length_take]; omega, lacks_take ne _ g1, ?_, fun f hf => g5 f (List.mem_of_mem_take hf)⟩
  rw [← g4]
  cases gs with
  | nil => rfl
  | cons g r => rfl
theorem figs_size {b n k : Nat} (h2 : 2 ≤ b) (hn : n < b ^ (k + 1)) (h : k = 0 ∨ b ^ k ≤ n) : (figs b n).length = k + 1 := by
  rw [← tops_figs h2 k n hn h, tops_len]
theorem size_ex {b : Nat} (h2 : 2 ≤ b) (n : Nat) : ∃ k, n < b ^ (k + 1) ∧ (k = 0 ∨ b ^ k ≤ n) := by
  have key : ∀ K : Nat, n < b ^ (K + 1) → ∃ k, n < b ^ (k + 1) ∧ (k = 0 ∨ b ^ k ≤ n) := by
    intro K
    induction K with
    | zero => intro h; exact ⟨0, h, .inl rfl⟩
    | succ K ih =>
      intro h
      by_cases q : n < b ^ (K + 1)
      · exact ih q
      · exact ⟨K + 1, h, .inr (by omega)⟩
  refine key n ?_
  have : n < 2 ^ n := Nat.lt_two_pow_self
  have h3 : 2 ^ n ≤ b ^ n := Nat.pow_le_pow_left h2 n
  have h4 : b ^ n ≤ b ^ (n + 1) := Nat.pow_le_pow_right (by omega) (Nat.le_succ n)
  omega
theorem size_iff {b n k : Nat} (h2 : 2 ≤ b) : (figs b n).length = k + 1 ↔ n < b ^ (k + 1) ∧ (k = 0 ∨ b ^ k ≤ n) := by
  refine ⟨fun h => ?_, fun h => figs_size h2 h.1 h.2⟩
  obtain ⟨m, h1, h3⟩ := size_ex h2 n
  have e := figs_size h2 h1 h3
  rw [h] at e
  obtain rfl : k = m := by omega
  exact ⟨h1, h3⟩
end Lw
set_option Elab.async false
set_option linter.all false
set_option maxRecDepth 100000
namespace L2
open PySem PySem.Spec PyProof.Rows
theorem k_fld {X : Cx} (K : PySem.W.Frag) {e : Expr} {f : Str} {pos : Pos} {ta : TE} (he : PE X e ta) (hb : attributeBase e f X.env (eval e X.env) = eval e X.env := by rfl) (ek : X.K = K := by rfl) : PE X (.Attribute e f pos) (tFld K ta f) := by subst ek; exact pe_fld he hb
structure Mt (K : PySem.W.Frag) (C : Addr) (q x : Str) (st : Stmt) (ps : List Str) (f : Addr) (fd : FuncData) : Prop where
  fn : Fun K x q st f fd
  b : Binds K fd ps []
  m : Meth K C x f
theorem pmeth {X : Cx} {C : Addr} {q x : Str} {st : Stmt} {ps : List Str} {f : Addr} {fd : FuncData} {k : Nat} {sp : Sp} {o e : Expr} {es : List Expr} {ta : TE} {t : TA} {apos pos : Pos} {pl : Sem Bool} (D : Mt X.K C q x st ps f fd) (c : Cls X.K C) (G : FnOk X.prog X.w X.K X.mg X.base CX0 k f fd ps sp) (hr : Room k X.A) (he : PE X o ta) (ha : PA X (e :: es) t)
    (hst : starEach (e :: es) X.env = (false, eval e X.env) :: starEach es X.env := by rfl) (hpl : (backTo pos (starEach es X.env)).any (·.1) = false := by rfl)
    (ht : eval (.Call (.Attribute o x apos) (e :: es) [] pos) X.env = (do
      let ov ← eval o X.env
      standAt apos.atName
      let (f, first) ← holding [ov] (getMethod ov x pl)
      callWith pos f first (backTo pos (starEach (e :: es) X.env)) (backToKw pos (keywordEach [] X.env))) := by rfl) : PE X (.Call (.Attribute o x apos) (e :: es) [] pos) (tMeth C x sp [] E0 ta t) :=
  pe_meth he c D.m G hr D.b .nil pass0 ha hst hpl ht
theorem pmeth0 {X : Cx} {C : Addr} {q x : Str} {st : Stmt} {ps : List Str} {f : Addr} {fd : FuncData} {k : Nat} {sp : Sp} {o : Expr} {ta : TE} {apos pos : Pos} {pl : Sem Bool} (D : Mt X.K C q x st ps f fd) (c : Cls X.K C) (G : FnOk X.prog X.w X.K X.mg X.base CX0 k f fd ps sp) (hr : Room k X.A) (he : PE X o ta)
    (ht : eval (.Call (.Attribute o x apos) [] [] pos) X.env = (do
      let ov ← eval o X.env
      standAt apos.atName
      let (f, first) ← holding [ov] (getMethod ov x pl)
      callWith pos f first (backTo pos (starEach [] X.env)) (backToKw pos (keywordEach [] X.env))) := by rfl) : PE X (.Call (.Attribute o x apos) [] [] pos) (tMeth C x sp [] E0 ta tNil) :=
  pe_meth0 he c D.m G hr D.b .nil pass0 ht
structure Blt2 (mg : Str → Option Value) : Prop where
  n_sum : mg "sum" = none
  n_abs : mg "abs" = none
  n_zip : mg "zip" = none
  n_str : mg "str" = none
theorem rsizeD {a : Int} (h : -1 ≤ a) : Builtin.Range.rangeSize a (-1) (-1) = a + 1 := by
  unfold Builtin.Range.rangeSize
  rw [if_neg (by omega)]
  by_cases h1 : -1 < a
  · rw [if_pos h1, show (a - -1 - 1) = a by omega, show (- -1 : Int) = 1 from rfl, Int.ediv_one]
  · rw [if_neg h1]
    omega
theorem rsmallD {a : Int} (h : -1 ≤ a) (h2 : a ≤ 1000) : Builtin.Range.small a (-1) (-1) = true := by
  unfold Builtin.Range.small
  rw [rsizeD h]
  simp only [Builtin.Range.rangeFitsLong, Bool.and_eq_true, Bool.or_eq_true, decide_eq_true_eq, beq_iff_eq]
  first
    | omega
    | (simp; omega)
def iRngD (ta : TA) : TI := fun σ H R => ta σ H fun vs H1 => ∃ i : Int, vs = [.int i, .int (-1), .int (-1)] ∧ -1 ≤ i ∧ i ≤ 1000 ∧ R (Itrs i (-1) (i + 1).toNat) H1
section
variable {X : Cx} {tg : Expr}
theorem range_itD {pins : List (Addr × Obj)} {σ : St} {H : Hp} {s : Shared} {R : It → Hp → Prop} {E : Value → Shared → Prop} {lo : Int} {t u v : Tok} {tk : Nat} (I : Inv X pins σ H s) (h1 : -1 ≤ lo) (h2 : lo ≤ 1000)
    (q : R (Itrs lo (-1) (lo + 1).toNat) H) : wpAny (model X.prog X.w) X.A (pyIter (.ref s.heap.objs.size)) (PIE X pins σ tg R) E { s with heap := s.heap.push { cls := .type "range", data := .fields #[.int lo t, .int (-1) u, .int (-1) v] }, toks := tk } := by
  refine wpAny_pyIter_range (IsRange.new ..) (rsmallD h1 h2) ?_
  have I1 : Inv X pins σ H { s with heap := s.heap.push { cls := .type "range", data := .fields #[.int lo t, .int (-1) u, .int (-1) v] }, toks := tk } := I.kept fun b o e => Heap.get?_push_of_some _ e
  refine ⟨_, [(s.heap.push { cls := .type "range", data := .fields #[.int lo t, .int (-1) u, .int (-1) v] }).objs.size], _, _, H, rfl,
    I1.kept (t' := tk) fun b o e => Heap.get?_push_of_some _ e, turn_rangeS _ lo (-1) (lo + 1).toNat, ?_, fun b hb => ?_, q⟩
  · have e1 : lo + ((0 : Nat) : Int) * (-1) = lo := by simp
    have e2 : (((lo + 1).toNat : Nat) : Int) - ((0 : Nat) : Int) = Builtin.Range.rangeSize lo (-1) (-1) := by rw [rsizeD h1]; omega
    show IsRangeIter _ _ (lo + ((0 : Nat) : Int) * (-1)) ((((lo + 1).toNat : Nat) : Int) - ((0 : Nat) : Int)) (-1)
    rw [e1, e2]
    exact Heap.get?_push_size _ rfl
  · have e : b = (s.heap.push { cls := .type "range", data := .fields #[.int lo t, .int (-1) u, .int (-1) v] }).objs.size := by simpa using hb
    subst e
    exact I1.fpOk (Nat.le_refl _) (I1.hok.fresh (Nat.le_refl _))
theorem pi_rangeD {a b d : Expr} {ta : TA} {p pos : Pos} (hg : Gl X "range") (hm : X.mg "range" = none) (ha : PA X [a, b, d] ta) (hs : starEach [a, b, d] X.env = [(false, eval a X.env), (false, eval b X.env), (false, eval d X.env)] := by rfl) (hs2 : starEach [b, d] X.env = [(false, eval b X.env), (false, eval d X.env)] := by rfl) :
    PI X tg (.Call (.Name "range" p) [a, b, d] [] pos) (iRngD ta) := by
  intro pins s σ H R I h
  refine Call_ (ld_blt I hg hm boot_range (PyProof.Rows.callWith_type1 (thn (ha pos pins s σ H _ I h) fun us s1 ⟨vs, H1, I1, r1, q1⟩ => ?_) (by rw [hs, hs2]) (by rw [hs2]; rfl)))
  obtain ⟨i, e, q1, q2, q⟩ := q1
  subst e
  cases r1 with
  | cons r rr =>
    cases rr with
    | cons r' rr =>
      cases rr with
      | cons r'' rr =>
        cases rr
        obtain ⟨t, rfl⟩ := r
        obtain ⟨t', rfl⟩ := r'
        obtain ⟨t'', rfl⟩ := r''
        exact call_range_3 (by omega) (range_itD I1 q1 q2 q) (Or.inl (PyProof.noPylong_small (by omega)))
end
end L2
set_option Elab.async false
set_option linter.all false
set_option maxRecDepth 100000
namespace L2
open PySem PySem.Spec PyProof.Rows
theorem Inv.turned2 {X : Cx} {pins : List (Addr × Obj)} {σ : St} {H : Hp} {s : Shared} {h' : Heap} {e it T : Addr} {o : HO} {t' : Nat} (I : Inv X pins σ H s) (k : ∀ b o, b ≠ e → b ≠ it → s.heap.get? b = some o → h'.get? b = some o) (fe : FpOk X pins H e) (fi : FpOk X pins H it) (hT : s.heap.objs.size ≤ T)
    (new : ObjOk X.prog X.w (upd H T o) h' T o) : Inv X pins σ (upd H T o) { s with heap := h', toks := t' } := by
  have hn : H T = none := I.hok.fresh hT
  have na : ∀ b u, H b = some u → b ≠ T := fun b u e z => by rw [z, hn] at e; cases e
  have ne : ∀ b u, H b = some u → b ≠ e := fun b u q z => by rw [z, fe.1] at q; cases q
  have ni : ∀ b u, H b = some u → b ≠ it := fun b u q z => by rw [z, fi.1] at q; cases q
  have k' : ∀ b o, b ∉ [e, it] → s.heap.get? b = some o → h'.get? b = some o := fun b o hb q => k b o (fun z => hb (by simp [z])) (fun z => hb (by simp [z])) q
  refine I.step (g' := s.gens) (d' := s.drawn) (ch := [e, it]) (fun b hb => ?_) (fun b o _ _ hc q _ => k' b o hc q) (fun b o _ _ hc q _ => ⟨o.slots, k' b o hc q⟩) (fun b o hc q n => by rw [upd_ne (Nat.ne_of_lt (Nat.lt_of_lt_of_le (Heap.lt_size q) hT))]; exact n)
    (fun b o hc q => ⟨o, k' b o hc q⟩) (fun b xs q => by rw [upd_ne (na b _ q)]; exact q) (fun b o u q => by rw [upd_ne (na b _ q)]; exact q) (fun b ps q => ⟨#[], by rw [upd_ne (na b _ q), q]; simp⟩) (fun m hm => ?_) (fun b u q => ?_) I.bare
  · rcases List.mem_cons.mp hb with z | hb
    · subst z; exact ⟨fe.2.2.2.1, fe.2.1, fe.2.2.2.2.1, fe.2.2.2.2.2⟩
    · have z : b = it := by simpa using hb
      subst z; exact ⟨fi.2.2.2.1, fi.2.1, fi.2.2.2.2.1, fi.2.2.2.2.2⟩
  · obtain ⟨o, es, ep, ho, r⟩ := hm
    exact ⟨o, es, ep, k _ o (Ne.symm fe.2.1) (Ne.symm fi.2.1) ho, r⟩
  · by_cases hb : b = T
    · subst hb
      rw [upd_same] at q
      cases q
      exact new
    · rw [upd_ne hb] at q
      refine (I.hok b u q).stay (fun c v hc z => k c v ?_ ?_ z) (fun c z => by rw [upd_ne (na c _ z)]; exact z) fun c xs z => by rw [upd_ne (na c _ z)]; exact z
      · rcases hc with rfl | hc
        · exact ne _ _ q
        · exact ne _ _ hc
      · rcases hc with rfl | hc
        · exact ni _ _ q
        · exact ni _ _ hc
def Ite (K : PySem.W.Frag) (a : Addr) : It :=
  ⟨fun i H => ∃ xs x, SqL K H a xs ∧ xs[i]? = some x, fun i H v H' => ∃ T x, v = .ref T ∧ H T = none ∧ H' = upd H T (.tup [.int (i : Nat), x]) ∧ ∀ xs, SqL K H a xs → xs[i]? = some x, fun i H => ∃ xs, SqL K H a xs ∧ xs.length ≤ i⟩
theorem turn_enum {P : Program} {w : World} {K : PySem.W.Frag} {elts : List Expr} {k : Nat} {tp : Pos} (a e it : Addr) (hei : e ≠ it) : Turn P w K (.Tuple elts k tp) (Ite K a) [e, it] e (fun i h => (∃ old, IsEnum h e it i old) ∧ h.IsListIter it a i) where
  mem := by simp
  obj := fun i h st b hb => by
    obtain ⟨⟨old, he⟩, o, hi, c, d⟩ := st
    rcases List.mem_cons.mp hb with z | hb
    · subst z
      exact ⟨_, he, fun v z => by
        have z' : Data.fields _ = Data.cell v := z
        cases z'⟩
    · have z : b = it := by simpa using hb
      subst z
      exact ⟨o, hi, fun v z => by rw [d] at z; cases z⟩
  keep := fun i h h' st k => by
    obtain ⟨⟨old, he⟩, hi⟩ := st
    exact ⟨⟨old, k e (by simp) _ he⟩, hi.at fun o q => k it (by simp) o q⟩
  item := by
    intro X hP hw hK hc i pins s σ H E I hf st hg
    subst hP hw hK
    obtain ⟨xs, x, hq, hx⟩ := hg
    obtain ⟨its, rv, p, hz⟩ := I.list hq
    obtain ⟨u, hu, ru⟩ := rv.get hx
    obtain ⟨⟨old, he⟩, hi⟩ := st
    refine wpAny_pyNext_enum_item he hi p.isList (x := u) (by simpa using hu) hei fun h' ho hi' hT hsz hk => ?_
    refine ⟨_, rfl, ?_⟩
    refine wpAny_letOwnedTupleGo_enum (s := { s with heap := h', toks := s.toks + 1 }) ho fun h'' he' hs' => ?_
    have helt : e < s.heap.objs.size := Heap.lt_size he
    have hT2 : h''.get? s.heap.objs.size = some { cls := .type "tuple", data := .seq #[.int i s.toks, u] } := (hs'.2 _ (Nat.ne_of_gt helt)).trans hT
    have fe := hf e (by simp)
    have fi := hf it (by simp)
    have I1 : Inv X pins σ (upd H s.heap.objs.size (.tup [.int (i : Nat), x])) { s with heap := h'', toks := s.toks + 1 } := by
      refine I.turned2 (fun b o hb1 hb2 q => (hs'.2 b hb1).trans (hk b o hb1 hb2 q)) fe fi (Nat.le_refl _) ⟨by show 2 ≤ sizeLine; decide, [.int i s.toks, u], .cons ⟨_, rfl⟩ (.cons ru .nil), _, hT2, rfl, 0, rfl⟩
    refine ⟨.ref s.heap.objs.size, _, I1, rfl, ⟨s.heap.objs.size, x, rfl, I.hok.fresh (Nat.le_refl _), rfl, fun ys hy => by rw [I.list_inj hy hq]; exact hx⟩, ⟨⟨_, by simpa using he'⟩, hi'.at fun o q => (hs'.2 it (Ne.symm hei)).trans q⟩, fun b hb => ?_⟩
    have hbl : b < s.heap.objs.size := by
      rcases List.mem_cons.mp hb with z | hb
      · rw [z]; exact helt
      · have z : b = it := by simpa using hb
        obtain ⟨o, q, _⟩ := hi
        rw [z]; exact Heap.lt_size q
    rw [upd_ne (Nat.ne_of_lt hbl)]
    exact (hf b hb).1
  done := by
    intro X hP hw hK hc i pins s σ H E I hf st hg
    subst hP hw hK
    obtain ⟨xs, hq, hx⟩ := hg
    obtain ⟨its, rv, p, hz⟩ := I.list hq
    obtain ⟨⟨old, he⟩, hi⟩ := st
    obtain ⟨f0, f1, f2, f3, f4, f5⟩ := hf it (by simp)
    have hl := rv.length
    exact wpAny_pyNext_enum_end (I.ok.hd hc) he hi p.isList (by simp; omega) fun h' eb => ⟨rfl, I.turned (t' := s.toks) (fun b o hb q => eb b o hb q) f0 f1 f3 f4 f5⟩
  self := fun _ _ _ _ _ st h => by
    obtain ⟨⟨old, he⟩, _⟩ := st
    exact wpAny_pyIter_enum he h
section
variable {X : Cx}
def iEnum (K : PySem.W.Frag) (tl : TA) : TI := fun σ H R => tl σ H fun vs H1 => ∃ a, vs = [.ref a] ∧ (∃ xs, SqL K H1 a xs) ∧ R (Ite K a) H1
theorem pi_enum (K : PySem.W.Frag) {elts : List Expr} {k : Nat} {tp : Pos} {a : Expr} {ta : TA} {p pos : Pos} (hg : Gl X "enumerate") (hm : X.mg "enumerate" = none) (ha : PA X [a] ta) (hs : starEach [a] X.env = [(false, eval a X.env)] := by rfl) (ek : X.K = K := by rfl) :
    PI X (.Tuple elts k tp) (.Call (.Name "enumerate" p) [a] [] pos) (iEnum K ta) := by
  subst ek
  intro pins s σ H R I h
  refine Call_ (ld_blt I hg hm boot_enumerate (PyProof.Rows.callWith_type1 (thn (ha pos pins s σ H _ I h) fun us s1 ⟨vs, H1, I1, r1, q1⟩ => ?_) (by rw [hs]; rfl) (by rfl)))
  obtain ⟨l, e, ⟨xs, hq⟩, q⟩ := q1
  subst e
  cases r1 with
  | cons r rr =>
    cases rr
    cases r
    obtain ⟨its, rv, pl, hz⟩ := I1.list hq
    refine call_enumerate_list pl.isList fun h' he hi hsz hk => ?_
    refine wpAny_pyIter_enum (s := { s1 with heap := h' }) he ?_
    have I2 : Inv X pins σ H1 { s1 with heap := h' } := I1.kept (t' := s1.toks) fun b o q => hk b o q
    refine ⟨s1.heap.objs.size + 1, [s1.heap.objs.size + 1, s1.heap.objs.size], _, _, H1, rfl, I2, turn_enum l _ _ (Nat.succ_ne_self _), ⟨⟨_, he⟩, hi⟩, fun b hb => ?_, q⟩
    have hb2 : s1.heap.objs.size ≤ b := by
      rcases List.mem_cons.mp hb with z | hb
      · rw [z]; exact Nat.le_succ _
      · have z : b = s1.heap.objs.size := by simpa using hb
        rw [z]; exact Nat.le_refl _
    exact I1.fpOk hb2 (I1.hok.fresh hb2)
theorem for_enum {K : PySem.W.Frag} {a : Addr} {xs : List V} {g : TG} {tb : TS} {D : Ends} {σ : St} {H : Hp} (Pv : Nat → St → Hp → Prop) (h0 : Pv 0 σ H) (hl : ∀ i σ H, i ≤ xs.length → Pv i σ H → SqL K H a xs)
    (hs : ∀ i x σ H T, xs[i]? = some x → Pv i σ H → H T = none → g (.ref T) σ (upd H T (.tup [.int (i : Nat), x])) fun σ2 H2 => tb { D with nx := Pv (i + 1), ct := Pv (i + 1), bk := D.nx } σ2 H2) (hd : ∀ σ H, Pv xs.length σ H → D.nx σ H) :
    ∃ W : Nat → Nat → St → Hp → Prop, (∃ m, W 0 m σ H) ∧ ∀ i m σ H, W i m σ H →
      ((Ite K a).stop i H ∧ D.nx σ H) ∨ ((Ite K a).go i H ∧ ∃ N : St → Hp → Prop, (∀ σ' H', N σ' H' → ∃ m', m' < m ∧ W (i + 1) m' σ' H') ∧ ∀ x H', (Ite K a).yld i H x H' → g x σ H' fun σ2 H2 => tb { D with nx := N, ct := N, bk := D.nx } σ2 H2) := by
  refine ⟨fun i m σ H => m = xs.length - i ∧ i ≤ xs.length ∧ Pv i σ H, ⟨xs.length, by simp, Nat.zero_le _, h0⟩, ?_⟩
  rintro i m σ H ⟨rfl, hi, p⟩
  have q := hl i σ H hi p
  by_cases hlt : i < xs.length
  · have hx : xs[i]? = some xs[i] := List.getElem?_eq_getElem hlt
    refine .inr ⟨⟨xs, xs[i], q, hx⟩, Pv (i + 1), fun σ' H' p' => ⟨xs.length - (i + 1), by omega, rfl, hlt, p'⟩, fun v H' y => ?_⟩
    obtain ⟨T, x, rfl, hT, rfl, hy⟩ := y
    have e2 := hy xs q
    rw [hx] at e2
    cases e2
    exact hs i xs[i] σ H T hx p hT
  · have e : i = xs.length := by omega
    subst e
    exact .inl ⟨⟨xs, q, Nat.le_refl _⟩, hd σ H p⟩
end
end L2
set_option linter.all false
namespace Lw
def stepC (ls : List (List Int)) (b t : Nat) : Option (List Int) → Nat → Nat
  | some x, c => if lacks ls (x ++ [(c : Int)]) = true then cnt ls b t (tailS ls (x ++ [(c : Int)])) else 0
  | none, c => if c = 0 then cntO ls b t else if lacks ls [(c : Int)] = true then cnt ls b t (tailS ls [(c : Int)]) else 0
def under (ls : List (List Int)) (b t : Nat) (o : Option (List Int)) (s : Nat) : Nat := ((List.range s).map (stepC ls b t o)).sum
theorem under_zero (ls : List (List Int)) (b t : Nat) (o : Option (List Int)) : under ls b t o 0 = 0 := rfl
theorem under_succ (ls : List (List Int)) (b t : Nat) (o : Option (List Int)) (s : Nat) : under ls b t o (s + 1) = under ls b t o s + stepC ls b t o s := by
  unfold under
  rw [List.range_succ, List.map_append, List.sum_append]
  simp
def Rep (ls : List (List Int)) (b m : Nat) (o : Option (List Int)) : Prop := (m = 0 ∧ o = none) ∨ (1 ≤ m ∧ gd ls b m = true ∧ o = some (tailS ls (figs b m)))
theorem figs_moreN {b m c : Nat} (h2 : 2 ≤ b) (h1 : 1 ≤ m) (hc : c < b) : figs b (m * b + c) = figs b m ++ [(c : Int)] := by
  have hge : b ≤ m * b + c := by
    have : 1 * b ≤ m * b := Nat.mul_le_mul_right b h1
    omega
  rw [figs_ge h2 hge]
  have e1 : (m * b + c) / b = m := by rw [Nat.add_comm, Nat.add_mul_div_right _ _ (by omega), Nat.div_eq_of_lt hc, Nat.zero_add]
  have e2 : (m * b + c) % b = c := by rw [Nat.add_comm, Nat.add_mul_mod_self_right, Nat.mod_eq_of_lt hc]
  rw [e1, e2]
theorem go_on {b m c : Nat} (h2 : 2 ≤ b) (h1 : 1 ≤ m) : 1 ≤ m * b + c := by
  have : 1 * b ≤ m * b := Nat.mul_le_mul_right b h1
  omega
theorem figs_padM {b m : Nat} (h2 : 2 ≤ b) (h1 : 1 ≤ m) : ∀ (t r : Nat), r < b ^ t → figs b (m * b ^ t + r) = figs b m ++ padF b t r
  | 0, r, hr => by
    have : r = 0 := by rw [Nat.pow_zero] at hr; omega
    subst this
    rw [Nat.pow_zero, Nat.mul_one, Nat.add_zero, padF, List.append_nil]
  | t + 1, r, hr => by
    have hp : 0 < b ^ t := Nat.pow_pos (by omega)
    have hc : r / b ^ t < b := by
      rw [Nat.div_lt_iff_lt_mul hp]
      rw [Nat.pow_succ', ] at hr
      exact hr
    have hm : r % b ^ t < b ^ t := Nat.mod_lt _ hp
    have e : m * b ^ (t + 1) + r = (m * b + r / b ^ t) * b ^ t + r % b ^ t := by
      have h := Nat.div_add_mod r (b ^ t)
      rw [Nat.pow_succ', Nat.add_mul, Nat.mul_assoc, Nat.add_assoc, Nat.mul_comm (r / b ^ t), h]
    have h1' : 1 ≤ m * b + r / b ^ t := go_on h2 h1
    rw [e, figs_padM h2 h1' t _ hm, figs_moreN h2 h1 hc, padF, List.append_assoc]
    rfl
theorem stepC_many {ls : List (List Int)} (ne : ∀ l ∈ ls, l ≠ []) {b m : Nat} {o : Option (List Int)} (h2 : 2 ≤ b) (R : Rep ls b m o) (t : Nat) {c : Nat} (hc : c < b) : stepC ls b t o c = many (fun r => gd ls b ((m * b + c) * b ^ t + r)) (b ^ t) := by
  rcases R with ⟨rfl, rfl⟩ | ⟨h1, hg, rfl⟩
  · rw [Nat.zero_mul, Nat.zero_add]
    show (if c = 0 then _ else _) = _
    by_cases h0 : c = 0
    · subst h0
      rw [if_pos rfl, cntO_many ne h2]
      apply many_congr
      intro r _
      rw [Nat.zero_mul, Nat.zero_add]
    · rw [if_neg h0, cntO_part ne h2 (by omega) hc]
  · have e := cnt_part (x := figs b m) ne (b := b) (t := t) (cnt_pad ne t) c
    show (if lacks ls (tailS ls (figs b m) ++ [(c : Int)]) = true then cnt ls b t (tailS ls (tailS ls (figs b m) ++ [(c : Int)])) else 0) = _
    rw [lacks_step ne _ hg, tailS_step, ← e]
    apply many_congr
    intro r hr
    show lacks ls _ = gd ls b _
    rw [gd, figs_padM h2 (go_on h2 h1) t r hr, figs_moreN h2 h1 hc, pad_cons hr, List.append_assoc]
    rfl
theorem under_many {ls : List (List Int)} (ne : ∀ l ∈ ls, l ≠ []) {b m : Nat} {o : Option (List Int)} (h2 : 2 ≤ b) (R : Rep ls b m o) (t : Nat) : ∀ {s : Nat}, s ≤ b → many (gd ls b) (m * b ^ (t + 1)) + under ls b t o s = many (gd ls b) ((m * b + s) * b ^ t)
  | 0, _ => by rw [under_zero, Nat.add_zero, Nat.pow_succ', show (m * b + 0) * b ^ t = m * (b * b ^ t) by rw [Nat.add_zero, Nat.mul_assoc]]
  | s + 1, hs => by
    rw [under_succ, ← Nat.add_assoc, under_many ne h2 R t (s := s) (by omega), stepC_many ne h2 R t (show s < b by omega), ← Nat.add_assoc, Nat.succ_mul (m * b + s), many_add]
theorem Rep.step {ls : List (List Int)} (ne : ∀ l ∈ ls, l ≠ []) {b m : Nat} {o : Option (List Int)} (h2 : 2 ≤ b) (R : Rep ls b m o) {c : Nat} (hc : c < b) :
    (o = none ∧ c = 0 ∧ Rep ls b (m * b + c) none) ∨ (¬ (o = none ∧ c = 0) ∧ ((lacks ls (o.getD [] ++ [(c : Int)]) = true ∧ Rep ls b (m * b + c) (some (tailS ls (o.getD [] ++ [(c : Int)])))) ∨ (lacks ls (o.getD [] ++ [(c : Int)]) = false ∧ 1 ≤ m * b + c ∧ gd ls b (m * b + c) = false))) := by
  rcases R with ⟨rfl, rfl⟩ | ⟨h1, hg, rfl⟩
  · by_cases h0 : c = 0
    · left; exact ⟨rfl, h0, .inl ⟨by rw [h0]; omega, rfl⟩⟩
    · right
      refine ⟨fun z => h0 z.2, ?_⟩
      rw [Nat.zero_mul, Nat.zero_add]
      show (lacks ls [(c : Int)] = true ∧ _) ∨ (lacks ls [(c : Int)] = false ∧ _)
      have eg : gd ls b c = lacks ls [(c : Int)] := by unfold gd; rw [figs_lt hc]
      cases hl : lacks ls [(c : Int)] with
      | true => left; exact ⟨rfl, .inr ⟨by omega, by rw [eg]; exact hl, by rw [figs_lt hc]; rfl⟩⟩
      | false => right; exact ⟨rfl, by omega, by rw [eg]; exact hl⟩
  · right
    refine ⟨fun z => (nomatch z.1), ?_⟩
    have hm : 1 ≤ m * b + c := go_on h2 h1
    show (lacks ls (tailS ls (figs b m) ++ [(c : Int)]) = true ∧ Rep ls b (m * b + c) (some (tailS ls (tailS ls (figs b m) ++ [(c : Int)])))) ∨ (lacks ls (tailS ls (figs b m) ++ [(c : Int)]) = false ∧ _)
    rw [lacks_step ne _ hg, tailS_step]
    have eg : gd ls b (m * b + c) = lacks ls (figs b m ++ [(c : Int)]) := by unfold gd; rw [figs_moreN h2 h1 hc]
    cases hl : lacks ls (figs b m ++ [(c : Int)]) with
    | true => left; exact ⟨rfl, .inr ⟨hm, by rw [eg]; exact hl, by rw [figs_moreN h2 h1 hc]⟩⟩
    | false => right; exact ⟨rfl, hm, by rw [eg]; exact hl⟩
theorem bad_on {ls : List (List Int)} (ne : ∀ l ∈ ls, l ≠ []) {b m : Nat} (h2 : 2 ≤ b) (h1 : 1 ≤ m) (hg : gd ls b m = false) (t : Nat) {r : Nat} (hr : r ≤ b ^ t) : many (gd ls b) (m * b ^ t + r) = many (gd ls b) (m * b ^ t) := by
  rw [many_add, many_none (N := r)]
  · omega
  intro k hk
  show gd ls b _ = false
  cases hc : gd ls b (m * b ^ t + k) with
  | false => rfl
  | true =>
    unfold gd at hc hg
    rw [figs_padM h2 h1 t k (by omega)] at hc
    rw [lacks_pre ne hc] at hg
    cases hg
end Lw
set_option linter.all false
namespace Lw
end Lw
set_option linter.all false
namespace Lw
theorem gd_pre {ls : List (List Int)} (ne : ∀ l ∈ ls, l ≠ []) {b h t r : Nat} (h2 : 2 ≤ b) (h1 : 1 ≤ h) (hr : r < b ^ t) (hg : gd ls b (h * b ^ t + r) = true) : gd ls b h = true := by
  unfold gd at *
  rw [figs_padM h2 h1 t r hr] at hg
  exact lacks_pre ne hg
theorem ge_of_many {p : Nat → Bool} {g n : Nat} (hg : p g = true) (h : many p n ≤ many p g) : n ≤ g := by
  by_cases z : n ≤ g
  · exact z
  · have := many_lt p (show g < n by omega) hg
    omega
end Lw
set_option linter.all false
namespace Lw
theorem pump_num {ls ws : List (List Int)} (ne : ∀ l ∈ ls, l ≠ []) (SL : StandsL ls ws) {b n : Nat} (h2 : 2 ≤ b) (hg : gd ls b n = true) (hn : 0 < n) (hlen : ws.length < (figs b n).length) (L : Nat) : ∃ g, gd ls b g = true ∧ b ^ L ≤ g ∧ g < b ^ (L + 1) := by
  obtain ⟨gs, g1, g2, g3, g4⟩ := pump ne SL (fs := figs b n) hg hlen L
  have hh := figs_head h2 n hn
  have hgs : gs ≠ [] := fun z => by rw [z] at g1; simp at g1
  have hhead : gs.head? ≠ some 0 := by rw [g3]; exact hh
  obtain ⟨m, _, e2, e3⟩ := figs_numI h2 (L + 1) gs g1 hgs (fun f hf => figs_mem h2 n f (g4 f hf)) (.inl hhead)
  have hs : (figs b m).length = L + 1 := by rw [e2]; exact g1
  obtain ⟨a1, a2⟩ := (size_iff h2).mp hs
  refine ⟨m, by unfold gd; rw [e2]; exact g2, ?_, a1⟩
  rcases a2 with z | z
  · subst z
    rw [Nat.pow_zero]
    exact e3 hhead
  · exact z
theorem many_all {b : Nat} : ∀ n : Nat, many (gd [] b) n = n
  | 0 => rfl
  | n + 1 => by rw [many, many_all n]; rfl
theorem lacks_sub {ls ms : List (List Int)} (h : ∀ l ∈ ls, l ∈ ms) {fs : List Int} (q : lacks ms fs = true) : lacks ls fs = true := by
  unfold lacks at *
  rw [Bool.not_eq_true', List.any_eq_false] at q ⊢
  intro st hst
  exact q st (h st hst)
end Lw
set_option Elab.async false
set_option linter.all false
namespace Lw
def wsum (w : Nat → Nat) (sc : Nat) : List Int → Nat
  | [] => 0
  | c :: l => sc ^ l.length * w c.toNat + wsum w sc l
def tot (p : Nat → Bool) (f : Nat → Nat) : Nat → Nat
  | 0 => 0
  | n + 1 => tot p f n + (if p n = true then f n else 0)
theorem tot_congr {p q : Nat → Bool} {f g : Nat → Nat} : ∀ {N : Nat}, (∀ n, n < N → p n = q n) → (∀ n, n < N → f n = g n) → tot p f N = tot q g N
  | 0, _, _ => rfl
  | N + 1, h, k => by rw [tot, tot, tot_congr (N := N) (fun n hn => h n (by omega)) (fun n hn => k n (by omega)), h N (by omega), k N (by omega)]
theorem tot_none {p : Nat → Bool} {f : Nat → Nat} : ∀ {N : Nat}, (∀ n, n < N → p n = false) → tot p f N = 0
  | 0, _ => rfl
  | N + 1, h => by rw [tot, tot_none (N := N) fun n hn => h n (by omega), h N (by omega)]; rfl
theorem tot_add (p : Nat → Bool) (f : Nat → Nat) (A : Nat) : ∀ B : Nat, tot p f (A + B) = tot p f A + tot (fun n => p (A + n)) (fun n => f (A + n)) B
  | 0 => rfl
  | B + 1 => by rw [← Nat.add_assoc, tot, tot, tot_add p f A B, Nat.add_assoc]
theorem tot_mul (p : Nat → Bool) (f : Nat → Nat) (B : Nat) : ∀ A : Nat, tot p f (A * B) = ((List.range A).map fun c => tot (fun r => p (c * B + r)) (fun r => f (c * B + r)) B).sum
  | 0 => by simp [tot]
  | A + 1 => by
    rw [Nat.succ_mul, tot_add, tot_mul p f B A, List.range_succ, List.map_append, List.sum_append]
    simp
theorem tot_plus (p : Nat → Bool) (f : Nat → Nat) (a : Nat) : ∀ N : Nat, tot p (fun n => a + f n) N = a * many p N + tot p f N
  | 0 => by simp [tot, many]
  | N + 1 => by
    rw [tot, tot, many, tot_plus p f a N]
    by_cases h : p N = true
    · rw [if_pos h, if_pos h, if_pos h, Nat.mul_add]; omega
    · rw [if_neg h, if_neg h, if_neg h, Nat.add_zero, Nat.add_zero, Nat.add_zero]
theorem tot_mono (p : Nat → Bool) (f : Nat → Nat) {A B : Nat} (h : A ≤ B) : tot p f A ≤ tot p f B := by
  obtain ⟨k, rfl⟩ := Nat.exists_eq_add_of_le h
  rw [tot_add]; omega
theorem padF_len (b : Nat) : ∀ t r : Nat, (padF b t r).length = t
  | 0, _ => rfl
  | t + 1, r => by rw [padF, List.length_cons, padF_len b t]
def tt (ls : List (List Int)) (b : Nat) (w : Nat → Nat) (sc : Nat) : Nat → List Int → Nat
  | 0, _ => 0
  | t + 1, x => ((List.range b).map fun (c : Nat) => if lacks ls (x ++ [(c : Int)]) = true then sc ^ t * w c * cnt ls b t (tailS ls (x ++ [(c : Int)])) + tt ls b w sc t (tailS ls (x ++ [(c : Int)])) else 0).sum
def ttO (ls : List (List Int)) (b : Nat) (w : Nat → Nat) (sc : Nat) : Nat → Nat
  | 0 => w 0 * cntO ls b 0
  | t + 1 => ((List.range b).map fun (c : Nat) => if c = 0 then ttO ls b w sc t else if lacks ls [(c : Int)] = true then sc ^ t * w c * cnt ls b t (tailS ls [(c : Int)]) + tt ls b w sc t (tailS ls [(c : Int)]) else 0).sum
theorem tt_part {ls : List (List Int)} (ne : ∀ l ∈ ls, l ≠ []) {b t sc : Nat} {w : Nat → Nat} (ih : ∀ x, lacks ls x = true → tot (fun r => lacks ls (x ++ padF b t r)) (fun r => wsum w sc (padF b t r)) (b ^ t) = tt ls b w sc t (tailS ls x)) {x : List Int} (c : Nat) :
    tot (fun r => lacks ls (x ++ padF b (t + 1) (c * b ^ t + r))) (fun r => wsum w sc (padF b (t + 1) (c * b ^ t + r))) (b ^ t) = if lacks ls (x ++ [(c : Int)]) = true then sc ^ t * w c * cnt ls b t (tailS ls (x ++ [(c : Int)])) + tt ls b w sc t (tailS ls (x ++ [(c : Int)])) else 0 := by
  have e1 : tot (fun r => lacks ls (x ++ padF b (t + 1) (c * b ^ t + r))) (fun r => wsum w sc (padF b (t + 1) (c * b ^ t + r))) (b ^ t) = tot (fun r => lacks ls (x ++ [(c : Int)] ++ padF b t r)) (fun r => sc ^ t * w c + wsum w sc (padF b t r)) (b ^ t) := by
    apply tot_congr
    · intro r hr
      show lacks ls _ = lacks ls _
      rw [pad_cons hr, List.append_assoc]
      rfl
    · intro r hr
      show wsum w sc _ = _
      rw [pad_cons hr, wsum, padF_len]
      rfl
  rw [e1, tot_plus]
  by_cases h : lacks ls (x ++ [(c : Int)]) = true
  · rw [if_pos h, ih _ h, cnt_pad ne t _ h]
  · rw [if_neg h]
    have hn : ∀ r, r < b ^ t → lacks ls (x ++ [(c : Int)] ++ padF b t r) = false := by
      intro r _
      cases hc : lacks ls (x ++ [(c : Int)] ++ padF b t r) with
      | false => rfl
      | true => exact absurd (lacks_pre ne hc) h
    rw [many_none hn, tot_none hn]
    simp
theorem tt_pad {ls : List (List Int)} (ne : ∀ l ∈ ls, l ≠ []) {b sc : Nat} {w : Nat → Nat} : ∀ (t : Nat) (x : List Int), lacks ls x = true → tot (fun r => lacks ls (x ++ padF b t r)) (fun r => wsum w sc (padF b t r)) (b ^ t) = tt ls b w sc t (tailS ls x)
  | 0, x, h => by
    rw [Nat.pow_zero, tot, tot, tt, padF, wsum]
    simp
  | t + 1, x, h => by
    rw [Nat.pow_succ', tot_mul, tt]
    apply map_sum_congr
    intro c _
    rw [tt_part ne (tt_pad ne t), lacks_step ne _ h, tailS_step]
theorem ttO_part {ls : List (List Int)} (ne : ∀ l ∈ ls, l ≠ []) {b t c sc : Nat} {w : Nat → Nat} (h2 : 2 ≤ b) (h1 : 1 ≤ c) (hc : c < b) : tot (fun r => gd ls b (c * b ^ t + r)) (fun r => wsum w sc (figs b (c * b ^ t + r))) (b ^ t) = if lacks ls [(c : Int)] = true then sc ^ t * w c * cnt ls b t (tailS ls [(c : Int)]) + tt ls b w sc t (tailS ls [(c : Int)]) else 0 := by
  have e := tt_part (x := []) ne (b := b) (t := t) (w := w) (sc := sc) (tt_pad ne t) c
  rw [List.nil_append] at e
  rw [← e]
  apply tot_congr
  · intro r hr
    show gd ls b _ = lacks ls _
    rw [gd, figs_pad h2 h1 hc hr, List.nil_append, pad_cons hr]
  · intro r hr
    show wsum w sc _ = wsum w sc _
    rw [figs_pad h2 h1 hc hr, pad_cons hr]
theorem ttO_tot {ls : List (List Int)} (ne : ∀ l ∈ ls, l ≠ []) {b sc : Nat} {w : Nat → Nat} (h2 : 2 ≤ b) : ∀ t : Nat, ttO ls b w sc t = tot (gd ls b) (fun n => wsum w sc (figs b n)) (b ^ t)
  | 0 => by
    rw [Nat.pow_zero, tot, tot, ttO, Nat.zero_add]
    unfold gd
    rw [figs_lt (show 0 < b by omega), cntO]
    show w 0 * (if lacks ls [0] = true then 1 else 0) = if lacks ls [0] = true then wsum w sc [0] else 0
    split <;> simp [wsum]
  | t + 1 => by
    rw [Nat.pow_succ', tot_mul, ttO]
    apply map_sum_congr
    intro c hc
    by_cases h0 : c = 0
    · subst h0
      rw [if_pos rfl, ttO_tot ne h2 t]
      apply tot_congr <;> intro r _ <;> simp
    · rw [if_neg h0, ttO_part ne h2 (by omega) hc]
theorem wsum_snoc (w : Nat → Nat) (sc : Nat) (c : Int) : ∀ l : List Int, wsum w sc (l ++ [c]) = sc * wsum w sc l + w c.toNat
  | [] => by simp [wsum]
  | d :: l => by
    rw [List.cons_append, wsum, wsum, wsum_snoc w sc c l, List.length_append, List.length_singleton, Nat.pow_succ', Nat.mul_add, Nat.mul_assoc]
    omega
theorem wsum_num {b : Nat} (h2 : 2 ≤ b) (n : Nat) : wsum (fun c => c) b (figs b n) = n := by
  induction n using Nat.strongRecOn with
  | _ n ih =>
    by_cases h : n < b
    · rw [figs_lt h]; simp [wsum]
    · have h1 : 1 ≤ n / b := Nat.div_pos (by omega) (by omega)
      have hc : n % b < b := Nat.mod_lt _ (by omega)
      have e : n / b * b + n % b = n := by rw [Nat.mul_comm]; exact Nat.div_add_mod n b
      have ef := figs_moreN h2 h1 hc
      rw [e] at ef
      rw [ef, wsum_snoc, ih (n / b) (Nat.div_lt_self (by omega) (by omega)), Nat.mul_comm]
      exact e
theorem ttO_num {ls : List (List Int)} (ne : ∀ l ∈ ls, l ≠ []) {b : Nat} (h2 : 2 ≤ b) (t : Nat) : ttO ls b (fun c => c) b t = tot (gd ls b) (fun n => n) (b ^ t) := by
  rw [ttO_tot ne h2]
  exact tot_congr (fun _ _ => rfl) (fun n _ => wsum_num h2 n)
theorem tot_sub {p q : Nat → Bool} {f : Nat → Nat} (h : ∀ n, p n = true → q n = true) : ∀ N : Nat, tot p f N ≤ tot q f N
  | 0 => Nat.le_refl _
  | N + 1 => by
    rw [tot, tot]
    have := tot_sub (f := f) h N
    by_cases hp : p N = true
    · rw [if_pos hp, if_pos (h N hp)]; omega
    · rw [if_neg hp]; omega
theorem tot_ge {p : Nat → Bool} {f : Nat → Nat} {lo : Nat} : ∀ {N : Nat}, (∀ n, n < N → p n = true → lo ≤ f n) → many p N * lo ≤ tot p f N
  | 0, _ => by simp [many, tot]
  | N + 1, h => by
    rw [many, tot]
    have := tot_ge (N := N) fun n hn => h n (by omega)
    by_cases hp : p N = true
    · have := h N (by omega) hp
      rw [if_pos hp, if_pos hp, Nat.add_mul]; omega
    · rw [if_neg hp, if_neg hp, Nat.add_zero, Nat.add_zero]; exact this
theorem tot_le {p : Nat → Bool} {f : Nat → Nat} {hi : Nat} : ∀ {N : Nat}, (∀ n, n < N → p n = true → f n ≤ hi) → tot p f N ≤ many p N * hi
  | 0, _ => by simp [many, tot]
  | N + 1, h => by
    rw [many, tot]
    have := tot_le (N := N) fun n hn => h n (by omega)
    by_cases hp : p N = true
    · have := h N (by omega) hp
      rw [if_pos hp, if_pos hp, Nat.add_mul]; omega
    · rw [if_neg hp, if_neg hp, Nat.add_zero, Nat.add_zero]; exact this
end Lw
set_option Elab.async false
set_option linter.all false
set_option maxRecDepth 100000
namespace L2
open PySem PySem.Spec PyProof.Rows
section
variable {X : Cx}
def tListRange (te : TE) : TE := fun σ H Q => te σ H fun x H1 => ∃ n : Nat, x = .int n ∧ n ≤ 1000 ∧ ∀ q, H1 q = none → Q (.ref q) (upd H1 q (.lst ((List.range n).map fun (c : Nat) => V.int c)))
theorem range_vals : ∀ {n : Nat} {its : List Value}, its.length = n → (∀ (i : Nat) v, its[i]? = some v → ∃ t, v = Value.int (0 + (i : Int) * 1) t) → Vals ((List.range n).map fun (c : Nat) => V.int c) its := by
  intro n its hl h
  have key : ∀ (k : Nat) (its : List Value), (∀ (i : Nat) v, its[i]? = some v → ∃ t, v = Value.int ((k : Int) + (i : Int)) t) → Vals ((List.range' k its.length).map fun (c : Nat) => V.int c) its := by
    intro k its
    induction its generalizing k with
    | nil => intro _; exact .nil
    | cons x l ih =>
      intro h
      rw [List.length_cons, List.range'_succ, List.map_cons]
      refine .cons ?_ (ih (k + 1) fun i v e => ?_)
      · obtain ⟨t, e⟩ := h 0 x rfl
        exact ⟨t, by rw [e]; simp⟩
      · obtain ⟨t, e'⟩ := h (i + 1) v (by simpa using e)
        exact ⟨t, by rw [e']; congr 1; omega⟩
  subst hl
  rw [List.range_eq_range']
  exact key 0 its fun i v e => by
    obtain ⟨t, e'⟩ := h i v e
    exact ⟨t, by rw [e']; congr 1; omega⟩
theorem pe_listRange {e : Expr} {te : TE} {p1 p2 pos1 pos2 : Pos} (hc : X.calm = true) (hg1 : Gl X "list") (hm1 : X.mg "list" = none) (hg2 : Gl X "range") (hm2 : X.mg "range" = none) (he : PE X e te)
    (hs : starEach [e] X.env = [(false, eval e X.env)] := by rfl) (hs2 : starEach [.Call (.Name "range" p2) [e] [] pos2] X.env = [(false, eval (.Call (.Name "range" p2) [e] [] pos2) X.env)] := by rfl) :
    PE X (.Call (.Name "list" p1) [.Call (.Name "range" p2) [e] [] pos2] [] pos1) (tListRange te) := by
  intro pins s σ H Q I h
  refine wpAny_Call_Name_kw (ld_blt I hg1 hm1 boot_list ?_)
  refine PyProof.Rows.callWith_type1 ?_ hs2 rfl
  rw [hs2]
  show wpAny _ _ (spliced ((false, eval (.Call (.Name "range" p2) [e] [] pos2) X.env) :: backTo pos1 [])) _ _ s
  refine Calls.spliced_cons ?_
  refine wpAny_Call_Name_kw (ld_blt I hg2 hm2 boot_range ?_)
  refine PyProof.Rows.callWith_type1 ?_ hs rfl
  rw [hs]
  show wpAny _ _ (spliced ((false, eval e X.env) :: backTo pos2 [])) _ _ s
  refine Calls.spliced_cons (thn (he pins s σ H _ I h) fun v s1 ⟨x, H1, I1, r1, q1⟩ => Calls.spliced_nil ?_)
  obtain ⟨n, rfl, hn, q⟩ := q1
  obtain ⟨t, rfl⟩ := r1
  refine call_range_1 (Calls.spliced_nil ?_)
  have hsz : Builtin.Range.rangeSize 0 (n : Int) 1 = (n : Nat) := by rw [rangeSize_one]; split <;> omega
  refine call_list_range (n := n) (I1.ok.hd hc) (IsRange.new ..) (small_one (by decide) (by decide) (by omega) (by omega)) hsz (Nat.le_trans hn (by decide)) fun h' tk acc' c' hk hS hacc => ?_
  simp only [Heap.size_push] at hS ⊢
  have kept : ∀ b o, s1.heap.get? b = some o → h'.get? b = some o := fun b o e => hk b o (Heap.get?_push_of_some _ e)
  have rv : Vals ((List.range n).map fun (c : Nat) => V.int c) acc'.toList := range_vals (by rw [Array.length_toList]; exact hacc.1) fun i v e => hacc.2 i v (by rw [← Array.getElem?_toList]; exact e)
  have hokL := I1.laid (a := s1.heap.objs.size + 1) (o := .lst ((List.range n).map fun (c : Nat) => V.int c)) (h' := h') (t' := tk) kept (Nat.le_succ _) ⟨by rw [List.length_map, List.length_range]; exact Nat.le_trans hn (by decide), acc'.toList, c', rv, by rw [hS]⟩
  exact ⟨.ref _, _, hokL, rfl, q _ (I1.hok.fresh (Nat.le_succ _))⟩
end
end L2
set_option Elab.async false
set_option linter.all false
namespace L2
open PySem PySem.Spec PyProof.Rows
def CMulB (i j : Int) : Prop := i.natAbs < 2 ^ 100000 ∧ j.natAbs < 2 ^ 100000
theorem op_mulB {X : Cx} : OpR X (binaryOp .Mult) (rI CMulB fun i j => .int (i * j)) := opI fun i j _ _ _ _ _ hc q => by
  have h : (100000 : Nat) ≤ 2 ^ 20 := by decide
  exact mul_int q (IntMulOk.of_bits (Nat.le_trans (intBits_le hc.1) h) (Nat.le_trans (intBits_le hc.2) h))
theorem CMulB.nat {i j k l : Nat} (h1 : i < 2 ^ k) (h2 : j < 2 ^ l) (hk : k ≤ 100000) (hl : l ≤ 100000) : CMulB (i : Int) (j : Int) :=
  ⟨by rw [Int.natAbs_natCast]; exact Nat.lt_of_lt_of_le h1 (Nat.pow_le_pow_right (Nat.le_succ 1) hk), by rw [Int.natAbs_natCast]; exact Nat.lt_of_lt_of_le h2 (Nat.pow_le_pow_right (Nat.le_succ 1) hl)⟩
end L2
set_option Elab.async false
set_option linter.all false
namespace Lw
theorem many_ex {p : Nat → Bool} {A B : Nat} (h : many p A < many p B) : ∃ g, p g = true ∧ A ≤ g ∧ g < B := by
  have hAB : A ≤ B := by
    by_cases z : A ≤ B
    · exact z
    · have := many_mono p (show B ≤ A by omega); omega
  obtain ⟨k, rfl⟩ := Nat.exists_eq_add_of_le hAB
  rw [many_add] at h
  obtain ⟨n, hn, hp⟩ := many_pos (N := k) (p := fun n => p (A + n)) (by omega)
  exact ⟨A + n, hp, by omega, by omega⟩
def End (ls : List (List Int)) (b : Nat) : Prop := ∀ L : Nat, ∃ g, gd ls b g = true ∧ b ^ L ≤ g ∧ g < b ^ (L + 1)
theorem figs_long {b g k : Nat} (h2 : 2 ≤ b) (h : b ^ k ≤ g) : k < (figs b g).length := by
  obtain ⟨j, h1, h3⟩ := size_ex h2 g
  rw [figs_size h2 h1 h3]
  have : b ^ k < b ^ (j + 1) := Nat.lt_of_le_of_lt h h1
  exact (Nat.pow_lt_pow_iff_right (show 1 < b by omega)).mp this
theorem end_of {ls ws : List (List Int)} (ne : ∀ l ∈ ls, l ≠ []) (SL : StandsL ls ws) {b g k : Nat} (h2 : 2 ≤ b) (hg : gd ls b g = true) (h : b ^ k ≤ g) (hk : ws.length ≤ k) : End ls b := fun L =>
  pump_num ne SL h2 hg (Nat.lt_of_lt_of_le (Nat.pow_pos (by omega)) h) (Nat.lt_of_le_of_lt hk (figs_long h2 h)) L
theorem end_lt {ls : List (List Int)} {b : Nat} (h : End ls b) (k : Nat) : many (gd ls b) (b ^ k) < many (gd ls b) (b ^ (k + 1)) := by
  obtain ⟨g, h1, h2, h3⟩ := h k
  exact Nat.lt_of_le_of_lt (many_mono _ h2) (many_lt _ h3 h1)
theorem end_true {ls ws : List (List Int)} (ne : ∀ l ∈ ls, l ≠ []) (SL : StandsL ls ws) {b : Nat} (h2 : 2 ≤ b) (h : cntO ls b ws.length < cntO ls b (ws.length + 1)) : End ls b := by
  rw [cntO_many ne h2, cntO_many ne h2] at h
  obtain ⟨g, h1, h3, _⟩ := many_ex h
  exact end_of ne SL h2 h1 h3 (Nat.le_refl _)
theorem end_false {ls ws : List (List Int)} (ne : ∀ l ∈ ls, l ≠ []) (SL : StandsL ls ws) {b : Nat} (h2 : 2 ≤ b) (h : ¬ cntO ls b ws.length < cntO ls b (ws.length + 1)) {g : Nat} (hg : gd ls b g = true) : g < b ^ ws.length := by
  by_cases z : b ^ ws.length ≤ g
  · have e := end_lt (end_of ne SL h2 hg z (Nat.le_refl _)) ws.length
    rw [cntO_many ne h2, cntO_many ne h2] at h
    exact absurd e h
  · omega
def lowN (b m : Nat) : Nat := if m = 1 then 0 else b ^ (m - 1)
theorem lowN_le {b m : Nat} (h2 : 2 ≤ b) : lowN b m ≤ b ^ m := by
  unfold lowN
  split
  · exact Nat.zero_le _
  · exact Nat.pow_le_pow_right (by omega) (by omega)
theorem tot_low {ls : List (List Int)} {b m : Nat} : tot (gd ls b) (fun n => n) (b ^ (m - 1)) = tot (gd ls b) (fun n => n) (lowN b m) := by
  unfold lowN
  split
  · rename_i h
    subst h
    rw [Nat.sub_self, Nat.pow_zero, tot, tot]
    split <;> rfl
  · rfl
theorem tot_same {p : Nat → Bool} {f : Nat → Nat} {A B : Nat} (hAB : A ≤ B) (h : many p A = many p B) : tot p f B = tot p f A := by
  obtain ⟨k, rfl⟩ := Nat.exists_eq_add_of_le hAB
  rw [tot_add, tot_none (p := fun n => p (A + n)) (f := fun n => f (A + n)) (N := k) fun n hn => ?_]
  · rfl
  · show p (A + n) = false
    cases hp : p (A + n) with
    | false => rfl
    | true =>
      have := many_lt p (show A + n < A + k by omega) hp
      have := many_mono p (show A ≤ A + n by omega)
      omega
theorem sum_ge {p : Nat → Bool} {A B l : Nat} (hAB : A ≤ B) (hl : many p l = many p A) : (many p B - many p A) * l ≤ tot p (fun n => n) B - tot p (fun n => n) A := by
  obtain ⟨k, rfl⟩ := Nat.exists_eq_add_of_le hAB
  rw [tot_add, many_add, Nat.add_sub_cancel_left, Nat.add_sub_cancel_left]
  refine tot_ge fun n hn hp => ?_
  refine ge_of_many (p := p) hp ?_
  rw [hl]
  exact many_mono p (by omega)
theorem sum_le {p : Nat → Bool} {A B g : Nat} (hAB : A ≤ B) (hg : p g = true) (h : many p g + 1 = many p B) : tot p (fun n => n) B - tot p (fun n => n) A ≤ (many p B - many p A) * g := by
  obtain ⟨k, rfl⟩ := Nat.exists_eq_add_of_le hAB
  have e := h
  rw [tot_add, many_add, Nat.add_sub_cancel_left, Nat.add_sub_cancel_left]
  refine tot_le fun n hn hp => ?_
  refine ge_of_many (p := p) hg ?_
  have := many_lt p (show A + n < A + k by omega) hp
  omega
theorem none_on {ls : List (List Int)} (ne : ∀ l ∈ ls, l ≠ []) {b m : Nat} (h2 : 2 ≤ b) (hm : 2 ≤ m) (h : many (gd ls b) (b ^ (m - 1)) = many (gd ls b) (b ^ m)) : many (gd ls b) (b ^ m) = many (gd ls b) (b ^ (m + 1)) := by
  by_cases z : many (gd ls b) (b ^ m) < many (gd ls b) (b ^ (m + 1))
  · obtain ⟨g, h1, h3, h4⟩ := many_ex z
    have e : g / b * b ^ 1 + g % b = g := by rw [Nat.pow_one, Nat.mul_comm]; exact Nat.div_add_mod g b
    have hlo : b ^ (m - 1) ≤ g / b := by
      rw [Nat.le_div_iff_mul_le (by omega), ← Nat.pow_succ, show (m - 1).succ = m by omega]
      exact h3
    have hhi : g / b < b ^ m := by
      rw [Nat.div_lt_iff_lt_mul (by omega), ← Nat.pow_succ]
      exact h4
    have hg := gd_pre ne (h := g / b) (t := 1) (r := g % b) h2 (Nat.le_trans (Nat.pow_pos (by omega)) hlo) (by rw [Nat.pow_one]; exact Nat.mod_lt _ (by omega)) (by rw [e]; exact h1)
    have := many_lt _ hhi hg
    have := many_mono (gd ls b) hlo
    omega
  · have := many_mono (gd ls b) (show b ^ m ≤ b ^ (m + 1) from Nat.pow_le_pow_right (by omega) (by omega))
    omega
theorem size_low {b n m : Nat} (h2 : 2 ≤ b) (hm : 1 ≤ m) (h1 : lowN b m ≤ n) (h3 : n < b ^ m) : (figs b n).length = m := by
  obtain ⟨k, rfl⟩ : ∃ k, m = k + 1 := ⟨m - 1, by omega⟩
  refine figs_size h2 h3 ?_
  unfold lowN at h1
  by_cases z : k = 0
  · exact .inl z
  · rw [if_neg (by omega), Nat.add_sub_cancel] at h1
    exact .inr h1
theorem size_lowN {b n m : Nat} (h2 : 2 ≤ b) (h : (figs b n).length = m) (hm : 1 ≤ m) : lowN b m ≤ n ∧ n < b ^ m := by
  obtain ⟨k, rfl⟩ : ∃ k, m = k + 1 := ⟨m - 1, by omega⟩
  obtain ⟨h1, h3⟩ := (size_iff h2).mp h
  refine ⟨?_, h1⟩
  unfold lowN
  split
  · exact Nat.zero_le _
  · rcases h3 with h3 | h3
    · omega
    · rw [Nat.add_sub_cancel]; exact h3
theorem sum_less {p q : Nat → Bool} {A B : Nat} (hAB : A ≤ B) (h : ∀ n, p n = true → q n = true) : tot p (fun n => n) B - tot p (fun n => n) A ≤ tot q (fun n => n) B - tot q (fun n => n) A := by
  obtain ⟨k, rfl⟩ := Nat.exists_eq_add_of_le hAB
  rw [tot_add, tot_add, Nat.add_sub_cancel_left, Nat.add_sub_cancel_left]
  exact tot_sub (fun n hp => h (A + n) hp) k
theorem many_lessL {p q : Nat → Bool} {A B : Nat} (hAB : A ≤ B) (h : ∀ n, p n = true → q n = true) : many p B - many p A ≤ many q B - many q A := by
  obtain ⟨k, rfl⟩ := Nat.exists_eq_add_of_le hAB
  rw [many_add, many_add, Nat.add_sub_cancel_left, Nat.add_sub_cancel_left]
  exact many_sub (fun n hp => h (A + n) hp) k
theorem End.less {ls ms : List (List Int)} {b : Nat} (h : ∀ l ∈ ls, l ∈ ms) (e : End ms b) : End ls b := fun L => by
  obtain ⟨g, h1, h2, h3⟩ := e L
  exact ⟨g, lacks_sub h h1, h2, h3⟩
end Lw
namespace PySem.W.Fast
def tw18113147334084930870 := ()
def tw4889490055054139903 := ()
def tw1681545302688159325 := ()
def tw7855176202957251039 := ()
def tw12605987483573985747 := ()
def tw7285776500554885577 := ()
def tw9565818729668422060 := ()
def tw13099346109298475395 := ()
def tw2799501388105034493 := ()
def tw14637063300958577466 := ()
def tw11113638249927590578 := ()
def tw1287026984509598363 := ()
def tw4345602982274896234 := ()
def tw9210295651709033189 := ()
def tw11136814145973721901 := ()
def tw6777697215859143154 := ()
def tw6015756147222122595 := ()
def tw14002263363549584964 := ()
def tw17832393561527288522 := ()
def tw255397239616114532 := ()
def tw9086030774775538512 := ()
def tw6708659042719982495 := ()
def tw1359163922209542972 := ()
def tw8518630152080813361 := ()
def tw5230058581738315097 := ()
def tw17506009446751411725 := ()
def tw11557238442399807126 := ()
def tw18249572840968848756 := ()
def tw4246734414086304471 := ()
def tw9031780321875196917 := ()
def tw5703125576928887508 := ()
def tw8037589246113317754 := ()
def tw13234877370939834009 := ()
def tw5638431188989282409 := ()
def tw13592105514996701890 := ()
def tw8346481298421960072 := ()
def tw6824513247412524306 := ()
def tw8778627629073152170 := ()
def tw3929446765489052202 := ()
def tw16923423847244768346 := ()
def tw15917224634099038401 := ()
def tw4292876102254784063 := ()
def tw3352702385982900644 := ()
def tw10038628573996155729 := ()
def tw10717584398470570537 := ()
def tw8792873718480697210 := ()
def tw1477245591069096798 := ()
def tw17945928734266170731 := ()
def tw5667840893419826993 := ()
def tw18424562032180143349 := ()
def tw1696548809315141558 := ()
def tw12440984833898432250 := ()
def tw2543754503228280700 := ()
def tw17049922505106337890 := ()
def tw41554556066099751 := ()
def tw9097073030987808916 := ()
def tw7673343135141200596 := ()
def tw16821625597332081534 := ()
def tw7245140381498136249 := ()
def tw14375888765112745556 := ()
def tw10678202151928304005 := ()
def tw2164287667879972869 := ()
def tw17402136776603123020 := ()
def tw13778354546923013215 := ()
def tw6109974292697577681 := ()
def tw7513423414386190764 := ()
def tw8129012818428468863 := ()
def tw14279759360545871951 := ()
def tw17861747606134382627 := ()
def tw16784786085820925264 := ()
def tw1868215137582303336 := ()
def tw417076706530001984 := ()
def tw18391212236288193976 := ()
def tw10920551985422291613 := ()
def tw2209065496210416601 := ()
def tw11022488760967007330 := ()
def tw12882443548025686209 := ()
def tw13659951961472513861 := ()
def tw5003868810377250731 := ()
def tw17546872975958236420 := ()
def tw16144854185435266373 := ()
def tw6125665800005594861 := ()
def tw30183301487247009 := ()
def tw4010750452382223352 := ()
def tw983945594328017865 := ()
def tw9701639922441464417 := ()
def tw2218967115680883901 := ()
def tw14331322159095755414 := ()
def tw13116299002730516675 := ()
def tw4850393631117731742 := ()
def tw1889206045751438860 := ()
def tw11635487281022388018 := ()
def tw15596587892135500792 := ()
def tw13222387053637421813 := ()
def tw3511122418996987041 := ()
def tw15185932878636047165 := ()
def tw13527343599342597048 := ()
def tw3250991331135404105 := ()
def tw1523318409240549547 := ()
def tw8460696262895873118 := ()
def tw5509905996564201313 := ()
def tw18154411793476251497 := ()
def tw4587734827050903029 := ()
def tw2660544289516628191 := ()
def tw14881078257358209243 := ()
def tw8500600034154974149 := ()
def tw2839673293945792288 := ()
def tw12095861747699802972 := ()
def tw16991520052370435754 := ()
def tw17772136770849055077 := ()
def tw652801240441909781 := ()
def tw15031620481495316275 := ()
def tw4063130681457576726 := ()
def tw12082405666742350505 := ()
def tw4235022484656489664 := ()
def tw15273867001636573827 := ()
def tw8560330299804275276 := ()
def tw10356731588491919059 := ()
def tw4250304467706396258 := ()
def tw12500637607876001277 := ()
def tw9288278103764745351 := ()
def tw12431382710916256422 := ()
def tw13749758570230281850 := ()
def tw9143235208283448109 := ()
def tw7887522888105628843 := ()
def tw16917644385313430233 := ()
def tw9606375073032889026 := ()
def tw10016745398006757096 := ()
def tw74038834992149725 := ()
def tw14306686001216822068 := ()
def tw8857465504770736229 := ()
def tw10133772460058544899 := ()
def tw3464256675619773509 := ()
def tw12452107176345448989 := ()
def tw3375934444792334229 := ()
def tw14235709635804852718 := ()
def tw2751663642963780352 := ()
def tw13751919352457679424 := ()
def tw3879518224997982851 := ()
def tw11593561392914691119 := ()
def tw11902181809135729197 := ()
def tw1298307329647077940 := ()
def tw252429970438534420 := ()
def tw4594937033524832596 := ()
def tw9938910484498804068 := ()
def tw15461282237556230388 := ()
def tw4936767187068945267 := ()
def tw9596399967247779483 := ()
def tw7741517439247491334 := ()
def tw4127147540623858989 := ()
def tw497734366640459911 := ()
def tw13084662952528710651 := ()
def tw5560143718424368533 := ()
def tw11614836330339904775 := ()
def tw10181808432717234235 := ()
def tw12596794843327375802 := ()
def tw7176495876768399066 := ()
def tw5037706938572443704 := ()
def tw683761811001896293 := ()
def tw577673738791894870 := ()
def tw12038974241441815514 := ()
def tw14165617108767271181 := ()
def tw9331684263609965667 := ()
def tw145794563669418859 := ()
def tw8321256518000230978 := ()
def tw698686675859702867 := ()
def tw14728108805971639627 := ()
def tw10294577960856859498 := ()
def tw9807915677608746191 := ()
def tw9094034260613059900 := ()
def tw2355084263144509233 := ()
def tw4071363599273176564 := ()
def tw14299111062332952347 := ()
def tw4710751170528107470 := ()
def tw3106827481856040397 := ()
def tw18373314948299514784 := ()
def tw373253816641345466 := ()
def tw10706607271980738834 := ()
def tw7373761416187160820 := ()
def tw12332838440107386139 := ()
def tw4064156167958524523 := ()
def tw17220893680304537268 := ()
def tw17636361609262168679 := ()
def tw7664732640273736550 := ()
def tw15496323108638566970 := ()
def tw12792645864671161725 := ()
def tw3398391351257043508 := ()
def tw9758008390972200512 := ()
def tw11154452299887080631 := ()
def tw8559711865158292730 := ()
def tw3135460455516919505 := ()
def tw15614052649203607828 := ()
def tw6700253007776580885 := ()
def tw4174930443149413878 := ()
def tw6137861266648915776 := ()
def tw17933428767851384219 := ()
def tw15104249477061044906 := ()
def tw2293179254496354058 := ()
def tw8080130671980789588 := ()
def tw17414577188080506399 := ()
def tw14591480467799489442 := ()
def tw10466100763999161449 := ()
def tw18301360639394358904 := ()
def tw6451508100185985615 := ()
def tw12673834156051409350 := ()
def tw12783120944775561808 := ()
def tw5485448654740029644 := ()
def tw4740903390730929183 := ()
def tw15154219687475469436 := ()
def tw10542541861023195273 := ()
def tw1671024724145948224 := ()
def tw2731320891025614593 := ()
def tw5011209920651772387 := ()
def tw14166502426041363874 := ()
def tw1066797078003090618 := ()
def tw15629392802032802604 := ()
def tw12247283135855413225 := ()
def tw8667911475571184191 := ()
def tw9756014986814422198 := ()
def tw2663665331335994313 := ()
def tw8996283783796084391 := ()
def tw8556658273566884523 := ()
def tw8825668980862957657 := ()
def tw3865657889872870133 := ()
def tw2645592246434936284 := ()
def tw6938134868633829368 := ()
def tw13038762987258661 := ()
def tw16005950536921977150 := ()
def tw8102545955356538904 := ()
def tw736138214715078240 := ()
def tw3155258085403965155 := ()
def tw5559472023161106624 := ()
def tw15970909319843297305 := ()
def tw18255026603235877207 := ()
def tw10630804697404529672 := ()
def tw5976371590877850519 := ()
def tw411213267689779969 := ()
def tw16217020795487538064 := ()
def tw5222917417773028669 := ()
def tw10204407182390052181 := ()
def tw2223245970496077217 := ()
def tw1357012382025861067 := ()
def tw14886336109117815514 := ()
def tw12317331069556376163 := ()
def tw6177174212560728406 := ()
def tw17976748091785006882 := ()
def tw3002953163295131124 := ()
def tw18259210692640963002 := ()
def tw17713735876090255943 := ()
def tw8097464441808328160 := ()
def tw17246935785595394971 := ()
def tw12230661222025948418 := ()
def tw602643197033130820 := ()
def tw13348836241357818853 := ()
def tw4150244128075810489 := ()
def tw1831650666061624512 := ()
def tw18343537450725389394 := ()
def tw7824139230685890559 := ()
def tw12082194430803751195 := ()
def tw201919692490955177 := ()
def tw3591414112556490846 := ()
def tw13791919198933199444 := ()
def tw17927466767934325030 := ()
def tw14007134997850838163 := ()
def tw11634654237027069508 := ()
def tw17290198329316449030 := ()
def tw521645276858922570 := ()
def tw7417554054375462525 := ()
def tw5984353945998650946 := ()
def tw1906634486507319123 := ()
def tw13876099531009545319 := ()
def tw12344100093049061786 := ()
def tw4663712960348198164 := ()
def tw11940319311821422812 := ()
def tw703141001773996150 := ()
def tw10457296597083231601 := ()
def tw1827973635079521699 := ()
def tw447552090344167911 := ()
def tw7904868385931888452 := ()
def tw18429981865608703312 := ()
def tw13549440428828234696 := ()
def tw4623896097346739644 := ()
def tw18420998278924252328 := ()
def tw392658068611797928 := ()
def tw12104114705217492424 := ()
def tw3260007910368616174 := ()
def tw7968494817879349644 := ()
def tw9994129837933704517 := ()
def tw14946225914685200674 := ()
def tw10020767544345423045 := ()
def tw6907785653790724793 := ()
def tw6856930866975268134 := ()
def tw13858827380781413690 := ()
def tw17087461652108369963 := ()
def tw5890359281141535986 := ()
def tw9919075122868934129 := ()
def tw5845353923531133857 := ()
def tw10703058415889197341 := ()
def tw6415923033463503717 := ()
def tw16652910207354103887 := ()
def tw882555165508846009 := ()
def tw1432893442623815540 := ()
def tw12837140691052583344 := ()
def tw16824619393355122562 := ()
def tw8515356738786570493 := ()
def tw16878122084273992793 := ()
def tw17477968314947922844 := ()
def tw4550316410344401091 := ()
def tw6364121040517439413 := ()
def tw850417478086120548 := ()
def tw14062601157876937629 := ()
def tw10109479991209166808 := ()
def tw17573756864729720826 := ()
def tw7764170696253554171 := ()
def tw11434189052605499387 := ()
def tw12859720292610020639 := ()
def tw13354993455075098763 := ()
def tw2068592450233708843 := ()
def tw5935222142927323981 := ()
def tw1635223774361035478 := ()
def tw15577104956492603061 := ()
def tw14620400605466954220 := ()
def tw15222305598470079810 := ()
def tw16328832353101322798 := ()
def tw17803545037052446602 := ()
def tw6731507422409301541 := ()
def tw10365232668173360105 := ()
def tw7419576263960591679 := ()
def tw2052501424856224280 := ()
def tw17475631055637980215 := ()
def tw18226827694049915476 := ()
def tw6475388315269341100 := ()
def tw2519489625041005052 := ()
def tw8742137145151757393 := ()
def tw3325596188691352863 := ()
def tw8245438583180189870 := ()
def tw5585967970570643726 := ()
def tw1590068803735218300 := ()
def tw15697833336185582596 := ()
def tw11826034256824276692 := ()
def tw6843863616723096237 := ()
def tw2240467101913650273 := ()
def tw15877555765968986452 := ()
def tw11365696865639223430 := ()
def tw16187208953870002462 := ()
def tw14658065648253152617 := ()
def tw15205872158722371980 := ()
def tw14413792880295326804 := ()
def tw1972519461611232535 := ()
def tw18399915591616911779 := ()
def tw6363510615819953711 := ()
def tw8183282967126285047 := ()
def tw8056988907096321197 := ()
def tw2737300841346577598 := ()
def tw6386497678828895479 := ()
def tw12366518833851946831 := ()
def tw15620562373123269883 := ()
def tw5102260668188784536 := ()
def tw17214036648631649892 := ()
def tw1099498854826440242 := ()
def tw4311889393772084825 := ()
def tw14062981606748845877 := ()
def tw17622012213097236331 := ()
def tw759148337747935118 := ()
def tw4775679066879391283 := ()
def tw15255433770375639338 := ()
def tw3690490518290623836 := ()
def tw16999596380920747305 := ()
def tw3877502527685614990 := ()
def tw14926987604926699129 := ()
def tw11867045679558183039 := ()
def tw3138209574424255883 := ()
def tw14115383530573208986 := ()
def tw3829972019600698208 := ()
def tw5396763705231395168 := ()
def tw5615800891105544373 := ()
def tw3001672354722834716 := ()
def tw8827395578725093428 := ()
def tw4488469975086357093 := ()
def tw16743284759037748097 := ()
def tw7495975153609291798 := ()
def tw17211096649201623276 := ()
def tw14680058821619046384 := ()
def tw13654927832765000372 := ()
def tw12045706079987740015 := ()
def tw2935791349768084857 := ()
def tw8930029754512202680 := ()
def tw4224007774900102210 := ()
def tw16563587020029416437 := ()
def tw9304745813796456925 := ()
def tw236371220219030693 := ()
def tw12394716496075751997 := ()
def tw1359253100511978585 := ()
def tw2217777705160568713 := ()
def tw4780904710796521225 := ()
def tw9495402313295016655 := ()
def tw12211140358752688166 := ()
def tw2024901681832848128 := ()
def tw13880753804364210061 := ()
def tw16542963513779492654 := ()
def tw18186163183604728619 := ()
def tw17651771288111229120 := ()
def tw5377223113493459916 := ()
def tw3221011138322059725 := ()
def tw18347250515594416221 := ()
def tw6204092814990894479 := ()
def tw18028897295413429749 := ()
def tw4654434757576329380 := ()
def tw17076515546954956927 := ()
def tw8768099352643748044 := ()
def tw7139465025654667631 := ()
def tw11950648806803391564 := ()
def tw13814262996190249418 := ()
def tw5748925262996360488 := ()
def tw15496776560458313553 := ()
def tw9635580767837069825 := ()
def tw6288368523390759068 := ()
def tw2224522314202700946 := ()
def tw8852702814310754821 := ()
def tw6902792574206176832 := ()
def tw7001341148453694143 := ()
def tw10361074906195838375 := ()
def tw14159671669971682236 := ()
def tw5995364491913348578 := ()
def tw238325803805534830 := ()
def tw11936978561344570582 := ()
def tw7415105401983024268 := ()
def tw13942382309781320701 := ()
def tw9782864198634959786 := ()
def tw13870535067333583249 := ()
def tw13186747853539235742 := ()
def tw4362932566291818985 := ()
def tw13288453108342114780 := ()
def tw6639423047402544114 := ()
def tw7625701869313939901 := ()
def tw14998355068670433206 := ()
def tw8351703245214364235 := ()
def tw17315469256156554366 := ()
def tw16059919443565267573 := ()
def tw4599042194780164390 := ()
def tw3824725842515916199 := ()
def tw16057606714255181257 := ()
def tw17827516058630119687 := ()
def tw13104326829301761825 := ()
def tw9727805706729576559 := ()
end PySem.W.Fast
set_option Elab.async false
set_option linter.all false
set_option maxRecDepth 100000
namespace Lw
open PySem L2 PyProof.Rows
def top (i : Nat) : Stmt := PySem.Challenge.pw_lackstretch_k26_whole_lengths_together.main.body.getD i (.Pass ⟨0, 0, 0, 0⟩)
abbrev s__wall : Stmt := top 0
abbrev s_is_whole : Stmt := top 12
abbrev s_is_number : Stmt := top 13
abbrev s_is_base : Stmt := top 14
abbrev s_is_figure : Stmt := top 15
abbrev s_are_figures : Stmt := top 16
abbrev s_is_stretch : Stmt := top 17
abbrev s_is_rising : Stmt := top 18
abbrev s_is_bad_list : Stmt := top 19
abbrev s_is_rule : Stmt := top 20
abbrev s_check_base : Stmt := top 21
abbrev s_check_number : Stmt := top 22
abbrev s_check_rule : Stmt := top 23
abbrev s_stands_within : Stmt := top 24
abbrev s_lacks_all : Stmt := top 25
abbrev s_figures_of : Stmt := top 26
abbrev s_is_good : Stmt := top 27
abbrev s_begins_one : Stmt := top 29
abbrev s_longest_stand : Stmt := top 30
abbrev s_stands_of : Stmt := top 31
abbrev s_place_behind : Stmt := top 34
abbrev s_steps_from : Stmt := top 35
abbrev s_all_steps : Stmt := top 36
abbrev s_Tails___init__ : Stmt := inClass (top 37) 0
abbrev s_Tails_layer : Stmt := inClass (top 37) 1
abbrev s_Tails_many_by : Stmt := inClass (top 37) 2
abbrev s_Tails_many_under : Stmt := inClass (top 37) 3
abbrev s_Tails_many_below : Stmt := inClass (top 37) 4
abbrev s_Tails_many_within : Stmt := inClass (top 37) 5
abbrev s_Tails_figure_at : Stmt := inClass (top 37) 6
abbrev s_Tails_number_at : Stmt := inClass (top 37) 7
abbrev s_Tails_are_endless : Stmt := inClass (top 37) 8
abbrev s_weights_by_left : Stmt := top 39
abbrev s_Totals___init__ : Stmt := inClass (top 40) 0
abbrev s_Totals_longer_layer : Stmt := inClass (top 40) 1
abbrev s_Totals_weight_of : Stmt := inClass (top 40) 2
abbrev s_Totals_total_under : Stmt := inClass (top 40) 3
abbrev s_Totals_total_below : Stmt := inClass (top 40) 4
abbrev s_Totals_total_within : Stmt := inClass (top 40) 5
abbrev s_number_totals : Stmt := top 41
abbrev s_check_length : Stmt := top 43
abbrev s_count_shorter : Stmt := top 44
abbrev s_count_long : Stmt := top 45
abbrev s_least_long : Stmt := top 46
abbrev s_greatest_long : Stmt := top 47
abbrev s_sum_long : Stmt := top 48
abbrev s_is_endless : Stmt := top 49
abbrev s_greatest_good : Stmt := top 50
abbrev s__law_deck : Stmt := top 52
abbrev s__law_draw : Stmt := top 53
abbrev s__law_some_rule : Stmt := top 54
abbrev s__law_lengths : Stmt := top 55
abbrev s__law_tight_rule : Stmt := top 56
abbrev s__law_length_right : Stmt := top 57
abbrev s__law_endless_right : Stmt := top 58
abbrev s__law_less_right : Stmt := top 59
abbrev s_law : Stmt := top 60
end Lw
namespace Lw
open PySem L2 PyProof.Rows
section
variable {P : Program} {w : World} {K : PySem.W.Frag} {mg : Str → Option Value} {base : Heap}
def sp_is_whole : Sp := fun vs H Q _ => ∃ i : Int, vs = [.int i] ∧ Q (.bl true) H
theorem sc_is_whole : FnScope ["thing"] ["thing"] (defScope s_is_whole) := ⟨rfl, rfl, rfl, by decide +kernel, rfl, by decide +kernel, by decide +kernel⟩
theorem ok_is_whole {f : Addr} {fd : FuncData} (D : Df K mg "is_whole" s_is_whole ["thing"] f fd) (T : Blt mg) : FnOk P w K mg base CX0 1 f fd ["thing"] sp_is_whole := by
  refine D.fn.ok sc_is_whole (fun vs H Q E h => ?_) (fun cdv A outer s H vs Q E hr h => ?_)
  · obtain ⟨i, rfl, _⟩ := h; rfl
  · obtain ⟨i, rfl, q⟩ := h
    refine ⟨_, (pss_one (ps_ret (pe_and (pe_callB call_isi (by rfl) T.n_isinstance boot_isinstance (pa_cons (pv 0) (pa_cons (pe_bltn (v := .ty "int") rfl T.n_int boot_int rfl) pa_nil))) (pe_one (pe_not (pe_callB call_isi (by rfl) T.n_isinstance boot_isinstance (pa_cons (pv 0) (pa_cons (pe_bltn (v := .ty "bool") rfl T.n_bool boot_bool rfl) pa_nil)))))))), ?_⟩
    refine ⟨_, rfl, _, _, _, _, rfl, .int i, kit_int_int, _, rfl, iteT ?_⟩
    refine ⟨_, rfl, _, _, _, _, rfl, .int i, kit_int_bool, _, rfl, ?_⟩
    exact q
def sp_is_base : Sp := fun vs H Q _ => ∃ i : Int, vs = [.int i] ∧ Q (.bl (decide (2 ≤ i ∧ i ≤ 16))) H
theorem sc_is_base : FnScope ["thing"] ["thing"] (defScope s_is_base) := ⟨rfl, rfl, rfl, by decide +kernel, rfl, by decide +kernel, by decide +kernel⟩
theorem ok_is_base {f f1 : Addr} {fd fd1 : FuncData} {t1 t2 : Tok} (D : Df K mg "is_base" s_is_base ["thing"] f fd) (Dis_whole : Df K mg "is_whole" s_is_whole ["thing"] f1 fd1) (T : Blt mg) (c_LEAST_BASE : mg "LEAST_BASE" = some (.int 2 t1)) (c_GREATEST_BASE : mg "GREATEST_BASE" = some (.int 16 t2)) :
    FnOk P w K mg base CX0 2 f fd ["thing"] sp_is_base := by
  have Gis_whole : FnOk P w K mg base CX0 1 f1 fd1 ["thing"] sp_is_whole := ok_is_whole Dis_whole T
  refine D.fn.ok sc_is_base (fun vs H Q E h => ?_) (fun cdv A outer s H vs Q E hr h => ?_)
  · obtain ⟨i, rfl, _⟩ := h; rfl
  · obtain ⟨i, rfl, q⟩ := h
    refine ⟨_, (pss_one (ps_ret (pe_and (pcall Dis_whole Gis_whole (hr.mono (by decide)) (pa_cons (pv 0) pa_nil)) (pe_one (pe_chain op_le op_le (pe_glob (v := .int 2) rfl c_LEAST_BASE ⟨_, rfl⟩) (pv 0) (pe_glob (v := .int 16) rfl c_GREATEST_BASE ⟨_, rfl⟩)))))), ?_⟩
    refine ⟨_, rfl, i, rfl, _, rfl, iteT ?_⟩
    refine ⟨_, rfl, _, _, rfl, rfl, _, rfl, ?_⟩
    refine ite2 (fun h1 => ?_) (fun h1 => ?_)
    · have h1' : (2 : Int) ≤ i := of_decide_eq_true h1
      refine ⟨_, _, rfl, rfl, ?_⟩
      rw [show decide (2 ≤ i ∧ i ≤ 16) = decide (i ≤ 16) by simp [h1']] at q
      exact q
    · have h1' : ¬ (2 : Int) ≤ i := fun z => h1 (decide_eq_true z)
      rw [show decide (2 ≤ i ∧ i ≤ 16) = false by simp [h1']] at q
      exact q
def sp_check_base : Sp := fun vs H Q _ => ∃ i : Int, vs = [.int i] ∧ 2 ≤ i ∧ i ≤ 16 ∧ Q .non H
theorem sc_check_base : FnScope ["thing"] ["thing"] (defScope s_check_base) := ⟨rfl, rfl, rfl, by decide +kernel, rfl, by decide +kernel, by decide +kernel⟩
theorem ok_check_base {f f1 : Addr} {fd fd1 : FuncData} (D : Df K mg "check_base" s_check_base ["thing"] f fd) (Dis_base : Df K mg "is_base" s_is_base ["thing"] f1 fd1) (Gis_base : FnOk P w K mg base CX0 2 f1 fd1 ["thing"] sp_is_base) :
    FnOk P w K mg base CX0 3 f fd ["thing"] sp_check_base := by
  refine D.fn.ok sc_check_base (fun vs H Q E h => ?_) (fun cdv A outer s H vs Q E hr h => ?_)
  · obtain ⟨i, rfl, _⟩ := h; rfl
  · obtain ⟨i, rfl, h1, h2, q⟩ := h
    refine ⟨_, (pss_one (ps_if (pt_not (pt_val (pcall Dis_base Gis_base (hr.mono (by decide)) (pa_cons (pv 0) pa_nil))))
        (pss_one ps_never)
        pss_nil)), ?_⟩
    refine ⟨_, rfl, i, rfl, _, rfl, ?_⟩
    rw [decide_eq_true (show 2 ≤ i ∧ i ≤ 16 from ⟨h1, h2⟩)]
    exact iteF q
end
section
variable {P : Program} {w : World} {K : PySem.W.Frag} {mg : Str → Option Value} {base : Heap}
def sp_is_number : Sp := fun vs H Q _ => ∃ i : Int, vs = [.int i] ∧ Q (.bl (decide (0 ≤ i))) H
theorem sc_is_number : FnScope ["thing"] ["thing"] (defScope s_is_number) := ⟨rfl, rfl, rfl, by decide +kernel, rfl, by decide +kernel, by decide +kernel⟩
theorem ok_is_number {f f1 : Addr} {fd fd1 : FuncData} (D : Df K mg "is_number" s_is_number ["thing"] f fd) (Dis_whole : Df K mg "is_whole" s_is_whole ["thing"] f1 fd1) (T : Blt mg) :
    FnOk P w K mg base CX0 2 f fd ["thing"] sp_is_number := by
  have Gis_whole : FnOk P w K mg base CX0 1 f1 fd1 ["thing"] sp_is_whole := ok_is_whole Dis_whole T
  refine D.fn.ok sc_is_number (fun vs H Q E h => ?_) (fun cdv A outer s H vs Q E hr h => ?_)
  · obtain ⟨i, rfl, _⟩ := h; rfl
  · obtain ⟨i, rfl, q⟩ := h
    refine ⟨_, (pss_one (ps_ret (pe_and (pcall Dis_whole Gis_whole (hr.mono (by decide)) (pa_cons (pv 0) pa_nil)) (pe_one (pe_cmpR op_ge (pv 0) pe_int (nomark _)))))), ?_⟩
    refine ⟨_, rfl, i, rfl, _, rfl, iteT ?_⟩
    exact ⟨_, rfl, _, _, rfl, rfl, q⟩
def sp_check_number : Sp := fun vs H Q _ => ∃ i : Int, vs = [.int i] ∧ 0 ≤ i ∧ Q .non H
theorem sc_check_number : FnScope ["thing"] ["thing"] (defScope s_check_number) := ⟨rfl, rfl, rfl, by decide +kernel, rfl, by decide +kernel, by decide +kernel⟩
theorem ok_check_number {f f1 f2 : Addr} {fd fd1 fd2 : FuncData} (D : Df K mg "check_number" s_check_number ["thing"] f fd) (Dis_number : Df K mg "is_number" s_is_number ["thing"] f2 fd2) (Dis_whole : Df K mg "is_whole" s_is_whole ["thing"] f1 fd1) (T : Blt mg) :
    FnOk P w K mg base CX0 3 f fd ["thing"] sp_check_number := by
  have Gis_number : FnOk P w K mg base CX0 2 f2 fd2 ["thing"] sp_is_number := ok_is_number Dis_number Dis_whole T
  refine D.fn.ok sc_check_number (fun vs H Q E h => ?_) (fun cdv A outer s H vs Q E hr h => ?_)
  · obtain ⟨i, rfl, _⟩ := h; rfl
  · obtain ⟨i, rfl, h1, q⟩ := h
    refine ⟨_, (pss_one (ps_if (pt_not (pt_val (pcall Dis_number Gis_number (hr.mono (by decide)) (pa_cons (pv 0) pa_nil))))
        (pss_one ps_never)
        pss_nil)), ?_⟩
    refine ⟨_, rfl, i, rfl, _, rfl, ?_⟩
    rw [decide_eq_true h1]
    exact iteF q
end
section
variable {P : Program} {w : World} {K : PySem.W.Frag} {mg : Str → Option Value} {base : Heap}
def sp_figures_of : Sp := fun vs H Q _ => ∃ b n : Nat, vs = [.int b, .int n] ∧ 2 ≤ b ∧ b ≤ 16 ∧ n < 2 ^ 900 ∧
  ∀ l H', H l = none → H' l = some (.lst ((figs b n).map V.int)) → Same H H' → Q (.ref l) H'
theorem sc_figures_of : FnScope ["base", "n", "backwards", "rest"] ["base", "n"] (defScope s_figures_of) := ⟨rfl, rfl, rfl, by decide +kernel, rfl, by decide +kernel, by decide +kernel⟩
theorem ok_figures_of {f f1 f2 : Addr} {fd fd1 fd2 : FuncData} (D : Df K mg "figures_of" s_figures_of ["base", "n"] f fd) (Dcheck_base : Df K mg "check_base" s_check_base ["thing"] f1 fd1) (Gcheck_base : FnOk P w K mg base CX0 3 f1 fd1 ["thing"] sp_check_base)
    (Dcheck_number : Df K mg "check_number" s_check_number ["thing"] f2 fd2) (Gcheck_number : FnOk P w K mg base CX0 3 f2 fd2 ["thing"] sp_check_number) (T : Blt mg) : FnOk P w K mg base CX0 4 f fd ["base", "n"] sp_figures_of := by
  refine D.fn.ok sc_figures_of (fun vs H Q E h => ?_) (fun cdv A outer s H vs Q E hr h => ?_)
  · obtain ⟨b, n, rfl, _⟩ := h; rfl
  · obtain ⟨b, n, rfl, h2, h16, hn, k⟩ := h
    refine ⟨_, (pss_cons (ps_expr (pcall Dcheck_base Gcheck_base (hr.mono (by decide)) (pa_cons (pv 0) pa_nil)))
      (pss_cons (ps_expr (pcall Dcheck_number Gcheck_number (hr.mono (by decide)) (pa_cons (pv 1) pa_nil)))
      (pss_cons (ps_set (i := 2) sc_figures_of.nd rfl (Or.inl rfl) (pe_lst (pa_cons (pe_op op_mod (pv 1) (pv 0)) pa_nil)))
      (pss_cons (ps_set (i := 3) sc_figures_of.nd rfl (Or.inl rfl) (pe_op op_fdivB (pv 1) (pv 0)))
      (pss_cons (ps_while PassesOwn.never (pt_cmpR op_gt (pv 3) pe_int (nomark _))
        (pss_cons (ps_expr (pe_bm PySem.F.plainAttrs_list PySem.F.slot_list_append PySem.F.type_list_append mt_append (pv 2) (pa_cons (pe_op op_mod (pv 3) (pv 0)) pa_nil)))
        (pss_one (ps_set (i := 3) sc_figures_of.nd rfl (Or.inl rfl) (pe_op op_fdivB (pv 3) (pv 0))))))
      (pss_one (ps_ret (pe_listRev rfl rfl T.n_list rfl T.n_reversed (pv 2))))))))), ?_⟩
    refine ⟨_, rfl, (b : Int), rfl, by omega, by omega, ?_⟩
    refine ⟨_, rfl, (n : Int), rfl, by omega, ?_⟩
    refine ⟨_, rfl, _, rfl, _, _, rfl, rfl, (by omega : (0 : Int) < b), (by decide : 1 ≤ sizeLine), fun l hl => ?_⟩
    refine ⟨_, rfl, _, rfl, _, _, rfl, rfl, ⟨by omega, by omega⟩, ?_⟩
    have hlen := figs_len h2 900 n hn
    refine while_by (fun σ H2 => ∃ (r : Nat) (L : List Int), σ = [some (.int b), some (.int n), some (.ref l), some (.int r)] ∧ H2 l = some (.lst (L.map V.int)) ∧ Same H H2 ∧ figs b n = ahead b r ++ L.reverse)
      (fun σ _ => match σ with | [_, _, _, some (.int r)] => r.toNat | _ => 0) ?_ ?_ ?_
    · refine ⟨n / b, [((n % b : Nat) : Int)], ?_, ?_, same_upd hl, ?_⟩
      · rfl
      · rw [upd_same]; simp
      · rw [figs_step h2]; simp
    · rintro σ H2 ⟨r, L, rfl, hL, sH, he⟩
      refine ⟨_, rfl, _, _, rfl, rfl, _, rfl, ?_⟩
      refine ite2 (fun h1 => ?_) (fun h1 => ?_)
      · have hr0 : 0 < r := by have := of_decide_eq_true h1; omega
        have hLl : L.length ≤ 901 := by
          have := congrArg List.length he
          rw [List.length_append, List.length_reverse] at this
          omega
        refine ⟨_, rfl, .inl ⟨rfl, _, SqL.of hL⟩, _, rfl, _, rfl, _, _, rfl, rfl, (by omega : (0 : Int) < b), l, _, _, rfl, rfl, hL, by rw [List.length_map]; exact Nat.lt_of_le_of_lt hLl (by decide), ?_⟩
        refine ⟨_, rfl, _, rfl, _, _, rfl, rfl, ⟨by omega, by omega⟩, ?_⟩
        refine ⟨⟨r / b, L ++ [((r % b : Nat) : Int)], ?_, ?_, ?_, ?_⟩, ?_⟩
        · simp
        · rw [upd_same]; simp
        · exact fun b' o e => by rw [upd_ne (ne_of_none e hl)]; exact sH b' o e
        · rw [he, ahead_step h2 hr0, List.reverse_append]; simp
        · show ((r : Int) / (b : Int)).toNat < (r : Int).toNat
          have : r / b < r := Nat.div_lt_self hr0 (by omega)
          omega
      · have hr0 : r = 0 := by
          by_cases z : r = 0
          · exact z
          · exact absurd (decide_eq_true (by omega : (0 : Int) < r)) h1
        subst hr0
        refine ⟨_, rfl, l, _, rfl, SqL.of hL, fun q hq => ?_⟩
        have hlq : q ≠ l := fun z => by rw [z, hL] at hq; cases hq
        refine k q _ (sH.free hq) ?_ (sH.trans (same_upd hq))
        rw [upd_same, he]
        simp [ahead]
    · intro σ H2 Q Q' hq
      rintro ⟨v, e, i, j, e1, e2, k, e3, q⟩
      exact ⟨v, e, i, j, e1, e2, k, e3, hq _ _ q⟩
end
structure Deck (H : Hp) (d : Addr) (fp : List Addr) : Prop where
  ex : ∃ (pp : Addr) (qs : List Addr) (i : Int), fp = d :: pp :: qs ∧ H d = some (.lst [.ref pp, .int i]) ∧ H pp = some (.lst (qs.map V.ref)) ∧ qs ≠ [] ∧ qs.length ≤ 63 ∧ ∀ q ∈ qs, ∃ a b c : Int, H q = some (.lst [.int a, .int b, .int c])
theorem Deck.there {H : Hp} {d : Addr} {fp : List Addr} (D : Deck H d fp) : ∀ b ∈ fp, H b ≠ none := by
  obtain ⟨pp, qs, i, rfl, h1, h2, _, _, h3⟩ := D.ex
  intro b hb
  rcases List.mem_cons.mp hb with e | hb
  · rw [e, h1]; simp
  · rcases List.mem_cons.mp hb with e | hb
    · rw [e, h2]; simp
    · obtain ⟨x, y, z, e⟩ := h3 b hb
      rw [e]; simp
theorem Deck.fresh {H : Hp} {d b : Addr} {fp : List Addr} (D : Deck H d fp) (h : H b = none) : b ∉ fp := fun z => D.there b z h
theorem Deck.same {H H' : Hp} {d : Addr} {fp : List Addr} (D : Deck H d fp) (s : Same H H') : Deck H' d fp := by
  obtain ⟨pp, qs, i, rfl, h1, h2, h3, h4, h5⟩ := D.ex
  exact ⟨pp, qs, i, rfl, s _ _ h1, s _ _ h2, h3, h4, fun q hq => by obtain ⟨x, y, z, e⟩ := h5 q hq; exact ⟨x, y, z, s _ _ e⟩⟩
theorem Deck.upd {H : Hp} {d l : Addr} {o : HO} {fp : List Addr} (D : Deck H d fp) (h : l ∉ fp) : Deck (L2.upd H l o) d fp := by
  obtain ⟨pp, qs, i, rfl, h1, h2, h3, h4, h5⟩ := D.ex
  have ne : ∀ b ∈ d :: pp :: qs, b ≠ l := fun b hb z => h (z ▸ hb)
  refine ⟨pp, qs, i, rfl, ?_, ?_, h3, h4, fun q hq => ?_⟩
  · rw [upd_ne (ne d (by simp))]; exact h1
  · rw [upd_ne (ne pp (by simp))]; exact h2
  · obtain ⟨x, y, z, e⟩ := h5 q hq
    exact ⟨x, y, z, by rw [upd_ne (ne q (by simp [hq]))]; exact e⟩
section
variable {P : Program} {w : World} {K : PySem.W.Frag} {mg : Str → Option Value} {base : Heap}
def sp__law_deck (K : PySem.W.Frag) : Sp := fun vs H Q _ => ∃ (a : Addr) (ns : List Int), vs = [.ref a] ∧ SqL K H a (ns.map V.int) ∧ ns.length ≤ 63 ∧
  ∀ d fp H', Deck H' d fp → Same H H' → (∀ b ∈ fp, H b = none) → Q (.ref d) H'
theorem sc__law_deck : FnScope ["script", "pools", "k", "cell"] ["script"] (defScope s__law_deck) := ⟨rfl, rfl, rfl, by decide +kernel, rfl, by decide +kernel, by decide +kernel⟩
theorem ok__law_deck {f : Addr} {fd : FuncData} (D : Df K mg "_law_deck" s__law_deck ["script"] f fd) (T : Blt mg) : FnOk P w K mg base CX0 1 f fd ["script"] (sp__law_deck K) := by
  refine D.fn.ok sc__law_deck (fun vs H Q E h => ?_) (fun cdv A outer s H vs Q E hr h => ?_)
  · obtain ⟨a, ns, rfl, _⟩ := h; rfl
  · obtain ⟨a, ns, rfl, hS, hlen, k⟩ := h
    refine ⟨_, (pss_cons (ps_set (i := 1) sc__law_deck.nd rfl (Or.inl rfl) (pe_lst pa_nil))
      (pss_cons (ps_for PassesOwn.never rfl (pi_range1 rfl T.n_range (pa_cons (pe_callB (call_max2 rfl) (by rfl) T.n_max boot_max (pa_cons pe_int (pa_cons (pe_callB (call_min2 rfl) (by rfl) T.n_min boot_min (pa_cons pe_int (pa_cons (pe_callB call_len_seq (by rfl) T.n_len PySem.boot_len (pa_cons (pv 0) pa_nil)) pa_nil))) pa_nil))) pa_nil)) (pg_name (i := 2) sc__law_deck.nd rfl (Or.inl rfl))
        (pss_cons (ps_set (i := 3) sc__law_deck.nd rfl (Or.inl rfl) pe_int)
        (pss_cons (ps_if (pt_cmpR op_lt (pv 2) (pe_callB call_len_seq (by rfl) T.n_len PySem.boot_len (pa_cons (pv 0) pa_nil)) (nomark _))
          (pss_one (ps_set (i := 3) sc__law_deck.nd rfl (Or.inl rfl) (pe_ix ix_list (pv 0) (pv 2) (fun _ _ => rfl))))
          pss_nil)
        (pss_one (ps_expr (pe_bm PySem.F.plainAttrs_list PySem.F.slot_list_append PySem.F.type_list_append mt_append (pv 1) (pa_cons (pe_lst (pa_cons (pv 3) (pa_cons (pe_callTy call_int1 (by rfl) T.n_int boot_int (pa_cons (pe_cmpR op_ge (pv 3) (pe_op op_pow pe_int pe_int) (nomark _)) pa_nil)) (pa_cons (pe_op op_mul pe_int (pv 2)) pa_nil)))) pa_nil)))))))
      (pss_one (ps_ret (pe_lst (pa_cons (pv 1) (pa_cons pe_int pa_nil))))))), ?_⟩
    refine ⟨(by decide : 0 ≤ sizeLine), fun pp hpp => ?_⟩
    have s0 : Same H (upd H pp (.lst [])) := same_upd hpp
    refine ⟨_, rfl, a, _, rfl, .inl (s0.seq hS), 63, (ns.length : Int), by simp, 1, _, rfl, ?_⟩
    generalize hM : (if (if (ns.length : Int) < 63 then (ns.length : Int) else 63) > 1 then (if (ns.length : Int) < 63 then (ns.length : Int) else 63) else 1) = M
    have hM1 : 1 ≤ M ∧ M ≤ 63 := by
      rw [← hM]; split <;> split <;> omega
    refine ⟨M, rfl, by omega, by omega, for_range (lo := 0) (n := M.toNat) (fun i σ H2 => ∃ (qs : List Addr) (v1 v2 : Option V), σ = [some (.ref a), some (.ref pp), v1, v2] ∧ qs.length = i ∧ H2 pp = some (.lst (qs.map V.ref)) ∧ Same H H2 ∧
        (∀ q ∈ qs, H q = none ∧ ∃ a b c : Int, H2 q = some (.lst [.int a, .int b, .int c]))) ?_ ?_ ?_⟩
    · exact ⟨[], none, none, rfl, rfl, upd_same, s0, fun q hq => by cases hq⟩
    · rintro i σ H2 hi ⟨qs, v1, v2, rfl, hl, h1, sH, h2⟩
      have hS2 := sH.seq hS
      have put : ∀ (cell : Int) (p : Addr), H2 p = none → ∀ y z : Int, ∃ (qs' : List Addr) (v1 v2 : Option V), ([some (.ref a), some (.ref pp), some (.int (0 + (i : Int))), some (.int cell)] : L2.St) = [some (.ref a), some (.ref pp), v1, v2] ∧ qs'.length = i + 1 ∧ (upd (upd H2 p (.lst [.int cell, .int y, .int z])) pp (.lst (qs.map V.ref ++ [.ref p]))) pp = some (.lst (qs'.map V.ref)) ∧
          Same H (upd (upd H2 p (.lst [.int cell, .int y, .int z])) pp (.lst (qs.map V.ref ++ [.ref p]))) ∧ (∀ q ∈ qs', H q = none ∧ ∃ a b c : Int, (upd (upd H2 p (.lst [.int cell, .int y, .int z])) pp (.lst (qs.map V.ref ++ [.ref p]))) q = some (.lst [.int a, .int b, .int c])) := by
        intro cell p hp y z
        have npp : p ≠ pp := fun e => by rw [e, h1] at hp; cases hp
        refine ⟨qs ++ [p], _, _, rfl, by simp [hl], by rw [upd_same]; simp, fun b o e => ?_, fun q hq => ?_⟩
        · rw [upd_ne (ne_of_none e hpp), upd_ne (fun z => by have := sH b o e; rw [z, hp] at this; cases this)]; exact sH b o e
        · rcases List.mem_append.mp hq with hq | hq
          · obtain ⟨hn, a', b', c', e⟩ := h2 q hq
            have n1 : q ≠ pp := fun z => by
              rw [z, h1] at e
              have e' := Option.some.inj e
              injection e' with e'
              cases qs with
              | nil => cases hq
              | cons q0 qr => rw [List.map_cons] at e'; injection e' with e1 _; cases e1
            exact ⟨hn, a', b', c', by rw [upd_ne n1, upd_ne (ne_of_none e hp)]; exact e⟩
          · have e : q = p := by simpa using hq
            subst e
            exact ⟨sH.free hp, cell, y, z, by rw [upd_ne npp, upd_same]⟩
      have rest : ∀ cell : Int, ∀ D : Ends, (∀ (p : Addr), H2 p = none → ∀ y z : Int, D.nx [some (.ref a), some (.ref pp), some (.int (0 + (i : Int))), some (.int cell)] (upd (upd H2 p (.lst [.int cell, .int y, .int z])) pp (.lst (qs.map V.ref ++ [.ref p])))) → True := fun _ _ _ => trivial
      refine ⟨_, rfl, _, rfl, a, _, rfl, .inl hS2, _, _, rfl, rfl, _, rfl, ?_⟩
      have fin : ∀ (cell : Int) (p : Addr), H2 p = none → True := fun _ _ _ => trivial
      refine ite2 (fun hlt => ?_) (fun hge => ?_)
      · have hlt' : i < ns.length := by
          have := of_decide_eq_true hlt
          rw [List.length_map] at this
          omega
        refine ⟨_, rfl, _, rfl, a, _, _, .int (ns[i]), rfl, rfl, hS2, ?_, ?_⟩
        · rw [Int.zero_add]; exact atI_nat (by rw [List.getElem?_map, List.getElem?_eq_getElem hlt']; rfl)
        · refine ⟨_, rfl, .inl ⟨rfl, _, SqL.of h1⟩, _, rfl, _, rfl, _, _, rfl, rfl, ⟨by decide, by decide, by decide⟩, _, _, rfl, rfl, .inr ⟨_, rfl, _, rfl, _, _, rfl, rfl, .inl ⟨by decide, by decide⟩, (by decide : 3 ≤ sizeLine), fun p hp => ?_⟩⟩
          refine ⟨pp, _, _, rfl, rfl, ?_, ?_, put _ p hp _ _⟩
          · rw [upd_ne (fun z => by rw [← z, h1] at hp; cases hp)]; exact h1
          · rw [List.length_map, hl]; exact Nat.lt_of_lt_of_le (show i < 64 by omega) (by decide)
      · refine ⟨_, rfl, .inl ⟨rfl, _, SqL.of h1⟩, _, rfl, _, rfl, _, _, rfl, rfl, ⟨by decide, by decide, by decide⟩, _, _, rfl, rfl, .inr ⟨_, rfl, _, rfl, _, _, rfl, rfl, .inl ⟨by decide, by decide⟩, (by decide : 3 ≤ sizeLine), fun p hp => ?_⟩⟩
        refine ⟨pp, _, _, rfl, rfl, ?_, ?_, put _ p hp _ _⟩
        · rw [upd_ne (fun z => by rw [← z, h1] at hp; cases hp)]; exact h1
        · rw [List.length_map, hl]; exact Nat.lt_of_lt_of_le (show i < 64 by omega) (by decide)
    · rintro σ H2 ⟨qs, v1, v2, rfl, hl, h1, sH, h2⟩
      refine ⟨_, rfl, (by decide : 2 ≤ sizeLine), fun d hd => ?_⟩
      have nd : ∀ b o, H2 b = some o → b ≠ d := fun b o e => ne_of_none e hd
      refine k d (d :: pp :: qs) _ ⟨pp, qs, 0, rfl, upd_same, ?_, ?_, by omega, fun q hq => ?_⟩ (sH.trans (same_upd hd)) (fun b hb => ?_)
      · rw [upd_ne (nd _ _ h1)]; exact h1
      · intro z; rw [z] at hl; simp at hl; omega
      · obtain ⟨_, x, y, z, e⟩ := h2 q hq
        exact ⟨x, y, z, by rw [upd_ne (nd _ _ e)]; exact e⟩
      · rcases List.mem_cons.mp hb with e | hb
        · rw [e]; exact sH.free hd
        · rcases List.mem_cons.mp hb with e | hb
          · rw [e]; exact hpp
          · exact (h2 b hb).1
end
structure Stp (fp : List Addr) (d : Addr) (H H' : Hp) : Prop where
  dk : Deck H' d fp
  sm : Same (aw fp H) (aw fp H')
theorem Stp.refl {fp : List Addr} {d : Addr} {H : Hp} (D : Deck H d fp) : Stp fp d H H := ⟨D, Same.refl _⟩
theorem Stp.trans {fp : List Addr} {d : Addr} {H H1 H2 : Hp} (a : Stp fp d H H1) (b : Stp fp d H1 H2) : Stp fp d H H2 := ⟨b.dk, a.sm.trans b.sm⟩
theorem Stp.of {fp : List Addr} {d : Addr} {H H' : Hp} (D : Deck H d fp) (s : Same H H') : Stp fp d H H' := ⟨D.same s, s.aw fp⟩
theorem Stp.free {fp : List Addr} {d p : Addr} {H H' : Hp} (a : Stp fp d H H') (h : H' p = none) : H p = none := by
  cases e : H p with
  | none => rfl
  | some o =>
    by_cases hp : p ∈ fp
    · exact absurd h (a.dk.there p hp)
    · have z := a.sm p o (by rw [aw_out hp]; exact e)
      rw [aw_out hp, h] at z; cases z
theorem Stp.get {fp : List Addr} {d p : Addr} {H H' : Hp} {o : HO} (a : Stp fp d H H') (hp : p ∉ fp) (h : H p = some o) : H' p = some o := by
  have z := a.sm p o (by rw [aw_out hp]; exact h)
  rw [aw_out hp] at z; exact z
theorem Stp.new {fp : List Addr} {d p : Addr} {H H' : Hp} {o : HO} (a : Stp fp d H H') (h : H' p = none) : Stp fp d H (upd H' p o) := a.trans (.of a.dk (same_upd h))
section
variable {P : Program} {w : World} {K : PySem.W.Frag} {mg : Str → Option Value} {base : Heap}
def sp__law_draw : Sp := fun vs H Q _ => ∃ (d : Addr) (m : Int) (fp : List Addr), vs = [.ref d, .int m] ∧ Deck H d fp ∧ 0 < m ∧ m < 2 ^ 200 ∧
  ∀ (r : Nat) (H' : Hp), (r : Int) < m → Stp fp d H H' → Q (.int r) H'
theorem sc__law_draw : FnScope ["deck", "many", "pool", "found", "number"] ["deck", "many"] (defScope s__law_draw) := ⟨rfl, rfl, rfl, by decide +kernel, rfl, by decide +kernel, by decide +kernel⟩
theorem aw_upd_in {fp : List Addr} {H : Hp} {b : Addr} {o : HO} (h : b ∈ fp) : aw fp (upd H b o) = aw fp H := by
  funext c
  by_cases hc : c ∈ fp
  · rw [aw_in hc, aw_in hc]
  · rw [aw_out hc, aw_out hc, upd_ne (fun z : c = b => hc (by rw [z]; exact h))]
theorem ok__law_draw {f : Addr} {fd : FuncData} (D : Df K mg "_law_draw" s__law_draw ["deck", "many"] f fd) (T : Blt mg) : FnOk P w K mg base CX0 1 f fd ["deck", "many"] sp__law_draw := by
  refine D.fn.ok sc__law_draw (fun vs H Q E h => ?_) (fun cdv A outer s H vs Q E hr h => ?_)
  · obtain ⟨d, m, fp, rfl, _⟩ := h; rfl
  · obtain ⟨d, m, fp, rfl, DK, hm0, hm1, k⟩ := h
    obtain ⟨pp, qs, i, rfl, h1, h2, h3, h4, h5⟩ := DK.ex
    refine ⟨_, (pss_cons (ps_set (i := 2) sc__law_draw.nd rfl (Or.inl rfl) (pe_ix ix_list (pe_ix ix_list (pv 0) pe_int (fun _ _ => rfl)) (pe_op op_mod (pe_ix ix_list (pv 0) pe_int (fun _ _ => rfl)) (pe_callB call_len_seq (by rfl) T.n_len PySem.boot_len (pa_cons (pe_ix ix_list (pv 0) pe_int (fun _ _ => rfl)) pa_nil))) (fun _ _ => rfl)))
      (pss_cons (ps_asg (pe_op op_add (pe_ix ix_list (pv 0) pe_int (fun _ _ => rfl)) pe_int) (pg_sub (pv 0) pe_int set_list))
      (pss_cons (ps_if (PW.pt (pw_and (pt_cmpR op_eq (pe_ix ix_list (pv 2) pe_int (fun _ _ => rfl)) pe_int (nomark _)) (pw_and1 (pt_cmpR op_gt (pe_ix ix_list (pv 2) pe_int (fun _ _ => rfl)) pe_int (nomark _)))))
        (pss_cons (ps_set (i := 3) sc__law_draw.nd rfl (Or.inl rfl) (pe_op op_mod (pe_ix ix_list (pv 2) pe_int (fun _ _ => rfl)) (pv 1)))
        (pss_cons (ps_asg (pe_op op_fdivB (pe_ix ix_list (pv 2) pe_int (fun _ _ => rfl)) (pv 1)) (pg_sub (pv 2) pe_int set_list))
        (pss_one (ps_ret (pv 3)))))
        pss_nil)
      (pss_cons (ps_asg (pe_op op_add (pe_ix ix_list (pv 2) pe_int (fun _ _ => rfl)) pe_int) (pg_sub (pv 2) pe_int set_list))
      (pss_cons (ps_set (i := 4) sc__law_draw.nd rfl (Or.inl rfl) (pe_op op_mod (pe_op op_add (pe_op op_mod (pe_ix ix_list (pv 2) pe_int (fun _ _ => rfl)) pe_int) (pe_op op_mul pe_int (pe_ix ix_list (pv 2) pe_int (fun _ _ => rfl)))) pe_int))
      (pss_cons (ps_set (i := 4) sc__law_draw.nd rfl (Or.inl rfl) (pe_op op_mod (pe_op op_mul (pv 4) (pv 4)) pe_int))
      (pss_cons (ps_set (i := 4) sc__law_draw.nd rfl (Or.inl rfl) (pe_op op_mod (pe_op op_mul (pv 4) (pe_op op_add (pv 4) pe_int)) pe_int))
      (pss_one (ps_ret (pe_op op_mod (pe_op op_fdivB (pv 4) pe_int) (pv 1))))))))))), ?_⟩
    have hql : 0 < qs.length := by cases qs with | nil => exact absurd rfl h3 | cons _ _ => simp
    have hj0 : 0 ≤ i % (qs.length : Int) := Int.emod_nonneg _ (by omega)
    have hj1 : i % (qs.length : Int) < qs.length := Int.emod_lt_of_pos _ (by omega)
    obtain ⟨j, hj⟩ : ∃ j : Nat, i % (qs.length : Int) = (j : Int) := ⟨(i % (qs.length : Int)).toNat, by omega⟩
    have hjl : j < qs.length := by omega
    have hq : qs[j] ∈ qs := List.getElem_mem hjl
    generalize hqe : qs[j] = q at hq
    obtain ⟨a, b, c, hqv⟩ := h5 q hq
    have e0 : atI [V.ref pp, V.int i] 0 = some (V.ref pp) := rfl
    have e1 : atI [V.ref pp, V.int i] 1 = some (V.int i) := rfl
    refine ⟨_, rfl, d, _, _, _, rfl, rfl, SqL.of h1, e0, ?_⟩
    refine ⟨_, rfl, d, _, _, _, rfl, rfl, SqL.of h1, e1, ?_⟩
    refine ⟨_, rfl, d, _, _, _, rfl, rfl, SqL.of h1, e0, pp, _, rfl, .inl (SqL.of h2), _, _, rfl, rfl, (by rw [List.length_map]; omega), ?_⟩
    refine ⟨pp, _, _, V.ref q, rfl, rfl, SqL.of h2, ?_, ?_⟩
    · rw [List.length_map, hj]
      exact atI_nat (by rw [List.getElem?_map, List.getElem?_eq_getElem hjl, hqe]; rfl)
    refine ⟨_, rfl, d, _, _, _, rfl, rfl, SqL.of h1, e1, _, _, rfl, rfl, _, rfl, d, _, _, 1, rfl, rfl, h1, rfl, ?_⟩
    have nqd : q ≠ d := fun z => by rw [z, h1] at hqv; cases hqv
    have nqp : q ≠ pp := fun z => by
      rw [z, h2] at hqv
      injection hqv with hqv
      injection hqv with hqv
      cases qs with
      | nil => cases hq
      | cons x y => rw [List.map_cons] at hqv; injection hqv with z1 _; cases z1
    have npd : pp ≠ d := fun z => by
      rw [z, h1] at h2
      injection h2 with h2
      injection h2 with h2
      cases qs with
      | nil => cases hq
      | cons x y =>
        rw [List.map_cons] at h2
        injection h2 with _ z2
        cases y with
        | nil => cases z2
        | cons y z => rw [List.map_cons] at z2; injection z2 with z3 _; cases z3
    have hqv1 : (upd H d (.lst [V.ref pp, V.int (i + 1)])) q = some (.lst [.int a, .int b, .int c]) := by rw [upd_ne nqd]; exact hqv
    have back : ∀ a' b' c' : Int, Deck (upd (upd H d (.lst [V.ref pp, V.int (i + 1)])) q (.lst [.int a', .int b', .int c'])) d (d :: pp :: qs) := fun a' b' c' => by
      refine ⟨pp, qs, i + 1, rfl, ?_, ?_, h3, h4, fun q' hq' => ?_⟩
      · rw [upd_ne (Ne.symm nqd), upd_same]
      · rw [upd_ne (Ne.symm nqp), upd_ne npd]; exact h2
      · by_cases z : q' = q
        · subst z; exact ⟨a', b', c', upd_same⟩
        · obtain ⟨x, y, z', e⟩ := h5 q' hq'
          have n1 : q' ≠ d := fun w => by rw [w, h1] at e; cases e
          exact ⟨x, y, z', by rw [upd_ne z, upd_ne n1]; exact e⟩
    have kept : ∀ o, Same (aw (d :: pp :: qs) H) (aw (d :: pp :: qs) (upd (upd H d (.lst [V.ref pp, V.int (i + 1)])) q o)) := fun o => by
      rw [aw_upd_in (by simp [hq]), aw_upd_in (by simp)]; exact Same.refl _
    have fin : ∀ (x a' b' c' : Int), Q (.int (x % m)) (upd (upd H d (.lst [V.ref pp, V.int (i + 1)])) q (.lst [.int a', .int b', .int c'])) := fun x a' b' c' => by
      obtain ⟨r, hr⟩ := Int.eq_ofNat_of_zero_le (Int.emod_nonneg x (show m ≠ 0 by omega))
      rw [hr]
      exact k r _ (hr ▸ Int.emod_lt_of_pos x hm0) ⟨back _ _ _, kept _⟩
    refine ⟨_, rfl, q, _, _, V.int b, rfl, rfl, SqL.of hqv1, rfl, rfl, _, rfl, ?_⟩
    have rest : ∀ D : Ends, (∀ v H', D.rt v H' = Q v H') → tSeq (tAsg (tOp (rI0 fun i j => .int (i + j)) (tOp (rIxL K) (tVar 2) (tC (.int 2))) (tC (.int 1))) (gSub (tVar 2) (tC (.int 2)) rSetL))
        (tSeq (tAsg (tOp (rI (fun _ j => 0 < j) fun i j => .int (i % j)) (tOp (rI0 fun i j => .int (i + j)) (tOp (rI (fun _ j => 0 < j) fun i j => .int (i % j)) (tOp (rIxL K) (tVar 2) (tC (.int 0))) (tC (.int 99999999977))) (tOp (rI CMul fun i j => .int (i * j)) (tC (.int 700001)) (tOp (rIxL K) (tVar 2) (tC (.int 2))))) (tC (.int 99999999947))) (gName 4))
        (tSeq (tAsg (tOp (rI (fun _ j => 0 < j) fun i j => .int (i % j)) (tOp (rI CMul fun i j => .int (i * j)) (tVar 4) (tVar 4)) (tC (.int 99999999821))) (gName 4))
        (tSeq (tAsg (tOp (rI (fun _ j => 0 < j) fun i j => .int (i % j)) (tOp (rI CMul fun i j => .int (i * j)) (tVar 4) (tOp (rI0 fun i j => .int (i + j)) (tVar 4) (tC (.int 19)))) (tC (.int 9999999967))) (gName 4))
        (tRet (tOp (rI (fun _ j => 0 < j) fun i j => .int (i % j)) (tOp (rI CDivB fun i j => .int (i / j)) (tVar 4) (tC (.int 13))) (tVar 1)))))) D [some (.ref d), some (.int m), some (.ref q), none, none] (upd H d (.lst [V.ref pp, V.int (i + 1)])) := by
      intro D hD
      refine ⟨_, rfl, q, _, _, V.int c, rfl, rfl, SqL.of hqv1, rfl, _, _, rfl, rfl, _, rfl, q, _, _, 2, rfl, rfl, hqv1, rfl, ?_⟩
      have hqv2 : (upd (upd H d (.lst [V.ref pp, V.int (i + 1)])) q (.lst [.int a, .int b, .int (c + 1)])) q = some (.lst [.int a, .int b, .int (c + 1)]) := upd_same
      refine ⟨_, rfl, q, _, _, V.int a, rfl, rfl, SqL.of hqv2, rfl, _, _, rfl, rfl, (by decide : (0 : Int) < 99999999977), ?_⟩
      refine ⟨_, rfl, q, _, _, V.int (c + 1), rfl, rfl, SqL.of hqv2, rfl, _, _, rfl, rfl, .inl ⟨by decide, by decide⟩, _, _, rfl, rfl, _, _, rfl, rfl, (by decide : (0 : Int) < 99999999947), ?_⟩
      generalize hn1 : (a % 99999999977 + 700001 * (c + 1)) % 99999999947 = n1
      have n1b : 0 ≤ n1 ∧ n1 < 99999999947 := by rw [← hn1]; exact ⟨Int.emod_nonneg _ (by decide), Int.emod_lt_of_pos _ (by decide)⟩
      refine ⟨_, rfl, _, rfl, _, _, rfl, rfl, .inl ⟨by omega, by omega⟩, _, _, rfl, rfl, (by decide : (0 : Int) < 99999999821), ?_⟩
      generalize hn2 : n1 * n1 % 99999999821 = n2
      have n2b : 0 ≤ n2 ∧ n2 < 99999999821 := by rw [← hn2]; exact ⟨Int.emod_nonneg _ (by decide), Int.emod_lt_of_pos _ (by decide)⟩
      refine ⟨_, rfl, _, rfl, _, _, rfl, rfl, _, _, rfl, rfl, .inl ⟨by omega, by omega⟩, _, _, rfl, rfl, (by decide : (0 : Int) < 9999999967), ?_⟩
      generalize hn3 : n2 * (n2 + 19) % 9999999967 = n3
      refine ⟨_, rfl, _, _, rfl, rfl, ⟨by decide, by decide⟩, _, rfl, _, _, rfl, rfl, hm0, ?_⟩
      rw [hD]
      exact fin _ _ _ _
    refine ite2 (fun _ => ?_) (fun _ => ?_)
    · refine ⟨_, rfl, q, _, _, V.int a, rfl, rfl, SqL.of hqv1, rfl, _, _, rfl, rfl, _, rfl, ?_⟩
      refine ite2 (fun _ => ?_) (fun _ => ?_)
      · refine ⟨_, rfl, q, _, _, V.int a, rfl, rfl, SqL.of hqv1, rfl, _, rfl, _, _, rfl, rfl, hm0, ?_⟩
        refine ⟨_, rfl, q, _, _, V.int a, rfl, rfl, SqL.of hqv1, rfl, _, rfl, _, _, rfl, rfl, ⟨hm0, hm1⟩, _, rfl, q, _, _, 0, rfl, rfl, hqv1, rfl, ?_⟩
        refine ⟨_, rfl, ?_⟩
        exact fin _ _ _ _
      · exact rest _ (fun _ _ => rfl)
    · exact rest _ (fun _ _ => rfl)
end
end Lw
set_option Elab.async false
set_option linter.all false
set_option maxRecDepth 100000
namespace Lw
open PySem L2 PyProof.Rows
section
variable {P : Program} {w : World} {K : PySem.W.Frag} {mg : Str → Option Value} {base : Heap}
def sp_is_figure : Sp := fun vs H Q _ => ∃ b i : Int, vs = [.int b, .int i] ∧ Q (.bl (decide (0 ≤ i ∧ i < b))) H
theorem sc_is_figure : FnScope ["base", "thing"] ["base", "thing"] (defScope s_is_figure) := ⟨rfl, rfl, rfl, by decide +kernel, rfl, by decide +kernel, by decide +kernel⟩
theorem ok_is_figure {f f1 : Addr} {fd fd1 : FuncData} (D : Df K mg "is_figure" s_is_figure ["base", "thing"] f fd) (Dis_whole : Df K mg "is_whole" s_is_whole ["thing"] f1 fd1) (T : Blt mg) : FnOk P w K mg base CX0 2 f fd ["base", "thing"] sp_is_figure := by
  have Gis_whole : FnOk P w K mg base CX0 1 f1 fd1 ["thing"] sp_is_whole := ok_is_whole Dis_whole T
  refine D.fn.ok sc_is_figure (fun vs H Q E h => ?_) (fun cdv A outer s H vs Q E hr h => ?_)
  · obtain ⟨b, i, rfl, _⟩ := h; rfl
  · obtain ⟨b, i, rfl, q⟩ := h
    refine ⟨_, (pss_one (ps_ret (pe_and (pcall Dis_whole Gis_whole (hr.mono (by decide)) (pa_cons (pv 1) pa_nil)) (pe_one (pe_chain op_le op_lt pe_int (pv 1) (pv 0)))))), ?_⟩
    refine ⟨_, rfl, i, rfl, _, rfl, iteT ?_⟩
    refine ⟨_, rfl, _, _, rfl, rfl, _, rfl, ?_⟩
    refine ite2 (fun h1 => ?_) (fun h1 => ?_)
    · have h1' : (0 : Int) ≤ i := of_decide_eq_true h1
      refine ⟨_, rfl, _, _, rfl, rfl, ?_⟩
      rw [show decide (0 ≤ i ∧ i < b) = decide (i < b) by simp [h1']] at q
      exact q
    · have h1' : ¬ (0 : Int) ≤ i := fun z => h1 (decide_eq_true z)
      rw [show decide (0 ≤ i ∧ i < b) = false by simp [h1']] at q
      exact q
def sp_are_figures : Sp := fun vs H Q _ => ∃ (b : Int) (a : Addr) (ns : List Int), vs = [.int b, .ref a] ∧ H a = some (.lst (ns.map V.int)) ∧ ns.length ≤ 1000 ∧ ∀ H', Same H H' → Q (.bl (ns.all fun i => decide (0 ≤ i ∧ i < b))) H'
theorem sc_are_figures : FnScope ["base", "thing"] ["base", "thing"] (defScope s_are_figures) := ⟨rfl, rfl, rfl, by decide +kernel, rfl, by decide +kernel, by decide +kernel⟩
theorem ok_are_figures {f f1 : Addr} {fd fd1 : FuncData} (D : Df K mg "are_figures" s_are_figures ["base", "thing"] f fd) (Dis_figure : Df K mg "is_figure" s_is_figure ["base", "thing"] f1 fd1) (Gis_figure : FnOk P w K mg base CX0 2 f1 fd1 ["base", "thing"] sp_is_figure) (T : Blt mg) :
    FnOk P w K mg base CX0 3 f fd ["base", "thing"] sp_are_figures := by
  refine D.fn.ok sc_are_figures (fun vs H Q E h => ?_) (fun cdv A outer s H vs Q E hr h => ?_)
  · obtain ⟨b, a, ns, rfl, _⟩ := h; rfl
  · obtain ⟨b, a, ns, rfl, ha, hlen, kk⟩ := h
    refine ⟨_, (pss_one (ps_ret (pe_and (pe_callB (k_isi K) (by rfl) T.n_isinstance boot_isinstance (pa_cons (pv 1) (pa_cons (pe_bltn (v := .ty "list") rfl T.n_list boot_list rfl) pa_nil))) (pe_one (pe_callB (k_all K rfl) (by rfl) T.n_all boot_all (pa_cons (pe_comp (show CScope (defScope s_are_figures) _ "each" ["base", "thing"] ["base"] [0] from ⟨rfl, by decide +kernel, by decide +kernel, rfl, by decide +kernel, rfl, by decide +kernel, by decide +kernel⟩) rfl (k_pi K (pv 1)) (fun _ _ _ _ => pts_nil) (fun _ _ _ _ => (pcall Dis_figure Gis_figure (hr.mono (by decide)) (pa_cons (pv 1) (pa_cons (pv 0) pa_nil))))) pa_nil)))))), ?_⟩
    refine ⟨_, rfl, _, _, _, _, rfl, .lst ha, kit_list_list, _, rfl, iteT ?_⟩
    refine ⟨_, rfl, a, rfl, ⟨_, SqL.of ha⟩, comp_list (K := K) (a := a) (xs := ns.map V.int) (fun i ys H4 => ys = ((ns.take i).map fun i => decide (0 ≤ i ∧ i < b)).map V.bl ∧ H4 = H) ⟨by simp, rfl⟩ (fun i ys H4 _ ⟨_, e⟩ => by rw [e]; exact SqL.of ha) ?_ ?_⟩
    · rintro j x ys H4 hx ⟨rfl, rfl⟩
      refine ⟨?_, ?_⟩
      · rw [List.length_map, List.length_map, List.length_take]
        exact Nat.lt_of_le_of_lt (Nat.le_trans (Nat.min_le_right _ _) hlen) (by decide)
      obtain ⟨z, hz, rfl⟩ : ∃ z, ns[j]? = some z ∧ x = V.int z := by
        rw [List.getElem?_map] at hx
        obtain ⟨z, h, e⟩ := Option.map_eq_some_iff.mp hx
        exact ⟨z, h, e.symm⟩
      unfold tYes
      dsimp only
      rw [if_pos rfl]
      refine ⟨_, rfl, _, rfl, b, z, rfl, ?_, rfl⟩
      rw [List.take_succ, hz]
      simp
    · rintro ys H4 ⟨rfl, rfl⟩ Dd hD
      refine ⟨Dd, _, rfl, SqL.of upd_same, ?_⟩
      have q := kk _ (same_upd hD (o := .lst (((ns.take (ns.map V.int).length).map fun i => decide (0 ≤ i ∧ i < b)).map V.bl)))
      rw [List.length_map, List.take_length] at q ⊢
      rw [List.all_map]
      exact q
end
section
variable {P : Program} {w : World} {K : PySem.W.Frag} {mg : Str → Option Value} {base : Heap}
structure RuleAt (H : Hp) (r : Addr) (b : Nat) (bl : Addr) (zs : List (Addr × List Int)) : Prop where
  tu : H r = some (.tup [.int b, .ref bl])
  li : H bl = some (.lst (zs.map fun z => V.ref z.1))
  st : ∀ z ∈ zs, H z.1 = some (.lst (z.2.map V.int))
theorem RuleAt.same {H H' : Hp} {r bl : Addr} {b : Nat} {zs : List (Addr × List Int)} (R : RuleAt H r b bl zs) (s : Same H H') : RuleAt H' r b bl zs := ⟨s _ _ R.tu, s _ _ R.li, fun z hz => s _ _ (R.st z hz)⟩
structure GoodSt (b : Nat) (l : List Int) : Prop where
  ne : l ≠ []
  len : l.length ≤ 4
  fig : ∀ f ∈ l, 0 ≤ f ∧ f < b
structure GoodRule (b : Nat) (ls : List (List Int)) : Prop where
  b2 : 2 ≤ b
  b16 : b ≤ 16
  len : ls.length ≤ 4
  st : ∀ l ∈ ls, GoodSt b l
  up : ls.Pairwise fun x y => HT.lexLt x y = true
theorem all_figs' {b : Nat} {ns : List Int} (h : ∀ f ∈ ns, 0 ≤ f ∧ f < (b : Int)) : (ns.all fun i => decide (0 ≤ i ∧ i < (b : Int))) = true := by
  rw [List.all_eq_true]; intro x hx; exact decide_eq_true (h x hx)
def sp_is_stretch : Sp := fun vs H Q _ => ∃ (b : Nat) (a : Addr) (ns : List Int), vs = [.int b, .ref a] ∧ H a = some (.lst (ns.map V.int)) ∧ GoodSt b ns ∧ ∀ H', Same H H' → Q (.bl true) H'
theorem sc_is_stretch : FnScope ["base", "thing"] ["base", "thing"] (defScope s_is_stretch) := ⟨rfl, rfl, rfl, by decide +kernel, rfl, by decide +kernel, by decide +kernel⟩
theorem ok_is_stretch {f f1 : Addr} {fd fd1 : FuncData} {t1 : Tok} (D : Df K mg "is_stretch" s_is_stretch ["base", "thing"] f fd) (Dare_figures : Df K mg "are_figures" s_are_figures ["base", "thing"] f1 fd1) (Gare_figures : FnOk P w K mg base CX0 3 f1 fd1 ["base", "thing"] sp_are_figures) (c_LONGEST_STRETCH : mg "LONGEST_STRETCH" = some (.int 4 t1)) (T : Blt mg) :
    FnOk P w K mg base CX0 4 f fd ["base", "thing"] sp_is_stretch := by
  refine D.fn.ok sc_is_stretch (fun vs H Q E h => ?_) (fun cdv A outer s H vs Q E hr h => ?_)
  · obtain ⟨b, a, ns, rfl, _⟩ := h; rfl
  · obtain ⟨b, a, ns, rfl, ha, g, kk⟩ := h
    refine ⟨_, (pss_one (ps_ret (pe_and (pcall Dare_figures Gare_figures (hr.mono (by decide)) (pa_cons (pv 0) (pa_cons (pv 1) pa_nil))) (pe_one (pe_chain op_le op_le pe_int (pe_callB (k_len K) (by rfl) T.n_len PySem.boot_len (pa_cons (pv 1) pa_nil)) (pe_glob (v := .int 4) rfl c_LONGEST_STRETCH ⟨_, rfl⟩)))))), ?_⟩
    have hlen := g.len
    refine ⟨_, rfl, _, rfl, b, a, ns, rfl, ha, Nat.le_trans hlen (by decide), fun H1 s1 => ?_⟩
    rw [all_figs' g.fig]
    refine ⟨_, rfl, iteT ?_⟩
    have hpos : 0 < ns.length := List.length_pos_iff.mpr g.ne
    refine ⟨_, rfl, a, _, rfl, .inl (SqL.of (s1 _ _ ha)), _, _, rfl, rfl, _, rfl, ?_⟩
    rw [List.length_map, decide_eq_true (show (1 : Int) ≤ (ns.length : Int) by omega)]
    refine iteT ?_
    refine ⟨_, _, rfl, rfl, ?_⟩
    dsimp only
    rw [decide_eq_true (show (ns.length : Int) ≤ 4 by omega)]
    exact kk H1 s1
def sp_is_rising : Sp := fun vs H Q _ => ∃ (bl : Addr) (zs : List (Addr × List Int)), vs = [.ref bl] ∧ H bl = some (.lst (zs.map fun z => V.ref z.1)) ∧ (∀ z ∈ zs, H z.1 = some (.lst (z.2.map V.int))) ∧ zs.length ≤ 4 ∧ (zs.map (·.2)).Pairwise (fun x y => HT.lexLt x y = true) ∧ ∀ H', Same H H' → Q (.bl true) H'
theorem sc_is_rising : FnScope ["stretches"] ["stretches"] (defScope s_is_rising) := ⟨rfl, rfl, rfl, by decide +kernel, rfl, by decide +kernel, by decide +kernel⟩
theorem all_rep {n : Nat} : (List.replicate n true).all id = true := by
  rw [List.all_eq_true]; intro x hx; exact (List.mem_replicate.mp hx).2
theorem ok_is_rising {f : Addr} {fd : FuncData} (D : Df K mg "is_rising" s_is_rising ["stretches"] f fd) (T : Blt mg) : FnOk P w K mg base CX0 1 f fd ["stretches"] sp_is_rising := by
  refine D.fn.ok sc_is_rising (fun vs H Q E h => ?_) (fun cdv A outer s H vs Q E hr h => ?_)
  · obtain ⟨bl, zs, rfl, _⟩ := h; rfl
  · obtain ⟨bl, zs, rfl, hb, hz, h4, up, kk⟩ := h
    have HU := HUof hr
    refine ⟨_, (pss_one (ps_ret (pe_callB (k_all K rfl) (by rfl) T.n_all boot_all (pa_cons (pe_comp (show CScope (defScope s_is_rising) _ "k" ["stretches"] ["stretches"] [0] from ⟨rfl, by decide +kernel, by decide +kernel, rfl, by decide +kernel, rfl, by decide +kernel, by decide +kernel⟩) rfl (pi_range1 rfl T.n_range (pa_cons (pe_op op_sub (pe_callB (k_len K) (by rfl) T.n_len PySem.boot_len (pa_cons (pv 0) pa_nil)) pe_int) pa_nil)) (fun _ _ _ _ => pts_nil) (fun _ _ _ _ => (pe_cmpR (k_ltL K HU) (pe_ix (k_ixL K) (pv 1) (pv 0) (fun _ _ => rfl)) (pe_ix (k_ixL K) (pv 1) (pe_op op_add (pv 0) pe_int) (fun _ _ => rfl)) (nomark _)))) pa_nil)))), ?_⟩
    refine ⟨_, rfl, bl, _, rfl, .inl (SqL.of hb), _, _, rfl, rfl, _, rfl, ?_⟩
    rw [List.length_map]
    refine ⟨by omega, by omega, comp_range (lo := 0) (n := ((zs.length : Int) - 1).toNat) (fun i ys H4 => ys = (List.replicate i true).map V.bl ∧ H4 = H) ⟨by simp, rfl⟩ ?_ ?_⟩
    · rintro i ys H4 hi ⟨rfl, rfl⟩
      refine ⟨by rw [List.length_map, List.length_replicate]; exact Nat.lt_of_lt_of_le (show i < 5 by omega) (by decide), ?_⟩
      unfold tYes
      dsimp only
      rw [if_pos rfl]
      have hi0 : i < zs.length := by omega
      have hi1 : i + 1 < zs.length := by omega
      have g0 : atI (zs.map fun z => V.ref z.1) (0 + (i : Int)) = some (.ref (zs[i]).1) := by rw [Int.zero_add]; exact atI_nat (by rw [List.getElem?_map, List.getElem?_eq_getElem hi0]; rfl)
      have g1 : atI (zs.map fun z => V.ref z.1) (0 + (i : Int) + 1) = some (.ref (zs[i + 1]).1) := by rw [Int.zero_add]; exact atI_nat (j := i + 1) (by rw [List.getElem?_map, List.getElem?_eq_getElem hi1]; rfl)
      refine ⟨_, rfl, _, rfl, bl, _, _, _, rfl, rfl, SqL.of hb, g0, ?_⟩
      refine ⟨_, rfl, _, rfl, _, _, rfl, rfl, bl, _, _, _, rfl, rfl, SqL.of hb, g1, ?_⟩
      refine ⟨_, _, _, _, rfl, rfl, SqL.of (hz _ (List.getElem_mem hi0)), SqL.of (hz _ (List.getElem_mem hi1)), ?_, rfl⟩
      rw [List.pairwise_map, List.pairwise_iff_getElem] at up
      rw [up i (i + 1) hi0 hi1 (by omega), List.replicate_succ']
      simp
    · rintro ys H4 ⟨rfl, rfl⟩ Dd hD
      refine ⟨Dd, _, rfl, SqL.of upd_same, ?_⟩
      rw [all_rep]
      exact kk _ (same_upd hD)
def sp_is_bad_list : Sp := fun vs H Q _ => ∃ (b : Nat) (bl : Addr) (zs : List (Addr × List Int)), vs = [.int b, .ref bl] ∧ H bl = some (.lst (zs.map fun z => V.ref z.1)) ∧ (∀ z ∈ zs, H z.1 = some (.lst (z.2.map V.int))) ∧ GoodRule b (zs.map (·.2)) ∧ ∀ H', Same H H' → Q (.bl true) H'
theorem sc_is_bad_list : FnScope ["base", "thing"] ["base", "thing"] (defScope s_is_bad_list) := ⟨rfl, rfl, rfl, by decide +kernel, rfl, by decide +kernel, by decide +kernel⟩
theorem ok_is_bad_list {f f1 f2 : Addr} {fd fd1 fd2 : FuncData} {t1 : Tok} (D : Df K mg "is_bad_list" s_is_bad_list ["base", "thing"] f fd) (Dis_stretch : Df K mg "is_stretch" s_is_stretch ["base", "thing"] f1 fd1) (Gis_stretch : FnOk P w K mg base CX0 4 f1 fd1 ["base", "thing"] sp_is_stretch) (Dis_rising : Df K mg "is_rising" s_is_rising ["stretches"] f2 fd2) (c_MOST_STRETCHES : mg "MOST_STRETCHES" = some (.int 4 t1)) (T : Blt mg) :
    FnOk P w K mg base CX0 5 f fd ["base", "thing"] sp_is_bad_list := by
  have Gis_rising : FnOk P w K mg base CX0 1 f2 fd2 ["stretches"] sp_is_rising := ok_is_rising Dis_rising T
  refine D.fn.ok sc_is_bad_list (fun vs H Q E h => ?_) (fun cdv A outer s H vs Q E hr h => ?_)
  · obtain ⟨b, bl, zs, rfl, _⟩ := h; rfl
  · obtain ⟨b, bl, zs, rfl, hb, hz, g, kk⟩ := h
    have h4 : zs.length ≤ 4 := by have := g.len; rwa [List.length_map] at this
    refine ⟨_, (pss_cons (ps_if (PW.pt (pw_or (pt_not (pt_val (pe_callB (k_isi K) (by rfl) T.n_isinstance boot_isinstance (pa_cons (pv 1) (pa_cons (pe_bltn (v := .ty "list") rfl T.n_list boot_list rfl) pa_nil))))) (pw_or1 (pt_cmpR op_gt (pe_callB (k_len K) (by rfl) T.n_len PySem.boot_len (pa_cons (pv 1) pa_nil)) (pe_glob (v := .int 4) rfl c_MOST_STRETCHES ⟨_, rfl⟩) (nomark _)))))
        (pss_one (ps_ret pe_bl))
        pss_nil)
      (pss_one (ps_ret (pe_and (pe_callB (k_all K rfl) (by rfl) T.n_all boot_all (pa_cons (pe_comp (show CScope (defScope s_is_bad_list) _ "each" ["base", "thing"] ["base"] [0] from ⟨rfl, by decide +kernel, by decide +kernel, rfl, by decide +kernel, rfl, by decide +kernel, by decide +kernel⟩) rfl (k_pi K (pv 1)) (fun _ _ _ _ => pts_nil) (fun _ _ _ _ => (pcall Dis_stretch Gis_stretch (hr.mono (by decide)) (pa_cons (pv 1) (pa_cons (pv 0) pa_nil))))) pa_nil)) (pe_one (pcall Dis_rising Gis_rising (hr.mono (by decide)) (pa_cons (pv 1) pa_nil))))))), ?_⟩
    refine ⟨_, rfl, _, _, _, _, rfl, .lst hb, kit_list_list, _, rfl, iteF ?_⟩
    refine ⟨_, rfl, bl, _, rfl, .inl (SqL.of hb), _, _, rfl, rfl, _, rfl, ?_⟩
    rw [List.length_map, decide_eq_false (show ¬ (4 : Int) < (zs.length : Int) by omega)]
    refine iteF ?_
    refine ⟨_, rfl, bl, rfl, ⟨_, SqL.of hb⟩, comp_list (K := K) (a := bl) (xs := zs.map fun z => V.ref z.1) (fun i ys H4 => ys = (List.replicate i true).map V.bl ∧ Same H H4) ⟨by simp, Same.refl _⟩ (fun i ys H4 _ ⟨_, e⟩ => SqL.of (e _ _ hb)) ?_ ?_⟩
    · rintro j x ys H4 hx ⟨rfl, s4⟩
      rw [List.getElem?_map] at hx
      obtain ⟨z, hzj, e⟩ := Option.map_eq_some_iff.mp hx
      subst e
      have hzm := List.mem_of_getElem? hzj
      have hj : j < zs.length := (List.getElem?_eq_some_iff.mp hzj).1
      refine ⟨by rw [List.length_map, List.length_replicate]; exact Nat.lt_of_lt_of_le (show j < 5 by omega) (by decide), ?_⟩
      unfold tYes
      dsimp only
      rw [if_pos rfl]
      refine ⟨_, rfl, _, rfl, b, z.1, z.2, rfl, s4 _ _ (hz z hzm), g.st _ (List.mem_map.mpr ⟨z, hzm, rfl⟩), fun H5 s5 => ⟨?_, s4.trans s5⟩⟩
      rw [List.replicate_succ']; simp
    · rintro ys H4 ⟨rfl, s4⟩ Dd hD
      refine ⟨Dd, _, rfl, SqL.of upd_same, ?_⟩
      rw [all_rep]
      have s5 := s4.trans (same_upd hD (o := .lst ((List.replicate (zs.map fun z => V.ref z.1).length true).map V.bl)))
      refine ⟨_, rfl, iteT ?_⟩
      exact ⟨_, rfl, bl, zs, rfl, s5 _ _ hb, fun z hzm => s5 _ _ (hz z hzm), h4, g.up, fun H6 s6 => kk H6 (s5.trans s6)⟩
def sp_is_rule : Sp := fun vs H Q _ => ∃ (r : Addr) (b : Nat) (bl : Addr) (zs : List (Addr × List Int)), vs = [.ref r] ∧ RuleAt H r b bl zs ∧ GoodRule b (zs.map (·.2)) ∧ ∀ H', Same H H' → Q (.bl true) H'
theorem sc_is_rule : FnScope ["thing"] ["thing"] (defScope s_is_rule) := ⟨rfl, rfl, rfl, by decide +kernel, rfl, by decide +kernel, by decide +kernel⟩
theorem ok_is_rule {f f1 f2 : Addr} {fd fd1 fd2 : FuncData} (D : Df K mg "is_rule" s_is_rule ["thing"] f fd) (Dis_base : Df K mg "is_base" s_is_base ["thing"] f1 fd1) (Gis_base : FnOk P w K mg base CX0 2 f1 fd1 ["thing"] sp_is_base) (Dis_bad_list : Df K mg "is_bad_list" s_is_bad_list ["base", "thing"] f2 fd2) (Gis_bad_list : FnOk P w K mg base CX0 5 f2 fd2 ["base", "thing"] sp_is_bad_list) (T : Blt mg) :
    FnOk P w K mg base CX0 6 f fd ["thing"] sp_is_rule := by
  refine D.fn.ok sc_is_rule (fun vs H Q E h => ?_) (fun cdv A outer s H vs Q E hr h => ?_)
  · obtain ⟨r, b, bl, zs, rfl, _⟩ := h; rfl
  · obtain ⟨r, b, bl, zs, rfl, R, g, kk⟩ := h
    have b2 := g.b2
    have b16 := g.b16
    refine ⟨_, (pss_cons (ps_if (PW.pt (pw_or (pt_not (pt_val (pe_callB (k_isi K) (by rfl) T.n_isinstance boot_isinstance (pa_cons (pv 0) (pa_cons (pe_bltn (v := .ty "tuple") rfl T.n_tuple boot_tuple rfl) pa_nil))))) (pw_or1 (pt_cmpR op_ne (pe_callB (k_len K) (by rfl) T.n_len PySem.boot_len (pa_cons (pv 0) pa_nil)) pe_int (nomark _)))))
        (pss_one (ps_ret pe_bl))
        pss_nil)
      (pss_one (ps_ret (pe_and (pcall Dis_base Gis_base (hr.mono (by decide)) (pa_cons (pe_ix (k_ixT K) (pv 0) pe_int (fun _ _ => rfl)) pa_nil)) (pe_one (pcall Dis_bad_list Gis_bad_list (hr.mono (by decide)) (pa_cons (pe_ix (k_ixT K) (pv 0) pe_int (fun _ _ => rfl)) (pa_cons (pe_ix (k_ixT K) (pv 0) pe_int (fun _ _ => rfl)) pa_nil)))))))), ?_⟩
    refine ⟨_, rfl, _, _, _, _, rfl, .tup R.tu, kit_tuple_tuple, _, rfl, iteF ?_⟩
    refine ⟨_, rfl, r, _, rfl, .inr (SqT.of R.tu), rfl, _, rfl, ?_⟩
    refine iteF ?_
    refine ⟨_, rfl, r, _, _, V.int b, rfl, rfl, SqT.of R.tu, rfl, (b : Int), rfl, ?_⟩
    rw [decide_eq_true (show (2 : Int) ≤ b ∧ (b : Int) ≤ 16 from ⟨by omega, by omega⟩)]
    refine ⟨_, rfl, iteT ?_⟩
    refine ⟨_, rfl, r, _, _, V.int b, rfl, rfl, SqT.of R.tu, rfl, _, rfl, r, _, _, V.ref bl, rfl, rfl, SqT.of R.tu, rfl, b, bl, zs, rfl, R.li, R.st, g, kk⟩
def sp_check_rule : Sp := fun vs H Q _ => ∃ (r : Addr) (b : Nat) (bl : Addr) (zs : List (Addr × List Int)), vs = [.ref r] ∧ RuleAt H r b bl zs ∧ GoodRule b (zs.map (·.2)) ∧ ∀ H', Same H H' → Q .non H'
theorem sc_check_rule : FnScope ["thing"] ["thing"] (defScope s_check_rule) := ⟨rfl, rfl, rfl, by decide +kernel, rfl, by decide +kernel, by decide +kernel⟩
theorem ok_check_rule {f f1 : Addr} {fd fd1 : FuncData} (D : Df K mg "check_rule" s_check_rule ["thing"] f fd) (Dis_rule : Df K mg "is_rule" s_is_rule ["thing"] f1 fd1) (Gis_rule : FnOk P w K mg base CX0 6 f1 fd1 ["thing"] sp_is_rule) : FnOk P w K mg base CX0 7 f fd ["thing"] sp_check_rule := by
  refine D.fn.ok sc_check_rule (fun vs H Q E h => ?_) (fun cdv A outer s H vs Q E hr h => ?_)
  · obtain ⟨r, b, bl, zs, rfl, _⟩ := h; rfl
  · obtain ⟨r, b, bl, zs, rfl, R, g, kk⟩ := h
    refine ⟨_, (pss_one (ps_if (pt_not (pt_val (pcall Dis_rule Gis_rule (hr.mono (by decide)) (pa_cons (pv 0) pa_nil))))
        (pss_one ps_never)
        pss_nil)), ?_⟩
    exact ⟨_, rfl, r, b, bl, zs, rfl, R, g, fun H1 s1 => ⟨_, rfl, iteF (kk H1 s1)⟩⟩
end
section
variable {P : Program} {w : World} {K : PySem.W.Frag} {mg : Str → Option Value} {base : Heap}
theorem cutV_nat (xs : List V) (k m : Nat) : cutV xs (some (k : Int)) (some (m : Int)) = (xs.drop k).take (m - k) := by
  unfold cutV
  rw [HT.sIx_nat, HT.sIx_nat]
  by_cases hk : k ≤ xs.length
  · rw [Nat.min_eq_left hk]
    by_cases hm : m ≤ xs.length
    · rw [Nat.min_eq_left hm]
    · rw [Nat.min_eq_right (by omega), List.take_of_length_le (by rw [List.length_drop]; omega), List.take_of_length_le (by rw [List.length_drop]; omega)]
  · rw [List.drop_of_length_le (show xs.length ≤ k by omega), Nat.min_eq_right (show xs.length ≤ k by omega), List.drop_of_length_le (Nat.le_refl _)]
    simp
def sp_stands_within : Sp := fun vs H Q _ => ∃ (sa fa : Addr) (st fs : List Int), vs = [.ref sa, .ref fa] ∧ H sa = some (.lst (st.map V.int)) ∧ H fa = some (.lst (fs.map V.int)) ∧ st ≠ [] ∧ st.length ≤ 1000 ∧ fs.length ≤ 1000 ∧ ∀ H', Same H H' → Q (.bl (hasS st fs)) H'
theorem sc_stands_within : FnScope ["stretch", "figures", "size"] ["stretch", "figures"] (defScope s_stands_within) := ⟨rfl, rfl, rfl, by decide +kernel, rfl, by decide +kernel, by decide +kernel⟩
theorem ok_stands_within {f : Addr} {fd : FuncData} (D : Df K mg "stands_within" s_stands_within ["stretch", "figures"] f fd) (T : Blt mg) : FnOk P w K mg base CX0 1 f fd ["stretch", "figures"] sp_stands_within := by
  refine D.fn.ok sc_stands_within (fun vs H Q E h => ?_) (fun cdv A outer s H vs Q E hr h => ?_)
  · obtain ⟨sa, fa, st, fs, rfl, _⟩ := h; rfl
  · obtain ⟨sa, fa, st, fs, rfl, hs, hf, ne, hl1, hl2, kk⟩ := h
    have HU := HUof hr
    refine ⟨_, (pss_cons (ps_set (i := 2) sc_stands_within.nd rfl (Or.inr rfl) (pe_callB (k_len K) (by rfl) T.n_len PySem.boot_len (pa_cons (pv 0) pa_nil)))
      (pss_one (ps_ret (pe_callB (k_any K rfl) (by rfl) T.n_any boot_any (pa_cons (pe_comp (show CScope (defScope s_stands_within) _ "k" ["stretch", "figures", "size"] ["stretch", "figures", "size"] [0, 1, 2] from ⟨rfl, by decide +kernel, by decide +kernel, rfl, by decide +kernel, rfl, by decide +kernel, by decide +kernel⟩) rfl (pi_range1 rfl T.n_range (pa_cons (pe_op op_add (pe_op op_sub (pe_callB (k_len K) (by rfl) T.n_len PySem.boot_len (pa_cons (pv 1) pa_nil)) (pv 2)) pe_int) pa_nil)) (fun _ _ _ _ => pts_nil) (fun _ _ _ _ => (pe_cmpR (k_eqT K HU) (pe_slice (k_slL K) (pv 2) (po_some (pv 0)) (po_some (pe_op op_add (pv 0) (pv 3)))) (pv 1) (nomark _)))) pa_nil))))), ?_⟩
    refine ⟨_, rfl, sa, _, rfl, .inl (SqL.of hs), ?_⟩
    rw [List.length_map]
    refine ⟨_, rfl, fa, _, rfl, .inl (SqL.of hf), _, rfl, _, _, rfl, rfl, _, _, rfl, rfl, _, rfl, ?_⟩
    rw [List.length_map]
    refine ⟨by omega, by omega, comp_range (lo := 0) (n := ((fs.length : Int) - st.length + 1).toNat) (fun i ys H4 => ys = ((List.range i).map fun k => decide ((fs.drop k).take st.length = st)).map V.bl ∧ Same H H4) ⟨by simp, Same.refl _⟩ ?_ ?_⟩
    · rintro i ys H4 hi ⟨rfl, s4⟩
      refine ⟨by rw [List.length_map, List.length_map, List.length_range]; exact Nat.lt_of_lt_of_le (show i < 2000 by omega) (by decide), ?_⟩
      unfold tYes
      dsimp only
      rw [if_pos rfl]
      refine ⟨_, rfl, _, rfl, _, rfl, _, rfl, _, rfl, _, _, rfl, rfl, _, rfl, fa, _, rfl, SqL.of (s4 _ _ hf), fun p hp => ?_⟩
      have e1 : cutV (fs.map V.int) (some (0 + (i : Int))) (some (0 + (i : Int) + (st.length : Int))) = ((fs.drop i).take st.length).map V.int := by
        have e : (0 + (i : Int) + (st.length : Int)) = ((i + st.length : Nat) : Int) := by omega
        rw [e, Int.zero_add, cutV_nat, List.map_take, List.map_drop, Nat.add_sub_cancel_left]
      rw [e1]
      refine ⟨_, rfl, tInts ((fs.drop i).take st.length), tInts st, TrAt.ints (a := p) (SqL.of upd_same), TrAt.ints (a := sa) (SqL.of (same_upd hp _ _ (s4 _ _ hs))), (by rw [tdep_tInts]; decide), ?_, s4.trans (same_upd hp)⟩
      rw [List.range_succ, List.map_append, List.map_append]
      have e2 := teq_ints ((fs.drop i).take st.length) st
      show _ = _ ++ [V.bl (decide ((fs.drop i).take st.length = st))]
      rw [← e2]; rfl
    · rintro ys H4 ⟨rfl, s4⟩ Dd hD
      refine ⟨Dd, _, rfl, SqL.of upd_same, ?_⟩
      have q := kk _ (s4.trans (same_upd hD (o := .lst (((List.range ((fs.length : Int) - st.length + 1).toNat).map fun k => decide ((fs.drop k).take st.length = st)).map V.bl))))
      rw [hasS_short ne] at q
      rw [List.any_map]
      exact q
def sp_lacks_all : Sp := fun vs H Q _ => ∃ (bl fa : Addr) (zs : List (Addr × List Int)) (fs : List Int), vs = [.ref bl, .ref fa] ∧ H bl = some (.lst (zs.map fun z => V.ref z.1)) ∧ (∀ z ∈ zs, H z.1 = some (.lst (z.2.map V.int))) ∧ H fa = some (.lst (fs.map V.int)) ∧ zs.length ≤ 100 ∧ fs.length ≤ 1000 ∧ (∀ z ∈ zs, z.2 ≠ [] ∧ z.2.length ≤ 1000) ∧ ∀ H', Same H H' → Q (.bl (lacks (zs.map (·.2)) fs)) H'
theorem sc_lacks_all : FnScope ["bad", "figures"] ["bad", "figures"] (defScope s_lacks_all) := ⟨rfl, rfl, rfl, by decide +kernel, rfl, by decide +kernel, by decide +kernel⟩
theorem ok_lacks_all {f f1 : Addr} {fd fd1 : FuncData} (D : Df K mg "lacks_all" s_lacks_all ["bad", "figures"] f fd) (Dstands_within : Df K mg "stands_within" s_stands_within ["stretch", "figures"] f1 fd1) (T : Blt mg) : FnOk P w K mg base CX0 2 f fd ["bad", "figures"] sp_lacks_all := by
  have Gstands_within : FnOk P w K mg base CX0 1 f1 fd1 ["stretch", "figures"] sp_stands_within := ok_stands_within Dstands_within T
  refine D.fn.ok sc_lacks_all (fun vs H Q E h => ?_) (fun cdv A outer s H vs Q E hr h => ?_)
  · obtain ⟨bl, fa, zs, fs, rfl, _⟩ := h; rfl
  · obtain ⟨bl, fa, zs, fs, rfl, hb, hz, hf, hl1, hl2, ne, kk⟩ := h
    refine ⟨_, (pss_one (ps_ret (pe_not (pe_callB (k_any K rfl) (by rfl) T.n_any boot_any (pa_cons (pe_comp (show CScope (defScope s_lacks_all) _ "stretch" ["bad", "figures"] ["figures"] [1] from ⟨rfl, by decide +kernel, by decide +kernel, rfl, by decide +kernel, rfl, by decide +kernel, by decide +kernel⟩) rfl (k_pi K (pv 0)) (fun _ _ _ _ => pts_nil) (fun _ _ _ _ => (pcall Dstands_within Gstands_within (hr.mono (by decide)) (pa_cons (pv 0) (pa_cons (pv 1) pa_nil))))) pa_nil))))), ?_⟩
    refine ⟨_, rfl, bl, rfl, ⟨_, SqL.of hb⟩, comp_list (K := K) (a := bl) (xs := zs.map fun z => V.ref z.1) (fun i ys H4 => ys = ((zs.take i).map fun z => hasS z.2 fs).map V.bl ∧ Same H H4) ⟨by simp, Same.refl _⟩ (fun i ys H4 _ ⟨_, e⟩ => SqL.of (e _ _ hb)) ?_ ?_⟩
    · rintro j x ys H4 hx ⟨rfl, s4⟩
      rw [List.getElem?_map] at hx
      obtain ⟨z, hzj, e⟩ := Option.map_eq_some_iff.mp hx
      subst e
      have hzm := List.mem_of_getElem? hzj
      refine ⟨?_, ?_⟩
      · rw [List.length_map, List.length_map, List.length_take]
        exact Nat.lt_of_le_of_lt (Nat.le_trans (Nat.min_le_right _ _) hl1) (by decide)
      unfold tYes
      dsimp only
      rw [if_pos rfl]
      refine ⟨_, rfl, _, rfl, z.1, fa, z.2, fs, rfl, s4 _ _ (hz z hzm), s4 _ _ hf, (ne z hzm).1, (ne z hzm).2, hl2, fun H5 s5 => ⟨?_, s4.trans s5⟩⟩
      rw [List.take_succ, hzj]
      simp
    · rintro ys H4 ⟨rfl, s4⟩ Dd hD
      refine ⟨Dd, _, rfl, SqL.of upd_same, _, rfl, ?_⟩
      have q := kk _ (s4.trans (same_upd hD (o := .lst (((zs.take (zs.map fun z => V.ref z.1).length).map fun z => hasS z.2 fs).map V.bl))))
      rw [List.length_map, List.take_length] at q ⊢
      unfold lacks at q
      rw [List.any_map] at q ⊢
      exact q
end
section
variable {P : Program} {w : World} {K : PySem.W.Frag} {mg : Str → Option Value} {base : Heap}
def sp_is_good : Sp := fun vs H Q _ => ∃ (r : Addr) (b : Nat) (bl : Addr) (zs : List (Addr × List Int)) (n : Nat), vs = [.ref r, .int n] ∧ RuleAt H r b bl zs ∧ GoodRule b (zs.map (·.2)) ∧ n < 2 ^ 900 ∧ ∀ H', Same H H' → Q (.bl (lacks (zs.map (·.2)) (figs b n))) H'
theorem sc_is_good : FnScope ["rule", "n"] ["rule", "n"] (defScope s_is_good) := ⟨rfl, rfl, rfl, by decide +kernel, rfl, by decide +kernel, by decide +kernel⟩
theorem ok_is_good {f f1 f2 f3 : Addr} {fd fd1 fd2 fd3 : FuncData} (D : Df K mg "is_good" s_is_good ["rule", "n"] f fd) (Dcheck_rule : Df K mg "check_rule" s_check_rule ["thing"] f1 fd1) (Gcheck_rule : FnOk P w K mg base CX0 7 f1 fd1 ["thing"] sp_check_rule)
    (Dlacks_all : Df K mg "lacks_all" s_lacks_all ["bad", "figures"] f2 fd2) (Glacks_all : FnOk P w K mg base CX0 2 f2 fd2 ["bad", "figures"] sp_lacks_all) (Dfigures_of : Df K mg "figures_of" s_figures_of ["base", "n"] f3 fd3) (Gfigures_of : FnOk P w K mg base CX0 4 f3 fd3 ["base", "n"] sp_figures_of) (T : Blt mg) :
    FnOk P w K mg base CX0 8 f fd ["rule", "n"] sp_is_good := by
  refine D.fn.ok sc_is_good (fun vs H Q E h => ?_) (fun cdv A outer s H vs Q E hr h => ?_)
  · obtain ⟨r, b, bl, zs, n, rfl, _⟩ := h; rfl
  · obtain ⟨r, b, bl, zs, n, rfl, R, g, hn, kk⟩ := h
    refine ⟨_, (pss_cons (ps_expr (pcall Dcheck_rule Gcheck_rule (hr.mono (by decide)) (pa_cons (pv 0) pa_nil)))
      (pss_one (ps_ret (pcall Dlacks_all Glacks_all (hr.mono (by decide)) (pa_cons (pe_ix (k_ixT K) (pv 0) pe_int (fun _ _ => rfl)) (pa_cons (pcall Dfigures_of Gfigures_of (hr.mono (by decide)) (pa_cons (pe_ix (k_ixT K) (pv 0) pe_int (fun _ _ => rfl)) (pa_cons (pv 1) pa_nil))) pa_nil)))))), ?_⟩
    refine ⟨_, rfl, r, b, bl, zs, rfl, R, g, fun H1 s1 => ?_⟩
    have R1 := R.same s1
    refine ⟨_, rfl, r, _, _, V.ref bl, rfl, rfl, SqT.of R1.tu, rfl, ?_⟩
    refine ⟨_, rfl, r, _, _, V.int b, rfl, rfl, SqT.of R1.tu, rfl, _, rfl, b, n, rfl, g.b2, g.b16, hn, fun l H2 hl hv s2 => ?_⟩
    have R2 := R1.same s2
    have hfl := figs_len g.b2 900 n hn
    have h4 : zs.length ≤ 4 := by have := g.len; rwa [List.length_map] at this
    exact ⟨bl, l, zs, figs b n, rfl, R2.li, R2.st, hv, by omega, by omega, fun z hz => ⟨(g.st _ (List.mem_map.mpr ⟨z, hz, rfl⟩)).ne, Nat.le_trans (g.st _ (List.mem_map.mpr ⟨z, hz, rfl⟩)).len (by decide)⟩, fun H3 s3 => kk H3 ((s1.trans s2).trans s3)⟩
end
theorem cutV_upto (xs : List V) (m : Nat) : cutV xs none (some (m : Int)) = xs.take m := by
  unfold cutV
  rw [HT.sIx_nat, HT.sIx_none, List.drop_zero, Nat.sub_zero]
  by_cases h : m ≤ xs.length
  · rw [Nat.min_eq_left h]
  · rw [Nat.min_eq_right (by omega), List.take_of_length_le (Nat.le_refl _), List.take_of_length_le (by omega)]
theorem cutV_from (xs : List V) (m : Nat) : cutV xs (some (m : Int)) none = xs.drop m := by
  unfold cutV
  rw [HT.sIx_nat, HT.sIx_none]
  by_cases h : m ≤ xs.length
  · rw [Nat.min_eq_left h, List.take_of_length_le (by rw [List.length_drop]; omega)]
  · rw [Nat.min_eq_right (by omega), List.drop_of_length_le (Nat.le_refl _), List.drop_of_length_le (by omega)]; simp
theorem RuleAt.all {fp : List Addr} {r bl : Addr} {H : Hp} {b : Nat} {zs : List (Addr × List Int)} (R : RuleAt (aw fp H) r b bl zs) : RuleAt H r b bl zs := R.same (aw_same fp H)
theorem good_nil {b : Nat} (h2 : 2 ≤ b) (h16 : b ≤ 16) : GoodRule b [] := ⟨h2, h16, by decide, (fun l hl => by cases hl), List.Pairwise.nil⟩
theorem notin_any {ls : List (List Int)} {x : List Int} : ((ls.map tInts).any fun t => teq t (tInts x)) = decide (x ∈ ls) := by
  rw [Bool.eq_iff_iff]
  simp only [List.any_eq_true, List.mem_map, decide_eq_true_eq]
  constructor
  · rintro ⟨t, ⟨l, hl, rfl⟩, e⟩
    rw [teq_ints] at e
    rw [← of_decide_eq_true e]; exact hl
  · intro h
    exact ⟨tInts x, ⟨x, h, rfl⟩, teq_refl _⟩
theorem tdeps_tInts : ∀ ls : List (List Int), tdeps (ls.map tInts) ≤ 1
  | [] => by simp [tdeps]
  | l :: ls => by rw [List.map_cons, tdeps, tdep_tInts]; have := tdeps_tInts ls; omega
theorem TrsAt.lists {K : PySem.W.Frag} {H : Hp} : ∀ {zs : List (Addr × List Int)}, (∀ z ∈ zs, H z.1 = some (.lst (z.2.map V.int))) → TrsAt K H ((zs.map (·.2)).map tInts) (zs.map fun z => V.ref z.1)
  | [], _ => by rw [List.map_nil, List.map_nil, TrsAt]; rfl
  | z :: zs, h => by
    rw [List.map_cons, List.map_cons, TrsAt]
    exact ⟨_, _, rfl, TrAt.ints (SqL.of (h z List.mem_cons_self)), TrsAt.lists fun z hz => h z (List.mem_cons_of_mem _ hz)⟩
end Lw
set_option Elab.async false
set_option linter.all false
set_option maxRecDepth 100000
namespace Lw
open PySem L2 PyProof.Rows
section
variable {P : Program} {w : World} {K : PySem.W.Frag} {mg : Str → Option Value} {base : Heap}
def sp_begins_one : Sp := fun vs H Q _ => ∃ (bl fa : Addr) (zs : List (Addr × List Int)) (fs : List Int), vs = [.ref bl, .ref fa] ∧ H bl = some (.lst (zs.map fun z => V.ref z.1)) ∧ (∀ z ∈ zs, H z.1 = some (.lst (z.2.map V.int))) ∧ H fa = some (.lst (fs.map V.int)) ∧ zs.length ≤ 100 ∧ ∀ H', Same H H' → Q (.bl (begs (zs.map (·.2)) fs)) H'
theorem sc_begins_one : FnScope ["bad", "figures"] ["bad", "figures"] (defScope s_begins_one) := ⟨rfl, rfl, rfl, by decide +kernel, rfl, by decide +kernel, by decide +kernel⟩
theorem ok_begins_one {f : Addr} {fd : FuncData} (D : Df K mg "begins_one" s_begins_one ["bad", "figures"] f fd) (T : Blt mg) : FnOk P w K mg base CX0 1 f fd ["bad", "figures"] sp_begins_one := by
  refine D.fn.ok sc_begins_one (fun vs H Q E h => ?_) (fun cdv A outer s H vs Q E hr h => ?_)
  · obtain ⟨bl, fa, zs, fs, rfl, _⟩ := h; rfl
  · obtain ⟨bl, fa, zs, fs, rfl, hb, hz, hf, hl1, kk⟩ := h
    have HU := HUof hr
    refine ⟨_, (pss_one (ps_ret (pe_callB (k_any K rfl) (by rfl) T.n_any boot_any (pa_cons (pe_comp (show CScope (defScope s_begins_one) _ "stretch" ["bad", "figures"] ["figures"] [1] from ⟨rfl, by decide +kernel, by decide +kernel, rfl, by decide +kernel, rfl, by decide +kernel, by decide +kernel⟩) rfl (k_pi K (pv 0)) (fun _ _ _ _ => pts_nil) (fun _ _ _ _ => (pe_cmpR (k_eqT K HU) (pe_slice (k_slL K) (pv 0) po_none (po_some (pe_callB (k_len K) (by rfl) T.n_len PySem.boot_len (pa_cons (pv 1) pa_nil)))) (pv 1) (nomark _)))) pa_nil)))), ?_⟩
    refine ⟨_, rfl, bl, rfl, ⟨_, SqL.of hb⟩, comp_list (K := K) (a := bl) (xs := zs.map fun z => V.ref z.1) (fun i ys H4 => ys = ((zs.take i).map fun z => decide (z.2.take fs.length = fs)).map V.bl ∧ Same H H4) ⟨by simp, Same.refl _⟩ (fun i ys H4 _ ⟨_, e⟩ => SqL.of (e _ _ hb)) ?_ ?_⟩
    · rintro j x ys H4 hx ⟨rfl, s4⟩
      rw [List.getElem?_map] at hx
      obtain ⟨z, hzj, e⟩ := Option.map_eq_some_iff.mp hx
      subst e
      have hzm := List.mem_of_getElem? hzj
      refine ⟨?_, ?_⟩
      · rw [List.length_map, List.length_map, List.length_take]
        exact Nat.lt_of_le_of_lt (Nat.le_trans (Nat.min_le_right _ _) hl1) (by decide)
      unfold tYes
      dsimp only
      rw [if_pos rfl]
      refine ⟨_, rfl, _, rfl, fa, _, rfl, .inl (SqL.of (s4 _ _ hf)), _, rfl, z.1, _, rfl, SqL.of (s4 _ _ (hz z hzm)), fun p hp => ?_⟩
      rw [List.length_map, cutV_upto, ← List.map_take]
      refine ⟨_, rfl, tInts (z.2.take fs.length), tInts fs, TrAt.ints (a := p) (SqL.of upd_same), TrAt.ints (a := fa) (SqL.of (same_upd hp _ _ (s4 _ _ hf))), (by rw [tdep_tInts]; decide), ?_, s4.trans (same_upd hp)⟩
      rw [List.take_succ, hzj]
      have e2 := teq_ints (z.2.take fs.length) fs
      show _ ++ [V.bl (teq _ _)] = _
      rw [e2]
      simp
    · rintro ys H4 ⟨rfl, s4⟩ Dd hD
      refine ⟨Dd, _, rfl, SqL.of upd_same, ?_⟩
      have q := kk _ (s4.trans (same_upd hD (o := .lst (((zs.take (zs.map fun z => V.ref z.1).length).map fun z => decide (z.2.take fs.length = fs)).map V.bl))))
      rw [List.length_map, List.take_length] at q ⊢
      unfold begs at q
      rw [List.any_map] at q ⊢
      exact q
def StandV (ls : List (List Int)) (fs : List Int) (H H' : Hp) (v : V) : Prop := (lacks ls fs = false ∧ v = .non) ∨ (lacks ls fs = true ∧ ∃ l, v = .ref l ∧ H l = none ∧ H' l = some (.lst ((tailS ls fs).map V.int)))
def sp_longest_stand : Sp := fun vs H Q _ => ∃ (bl fa : Addr) (zs : List (Addr × List Int)) (fs : List Int), vs = [.ref bl, .ref fa] ∧ H bl = some (.lst (zs.map fun z => V.ref z.1)) ∧ (∀ z ∈ zs, H z.1 = some (.lst (z.2.map V.int))) ∧ H fa = some (.lst (fs.map V.int)) ∧ zs.length ≤ 100 ∧ fs.length ≤ 1000 ∧ (∀ z ∈ zs, z.2 ≠ [] ∧ z.2.length ≤ 1000) ∧
  ∀ v H', StandV (zs.map (·.2)) fs H H' v → Same H H' → Q v H'
theorem sc_longest_stand : FnScope ["bad", "figures", "start"] ["bad", "figures"] (defScope s_longest_stand) := ⟨rfl, rfl, rfl, by decide +kernel, rfl, by decide +kernel, by decide +kernel⟩
theorem ok_longest_stand {f f1 f2 : Addr} {fd fd1 fd2 : FuncData} (D : Df K mg "longest_stand" s_longest_stand ["bad", "figures"] f fd) (Dlacks_all : Df K mg "lacks_all" s_lacks_all ["bad", "figures"] f1 fd1) (Glacks_all : FnOk P w K mg base CX0 2 f1 fd1 ["bad", "figures"] sp_lacks_all)
    (Dbegins_one : Df K mg "begins_one" s_begins_one ["bad", "figures"] f2 fd2) (T : Blt mg) : FnOk P w K mg base CX0 3 f fd ["bad", "figures"] sp_longest_stand := by
  have Gbegins_one : FnOk P w K mg base CX0 1 f2 fd2 ["bad", "figures"] sp_begins_one := ok_begins_one Dbegins_one T
  refine D.fn.ok sc_longest_stand (fun vs H Q E h => ?_) (fun cdv A outer s H vs Q E hr h => ?_)
  · obtain ⟨bl, fa, zs, fs, rfl, _⟩ := h; rfl
  · obtain ⟨bl, fa, zs, fs, rfl, hb, hz, hf, hl1, hl2, ne, kk⟩ := h
    refine ⟨_, (pss_cons (ps_if (pt_not (pt_val (pcall Dlacks_all Glacks_all (hr.mono (by decide)) (pa_cons (pv 0) (pa_cons (pv 1) pa_nil)))))
        (pss_one (ps_ret pe_non))
        pss_nil)
      (pss_cons (ps_for PassesOwn.never rfl (pi_range1 rfl T.n_range (pa_cons (pe_callB (k_len K) (by rfl) T.n_len PySem.boot_len (pa_cons (pv 1) pa_nil)) pa_nil)) (pg_name (i := 2) sc_longest_stand.nd rfl (Or.inl rfl))
        (pss_one (ps_if (pt_val (pcall Dbegins_one Gbegins_one (hr.mono (by decide)) (pa_cons (pv 0) (pa_cons (pe_slice (k_slL K) (pv 1) (po_some (pv 2)) po_none) pa_nil))))
          (pss_one (ps_ret (pe_slice (k_slL K) (pv 1) (po_some (pv 2)) po_none)))
          pss_nil)))
      (pss_one (ps_ret (pe_lst pa_nil))))), ?_⟩
    refine ⟨_, rfl, _, rfl, bl, fa, zs, fs, rfl, hb, hz, hf, hl1, hl2, ne, fun H1 s1 => ⟨_, rfl, ?_⟩⟩
    cases hL : lacks (zs.map (·.2)) fs with
    | false => exact iteT (kk _ _ (.inl ⟨hL, rfl⟩) s1)
    | true =>
      refine iteF ?_
      refine ⟨_, rfl, fa, _, rfl, .inl (SqL.of (s1 _ _ hf)), (((fs.map V.int).length : Nat) : Int), rfl, by rw [List.length_map]; omega, by rw [List.length_map]; omega, for_range (lo := 0) (n := (((fs.map V.int).length : Nat) : Int).toNat) (fun i σ H2 => ∃ v1 : Option V, σ = [some (.ref bl), some (.ref fa), v1] ∧ Same H H2 ∧ ∀ k, k < i → begs (zs.map (·.2)) (fs.drop k) = false) ⟨none, rfl, s1, fun k hk => by omega⟩ ?_ ?_⟩
      · rintro i σ H2 hi ⟨v1, rfl, s2, hno⟩
        have hi' : i < fs.length := by rw [List.length_map] at hi; omega
        refine ⟨_, rfl, _, rfl, _, rfl, _, rfl, fa, _, rfl, SqL.of (s2 _ _ hf), fun p hp => ?_⟩
        rw [Int.zero_add, cutV_from, ← List.map_drop]
        have t := s2.trans (same_upd hp (o := .lst ((fs.drop i).map V.int)))
        refine ⟨bl, p, zs, fs.drop i, rfl, t _ _ hb, fun z hzm => t _ _ (hz z hzm), upd_same, hl1, fun H3 s3 => ⟨_, rfl, ?_⟩⟩
        have t3 := t.trans s3
        cases hB : begs (zs.map (·.2)) (fs.drop i) with
        | true =>
          refine iteT ⟨_, rfl, _, rfl, _, rfl, fa, _, rfl, SqL.of (t3 _ _ hf), fun q hq => ?_⟩
          rw [cutV_from, ← List.map_drop]
          refine kk _ _ (.inr ⟨hL, q, rfl, t3.free hq, ?_⟩) (t3.trans (same_upd hq))
          rw [upd_same, tailS_at (by omega) hno hB]
        | false =>
          refine iteF ⟨_, rfl, t3, fun k hk => ?_⟩
          by_cases e : k < i
          · exact hno k e
          · have : k = i := by omega
            rw [this]; exact hB
      · rintro σ H2 ⟨v1, rfl, s2, hno⟩
        refine ⟨(by decide : 0 ≤ sizeLine), fun q hq => kk _ _ (.inr ⟨hL, q, rfl, s2.free hq, ?_⟩) (s2.trans (same_upd hq))⟩
        rw [upd_same, tailS_none (fun k hk => hno k (by rw [List.length_map]; omega))]
        rfl
end
section
variable {P : Program} {w : World} {K : PySem.W.Frag} {mg : Str → Option Value} {base : Heap} {T0 : Addr}
def lamP : Pos := ⟨85, 29, 85, 59⟩
def lamSc : Scope := match (defBody s_stands_of).getLast? with
  | some (.Return (some (.Call _ _ [⟨_, .Lambda _ _ sc _, _⟩] _)) _) => sc
  | _ => defScope s_stands_of
theorem sc_lam : FnScope ["each"] ["each"] lamSc := ⟨rfl, rfl, rfl, by decide +kernel, rfl, by decide +kernel, by decide +kernel⟩
theorem same_put {H H' : Hp} {p : Addr} {o : HO} (s : Same H H') (h : H p = none) : Same H (upd H' p o) := fun b u e => by rw [upd_ne (ne_of_none e h)]; exact s b u e
def SameL (T : Addr) (H H' : Hp) : Prop := ∀ b u, b ≠ T → H b = some u → H' b = some u
abbrev LT (T : Addr) (H : Hp) : Prop := LamTab T lamP ((("stands_of" : Str) ++ (".<locals>." : Str)) ++ ("<lambda>" : Str)) H
theorem SameL.of {T : Addr} {H H' : Hp} (s : Same H H') : SameL T H H' := fun b u _ e => s b u e
theorem SameL.trans {T : Addr} {H H1 H2 : Hp} (a : SameL T H H1) (b : SameL T H1 H2) : SameL T H H2 := fun c u h e => b c u h (a c u h e)
theorem LT.same {T : Addr} {H H' : Hp} (h : LT T H) (s : Same H H') : LT T H' := by
  rcases h with h | ⟨c, h1, h2⟩
  · exact .inl (s _ _ h)
  · exact .inr ⟨c, s _ _ h1, s _ _ h2⟩
theorem LT.lst {T : Addr} {H : Hp} (h : LT T H) {b : Addr} {xs : List V} (e : H b = some (.lst xs)) : b ≠ T := fun z => by
  rw [z] at e
  rcases h with h | ⟨c, h, _⟩
  · rw [h] at e; cases e
  · rw [h] at e; cases e
theorem LT.tup {T : Addr} {H : Hp} (h : LT T H) {b : Addr} {xs : List V} (e : H b = some (.tup xs)) : b ≠ T := fun z => by
  rw [z] at e
  rcases h with h | ⟨c, h, _⟩
  · rw [h] at e; cases e
  · rw [h] at e; cases e
theorem LT.none {T : Addr} {H : Hp} (h : LT T H) {b : Addr} (e : H b = none) : b ≠ T := fun z => by
  rw [z] at e
  rcases h with h | ⟨c, h, _⟩
  · rw [h] at e; cases e
  · rw [h] at e; cases e
def sp_stands_of (T : Addr) : Sp := fun vs H Q _ => ∃ (bl : Addr) (zs : List (Addr × List Int)), vs = [.ref bl] ∧ H bl = some (.lst (zs.map fun z => V.ref z.1)) ∧ (∀ z ∈ zs, H z.1 = some (.lst (z.2.map V.int))) ∧ zs.length ≤ 4 ∧ (∀ z ∈ zs, z.2 ≠ [] ∧ z.2.length ≤ 4) ∧ LT T H ∧
  ∀ (D : Addr) (ws : List (Addr × List Int)) (H' : Hp), H D = none → H' D = some (.lst (ws.map fun z => V.ref z.1)) → (∀ z ∈ ws, H z.1 = none ∧ H' z.1 = some (.lst (z.2.map V.int)) ∧ z.1 ≠ D) → StandsL (zs.map (·.2)) (ws.map (·.2)) → ws.length ≤ 13 → SameL T H H' → LT T H' → Q (.ref D) H'
theorem sc_stands_of : FnScope ["bad", "found", "stretch", "size", "stand"] ["bad"] (defScope s_stands_of) := ⟨rfl, rfl, rfl, by decide +kernel, rfl, by decide +kernel, by decide +kernel⟩
theorem ok_stands_of {f f1 c : Addr} {fd fd1 : FuncData} (D : Df K mg "stands_of" s_stands_of ["bad"] f fd) (hc : fd.code = .ref c) (hcT : PySem.W.codeHdIn K c T0 = true) (hBM : base.BuiltinsAt mg T0) (hgT : mainGlobals ≠ T0) (Dlacks_all : Df K mg "lacks_all" s_lacks_all ["bad", "figures"] f1 fd1) (Glacks_all : FnOk P w K mg base CX0 2 f1 fd1 ["bad", "figures"] sp_lacks_all) (T : Blt mg) :
    FnOk P w K mg base CX0 6 f fd ["bad"] (sp_stands_of T0) := by
  obtain ⟨oc, od, kV, doc, pm, an, cdv, ct, osl, rfl, lk, hcd⟩ := D.fn.ex
  obtain rfl : cdv = .ref c := hc
  refine fn_of lk hcd sc_stands_of (fun vs H Q E h => ?_) (fun A outer s H vs Q E hr h => ?_)
  · obtain ⟨bl, zs, rfl, _⟩ := h; rfl
  · obtain ⟨bl, zs, rfl, hb, hz, h4, hst, hLT, kk⟩ := h
    have HU := HUof hr
    have lam_body : ∀ (f' c' : Addr) (s' : Shared) (H' : Hp) (z : Addr × List Int), H' z.1 = some (.lst (z.2.map V.int)) → ∃ t, PE (cxOf CX0 P w K mg base ["each"] ((("stands_of" : Str) ++ (".<locals>." : Str)) ++ ("<lambda>" : Str)) lamSc f' (.ref c') (A.deeper (envOfC "stands_of" (defScope s_stands_of) s.heap.objs.size f (.ref c))).in1.in1 (envOfC "stands_of" (defScope s_stands_of) s.heap.objs.size f (.ref c) :: outer) s' H' E0)
        (match (defBody s_stands_of).getLast? with
          | some (.Return (some (.Call _ _ [⟨_, .Lambda _ b _ _, _⟩] _)) _) => b
          | _ => .Constant .none 0 ⟨0, 0, 0, 0⟩) t ∧
        t (start ["each"] [.ref z.1]) H' fun v H2 => ∃ p, v = .ref p ∧ H' p = none ∧ H2 = upd H' p (.tup [.int z.2.length, .ref z.1]) := by
      intro f' c' s' H' z hz'
      refine ⟨_, (pe_tup (pa_cons (pe_callB (k_len K) (by rfl) T.n_len PySem.boot_len (pa_cons (pv 0) pa_nil)) (pa_cons (pv 0) pa_nil))), ?_⟩
      refine ⟨_, rfl, z.1, _, rfl, .inl (SqL.of hz'), _, rfl, (by show 2 ≤ sizeLine; decide), fun p hp => ⟨p, rfl, hp, ?_⟩⟩
      rw [List.length_map]
    refine Exists.elim (?key : ∃ t, PSs (cxOf CX0 P w K mg base ["bad", "found", "stretch", "size", "stand"] "stands_of" (defScope s_stands_of) f (.ref c) A outer s H E).nox (defBody s_stands_of) t ∧ t { nx := fun _ H' => Q .non H', rt := Q } (start ["bad", "found", "stretch", "size", "stand"] [.ref bl]) H) fun t h => ⟨t, h.1.nox, h.2⟩
    refine ⟨_, (pss_cons (ps_set (i := 1) sc_stands_of.nd rfl (Or.inl rfl) (pe_lst (pa_cons (pe_lst pa_nil) pa_nil)))
      (pss_cons (ps_for PassesOwn.never rfl (k_pi K (pv 0)) (pg_name (i := 2) sc_stands_of.nd rfl (Or.inl rfl))
        (pss_one (ps_for PassesOwn.never rfl (pi_range2 rfl T.n_range (pa_cons pe_int (pa_cons (pe_callB (k_len K) (by rfl) T.n_len PySem.boot_len (pa_cons (pv 2) pa_nil)) pa_nil))) (pg_name (i := 3) sc_stands_of.nd rfl (Or.inl rfl))
          (pss_cons (ps_set (i := 4) sc_stands_of.nd rfl (Or.inl rfl) (pe_slice (k_slL K) (pv 2) po_none (po_some (pv 3))))
          (pss_one (ps_if (PW.pt (pw_and (pt_cmpR (k_notInT K HU) (pv 4) (pv 1) (by with_unfolding_all rfl)) (pw_and1 (pt_val (pcall Dlacks_all Glacks_all (hr.mono (by decide)) (pa_cons (pv 0) (pa_cons (pv 4) pa_nil)))))))
            (pss_one (ps_expr (pe_bm PySem.F.plainAttrs_list PySem.F.slot_list_append PySem.F.type_list_append mt_append (pv 1) (pa_cons (pv 4) pa_nil))))
            pss_nil))))))
      (pss_one (ps_ret (pe_sortKey (k := 1) (pv 1) rfl T.n_sorted (hr.mono (by decide)) rfl rfl rfl hcT hBM hgT sc_lam (fun _ _ _ _ => rfl) lam_body))))), ?_⟩
    have hls : ∀ st ∈ zs.map (·.2), st ≠ [] ∧ st.length ≤ 4 := fun st h => by obtain ⟨z, hz, rfl⟩ := List.mem_map.mp h; exact hst z hz
    refine ⟨(by decide : 0 ≤ sizeLine), fun e0 he0 => ⟨(by show 1 ≤ sizeLine; decide), fun fo hfo => ?_⟩⟩
    have hfoH : H fo = none := (same_upd he0).free hfo
    have nef : e0 ≠ fo := fun z => by rw [← z, upd_same] at hfo; cases hfo
    let Inv1 : List (Addr × List Int) → (List Int → Prop) → Hp → Prop := fun ws M H2 => H2 fo = some (.lst (ws.map fun z => V.ref z.1)) ∧ (∀ z ∈ ws, H z.1 = none ∧ H2 z.1 = some (.lst (z.2.map V.int)) ∧ z.1 ≠ fo) ∧ (ws.map (·.2)).Nodup ∧ (∀ x, x ∈ ws.map (·.2) ↔ M x) ∧ Same H H2
    let M1 : Nat → List Int → Prop := fun i x => x = [] ∨ ∃ z ∈ zs.take i, ∃ k, 1 ≤ k ∧ k < z.2.length ∧ x = z.2.take k ∧ lacks (zs.map (·.2)) x = true
    refine ⟨_, rfl, bl, rfl, ⟨_, SqL.of ((same_upd he0).trans (same_upd hfo) _ _ hb)⟩, for_list (K := K) (a := bl) (xs := zs.map fun z => V.ref z.1) (fun i σ H2 => ∃ (v2 v3 v4 : Option V) (ws : List (Addr × List Int)), σ = [some (.ref bl), some (.ref fo), v2, v3, v4] ∧ Inv1 ws (M1 i) H2 ∧ ws.length ≤ 1 + 3 * i)
      ⟨none, none, none, [(e0, [])], rfl, ⟨upd_same, fun z hz' => ?_, by simp, fun x => ?_, (same_upd he0).trans (same_upd hfo)⟩, by simp⟩ (fun i σ H2 _ ⟨_, _, _, _, _, ⟨_, _, _, _, e⟩, _⟩ => SqL.of (e _ _ hb)) ?_ ?_⟩
    · have e : z = (e0, []) := by simpa using hz'
      subst e
      exact ⟨he0, by rw [upd_ne nef, upd_same]; rfl, nef⟩
    · constructor
      · intro hx
        exact .inl (by simpa using hx)
      · rintro (rfl | ⟨z, hz', _⟩)
        · simp
        · simp at hz'
    · rintro i x σ H2 hx ⟨v2, v3, v4, ws, rfl, ⟨hF, hW, ndW, hM, sm⟩, hlen⟩
      rw [List.getElem?_map] at hx
      obtain ⟨z, hzj, e⟩ := Option.map_eq_some_iff.mp hx
      subst e
      have hzm := List.mem_of_getElem? hzj
      have hi4 : i < zs.length := (List.getElem?_eq_some_iff.mp hzj).1
      obtain ⟨hne, hz4⟩ := hst z hzm
      have hpos : 0 < z.2.length := List.length_pos_iff.mpr hne
      refine ⟨_, rfl, z.1, _, rfl, .inl (SqL.of (sm _ _ (hz z hzm))), 1, _, rfl, ?_, ?_⟩
      · rw [List.length_map]; omega
      rw [List.length_map]
      refine for_range (lo := 1) (n := ((z.2.length : Int) - 1).toNat) (fun j σ H3 => ∃ (v3 v4 : Option V) (ws : List (Addr × List Int)), σ = [some (.ref bl), some (.ref fo), some (.ref z.1), v3, v4] ∧ Inv1 ws (fun x => M1 i x ∨ ∃ k, 1 ≤ k ∧ k ≤ j ∧ x = z.2.take k ∧ lacks (zs.map (·.2)) x = true) H3 ∧ ws.length ≤ 1 + 3 * i + j)
        ⟨_, _, ws, rfl, ⟨hF, hW, ndW, fun x => ?_, sm⟩, hlen⟩ ?_ ?_
      · rw [hM]
        constructor
        · exact .inl
        · rintro (h | ⟨k, h1, h2, _⟩)
          · exact h
          · omega
      · rintro j σ H3 hj ⟨v3, v4, ws, rfl, ⟨hF, hW, ndW, hM, sm⟩, hlen⟩
        have hj' : j + 1 < z.2.length := by omega
        refine ⟨_, rfl, _, rfl, _, rfl, z.1, _, rfl, SqL.of (sm _ _ (hz z hzm)), fun p hp => ?_⟩
        rw [show (1 : Int) + (j : Int) = ((j + 1 : Nat) : Int) by omega, cutV_upto, ← List.map_take]
        have sm2 := sm.trans (same_upd hp (o := .lst ((z.2.take (j + 1)).map V.int)))
        have hF2 : (upd H3 p (.lst ((z.2.take (j + 1)).map V.int))) fo = some (.lst (ws.map fun z => V.ref z.1)) := same_upd hp _ _ hF
        have hW2 : ∀ y ∈ ws, H y.1 = none ∧ (upd H3 p (.lst ((z.2.take (j + 1)).map V.int))) y.1 = some (.lst (y.2.map V.int)) ∧ y.1 ≠ fo := fun y hy => ⟨(hW y hy).1, same_upd hp _ _ (hW y hy).2.1, (hW y hy).2.2⟩
        have npf : p ≠ fo := fun y => by rw [y, hF] at hp; cases hp
        have hpH : H p = none := sm.free hp
        generalize hx : z.2.take (j + 1) = x at *
        have hxl : x.length ≤ 4 := by rw [← hx, List.length_take]; omega
        have stay : (x ∈ ws.map (·.2) ∨ lacks (zs.map (·.2)) x = false) → ∀ y, y ∈ ws.map (·.2) ↔ (M1 i y ∨ ∃ k, 1 ≤ k ∧ k ≤ j + 1 ∧ y = z.2.take k ∧ lacks (zs.map (·.2)) y = true) := fun hor y => by
          constructor
          · intro hy
            rcases (hM y).mp hy with h | ⟨k, h1, h2, h3⟩
            · exact .inl h
            · exact .inr ⟨k, h1, by omega, h3⟩
          · rintro (h | ⟨k, h1, h2, h3, h4⟩)
            · exact (hM y).mpr (.inl h)
            · by_cases hk : k ≤ j
              · exact (hM y).mpr (.inr ⟨k, h1, hk, h3, h4⟩)
              · have : k = j + 1 := by omega
                rw [this, hx] at h3
                rw [h3] at h4 ⊢
                rcases hor with h | h
                · exact h
                · rw [h] at h4; cases h4
        refine ⟨_, rfl, _, rfl, fo, _, (ws.map (·.2)).map tInts, tInts x, rfl, SqL.of hF2, TrsAt.lists (fun y hy => (hW2 y hy).2.1), TrAt.ints (a := p) (SqL.of upd_same), Nat.le_trans (tdeps_tInts _) (by decide), _, rfl, ?_⟩
        rw [if_pos rfl, notin_any]
        by_cases hin : x ∈ ws.map (·.2)
        · rw [decide_eq_true hin]
          refine iteF ?_
          exact iteF ⟨_, _, ws, rfl, ⟨hF2, hW2, ndW, stay (.inl hin), sm2⟩, by omega⟩
        · rw [decide_eq_false hin]
          refine iteT ?_
          refine ⟨_, rfl, _, rfl, bl, p, zs, x, rfl, sm2 _ _ hb, fun y hy => sm2 _ _ (hz y hy), upd_same, by omega, by omega, fun y hy => ⟨(hst y hy).1, Nat.le_trans (hst y hy).2 (by decide)⟩, fun H4 s4 => ⟨_, rfl, ?_⟩⟩
          have sm4 := sm2.trans s4
          have hF4 := s4 _ _ hF2
          have hW4 : ∀ y ∈ ws, H y.1 = none ∧ H4 y.1 = some (.lst (y.2.map V.int)) ∧ y.1 ≠ fo := fun y hy => ⟨(hW2 y hy).1, s4 _ _ (hW2 y hy).2.1, (hW2 y hy).2.2⟩
          have hp4 := s4 _ _ (upd_same (H := H3) (a := p) (o := .lst (x.map V.int)))
          cases hLk : lacks (zs.map (·.2)) x with
          | false => exact iteF ⟨_, _, ws, rfl, ⟨hF4, hW4, ndW, stay (.inr hLk), sm4⟩, by omega⟩
          | true =>
            refine iteT ⟨_, rfl, .inl ⟨rfl, _, SqL.of hF4⟩, _, rfl, fo, _, _, rfl, rfl, hF4, by rw [List.length_map]; exact Nat.lt_of_le_of_lt (show ws.length ≤ 100 by omega) (by decide), ?_⟩
            refine ⟨_, _, ws ++ [(p, x)], rfl, ⟨by rw [upd_same, List.map_append]; rfl, fun y hy => ?_, ?_, fun y => ?_, same_put sm4 hfoH⟩, by rw [List.length_append, List.length_singleton]; omega⟩
            · rcases List.mem_append.mp hy with hy | hy
              · obtain ⟨a1, a2, a3⟩ := hW4 y hy
                exact ⟨a1, by rw [upd_ne a3]; exact a2, a3⟩
              · rw [List.mem_singleton.mp hy]
                exact ⟨hpH, by rw [upd_ne npf]; exact hp4, npf⟩
            · rw [List.map_append]
              refine List.nodup_append.mpr ⟨ndW, by simp, fun a ha b hb' => ?_⟩
              have e : b = x := by simpa using hb'
              rw [e]
              exact fun q => hin (q ▸ ha)
            · rw [List.map_append, List.mem_append]
              constructor
              · rintro (h | h)
                · rcases (hM y).mp h with h | ⟨k, h1, h2, h3⟩
                  · exact .inl h
                  · exact .inr ⟨k, h1, by omega, h3⟩
                · have e : y = x := by simpa using h
                  rw [e]
                  exact .inr ⟨j + 1, by omega, Nat.le_refl _, hx.symm, hLk⟩
              · rintro (h | ⟨k, h1, h2, h3, h4⟩)
                · exact .inl ((hM y).mpr (.inl h))
                · by_cases hk : k ≤ j
                  · exact .inl ((hM y).mpr (.inr ⟨k, h1, hk, h3, h4⟩))
                  · have : k = j + 1 := by omega
                    rw [this, hx] at h3
                    exact .inr (by simp [h3])
      · rintro σ H3 ⟨v3, v4, ws, rfl, ⟨hF, hW, ndW, hM, sm⟩, hlen⟩
        refine ⟨_, _, _, ws, rfl, ⟨hF, hW, ndW, fun x => ?_, sm⟩, by omega⟩
        rw [hM]
        constructor
        · rintro ((h | ⟨y, hy, h⟩) | ⟨k, h1, h2, h3⟩)
          · exact .inl h
          · exact .inr ⟨y, by rw [List.take_succ]; exact List.mem_append_left _ hy, h⟩
          · exact .inr ⟨z, by rw [List.take_succ, hzj]; simp, k, h1, by omega, h3⟩
        · rintro (h | ⟨y, hy, k, h1, h2, h3⟩)
          · exact .inl (.inl h)
          · rw [List.take_succ, hzj] at hy
            rcases List.mem_append.mp hy with hy | hy
            · exact .inl (.inr ⟨y, hy, k, h1, h2, h3⟩)
            · have e : y = z := by simpa using hy
              rw [e] at h2 h3
              exact .inr ⟨k, h1, by omega, h3⟩
    · rintro σ H2 ⟨v2, v3, v4, ws, rfl, ⟨hF, hW, ndW, hM, sm⟩, hlen⟩
      rw [List.length_map] at hM hlen
      refine ⟨_, rfl, fo, ws, rfl, hF, fun z hz' => (hW z hz').2.1, ndW, by omega, hLT.same sm, fun D ws' H3 hD hD3 up lt pm pw => ?_⟩
      have lt2 := hLT.same sm
      have inw : ∀ z ∈ ws', z ∈ ws := fun z hz' => pm.mem_iff.mp hz'
      refine kk D ws' _ (sm.free hD) upd_same (fun z hz' => ?_) ⟨fun x => ?_, by rw [List.pairwise_map]; exact pw⟩ (by rw [pm.length_eq]; omega) (fun b u hb' e => ?_) ?_
      · obtain ⟨a1, a2, a3⟩ := hW z (inw z hz')
        have n1 : z.1 ≠ D := ne_of_none a2 hD
        exact ⟨a1, by rw [upd_ne n1]; exact up _ _ (lt2.lst a2) a2, n1⟩
      · have e : x ∈ ws'.map (·.2) ↔ x ∈ ws.map (·.2) := (pm.map (·.2)).mem_iff
        rw [e, hM]
        show (x = [] ∨ _) ↔ (x = [] ∨ _)
        constructor
        · rintro (h | ⟨z, hz', k, h1, h2, h3, h4⟩)
          · exact .inl h
          · rw [List.take_length] at hz'
            exact .inr ⟨z.2, List.mem_map.mpr ⟨z, hz', rfl⟩, k, h1, h2, h3, h4⟩
        · rintro (h | ⟨st, hst', k, h1, h2, h3, h4⟩)
          · exact .inl h
          · obtain ⟨z, hz', rfl⟩ := List.mem_map.mp hst'
            exact .inr ⟨z, by rw [List.take_length]; exact hz', k, h1, h2, h3, h4⟩
      · have q := up b u hb' (sm _ _ e)
        rw [upd_ne (ne_of_none q hD3)]; exact q
      · exact LT.same (show LT T0 H3 from lt) (same_upd hD3)
end
end Lw
set_option Elab.async false
set_option linter.all false
set_option maxRecDepth 100000
namespace Lw
open PySem L2 PyProof.Rows
section
variable {P : Program} {w : World} {K : PySem.W.Frag} {mg : Str → Option Value} {base : Heap} {T0 : Addr}
def plc (ls ws : List (List Int)) (fs : List Int) : V := if lacks ls fs = true then .int ((ws.idxOf (tailS ls fs) : Nat) : Int) else .non
theorem not_of_lt_idxOf {x : List Int} : ∀ {xs : List (List Int)} {m : Nat}, m < xs.idxOf x → ∀ h : m < xs.length, xs[m] ≠ x
  | [], m, h, h' => by simp at h'
  | y :: ys, m, h, h' => by
    rw [List.idxOf_cons] at h
    by_cases e : y = x
    · subst e; simp at h
    · have e' : (y == x) = false := by simpa using e
      rw [e'] at h
      cases m with
      | zero => simpa using e
      | succ m => simpa using not_of_lt_idxOf (x := x) (xs := ys) (m := m) (by simpa using h) (by simpa using h')
def sp_place_behind : Sp := fun vs H Q _ => ∃ (bl Dd fa : Addr) (zs ws : List (Addr × List Int)) (fs : List Int), vs = [.ref bl, .ref Dd, .ref fa] ∧ H bl = some (.lst (zs.map fun z => V.ref z.1)) ∧ (∀ z ∈ zs, H z.1 = some (.lst (z.2.map V.int))) ∧ H Dd = some (.lst (ws.map fun z => V.ref z.1)) ∧ (∀ z ∈ ws, H z.1 = some (.lst (z.2.map V.int))) ∧ H fa = some (.lst (fs.map V.int)) ∧ zs.length ≤ 4 ∧ ws.length ≤ 13 ∧ fs.length ≤ 1000 ∧ (∀ z ∈ zs, z.2 ≠ [] ∧ z.2.length ≤ 4) ∧
  (lacks (zs.map (·.2)) fs = true → tailS (zs.map (·.2)) fs ∈ ws.map (·.2)) ∧ ∀ H', Same H H' → Q (plc (zs.map (·.2)) (ws.map (·.2)) fs) H'
theorem sc_place_behind : FnScope ["bad", "stands", "figures", "stand"] ["bad", "stands", "figures"] (defScope s_place_behind) := ⟨rfl, rfl, rfl, by decide +kernel, rfl, by decide +kernel, by decide +kernel⟩
theorem ok_place_behind {f f1 : Addr} {fd fd1 : FuncData} (D : Df K mg "place_behind" s_place_behind ["bad", "stands", "figures"] f fd) (Dlongest_stand : Df K mg "longest_stand" s_longest_stand ["bad", "figures"] f1 fd1) (Glongest_stand : FnOk P w K mg base CX0 3 f1 fd1 ["bad", "figures"] sp_longest_stand) : FnOk P w K mg base CX0 4 f fd ["bad", "stands", "figures"] sp_place_behind := by
  refine D.fn.ok sc_place_behind (fun vs H Q E h => ?_) (fun cdv A outer s H vs Q E hr h => ?_)
  · obtain ⟨bl, Dd, fa, zs, ws, fs, rfl, _⟩ := h; rfl
  · obtain ⟨bl, Dd, fa, zs, ws, fs, rfl, hb, hz, hD, hw, hf, h4, h13, hl, hst, hin, kk⟩ := h
    have HU := HUof hr
    refine ⟨_, (pss_cons (ps_set (i := 3) sc_place_behind.nd rfl (Or.inl rfl) (pcall Dlongest_stand Glongest_stand (hr.mono (by decide)) (pa_cons (pv 0) (pa_cons (pv 2) pa_nil))))
      (pss_cons (ps_if (pt_cmpR op_isN (pv 3) pe_non (nomark _))
        (pss_one (ps_ret pe_non))
        pss_nil)
      (pss_one (ps_ret (pe_bm PySem.F.plainAttrs_list PySem.F.slot_list_index PySem.F.type_list_index (k_indexT K HU) (pv 1) (pa_cons (pv 3) pa_nil)))))), ?_⟩
    refine ⟨_, rfl, _, rfl, bl, fa, zs, fs, rfl, hb, hz, hf, by omega, hl, fun z hz => ⟨(hst z hz).1, Nat.le_trans (hst z hz).2 (by decide)⟩, fun v H1 sv s1 => ?_⟩
    have q := kk H1 s1
    unfold plc at q
    rcases sv with ⟨hL, rfl⟩ | ⟨hL, l, rfl, hn, hv⟩
    · rw [hL, if_neg (by decide)] at q
      exact ⟨_, rfl, rfl, _, rfl, iteT q⟩
    · rw [if_pos hL] at q
      have hm := hin hL
      have hlt := List.idxOf_lt_length_iff.mpr hm
      refine ⟨_, rfl, rfl, _, rfl, iteF ?_⟩
      refine ⟨_, rfl, .inl ⟨rfl, _, SqL.of (s1 _ _ hD)⟩, _, rfl, Dd, _, _, (ws.map (·.2)).map tInts, tInts (tailS (zs.map (·.2)) fs), (ws.map (·.2)).idxOf (tailS (zs.map (·.2)) fs), rfl, rfl, SqL.of (s1 _ _ hD), TrsAt.lists (fun z hz => s1 _ _ (hw z hz)), TrAt.ints (a := l) (SqL.of hv), Nat.le_trans (tdeps_tInts _) (by decide), by rw [List.length_map]; exact hlt, ?_, ?_, q⟩
      · intro t ht
        rw [List.getElem?_map, List.getElem?_eq_getElem hlt, Option.map_some] at ht
        rw [← Option.some.inj ht, List.getElem_idxOf hlt, teq_ints, decide_eq_true rfl]
      · intro m t hm' ht
        rw [List.getElem?_map, List.getElem?_eq_getElem (Nat.lt_trans hm' hlt), Option.map_some] at ht
        rw [← Option.some.inj ht, teq_ints, decide_eq_false]
        intro e
        have q3 := not_of_lt_idxOf hm' (Nat.lt_trans hm' hlt)
        exact q3 e
def rowV (ls ws : List (List Int)) (b : Nat) (x : List Int) : List V := (List.range b).map fun (c : Nat) => plc ls ws (x ++ [(c : Int)])
def sp_steps_from : Sp := fun vs H Q _ => ∃ (r : Addr) (b : Nat) (bl : Addr) (zs : List (Addr × List Int)) (Dd : Addr) (ws : List (Addr × List Int)) (sa : Addr) (xs : List Int), vs = [.ref r, .ref Dd, .ref sa] ∧ RuleAt H r b bl zs ∧ GoodRule b (zs.map (·.2)) ∧ H Dd = some (.lst (ws.map fun z => V.ref z.1)) ∧ (∀ z ∈ ws, H z.1 = some (.lst (z.2.map V.int))) ∧ StandsL (zs.map (·.2)) (ws.map (·.2)) ∧ ws.length ≤ 13 ∧ H sa = some (.lst (xs.map V.int)) ∧ xs.length ≤ 100 ∧
  ∀ p H', H p = none → Same H H' → H' p = some (.lst (rowV (zs.map (·.2)) (ws.map (·.2)) b xs)) → Q (.ref p) H'
theorem sc_steps_from : FnScope ["rule", "stands", "stand"] ["rule", "stands", "stand"] (defScope s_steps_from) := ⟨rfl, rfl, rfl, by decide +kernel, rfl, by decide +kernel, by decide +kernel⟩
theorem ok_steps_from {f f1 : Addr} {fd fd1 : FuncData} (D : Df K mg "steps_from" s_steps_from ["rule", "stands", "stand"] f fd) (Dplace_behind : Df K mg "place_behind" s_place_behind ["bad", "stands", "figures"] f1 fd1) (Gplace_behind : FnOk P w K mg base CX0 4 f1 fd1 ["bad", "stands", "figures"] sp_place_behind) (T : Blt mg) : FnOk P w K mg base CX0 5 f fd ["rule", "stands", "stand"] sp_steps_from := by
  refine D.fn.ok sc_steps_from (fun vs H Q E h => ?_) (fun cdv A outer s H vs Q E hr h => ?_)
  · obtain ⟨r, b, bl, zs, Dd, ws, sa, xs, rfl, _⟩ := h; rfl
  · obtain ⟨r, b, bl, zs, Dd, ws, sa, xs, rfl, R, g, hD, hw, SL, h13, hs, hl, kk⟩ := h
    have h4 : zs.length ≤ 4 := by have := g.len; rwa [List.length_map] at this
    have ne : ∀ l ∈ zs.map (·.2), l ≠ [] := fun l hl => (g.st l hl).ne
    refine ⟨_, (pss_one (ps_ret (pe_comp (show CScope (defScope s_steps_from) _ "figure" ["rule", "stands", "stand"] ["stands", "rule", "stand"] [1, 0, 2] from ⟨rfl, by decide +kernel, by decide +kernel, rfl, by decide +kernel, rfl, by decide +kernel, by decide +kernel⟩) rfl (pi_range1 rfl T.n_range (pa_cons (pe_ix (k_ixT K) (pv 0) pe_int (fun _ _ => rfl)) pa_nil)) (fun _ _ _ _ => pts_nil) (fun _ _ _ _ => (pcall Dplace_behind Gplace_behind (hr.mono (by decide)) (pa_cons (pe_ix (k_ixT K) (pv 2) pe_int (fun _ _ => rfl)) (pa_cons (pv 1) (pa_cons (pe_op op_cat (pv 3) (pe_lst (pa_cons (pv 0) pa_nil))) pa_nil)))))))), ?_⟩
    have b16 := g.b16
    refine ⟨_, rfl, r, _, _, V.int b, rfl, rfl, SqT.of R.tu, rfl, (b : Int), rfl, by omega, by omega, comp_range (lo := 0) (n := (b : Int).toNat) (fun i ys H4 => ys = rowV (zs.map (·.2)) (ws.map (·.2)) i xs ∧ Same H H4) ⟨rfl, Same.refl _⟩ ?_ ?_⟩
    · rintro i ys H4 hi ⟨rfl, s4⟩
      have hi' : i < b := by omega
      refine ⟨?_, ?_⟩
      · unfold rowV
        rw [List.length_map, List.length_range]
        exact Nat.lt_of_lt_of_le (show i < 16 by omega) (by decide)
      unfold tYes
      dsimp only
      rw [if_pos rfl]
      have R4 := R.same s4
      have hs4 := s4 _ _ hs
      refine ⟨_, rfl, r, _, _, V.ref bl, rfl, rfl, SqT.of R4.tu, rfl, _, rfl, _, rfl, _, rfl, (by show 1 ≤ sizeLine; decide), fun p1 q1 => ?_⟩
      have n1 : sa ≠ p1 := ne_of_none hs4 q1
      refine ⟨sa, p1, _, _, rfl, rfl, by rw [upd_ne n1]; exact hs4, upd_same, by rw [List.length_map]; exact Nat.le_trans (show xs.length + 1 ≤ 101 by omega) (by decide), fun p2 q2 => ?_⟩
      have t2 := s4.trans ((same_upd q1 (o := .lst [V.int (0 + (i : Int))])).trans (same_upd q2 (o := .lst (xs.map V.int ++ [V.int (0 + (i : Int))]))))
      have R5 := R.same t2
      refine ⟨bl, Dd, p2, zs, ws, xs ++ [0 + (i : Int)], rfl, R5.li, R5.st, t2 _ _ hD, fun z hz => t2 _ _ (hw z hz), by rw [upd_same, List.map_append]; rfl, h4, h13, by rw [List.length_append, List.length_singleton]; omega, fun z hz => ⟨(g.st _ (List.mem_map.mpr ⟨z, hz, rfl⟩)).ne, (g.st _ (List.mem_map.mpr ⟨z, hz, rfl⟩)).len⟩, fun h => (SL.mem _).mpr (tailS_isSt ne h), fun H5 s5 => ⟨?_, t2.trans s5⟩⟩
      unfold rowV
      rw [List.range_succ, List.map_append, Int.zero_add]
      rfl
    · rintro ys H4 ⟨rfl, s4⟩ p hp
      refine kk p _ (s4.free hp) (s4.trans (same_upd hp)) ?_
      rw [upd_same, Int.toNat_natCast]
def stepsV (ls ws : List (List Int)) (b : Nat) : List (List V) := ws.map (rowV ls ws b) ++ [V.int (ws.length : Nat) :: (rowV ls ws b []).drop 1]
def sp_all_steps : Sp := fun vs H Q _ => ∃ (r : Addr) (b : Nat) (bl : Addr) (zs : List (Addr × List Int)) (Dd : Addr) (ws : List (Addr × List Int)), vs = [.ref r, .ref Dd] ∧ RuleAt H r b bl zs ∧ GoodRule b (zs.map (·.2)) ∧ H Dd = some (.lst (ws.map fun z => V.ref z.1)) ∧ (∀ z ∈ ws, H z.1 = some (.lst (z.2.map V.int))) ∧ StandsL (zs.map (·.2)) (ws.map (·.2)) ∧ ws.length ≤ 13 ∧
  ∀ (p : Addr) (rs : List (Addr × List V)) (H' : Hp), H p = none → Same H H' → H' p = some (.lst (rs.map fun z => V.ref z.1)) → (∀ z ∈ rs, H z.1 = none ∧ H' z.1 = some (.lst z.2)) → rs.map (·.2) = stepsV (zs.map (·.2)) (ws.map (·.2)) b → Q (.ref p) H'
theorem sc_all_steps : FnScope ["rule", "stands", "steps"] ["rule", "stands"] (defScope s_all_steps) := ⟨rfl, rfl, rfl, by decide +kernel, rfl, by decide +kernel, by decide +kernel⟩
theorem ok_all_steps {f f1 : Addr} {fd fd1 : FuncData} (D : Df K mg "all_steps" s_all_steps ["rule", "stands"] f fd) (Dsteps_from : Df K mg "steps_from" s_steps_from ["rule", "stands", "stand"] f1 fd1) (Gsteps_from : FnOk P w K mg base CX0 5 f1 fd1 ["rule", "stands", "stand"] sp_steps_from) (T : Blt mg) : FnOk P w K mg base CX0 6 f fd ["rule", "stands"] sp_all_steps := by
  refine D.fn.ok sc_all_steps (fun vs H Q E h => ?_) (fun cdv A outer s H vs Q E hr h => ?_)
  · obtain ⟨r, b, bl, zs, Dd, ws, rfl, _⟩ := h; rfl
  · obtain ⟨r, b, bl, zs, Dd, ws, rfl, R, g, hD, hw, SL, h13, kk⟩ := h
    have l3 : ∀ z ∈ ws, z.2.length ≤ 3 := fun z hz => isSt_len (fun st h => (g.st st h).len) ((SL.mem _).mp (List.mem_map.mpr ⟨z, hz, rfl⟩))
    obtain ⟨w1, hw1⟩ := SL.first
    refine ⟨_, (pss_cons (ps_setComp (i := 2) (show CScope (defScope s_all_steps) _ "stand" ["rule", "stands", "steps"] ["rule", "stands"] [0, 1] from ⟨rfl, by decide +kernel, by decide +kernel, rfl, by decide +kernel, rfl, by decide +kernel, by decide +kernel⟩) rfl sc_all_steps.nd rfl (Or.inl rfl) (k_pi K (pv 1)) (fun _ _ _ _ => pts_nil) (fun _ _ _ _ => (pcall Dsteps_from Gsteps_from (hr.mono (by decide)) (pa_cons (pv 1) (pa_cons (pv 2) (pa_cons (pv 0) pa_nil))))))
      (pss_one (ps_ret (pe_op op_cat (pv 2) (pe_lst (pa_cons (pe_op op_cat (pe_lst (pa_cons (pe_callB (k_len K) (by rfl) T.n_len PySem.boot_len (pa_cons (pv 1) pa_nil)) pa_nil)) (pe_slice (k_slL K) (pe_ix (k_ixL K) (pv 2) pe_int (fun _ _ => rfl)) (po_some pe_int) po_none)) pa_nil)))))), ?_⟩
    refine ⟨_, rfl, Dd, rfl, ⟨_, SqL.of hD⟩, comp_list (K := K) (a := Dd) (xs := ws.map fun z => V.ref z.1) (fun i ys H4 => ∃ rs : List (Addr × List V), ys = (rs.map fun z => V.ref z.1) ∧ (∀ z ∈ rs, H z.1 = none ∧ H4 z.1 = some (.lst z.2)) ∧ rs.map (·.2) = (ws.take i).map (fun z => rowV (zs.map (·.2)) (ws.map (·.2)) b z.2) ∧ Same H H4) ⟨[], rfl, fun z hz => (by cases hz), rfl, Same.refl _⟩ (fun i ys H4 _ ⟨_, _, _, _, e⟩ => SqL.of (e _ _ hD)) ?_ ?_⟩
    · rintro j x ys H4 hx ⟨rs, rfl, hrs, hr2, s4⟩
      rw [List.getElem?_map] at hx
      obtain ⟨z, hzj, e⟩ := Option.map_eq_some_iff.mp hx
      subst e
      have hzm := List.mem_of_getElem? hzj
      refine ⟨?_, ?_⟩
      · have e1 := congrArg List.length hr2
        rw [List.length_map, List.length_map, List.length_take] at e1
        rw [List.length_map, e1]
        exact Nat.lt_of_le_of_lt (Nat.le_trans (Nat.min_le_right _ _) h13) (by decide)
      unfold tYes
      dsimp only
      rw [if_pos rfl]
      refine ⟨_, rfl, _, rfl, _, rfl, r, b, bl, zs, Dd, ws, z.1, z.2, rfl, R.same s4, g, s4 _ _ hD, fun z hz => s4 _ _ (hw z hz), SL, h13, s4 _ _ (hw z hzm), Nat.le_trans (l3 z hzm) (by decide), fun p H5 hp s5 hv => ?_⟩
      refine ⟨rs ++ [(p, rowV (zs.map (·.2)) (ws.map (·.2)) b z.2)], by simp, fun y hy => ?_, ?_, s4.trans s5⟩
      · rcases List.mem_append.mp hy with h | h
        · exact ⟨(hrs y h).1, s5 _ _ (hrs y h).2⟩
        · rw [List.mem_singleton] at h
          subst h
          exact ⟨s4.free hp, hv⟩
      · rw [List.map_append, hr2, List.take_succ, hzj]
        simp
    · rintro ys H4 ⟨rs, rfl, hrs, hr2, s4⟩ p hp
      have hl2 := congrArg List.length hr2
      rw [List.length_map, List.take_length] at hr2
      rw [List.length_map, List.length_map, List.length_take, List.length_map, Nat.min_self] at hl2
      obtain ⟨w0, ws', rfl⟩ : ∃ w0 ws', ws = w0 :: ws' := by
        cases ws with
        | nil => simp at hw1
        | cons a b => exact ⟨a, b, rfl⟩
      have hw0 : w0.2 = [] := by
        rw [List.map_cons] at hw1
        exact (List.cons.inj hw1).1
      obtain ⟨r0, rs', rfl⟩ : ∃ r0 rs', rs = r0 :: rs' := by
        cases rs with
        | nil => simp at hl2
        | cons a b => exact ⟨a, b, rfl⟩
      have hr0 : r0.2 = rowV (zs.map (·.2)) ((w0 :: ws').map (·.2)) b [] := by
        have e := (List.cons.inj hr2).1
        rw [← hw0]
        exact e
      have t4 := s4.trans (same_upd hp (o := .lst ((r0 :: rs').map fun z => V.ref z.1)))
      have hr04 : ∀ z ∈ r0 :: rs', upd H4 p (.lst ((r0 :: rs').map fun z => V.ref z.1)) z.1 = some (.lst z.2) := fun z hz => same_upd hp _ _ (hrs z hz).2
      refine ⟨_, rfl, _, rfl, Dd, _, rfl, .inl (SqL.of (t4 _ _ hD)), (by show 1 ≤ sizeLine; decide), fun p1 q1 => ?_⟩
      have u1 := same_upd q1 (o := .lst [V.int (((w0 :: ws').map fun z => V.ref z.1).length : Nat)])
      refine ⟨_, rfl, p, _, _, V.ref r0.1, rfl, rfl, SqL.of (u1 _ _ upd_same), atI_nat (j := 0) rfl, _, rfl, r0.1, _, rfl, SqL.of (u1 _ _ (hr04 r0 List.mem_cons_self)), fun p2 q2 => ?_⟩
      have hb1 : r0.2.length ≤ 16 := by
        rw [hr0]
        unfold rowV
        rw [List.length_map, List.length_range]
        exact g.b16
      have u2 := u1.trans (same_upd q2 (o := .lst (cutV r0.2 (some 1) none)))
      refine ⟨p1, p2, _, _, rfl, rfl, same_upd q2 _ _ upd_same, upd_same, ?_, fun p3 q3 => ?_⟩
      · rw [show (1 : Int) = ((1 : Nat) : Int) from rfl, cutV_from, List.length_drop, List.length_singleton]
        exact Nat.le_trans (show 1 + (r0.2.length - 1) ≤ 100 by omega) (by decide)
      have ev : ([V.int (((w0 :: ws').map fun z => V.ref z.1).length : Nat)] ++ cutV r0.2 (some 1) none) = V.int (((w0 :: ws').map (·.2)).length : Nat) :: (rowV (zs.map (·.2)) ((w0 :: ws').map (·.2)) b []).drop 1 := by
        rw [show (1 : Int) = ((1 : Nat) : Int) from rfl, cutV_from, hr0, List.length_map, List.length_map]
        rfl
      have u3 := u2.trans (same_upd q3 (o := .lst ([V.int (((w0 :: ws').map fun z => V.ref z.1).length : Nat)] ++ cutV r0.2 (some 1) none)))
      refine ⟨(by show 1 ≤ sizeLine; decide), fun p4 q4 => ?_⟩
      have u4 := u3.trans (same_upd q4 (o := .lst [V.ref p3]))
      refine ⟨p, p4, _, _, rfl, rfl, u4 _ _ upd_same, upd_same, ?_, fun p5 q5 => ?_⟩
      · rw [List.length_map, List.length_singleton]
        exact Nat.le_trans (show (r0 :: rs').length + 1 ≤ 100 by omega) (by decide)
      have u5 := u4.trans (same_upd q5 (o := .lst ((r0 :: rs').map (fun z => V.ref z.1) ++ [V.ref p3])))
      refine kk p5 (r0 :: rs' ++ [(p3, [V.int (((w0 :: ws').map fun z => V.ref z.1).length : Nat)] ++ cutV r0.2 (some 1) none)]) _ (t4.free (u4.free q5)) (t4.trans u5) ?_ ?_ ?_
      · rw [upd_same, List.map_append]
        rfl
      · intro z hz
        rcases List.mem_append.mp hz with h | h
        · exact ⟨(hrs z h).1, u5 _ _ (hr04 z h)⟩
        · rw [List.mem_singleton] at h
          subst h
          exact ⟨t4.free (u2.free q3), same_upd q5 _ _ (same_upd q4 _ _ upd_same)⟩
      · rw [List.map_append, hr2, ev]
        unfold stepsV
        rw [List.map_map]
        rfl
end
end Lw
set_option Elab.async false
set_option linter.all false
set_option maxRecDepth 100000
namespace Lw
open PySem L2 PyProof.Rows
structure ClT (K : PySem.W.Frag) (mg : Str → Option Value) (C : Addr) : Prop where
  cl : Cls K C
  nm : mg "Tails" = some (.ref C)
  n_base : NoAttr K C "base"
  n_outset : NoAttr K C "outset"
  n_steps : NoAttr K C "steps"
  n_layers : NoAttr K C "layers"
def fldT (b n : Nat) (sa la : Addr) : List (Str × V) := putF "layers" (.ref la) (putF "steps" (.ref sa) (putF "outset" (.int n) (putF "base" (.int b) [])))
theorem fldT_base (b n : Nat) (sa la : Addr) : (fldT b n sa la).lookup ("base" : Str) = some (.int b) := by
  unfold fldT
  rw [lookup_putF, if_neg (by decide +kernel), lookup_putF, if_neg (by decide +kernel), lookup_putF, if_neg (by decide +kernel), lookup_putF, if_pos rfl]
theorem fldT_outset (b n : Nat) (sa la : Addr) : (fldT b n sa la).lookup ("outset" : Str) = some (.int n) := by
  unfold fldT
  rw [lookup_putF, if_neg (by decide +kernel), lookup_putF, if_neg (by decide +kernel), lookup_putF, if_pos rfl]
theorem fldT_steps (b n : Nat) (sa la : Addr) : (fldT b n sa la).lookup ("steps" : Str) = some (.ref sa) := by
  unfold fldT
  rw [lookup_putF, if_neg (by decide +kernel), lookup_putF, if_pos rfl]
theorem fldT_layers (b n : Nat) (sa la : Addr) : (fldT b n sa la).lookup ("layers" : Str) = some (.ref la) := by
  unfold fldT
  rw [lookup_putF, if_pos rfl]
theorem fldT_no (b n : Nat) (sa la : Addr) {m : Str} (h1 : ¬ m = "layers") (h2 : ¬ m = "steps") (h3 : ¬ m = "outset") (h4 : ¬ m = "base") : (fldT b n sa la).lookup m = none := by
  unfold fldT
  rw [lookup_putF, if_neg h1, lookup_putF, if_neg h2, lookup_putF, if_neg h3, lookup_putF, if_neg h4]
  rfl
def layerV (ls ws : List (List Int)) (b t : Nat) : List Int := (ws.map fun x => ((cnt ls b t x : Nat) : Int)) ++ [((cntO ls b t : Nat) : Int)]
def stepV (ls ws : List (List Int)) : Option (List Int) → Nat → V
  | some x, c => plc ls ws (x ++ [(c : Int)])
  | none, c => if c = 0 then .int (ws.length : Nat) else plc ls ws [(c : Int)]
theorem stepV_some (ls ws : List (List Int)) (x : List Int) (c : Nat) : stepV ls ws (some x) c = plc ls ws (x ++ [(c : Int)]) := rfl
theorem stepV_none (ls ws : List (List Int)) (c : Nat) : stepV ls ws none c = if c = 0 then .int (ws.length : Nat) else plc ls ws [(c : Int)] := rfl
theorem stepC_some (ls : List (List Int)) (b t : Nat) (x : List Int) (c : Nat) : stepC ls b t (some x) c = if lacks ls (x ++ [(c : Int)]) = true then cnt ls b t (tailS ls (x ++ [(c : Int)])) else 0 := rfl
theorem stepC_none (ls : List (List Int)) (b t : Nat) (c : Nat) : stepC ls b t none c = if c = 0 then cntO ls b t else if lacks ls [(c : Int)] = true then cnt ls b t (tailS ls [(c : Int)]) else 0 := rfl
theorem stepsV_get {ls ws : List (List Int)} {b i : Nat} (hb : 1 ≤ b) (hi : i ≤ ws.length) : (stepsV ls ws b)[i]? = some ((List.range b).map (stepV ls ws ws[i]?)) := by
  unfold stepsV
  by_cases h : i < ws.length
  · rw [List.getElem?_append_left (by rw [List.length_map]; exact h), List.getElem?_map, List.getElem?_eq_getElem h]
    rfl
  · have e : i = ws.length := by omega
    subst e
    rw [List.getElem?_append_right (by rw [List.length_map]; exact Nat.le_refl _), List.length_map, Nat.sub_self, List.getElem?_eq_none (Nat.le_refl _)]
    show some _ = some _
    congr 1
    obtain ⟨k, rfl⟩ : ∃ k, b = k + 1 := ⟨b - 1, by omega⟩
    unfold rowV
    rw [List.range_succ_eq_map, List.map_cons, List.map_cons, List.drop_succ_cons, List.drop_zero]
    rw [List.map_map, List.map_map]
    rfl
structure TailsAt (C : Addr) (H : Hp) (p la : Addr) (b : Nat) (ls ws : List (List Int)) (L : Nat) : Prop where
  ob : ∃ (dx sa : Addr) (srs : List (Addr × List V)), aw [la] H p = some (.ins C dx (fldT b ws.length sa la)) ∧ aw [la] H sa = some (.lst (srs.map fun z => V.ref z.1)) ∧ (∀ z ∈ srs, aw [la] H z.1 = some (.lst z.2)) ∧ srs.map (·.2) = stepsV ls ws b
  ly : ∃ lrs : List (Addr × List Int), H la = some (.lst (lrs.map fun z => V.ref z.1)) ∧ (∀ z ∈ lrs, aw [la] H z.1 = some (.lst (z.2.map V.int))) ∧ lrs.map (·.2) = (List.range L).map (layerV ls ws b)
  l1 : 1 ≤ L
structure GoodT (b : Nat) (ls ws : List (List Int)) : Prop where
  g : GoodRule b ls
  s : StandsL ls ws
  h13 : ws.length ≤ 13
theorem GoodT.ne {b : Nat} {ls ws : List (List Int)} (G : GoodT b ls ws) : ∀ l ∈ ls, l ≠ [] := fun l hl => (G.g.st l hl).ne
theorem TailsAt.same {C p la b : Nat} {H H' : Hp} {ls ws : List (List Int)} {L : Nat} (A : TailsAt C H p la b ls ws L) (m : Same H H') : TailsAt C H' p la b ls ws L := by
  obtain ⟨dx, sa, srs, h1, h2, h3, h4⟩ := A.ob
  obtain ⟨lrs, g1, g2, g3⟩ := A.ly
  have m' := m.aw [la]
  exact ⟨⟨dx, sa, srs, m' _ _ h1, m' _ _ h2, fun z hz => m' _ _ (h3 z hz), h4⟩, ⟨lrs, m _ _ g1, fun z hz => m' _ _ (g2 z hz), g3⟩, A.l1⟩
theorem stepV_cases {ls ws : List (List Int)} {b t : Nat} (G : GoodT b ls ws) {i c : Nat} (hi : i ≤ ws.length) :
    (stepV ls ws ws[i]? c = .non ∧ stepC ls b t ws[i]? c = 0) ∨ ∃ j : Nat, stepV ls ws ws[i]? c = .int j ∧ j ≤ ws.length ∧ (layerV ls ws b t)[j]? = some ((stepC ls b t ws[i]? c : Nat) : Int) := by
  have at_ : ∀ fs : List Int, lacks ls fs = true → ∃ j : Nat, plc ls ws fs = .int j ∧ j ≤ ws.length ∧ (layerV ls ws b t)[j]? = some ((cnt ls b t (tailS ls fs) : Nat) : Int) := by
    intro fs h
    have hm : tailS ls fs ∈ ws := (G.s.mem _).mpr (tailS_isSt G.ne h)
    have hlt := List.idxOf_lt_length_iff.mpr hm
    refine ⟨ws.idxOf (tailS ls fs), by unfold plc; rw [if_pos h], Nat.le_of_lt hlt, ?_⟩
    unfold layerV
    rw [List.getElem?_append_left (by rw [List.length_map]; exact hlt), List.getElem?_map, List.getElem?_eq_getElem hlt, List.getElem_idxOf hlt]
    rfl
  cases hw : ws[i]? with
  | some x =>
    show (plc ls ws (x ++ [(c : Int)]) = .non ∧ (if lacks ls (x ++ [(c : Int)]) = true then _ else 0) = 0) ∨ _
    by_cases h : lacks ls (x ++ [(c : Int)]) = true
    · right
      obtain ⟨j, h1, h2, h3⟩ := at_ _ h
      refine ⟨j, h1, h2, ?_⟩
      rw [h3, stepC_some, if_pos h]
    · left
      exact ⟨by unfold plc; rw [if_neg h], by rw [if_neg h]⟩
  | none =>
    by_cases h0 : c = 0
    · right
      refine ⟨ws.length, by rw [stepV_none, if_pos h0], Nat.le_refl _, ?_⟩
      unfold layerV
      rw [stepC_none, if_pos h0, List.getElem?_append_right (by rw [List.length_map]; exact Nat.le_refl _), List.length_map, Nat.sub_self]
      rfl
    · by_cases h : lacks ls [(c : Int)] = true
      · right
        obtain ⟨j, h1, h2, h3⟩ := at_ _ h
        refine ⟨j, by rw [stepV_none, if_neg h0]; exact h1, h2, ?_⟩
        rw [h3, stepC_none, if_neg h0, if_pos h]
      · left
        refine ⟨?_, ?_⟩
        · rw [stepV_none, if_neg h0]; unfold plc; rw [if_neg h]
        · rw [stepC_none, if_neg h0, if_neg h]
theorem aw_upd_in' {fp : List Addr} {H : Hp} {b : Addr} {o : HO} (h : b ∈ fp) : aw fp (upd H b o) = aw fp H := by
  funext c
  by_cases hc : c ∈ fp
  · rw [aw_in hc, aw_in hc]
  · rw [aw_out hc, aw_out hc, upd_ne (fun z : c = b => hc (by rw [z]; exact h))]
section
variable {P : Program} {w : World} {K : PySem.W.Frag} {mg : Str → Option Value} {base : Heap} {T0 C : Addr}
def sp_many_by (C : Addr) : Sp := fun vs H Q _ => ∃ (p la : Addr) (b : Nat) (ls ws : List (List Int)) (L t : Nat) (lay : Addr) (i s : Nat), vs = [.ref p, .ref lay, .int i, .int s] ∧ TailsAt C H p la b ls ws L ∧ GoodT b ls ws ∧ H lay = some (.lst ((layerV ls ws b t).map V.int)) ∧ i ≤ ws.length ∧ s ≤ b ∧
  ∀ H', Same H H' → Q (.int (under ls b t ws[i]? s : Nat)) H'
theorem sc_Tails_many_by : FnScope ["self", "layer", "place", "stop"] ["self", "layer", "place", "stop"] (defScope s_Tails_many_by) := ⟨rfl, rfl, rfl, by decide +kernel, rfl, by decide +kernel, by decide +kernel⟩
theorem ok_many_by {f : Addr} {fd : FuncData} (D : Mt K C "Tails.many_by" "many_by" s_Tails_many_by ["self", "layer", "place", "stop"] f fd) (cTails : ClT K mg C) (T : Blt mg) (U : Blt2 mg) : FnOk P w K mg base CX0 1 f fd ["self", "layer", "place", "stop"] (sp_many_by C) := by
  refine D.fn.ok sc_Tails_many_by (fun vs H Q E h => ?_) (fun cdv A outer s H vs Q E hr h => ?_)
  · obtain ⟨p, la, b, ls, ws, L, t, lay, i, s, rfl, _⟩ := h; rfl
  · obtain ⟨p, la, b, ls, ws, L, t, lay, i, s, rfl, TA, G, hlay, hi, hs, kk⟩ := h
    obtain ⟨dx, sa, srs, h1, h2, h3, h4⟩ := TA.ob
    have b16 := G.g.b16
    have b2 := G.g.b2
    refine ⟨_, (pss_one (ps_ret (pe_callB (k_sum K rfl) (by rfl) U.n_sum boot_sum (pa_cons (pe_comp (show CScope (defScope s_Tails_many_by) _ "behind" ["self", "layer", "place", "stop"] ["layer"] [1] from ⟨rfl, by decide +kernel, by decide +kernel, rfl, by decide +kernel, rfl, by decide +kernel, by decide +kernel⟩) rfl (k_pi K (pe_slice (k_slL K) (pe_ix (k_ixL K) (k_fld K (pv 0)) (pv 2) (fun _ _ => rfl)) po_none (po_some (pv 3)))) (fun _ _ _ _ => (pts_one (pt_cmpR op_notN (pv 0) pe_non (nomark _)))) (fun _ _ _ _ => (pe_ix (k_ixL K) (pv 1) (pv 0) (fun _ _ => rfl)))) pa_nil)))), ?_⟩
    have hrow := stepsV_get (ls := ls) (b := b) (by omega) hi
    rw [← h4, List.getElem?_map] at hrow
    obtain ⟨z, hz, ez⟩ := Option.map_eq_some_iff.mp hrow
    have hzm := List.mem_of_getElem? hz
    have hz3 := aw_same _ _ _ _ (h3 z hzm)
    refine ⟨_, rfl, p, C, dx, _, _, rfl, aw_same _ _ _ _ h1, cTails.cl, cTails.n_steps, fldT_steps _ _ _ _, _, rfl, sa, _, _, V.ref z.1, rfl, rfl, SqL.of (aw_same _ _ _ _ h2), atI_nat (by rw [List.getElem?_map, hz]; rfl), ?_⟩
    refine ⟨_, rfl, _, rfl, z.1, _, rfl, SqL.of hz3, fun q hq => ?_⟩
    have m1 := same_upd hq (o := .lst (cutV z.2 none (some (s : Int))))
    have ecut : cutV z.2 none (some (s : Int)) = (List.range s).map (stepV ls ws ws[i]?) := by
      rw [cutV_upto, ez, ← List.map_take, List.take_range, Nat.min_eq_left hs]
    rw [ecut] at m1 ⊢
    refine ⟨q, rfl, ⟨_, SqL.of upd_same⟩, comp_list (K := K) (a := q) (xs := (List.range s).map (stepV ls ws ws[i]?)) (fun k ys H4 => H4 = upd H q (.lst ((List.range s).map (stepV ls ws ws[i]?))) ∧ ∃ ms : List Int, ys = ms.map V.int ∧ ms.length ≤ k ∧ ms.sum = ((under ls b t ws[i]? k : Nat) : Int)) ⟨rfl, [], rfl, Nat.le_refl _, by simp [under]⟩ (fun k ys H4 _ ⟨e, _⟩ => by rw [e]; exact SqL.of upd_same) ?_ ?_⟩
    · rintro k x ys H4 hx ⟨rfl, ms, rfl, hml, hms⟩
      rw [List.getElem?_map] at hx
      obtain ⟨c, hc, e⟩ := Option.map_eq_some_iff.mp hx
      have hk : k < s := by have := (List.getElem?_eq_some_iff.mp hc).1; rwa [List.length_range] at this
      have ec : c = k := by
        rw [List.getElem?_range hk] at hc
        exact (Option.some.inj hc).symm
      subst ec
      subst e
      refine ⟨by rw [List.length_map]; exact Nat.lt_of_le_of_lt (show ms.length ≤ 16 by omega) (by decide), ?_⟩
      have hus := under_succ ls b t ws[i]? c
      rcases stepV_cases (t := t) G (c := c) hi with ⟨e1, e2⟩ | ⟨j, e1, e2, e3⟩
      · rw [e1]
        refine ⟨_, rfl, rfl, _, rfl, iteF ⟨rfl, ms, rfl, by omega, ?_⟩⟩
        rw [hus, e2, hms]
        omega
      · rw [e1]
        refine ⟨_, rfl, rfl, _, rfl, iteT ?_⟩
        refine ⟨_, rfl, _, rfl, lay, _, _, V.int ((stepC ls b t ws[i]? c : Nat) : Int), rfl, rfl, SqL.of (m1 _ _ hlay), atI_nat (by rw [List.getElem?_map, e3]; rfl), rfl, ms ++ [((stepC ls b t ws[i]? c : Nat) : Int)], by simp, by rw [List.length_append, List.length_singleton]; omega, ?_⟩
        rw [List.sum_append, hms, hus]
        simp
    · rintro ys H4 ⟨rfl, ms, rfl, hml, hms⟩ Dd hD
      refine ⟨Dd, ms, rfl, SqL.of upd_same, ?_⟩
      rw [hms, List.length_map, List.length_range]
      exact kk _ (m1.trans (same_upd hD))
def TQ (C : Addr) (H : Hp) (p la : Addr) (b : Nat) (ls ws : List (List Int)) (L : Nat) (R : Nat → Hp → Prop) : Prop := ∀ (L' : Nat) (H' : Hp), L ≤ L' → TailsAt C H' p la b ls ws L' → Same (aw [la] H) (aw [la] H') → R L' H'
def sp_layer (C : Addr) : Sp := fun vs H Q _ => ∃ (p la : Addr) (b : Nat) (ls ws : List (List Int)) (L t : Nat), vs = [.ref p, .int t] ∧ TailsAt C H p la b ls ws L ∧ GoodT b ls ws ∧ L ≤ 1000 ∧ t < 1000 ∧
  ∀ lay : Addr, TQ C H p la b ls ws L fun L' H' => L' ≤ max L (t + 1) → aw [la] H' lay = some (.lst ((layerV ls ws b t).map V.int)) → Q (.ref lay) H'
theorem sc_Tails_layer : FnScope ["self", "left", "shorter"] ["self", "left"] (defScope s_Tails_layer) := ⟨rfl, rfl, rfl, by decide +kernel, rfl, by decide +kernel, by decide +kernel⟩
theorem layerV_more {ls ws : List (List Int)} {b t : Nat} : ((List.range (ws.length + 1)).map fun i => ((under ls b t ws[i]? b : Nat) : Int)) = layerV ls ws b (t + 1) := by
  unfold layerV
  apply List.ext_getElem?
  intro i
  rw [List.getElem?_map]
  by_cases h : i < ws.length
  · rw [List.getElem?_range (by omega), List.getElem?_append_left (by rw [List.length_map]; exact h), List.getElem?_map, Option.map_some, List.getElem?_eq_getElem h]
    rfl
  · by_cases h2 : i = ws.length
    · subst h2
      rw [List.getElem?_range (by omega), List.getElem?_append_right (by rw [List.length_map]; exact Nat.le_refl _), List.length_map, Nat.sub_self, Option.map_some, List.getElem?_eq_none (Nat.le_refl _)]
      rfl
    · rw [List.getElem?_eq_none (by rw [List.length_range]; omega), List.getElem?_eq_none (by rw [List.length_append, List.length_map, List.length_singleton]; omega)]
      rfl
theorem ok_layer {f f1 : Addr} {fd fd1 : FuncData} (D : Mt K C "Tails.layer" "layer" s_Tails_layer ["self", "left"] f fd) (MTails_many_by : Mt K C "Tails.many_by" "many_by" s_Tails_many_by ["self", "layer", "place", "stop"] f1 fd1) (cTails : ClT K mg C) (T : Blt mg) (U : Blt2 mg) : FnOk P w K mg base CX0 2 f fd ["self", "left"] (sp_layer C) := by
  have GTails_many_by : FnOk P w K mg base CX0 1 f1 fd1 ["self", "layer", "place", "stop"] (sp_many_by C) := ok_many_by MTails_many_by cTails T U
  refine D.fn.ok sc_Tails_layer (fun vs H Q E h => ?_) (fun cdv A outer s H vs Q E hr h => ?_)
  · obtain ⟨p, la, b, ls, ws, L, t, rfl, _⟩ := h; rfl
  · obtain ⟨p, la, b, ls, ws, L, t, rfl, TA, G, hL, ht, kk⟩ := h
    have h13 := G.h13
    refine ⟨_, (pss_cons (ps_while PassesOwn.never (pt_cmpR op_le (pe_callB (k_len K) (by rfl) T.n_len PySem.boot_len (pa_cons (k_fld K (pv 0)) pa_nil)) (pv 1) (nomark _))
        (pss_cons (ps_set (i := 2) sc_Tails_layer.nd rfl (Or.inr rfl) (pe_ix (k_ixL K) (k_fld K (pv 0)) (pe_un un_neg pe_int) (fun _ _ => rfl)))
        (pss_one (ps_expr (pe_bm PySem.F.plainAttrs_list PySem.F.slot_list_append PySem.F.type_list_append mt_append (k_fld K (pv 0)) (pa_cons (pe_comp (show CScope (defScope s_Tails_layer) _ "place" ["self", "left", "shorter"] ["shorter", "self"] [2, 0] from ⟨rfl, by decide +kernel, by decide +kernel, rfl, by decide +kernel, rfl, by decide +kernel, by decide +kernel⟩) rfl (pi_range1 rfl T.n_range (pa_cons (pe_op op_add (k_fld K (pv 0)) pe_int) pa_nil)) (fun _ _ _ _ => pts_nil) (fun _ _ _ _ => (pmeth MTails_many_by cTails.cl GTails_many_by (hr.mono (by decide)) (pv 2) (pa_cons (pv 1) (pa_cons (pv 0) (pa_cons (k_fld K (pv 2)) pa_nil)))))) pa_nil))))))
      (pss_one (ps_ret (pe_ix (k_ixL K) (k_fld K (pv 0)) (pv 1) (fun _ _ => rfl))))), ?_⟩
    refine while_by (fun σ H2 => ∃ (v : Option V) (L' : Nat), σ = [some (.ref p), some (.int t), v] ∧ L ≤ L' ∧ L' ≤ max L (t + 1) ∧ TailsAt C H2 p la b ls ws L' ∧ Same (aw [la] H) (aw [la] H2))
      (fun σ H2 => match H2 la with | some (.lst xs) => t + 1 - xs.length | _ => 0) ⟨none, L, rfl, Nat.le_refl _, Nat.le_max_left _ _, TA, Same.refl _⟩ ?_ ?_
    · rintro σ H2 ⟨v, L', rfl, hLL, hLm, TA2, m2⟩
      obtain ⟨dx, sa, srs, h1, h2, h3, h4⟩ := TA2.ob
      obtain ⟨lrs, g1, g2, g3⟩ := TA2.ly
      have hl : lrs.length = L' := by have := congrArg List.length g3; rwa [List.length_map, List.length_map, List.length_range] at this
      have hp := aw_same _ _ _ _ h1
      have l1 := TA2.l1
      refine ⟨_, rfl, p, C, dx, _, _, rfl, hp, cTails.cl, cTails.n_layers, fldT_layers _ _ _ _, la, _, rfl, .inl (SqL.of g1), _, rfl, _, _, rfl, rfl, _, rfl, ?_⟩
      rw [List.length_map, hl]
      refine ite2 (fun hc => ?_) (fun hc => ?_)
      · have hc' : L' ≤ t := by have := of_decide_eq_true hc; omega
        have hlast : lrs[L' - 1]? = some lrs[L' - 1] := List.getElem?_eq_getElem (by omega)
        generalize hz : lrs[L' - 1] = z at hlast
        have hzm : z ∈ lrs := List.mem_of_getElem? hlast
        have hz2 : z.2 = layerV ls ws b (L' - 1) := by
          have e := congrArg (fun l => l[L' - 1]?) g3
          simp only [List.getElem?_map, hlast, List.getElem?_range (show L' - 1 < L' by omega), Option.map_some] at e
          exact Option.some.inj e
        have elr : lrs = lrs.take (L' - 1) ++ [z] := by
          have e := (List.take_append_drop (L' - 1) lrs).symm
          rw [List.drop_eq_getElem_cons (show L' - 1 < lrs.length by omega), hz, List.drop_of_length_le (by omega)] at e
          exact e
        have eat : atI (lrs.map fun z => V.ref z.1) (-1) = some (V.ref z.1) := by
          rw [elr, List.map_append]
          exact atI_last _ _
        refine ⟨_, rfl, p, C, dx, _, _, rfl, hp, cTails.cl, cTails.n_layers, fldT_layers _ _ _ _, _, rfl, la, _, _, V.ref z.1, rfl, rfl, SqL.of g1, eat, ?_⟩
        refine ⟨_, rfl, p, C, dx, _, _, rfl, hp, cTails.cl, cTails.n_layers, fldT_layers _ _ _ _, .inl ⟨rfl, _, SqL.of g1⟩, ?_⟩
        refine ⟨_, rfl, p, C, dx, _, _, rfl, hp, cTails.cl, cTails.n_outset, fldT_outset _ _ _ _, _, _, rfl, rfl, ((ws.length : Int) + 1), rfl, by omega, by omega, comp_range (lo := 0) (n := ((ws.length : Int) + 1).toNat) (fun i ys H4 => ys = (((List.range i).map fun i => ((under ls b (L' - 1) ws[i]? b : Nat) : Int))).map V.int ∧ Same H2 H4) ⟨rfl, Same.refl _⟩ ?_ ?_⟩
        · rintro i ys H4 hi ⟨rfl, m4⟩
          refine ⟨by rw [List.length_map, List.length_map, List.length_range]; exact Nat.lt_of_lt_of_le (show i < 20 by omega) (by decide), ?_⟩
          unfold tYes
          dsimp only
          rw [if_pos rfl]
          have TA4 := TA2.same m4
          have hp4 := m4 _ _ hp
          refine ⟨_, rfl, p, dx, _, rfl, hp4, fldT_no _ _ _ _ (by decide +kernel) (by decide +kernel) (by decide +kernel) (by decide +kernel), _, rfl, _, rfl, _, rfl, p, C, dx, _, _, rfl, hp4, cTails.cl, cTails.n_base, fldT_base _ _ _ _, ?_⟩
          refine ⟨p, la, b, ls, ws, L', L' - 1, z.1, i, b, by rw [Int.zero_add]; rfl, TA4, G, ?_, by omega, Nat.le_refl _, fun H5 m5 => ⟨?_, m4.trans m5⟩⟩
          · rw [← hz2]; exact m4 _ _ (aw_same _ _ _ _ (g2 z hzm))
          · rw [List.range_succ, List.map_append, List.map_append]
            rfl
        rintro ys H4 ⟨rfl, m4⟩ q hq
        rw [show ((ws.length : Int) + 1).toNat = ws.length + 1 by omega, layerV_more, show L' - 1 + 1 = L' by omega]
        have m5 := same_upd hq (o := .lst ((layerV ls ws b L').map V.int))
        have gla := m5 _ _ (m4 _ _ g1)
        have nq : q ≠ la := fun e => by rw [e, m4 _ _ g1] at hq; cases hq
        refine ⟨la, _, _, rfl, rfl, gla, by rw [List.length_map, hl]; exact Nat.lt_of_le_of_lt (show L' ≤ 1000 by omega) (by decide), ?_⟩
        have m25 : Same (aw [la] H2) (aw [la] (upd (upd H4 q (.lst ((layerV ls ws b L').map V.int))) la (.lst (lrs.map (fun z => V.ref z.1) ++ [.ref q])))) := by
          rw [aw_upd_in' (by simp)]
          exact (m4.trans m5).aw [la]
        refine ⟨⟨_, L' + 1, rfl, by omega, by omega, ⟨⟨dx, sa, srs, m25 _ _ h1, m25 _ _ h2, fun y hy => m25 _ _ (h3 y hy), h4⟩, ⟨lrs ++ [(q, layerV ls ws b L')], by rw [upd_same]; simp, fun y hy => ?_, ?_⟩, by omega⟩, m2.trans m25⟩, ?_⟩
        · rcases List.mem_append.mp hy with hy | hy
          · exact m25 _ _ (g2 y hy)
          · have e : y = (q, layerV ls ws b L') := by simpa using hy
            subst e
            rw [aw_upd_in' (by simp), aw_out (by simp [nq]), upd_same]
        · rw [List.map_append, g3, List.range_succ, List.map_append]
          rfl
        · show (match (upd (upd H4 q (.lst ((layerV ls ws b L').map V.int))) la (.lst (lrs.map (fun z => V.ref z.1) ++ [.ref q]))) la with | some (.lst xs) => t + 1 - xs.length | _ => 0) < (match H2 la with | some (.lst xs) => t + 1 - xs.length | _ => 0)
          rw [upd_same, g1]
          show t + 1 - (lrs.map (fun z => V.ref z.1) ++ [V.ref q]).length < t + 1 - (lrs.map fun z => V.ref z.1).length
          rw [List.length_append, List.length_map, List.length_singleton]
          omega
      · have hc' : t < L' := by
          by_cases z : t < L'
          · exact z
          · exact absurd (decide_eq_true (by omega : (L' : Int) ≤ t)) hc
        have hlast : lrs[t]? = some lrs[t] := List.getElem?_eq_getElem (by omega)
        generalize hz : lrs[t] = z at hlast
        have hzm : z ∈ lrs := List.mem_of_getElem? hlast
        have hz2 : z.2 = layerV ls ws b t := by
          have e := congrArg (fun l => l[t]?) g3
          simp only [List.getElem?_map, hlast, List.getElem?_range hc', Option.map_some] at e
          exact Option.some.inj e
        refine ⟨_, rfl, p, C, dx, _, _, rfl, hp, cTails.cl, cTails.n_layers, fldT_layers _ _ _ _, _, rfl, la, _, _, V.ref z.1, rfl, rfl, SqL.of g1, atI_nat (by rw [List.getElem?_map, hlast]; rfl), ?_⟩
        exact kk z.1 L' H2 hLL TA2 m2 hLm (by rw [← hz2]; exact g2 z hzm)
    · intro σ H2 Q Q' hq
      rintro ⟨v0, e0, a, C', dx, fs, v, h1, h2, h3, h4, h5, p', ys, h6, h7, v1, e1, i, j, e3, e4, k, e5, q⟩
      exact ⟨v0, e0, a, C', dx, fs, v, h1, h2, h3, h4, h5, p', ys, h6, h7, v1, e1, i, j, e3, e4, k, e5, hq _ _ q⟩
def sp_many_under (C : Addr) : Sp := fun vs H Q _ => ∃ (p la : Addr) (b : Nat) (ls ws : List (List Int)) (L i s t : Nat), vs = [.ref p, .int i, .int s, .int t] ∧ TailsAt C H p la b ls ws L ∧ GoodT b ls ws ∧ L ≤ 1000 ∧ t < 1000 ∧ i ≤ ws.length ∧ s ≤ b ∧ TQ C H p la b ls ws L fun L' H' => L' ≤ max L (t + 1) → Q (.int (under ls b t ws[i]? s : Nat)) H'
theorem sc_Tails_many_under : FnScope ["self", "place", "stop", "left"] ["self", "place", "stop", "left"] (defScope s_Tails_many_under) := ⟨rfl, rfl, rfl, by decide +kernel, rfl, by decide +kernel, by decide +kernel⟩
theorem ok_many_under {f f1 f2 : Addr} {fd fd1 fd2 : FuncData} (D : Mt K C "Tails.many_under" "many_under" s_Tails_many_under ["self", "place", "stop", "left"] f fd) (MTails_layer : Mt K C "Tails.layer" "layer" s_Tails_layer ["self", "left"] f1 fd1) (MTails_many_by : Mt K C "Tails.many_by" "many_by" s_Tails_many_by ["self", "layer", "place", "stop"] f2 fd2) (cTails : ClT K mg C) (T : Blt mg) (U : Blt2 mg) : FnOk P w K mg base CX0 3 f fd ["self", "place", "stop", "left"] (sp_many_under C) := by
  have GTails_many_by : FnOk P w K mg base CX0 1 f2 fd2 ["self", "layer", "place", "stop"] (sp_many_by C) := ok_many_by MTails_many_by cTails T U
  have GTails_layer : FnOk P w K mg base CX0 2 f1 fd1 ["self", "left"] (sp_layer C) := ok_layer MTails_layer MTails_many_by cTails T U
  refine D.fn.ok sc_Tails_many_under (fun vs H Q E h => ?_) (fun cdv A outer s H vs Q E hr h => ?_)
  · obtain ⟨p, la, b, ls, ws, L, i, s, t, rfl, _⟩ := h; rfl
  · obtain ⟨p, la, b, ls, ws, L, i, s, t, rfl, TA, G, hL, ht, hi, hs, kk⟩ := h
    obtain ⟨dx, sa, srs, h1, h2, h3, h4⟩ := TA.ob
    have hp := aw_same _ _ _ _ h1
    refine ⟨_, (pss_one (ps_ret (pmeth MTails_many_by cTails.cl GTails_many_by (hr.mono (by decide)) (pv 0) (pa_cons (pmeth MTails_layer cTails.cl GTails_layer (hr.mono (by decide)) (pv 0) (pa_cons (pv 3) pa_nil)) (pa_cons (pv 1) (pa_cons (pv 2) pa_nil)))))), ?_⟩
    refine ⟨_, rfl, p, dx, _, rfl, hp, fldT_no _ _ _ _ (by decide +kernel) (by decide +kernel) (by decide +kernel) (by decide +kernel), ?_⟩
    refine ⟨_, rfl, p, dx, _, rfl, hp, fldT_no _ _ _ _ (by decide +kernel) (by decide +kernel) (by decide +kernel) (by decide +kernel), _, rfl, p, la, b, ls, ws, L, t, rfl, TA, G, hL, ht, fun lay L' H' hLL TA' m' hm hlay => ?_⟩
    exact ⟨_, rfl, _, rfl, p, la, b, ls, ws, L', t, lay, i, s, rfl, TA', G, aw_same _ _ _ _ hlay, hi, hs, fun H2 m2 => kk L' H2 hLL (TA'.same m2) (m'.trans (m2.aw [la])) hm⟩
def sp_many_within (C : Addr) : Sp := fun vs H Q _ => ∃ (p la : Addr) (b : Nat) (ls ws : List (List Int)) (L t : Nat), vs = [.ref p, .int t] ∧ TailsAt C H p la b ls ws L ∧ GoodT b ls ws ∧ L ≤ 1000 ∧ t < 1000 ∧ TQ C H p la b ls ws L fun L' H' => L' ≤ max L (t + 1) → Q (.int (cntO ls b t : Nat)) H'
theorem sc_Tails_many_within : FnScope ["self", "size"] ["self", "size"] (defScope s_Tails_many_within) := ⟨rfl, rfl, rfl, by decide +kernel, rfl, by decide +kernel, by decide +kernel⟩
theorem ok_many_within {f f1 f2 : Addr} {fd fd1 fd2 : FuncData} (D : Mt K C "Tails.many_within" "many_within" s_Tails_many_within ["self", "size"] f fd) (MTails_layer : Mt K C "Tails.layer" "layer" s_Tails_layer ["self", "left"] f1 fd1) (MTails_many_by : Mt K C "Tails.many_by" "many_by" s_Tails_many_by ["self", "layer", "place", "stop"] f2 fd2) (cTails : ClT K mg C) (T : Blt mg) (U : Blt2 mg) : FnOk P w K mg base CX0 3 f fd ["self", "size"] (sp_many_within C) := by
  have GTails_layer : FnOk P w K mg base CX0 2 f1 fd1 ["self", "left"] (sp_layer C) := ok_layer MTails_layer MTails_many_by cTails T U
  refine D.fn.ok sc_Tails_many_within (fun vs H Q E h => ?_) (fun cdv A outer s H vs Q E hr h => ?_)
  · obtain ⟨p, la, b, ls, ws, L, t, rfl, _⟩ := h; rfl
  · obtain ⟨p, la, b, ls, ws, L, t, rfl, TA, G, hL, ht, kk⟩ := h
    obtain ⟨dx, sa, srs, h1, h2, h3, h4⟩ := TA.ob
    have hp := aw_same _ _ _ _ h1
    refine ⟨_, (pss_one (ps_ret (pe_ix (k_ixL K) (pmeth MTails_layer cTails.cl GTails_layer (hr.mono (by decide)) (pv 0) (pa_cons (pv 1) pa_nil)) (k_fld K (pv 0)) (fun _ _ => rfl)))), ?_⟩
    refine ⟨_, rfl, p, dx, _, rfl, hp, fldT_no _ _ _ _ (by decide +kernel) (by decide +kernel) (by decide +kernel) (by decide +kernel), _, rfl, p, la, b, ls, ws, L, t, rfl, TA, G, hL, ht, fun lay L' H' hLL TA' m' hm hlay => ?_⟩
    obtain ⟨dx', sa', srs', h1', h2', h3', h4'⟩ := TA'.ob
    refine ⟨_, rfl, p, C, dx', _, _, rfl, aw_same _ _ _ _ h1', cTails.cl, cTails.n_outset, fldT_outset _ _ _ _, lay, _, _, V.int ((cntO ls b t : Nat) : Int), rfl, rfl, SqL.of (aw_same _ _ _ _ hlay), atI_nat ?_, kk L' H' hLL TA' m' hm⟩
    unfold layerV
    rw [List.map_append, List.getElem?_append_right (by rw [List.length_map, List.length_map]; exact Nat.le_refl _), List.length_map, List.length_map, Nat.sub_self]
    rfl
end
end Lw
set_option Elab.async false
set_option linter.all false
set_option maxRecDepth 100000
namespace Lw
open PySem L2 PyProof.Rows
theorem stepV_rep {ls ws : List (List Int)} {b m : Nat} (G : GoodT b ls ws) {i c : Nat} (hi : i ≤ ws.length) (R : Rep ls b m ws[i]?) (hc : c < b) :
    (∃ j : Nat, stepV ls ws ws[i]? c = .int j ∧ j ≤ ws.length ∧ Rep ls b (m * b + c) ws[j]?) ∨ (stepV ls ws ws[i]? c = .non ∧ 1 ≤ m * b + c ∧ gd ls b (m * b + c) = false) := by
  have b2 := G.g.b2
  have ep : ∀ h : ¬ (ws[i]? = none ∧ c = 0), stepV ls ws ws[i]? c = plc ls ws (ws[i]?.getD [] ++ [(c : Int)]) := by
    intro h
    cases hw : ws[i]? with
    | some x => rfl
    | none =>
      rw [stepV_none, if_neg (fun z => h ⟨hw, z⟩)]
      rfl
  rcases R.step G.ne b2 hc with ⟨h1, h2, h3⟩ | ⟨h0, ⟨h1, h2⟩ | ⟨h1, h2, h3⟩⟩
  · left
    refine ⟨ws.length, by rw [h1, stepV_none, if_pos h2], Nat.le_refl _, by rw [List.getElem?_eq_none (Nat.le_refl _)]; exact h3⟩
  · left
    have hm : tailS ls (ws[i]?.getD [] ++ [(c : Int)]) ∈ ws := (G.s.mem _).mpr (tailS_isSt G.ne h1)
    have hlt := List.idxOf_lt_length_iff.mpr hm
    refine ⟨ws.idxOf (tailS ls (ws[i]?.getD [] ++ [(c : Int)])), by rw [ep h0]; unfold plc; rw [if_pos h1], Nat.le_of_lt hlt, ?_⟩
    rw [List.getElem?_eq_getElem hlt, List.getElem_idxOf hlt]
    exact h2
  · right
    exact ⟨by rw [ep h0]; unfold plc; rw [if_neg (by rw [h1]; exact Bool.false_ne_true)], h2, h3⟩
section
variable {P : Program} {w : World} {K : PySem.W.Frag} {mg : Str → Option Value} {base : Heap} {T0 C : Addr}
theorem steps_at {H : Hp} {p la b : Nat} {ls ws : List (List Int)} {L i c : Nat} (TA : TailsAt C H p la b ls ws L) (G : GoodT b ls ws) (hi : i ≤ ws.length) (hc : c < b) :
    ∃ (dx sa : Addr) (srs : List (Addr × List V)) (z : Addr × List V), H p = some (.ins C dx (fldT b ws.length sa la)) ∧ H sa = some (.lst (srs.map fun z => V.ref z.1)) ∧ atI (srs.map fun z => V.ref z.1) (i : Int) = some (V.ref z.1) ∧ H z.1 = some (.lst z.2) ∧ atI z.2 (c : Int) = some (stepV ls ws ws[i]? c) := by
  obtain ⟨dx, sa, srs, h1, h2, h3, h4⟩ := TA.ob
  have hrow := stepsV_get (ls := ls) (b := b) (by have := G.g.b2; omega) hi
  rw [← h4, List.getElem?_map] at hrow
  obtain ⟨z, hz, ez⟩ := Option.map_eq_some_iff.mp hrow
  refine ⟨dx, sa, srs, z, aw_same _ _ _ _ h1, aw_same _ _ _ _ h2, atI_nat (by rw [List.getElem?_map, hz]; rfl), aw_same _ _ _ _ (h3 z (List.mem_of_getElem? hz)), atI_nat ?_⟩
  rw [ez, List.getElem?_map, List.getElem?_range hc]
  rfl
theorem TailsAt.obj {H : Hp} {p la b : Nat} {ls ws : List (List Int)} {L : Nat} (TA : TailsAt C H p la b ls ws L) : ∃ dx sa, H p = some (.ins C dx (fldT b ws.length sa la)) := by
  obtain ⟨dx, sa, srs, h1, _⟩ := TA.ob
  exact ⟨dx, sa, aw_same _ _ _ _ h1⟩
def sp_figure_at (C : Addr) : Sp := fun vs H Q _ => ∃ (p la : Addr) (b : Nat) (ls ws : List (List Int)) (L i k t : Nat), vs = [.ref p, .int i, .int k, .int t] ∧ TailsAt C H p la b ls ws L ∧ GoodT b ls ws ∧ L ≤ 1000 ∧ t < 1000 ∧ i ≤ ws.length ∧ k < under ls b t ws[i]? b ∧
  ∀ c : Nat, c < b → under ls b t ws[i]? c ≤ k → k < under ls b t ws[i]? (c + 1) → TQ C H p la b ls ws L fun L' H' => L' ≤ 1000 → Q (.int c) H'
theorem sc_Tails_figure_at : FnScope ["self", "place", "k", "left", "figure"] ["self", "place", "k", "left"] (defScope s_Tails_figure_at) := ⟨rfl, rfl, rfl, by decide +kernel, rfl, by decide +kernel, by decide +kernel⟩
theorem ok_figure_at {f f1 : Addr} {fd fd1 : FuncData} (D : Mt K C "Tails.figure_at" "figure_at" s_Tails_figure_at ["self", "place", "k", "left"] f fd) (MTails_many_under : Mt K C "Tails.many_under" "many_under" s_Tails_many_under ["self", "place", "stop", "left"] f1 fd1) (GTails_many_under : FnOk P w K mg base CX0 3 f1 fd1 ["self", "place", "stop", "left"] (sp_many_under C)) (cTails : ClT K mg C) (T : Blt mg) : FnOk P w K mg base CX0 4 f fd ["self", "place", "k", "left"] (sp_figure_at C) := by
  refine D.fn.ok sc_Tails_figure_at (fun vs H Q E h => ?_) (fun cdv A outer s H vs Q E hr h => ?_)
  · obtain ⟨p, la, b, ls, ws, L, i, k, t, rfl, _⟩ := h; rfl
  · obtain ⟨p, la, b, ls, ws, L, i, k, t, rfl, TA, G, hL, ht, hi, hk, kk⟩ := h
    refine ⟨_, (pss_cons (ps_set (i := 4) sc_Tails_figure_at.nd rfl (Or.inl rfl) pe_int)
      (pss_cons (ps_while PassesOwn.never (pt_cmpR op_le (pmeth MTails_many_under cTails.cl GTails_many_under (hr.mono (by decide)) (pv 0) (pa_cons (pv 1) (pa_cons (pe_op op_add (pv 4) pe_int) (pa_cons (pv 3) pa_nil)))) (pv 2) (nomark _))
        (pss_one (ps_aug (i := 4) sc_Tails_figure_at.nd rfl (Or.inl rfl) pe_int ip_add)))
      (pss_one (ps_ret (pv 4))))), ?_⟩
    refine while_by (fun σ H2 => ∃ (c L' : Nat), σ = [some (.ref p), some (.int i), some (.int k), some (.int t), some (.int c)] ∧ c < b ∧ under ls b t ws[i]? c ≤ k ∧ L ≤ L' ∧ L' ≤ 1000 ∧ TailsAt C H2 p la b ls ws L' ∧ Same (aw [la] H) (aw [la] H2))
      (fun σ _ => match σ with | [_, _, _, _, some (.int c)] => b - c.toNat | _ => 0) ⟨0, L, rfl, by have := G.g.b2; omega, by rw [under_zero]; exact Nat.zero_le _, Nat.le_refl _, hL, TA, Same.refl _⟩ ?_ ?_
    · rintro σ H2 ⟨c, L', rfl, hc, hu, hLL, hL', TA2, m2⟩
      obtain ⟨dx2, sa2, hp2⟩ := TA2.obj
      refine ⟨_, rfl, p, dx2, _, rfl, hp2, fldT_no _ _ _ _ (by decide +kernel) (by decide +kernel) (by decide +kernel) (by decide +kernel), _, rfl, _, rfl, _, _, rfl, rfl, _, rfl, p, la, b, ls, ws, L', i, c + 1, t, rfl, TA2, G, hL', ht, hi, by omega, fun L3 H3 hL3 TA3 m3 hmx => ?_⟩
      refine ⟨_, rfl, _, _, rfl, rfl, _, rfl, ?_⟩
      refine ite2 (fun h1 => ?_) (fun h1 => ?_)
      · have h1' : under ls b t ws[i]? (c + 1) ≤ k := by have := of_decide_eq_true h1; omega
        have hcb : c + 1 < b := by
          by_cases z : c + 1 < b
          · exact z
          · rw [show c + 1 = b by omega] at h1'; omega
        refine ⟨_, rfl, _, _, rfl, rfl, ⟨c + 1, L3, rfl, hcb, h1', by omega, by omega, TA3, m2.trans m3⟩, ?_⟩
        show b - ((c : Int) + 1).toNat < b - (c : Int).toNat
        omega
      · have h1' : k < under ls b t ws[i]? (c + 1) := by
          by_cases z : k < under ls b t ws[i]? (c + 1)
          · exact z
          · exact absurd (decide_eq_true (by omega : ((under ls b t ws[i]? (c + 1) : Nat) : Int) ≤ k)) h1
        exact ⟨_, rfl, kk c hc hu h1' L3 H3 (by omega) TA3 (m2.trans m3) (by omega)⟩
    · intro σ H2 Q Q' hq
      rintro ⟨v0, e0, a, dx, fs, h1, h2, h3, v1, e1, v4, e4, i4, j4, e5, e6, v3, e3, p', la', b', ls', ws', L', i', s', t', g1, g2, g3, g4, g5, g6, g7, g8⟩
      exact ⟨v0, e0, a, dx, fs, h1, h2, h3, v1, e1, v4, e4, i4, j4, e5, e6, v3, e3, p', la', b', ls', ws', L', i', s', t', g1, g2, g3, g4, g5, g6, g7, fun L2 H3 a1 a2 a3 a4 => by
        obtain ⟨v2, e2, i2, j2, e7, e8, k2, e9, q⟩ := g8 L2 H3 a1 a2 a3 a4
        exact ⟨v2, e2, i2, j2, e7, e8, k2, e9, hq _ _ q⟩⟩
def sp_number_at (C : Addr) : Sp := fun vs H Q _ => ∃ (p la : Addr) (b : Nat) (ls ws : List (List Int)) (L sz k : Nat), vs = [.ref p, .int sz, .int k] ∧ TailsAt C H p la b ls ws L ∧ GoodT b ls ws ∧ L ≤ 1000 ∧ sz < 1000 ∧ k < many (gd ls b) (b ^ sz) ∧
  ∀ n : Nat, gd ls b n = true → many (gd ls b) n = k → n < b ^ sz → TQ C H p la b ls ws L fun L' H' => L' ≤ 1000 → Q (.int n) H'
theorem sc_Tails_number_at : FnScope ["self", "size", "k", "place", "n", "left", "figure"] ["self", "size", "k"] (defScope s_Tails_number_at) := ⟨rfl, rfl, rfl, by decide +kernel, rfl, by decide +kernel, by decide +kernel⟩
theorem ok_number_at {f f1 f2 : Addr} {fd fd1 fd2 : FuncData} (D : Mt K C "Tails.number_at" "number_at" s_Tails_number_at ["self", "size", "k"] f fd) (MTails_many_under : Mt K C "Tails.many_under" "many_under" s_Tails_many_under ["self", "place", "stop", "left"] f1 fd1) (GTails_many_under : FnOk P w K mg base CX0 3 f1 fd1 ["self", "place", "stop", "left"] (sp_many_under C))
    (MTails_figure_at : Mt K C "Tails.figure_at" "figure_at" s_Tails_figure_at ["self", "place", "k", "left"] f2 fd2) (GTails_figure_at : FnOk P w K mg base CX0 4 f2 fd2 ["self", "place", "k", "left"] (sp_figure_at C)) (cTails : ClT K mg C) (T : Blt mg) : FnOk P w K mg base CX0 5 f fd ["self", "size", "k"] (sp_number_at C) := by
  refine D.fn.ok sc_Tails_number_at (fun vs H Q E h => ?_) (fun cdv A outer s H vs Q E hr h => ?_)
  · obtain ⟨p, la, b, ls, ws, L, sz, k, rfl, _⟩ := h; rfl
  · obtain ⟨p, la, b, ls, ws, L, sz, k, rfl, TA, G, hL, hsz, hk, kk⟩ := h
    have b2 := G.g.b2
    have b16 := G.g.b16
    obtain ⟨dx0, sa0, hp0⟩ := TA.obj
    refine ⟨_, (pss_cons (ps_set (i := 3) sc_Tails_number_at.nd rfl (Or.inl rfl) (k_fld K (pv 0)))
      (pss_cons (ps_set (i := 4) sc_Tails_number_at.nd rfl (Or.inl rfl) pe_int)
      (pss_cons (ps_for PassesOwn.never rfl (pi_rangeD rfl T.n_range (pa_cons (pe_op op_sub (pv 1) pe_int) (pa_cons (pe_un un_neg pe_int) (pa_cons (pe_un un_neg pe_int) pa_nil)))) (pg_name (i := 5) sc_Tails_number_at.nd rfl (Or.inl rfl))
        (pss_cons (ps_set (i := 6) sc_Tails_number_at.nd rfl (Or.inl rfl) (pmeth MTails_figure_at cTails.cl GTails_figure_at (hr.mono (by decide)) (pv 0) (pa_cons (pv 3) (pa_cons (pv 2) (pa_cons (pv 5) pa_nil)))))
        (pss_cons (ps_aug (i := 2) sc_Tails_number_at.nd rfl (Or.inl rfl) (pmeth MTails_many_under cTails.cl GTails_many_under (hr.mono (by decide)) (pv 0) (pa_cons (pv 3) (pa_cons (pv 6) (pa_cons (pv 5) pa_nil)))) ip_sub)
        (pss_cons (ps_set (i := 3) sc_Tails_number_at.nd rfl (Or.inl rfl) (pe_ix (k_ixL K) (pe_ix (k_ixL K) (k_fld K (pv 0)) (pv 3) (fun _ _ => rfl)) (pv 6) (fun _ _ => rfl)))
        (pss_one (ps_set (i := 4) sc_Tails_number_at.nd rfl (Or.inl rfl) (pe_op op_add (pe_op op_mul (pv 4) (k_fld K (pv 0))) (pv 6))))))))
      (pss_one (ps_ret (pv 4)))))), ?_⟩
    refine ⟨_, rfl, p, C, dx0, _, _, rfl, hp0, cTails.cl, cTails.n_outset, fldT_outset _ _ _ _, ?_⟩
    refine ⟨_, rfl, _, _, rfl, rfl, _, rfl, _, rfl, ((sz : Int) - 1), rfl, by omega, by omega, ?_⟩
    rw [show ((sz : Int) - 1 + 1).toNat = sz by omega]
    refine for_rangeS (lo := (sz : Int) - 1) (c := -1) (n := sz) (fun j σ H2 => ∃ (v5 v6 : Option V) (i m L' : Nat), σ = [some (.ref p), some (.int sz), some (.int ((k : Int) - (many (gd ls b) (m * b ^ (sz - j)) : Nat))), some (.int i), some (.int m), v5, v6] ∧ i ≤ ws.length ∧ Rep ls b m ws[i]? ∧ many (gd ls b) (m * b ^ (sz - j)) ≤ k ∧ k < many (gd ls b) ((m + 1) * b ^ (sz - j)) ∧ L ≤ L' ∧ L' ≤ 1000 ∧ TailsAt C H2 p la b ls ws L' ∧ Same (aw [la] H) (aw [la] H2)) ⟨none, none, ws.length, 0, L, ?_, Nat.le_refl _, ?_, ?_, ?_, Nat.le_refl _, hL, TA, Same.refl _⟩ ?_ ?_
    · rw [Nat.zero_mul]
      show [_, _, some (V.int k), _, _, _, _] = [_, _, some (V.int ((k : Int) - ((0 : Nat) : Int))), _, _, _, _]
      rw [Int.natCast_zero, Int.sub_zero]
    · rw [List.getElem?_eq_none (Nat.le_refl _)]; exact .inl ⟨rfl, rfl⟩
    · rw [Nat.zero_mul]; exact Nat.zero_le _
    · rw [Nat.sub_zero, Nat.zero_add, Nat.one_mul]; exact hk
    · rintro j σ H2 hj ⟨v5, v6, i, m, L', rfl, hi, R, hlo, hhi, hLL, hL', TA2, m2⟩
      obtain ⟨t, ht⟩ : ∃ t, sz - j = t + 1 := ⟨sz - j - 1, by omega⟩
      rw [ht] at hlo hhi ⊢
      have elft : ((sz : Int) - 1 + (j : Int) * (-1)) = (t : Int) := by omega
      rw [elft]
      have eb := under_many G.ne b2 R t (s := b) (Nat.le_refl _)
      have eb2 : (m * b + b) * b ^ t = (m + 1) * b ^ (t + 1) := by rw [Nat.pow_succ', ← Nat.mul_assoc, Nat.succ_mul]
      rw [eb2] at eb
      obtain ⟨k', hk'⟩ : ∃ k', k = many (gd ls b) (m * b ^ (t + 1)) + k' := ⟨k - many (gd ls b) (m * b ^ (t + 1)), by omega⟩
      have ek : ((k : Int) - (many (gd ls b) (m * b ^ (t + 1)) : Nat)) = (k' : Int) := by omega
      rw [ek]
      obtain ⟨dx2, sa2, hp2⟩ := TA2.obj
      refine ⟨_, rfl, p, dx2, _, rfl, hp2, fldT_no _ _ _ _ (by decide +kernel) (by decide +kernel) (by decide +kernel) (by decide +kernel), _, rfl, _, rfl, _, rfl, p, la, b, ls, ws, L', i, k', t, rfl, TA2, G, hL', by omega, hi, by omega, fun c hc hu1 hu2 L3 H3 hL3 TA3 m3 hL3' => ?_⟩
      obtain ⟨dx3, sa3, hp3⟩ := TA3.obj
      refine ⟨_, rfl, _, rfl, p, dx3, _, rfl, hp3, fldT_no _ _ _ _ (by decide +kernel) (by decide +kernel) (by decide +kernel) (by decide +kernel), _, rfl, _, rfl, _, rfl, p, la, b, ls, ws, L3, i, c, t, rfl, TA3, G, hL3', by omega, hi, by omega, fun L4 H4 hL4 TA4 m4 hmx => ⟨_, _, rfl, rfl, ?_⟩⟩
      have m24 := m2.trans (m3.trans m4)
      obtain ⟨dx4, sa4, srs4, z4, q1, q2, q3, q4, q5⟩ := steps_at TA4 G hi hc
      refine ⟨_, rfl, p, C, dx4, _, _, rfl, q1, cTails.cl, cTails.n_steps, fldT_steps _ _ _ _, _, rfl, sa4, _, _, _, rfl, rfl, SqL.of q2, q3, _, rfl, z4.1, _, _, _, rfl, rfl, SqL.of q4, q5, ?_⟩
      refine ⟨_, rfl, _, rfl, p, C, dx4, _, _, rfl, q1, cTails.cl, cTails.n_base, fldT_base _ _ _ _, _, _, rfl, rfl, .inr ⟨by omega, by omega⟩, _, rfl, _, _, rfl, rfl, ?_⟩
      have e1 := under_many G.ne b2 R t (s := c) (by omega)
      have e2 := under_many G.ne b2 R t (s := c + 1) (by omega)
      have hlo' : many (gd ls b) ((m * b + c) * b ^ t) ≤ k := by omega
      have hhi' : k < many (gd ls b) ((m * b + c + 1) * b ^ t) := by
        rw [show m * b + c + 1 = m * b + (c + 1) by omega]; omega
      rcases stepV_rep G hi R hc with ⟨j', f1, f2, f3⟩ | ⟨f1, f2, f3⟩
      · rw [f1]
        refine ⟨some (.int t), some (.int c), j', m * b + c, L4, ?_, f2, f3, ?_, ?_, by omega, by omega, TA4, m24⟩
        · rw [show sz - (j + 1) = t by omega]
          show [_, _, some (V.int ((k' : Int) - (under ls b t ws[i]? c : Nat))), some (V.int (j' : Nat)), some (V.int ((m : Int) * b + c)), _, _] = [_, _, some (V.int ((k : Int) - (many (gd ls b) ((m * b + c) * b ^ t) : Nat))), some (V.int (j' : Nat)), some (V.int ((m * b + c : Nat) : Int)), _, _]
          rw [show ((k' : Int) - (under ls b t ws[i]? c : Nat)) = ((k : Int) - (many (gd ls b) ((m * b + c) * b ^ t) : Nat)) by omega, Int.natCast_add, Int.natCast_mul]
        · rw [show sz - (j + 1) = t by omega]; exact hlo'
        · rw [show sz - (j + 1) = t by omega]; exact hhi'
      · exfalso
        have eb3 := bad_on G.ne b2 f2 f3 t (r := b ^ t) (Nat.le_refl _)
        rw [← Nat.succ_mul] at eb3
        have : (m * b + c).succ = m * b + c + 1 := rfl
        rw [this] at eb3
        omega
    · rintro σ H2 ⟨v5, v6, i, m, L', rfl, hi, R, hlo, hhi, hLL, hL', TA2, m2⟩
      rw [Nat.sub_self, Nat.pow_zero, Nat.mul_one] at hlo hhi
      have hg : gd ls b m = true := by
        cases e : gd ls b m with
        | true => rfl
        | false =>
          have : many (gd ls b) (m + 1) = many (gd ls b) m := by rw [many, e]; rfl
          omega
      have em : many (gd ls b) m = k := by
        have : many (gd ls b) (m + 1) = many (gd ls b) m + 1 := by rw [many, if_pos hg]
        omega
      refine ⟨_, rfl, kk m hg em ?_ L' H2 hLL TA2 m2 hL'⟩
      by_cases z : m < b ^ sz
      · exact z
      · have := many_mono (gd ls b) (show b ^ sz ≤ m by omega)
        omega
end
end Lw
set_option Elab.async false
set_option linter.all false
set_option maxRecDepth 100000
namespace Lw
open PySem L2 PyProof.Rows
theorem LT.off {T la : Addr} {H H' : Hp} {xs : List V} (h : LT T H) (hla : H la = some (.lst xs)) (m : Same (aw [la] H) (aw [la] H')) : LT T H' := by
  have go : ∀ c o, c ≠ la → H c = some o → H' c = some o := fun c o hc e => by
    have hc' : c ∉ [la] := by simpa using hc
    have := m c o (by rw [aw_out hc']; exact e)
    rwa [aw_out hc'] at this
  have n0 : T ≠ la := Ne.symm (h.lst hla)
  rcases h with h | ⟨c, h1, h2⟩
  · exact .inl (go _ _ n0 h)
  · refine .inr ⟨c, go _ _ n0 h1, go _ _ (fun z => ?_) h2⟩
    rw [z, hla] at h2
    cases h2
theorem rep_one {α : Type} {f : α → V} (h : ∀ a, f a = V.int 1) : ∀ l : List α, (List.replicate l.length [V.int 1]).flatten = l.map f
  | [] => rfl
  | a :: l => by rw [List.length_cons, List.replicate_succ, List.flatten_cons, rep_one h l, List.map_cons, h a]; rfl
section
variable {P : Program} {w : World} {K : PySem.W.Frag} {mg : Str → Option Value} {base : Heap} {T0 C : Addr}
def sp_tails (T0 C : Addr) : Sp := fun vs H Q _ => ∃ (p dx r : Addr) (b : Nat) (bl : Addr) (zs : List (Addr × List Int)), vs = [.ref p, .ref r] ∧ H p = some (.ins C dx []) ∧ RuleAt H r b bl zs ∧ GoodRule b (zs.map (·.2)) ∧ LT T0 H ∧
  ∀ (la : Addr) (ws : List (List Int)) (H' : Hp), TailsAt C H' p la b (zs.map (·.2)) ws 1 → GoodT b (zs.map (·.2)) ws → (∀ c o, c ≠ p → c ≠ T0 → H c = some o → H' c = some o) → LT T0 H' → H la = none → Q .non H'
theorem sc_Tails___init__ : FnScope ["self", "rule", "stands"] ["self", "rule"] (defScope s_Tails___init__) := ⟨rfl, rfl, rfl, by decide +kernel, rfl, by decide +kernel, by decide +kernel⟩
theorem ok_tails {f f1 f2 f3 : Addr} {fd fd1 fd2 fd3 : FuncData} (D : Mt K C "Tails.__init__" "__init__" s_Tails___init__ ["self", "rule"] f fd) (Dstands_of : Df K mg "stands_of" s_stands_of ["bad"] f1 fd1) (Gstands_of : FnOk P w K mg base CX0 6 f1 fd1 ["bad"] (sp_stands_of T0)) (Dall_steps : Df K mg "all_steps" s_all_steps ["rule", "stands"] f2 fd2) (Gall_steps : FnOk P w K mg base CX0 6 f2 fd2 ["rule", "stands"] sp_all_steps)
    (Dlacks_all : Df K mg "lacks_all" s_lacks_all ["bad", "figures"] f3 fd3) (Glacks_all : FnOk P w K mg base CX0 2 f3 fd3 ["bad", "figures"] sp_lacks_all) (cTails : ClT K mg C) (T : Blt mg) : FnOk P w K mg base CX0 7 f fd ["self", "rule"] (sp_tails T0 C) := by
  refine D.fn.ok sc_Tails___init__ (fun vs H Q E h => ?_) (fun cdv A outer s H vs Q E hr h => ?_)
  · obtain ⟨p, dx, r, b, bl, zs, rfl, _⟩ := h; rfl
  · obtain ⟨p, dx, r, b, bl, zs, rfl, hp, R, g, hT, kk⟩ := h
    have h4 : zs.length ≤ 4 := by have := g.len; rwa [List.length_map] at this
    have gz : ∀ z ∈ zs, z.2 ≠ [] ∧ z.2.length ≤ 4 := fun z hz => ⟨(g.st _ (List.mem_map.mpr ⟨z, hz, rfl⟩)).ne, (g.st _ (List.mem_map.mpr ⟨z, hz, rfl⟩)).len⟩
    have npT : p ≠ T0 := fun z => by
      rw [z] at hp
      rcases hT with h | ⟨c, h, _⟩
      · rw [h] at hp; cases hp
      · rw [h] at hp; cases hp
    refine ⟨_, (pss_cons (ps_set (i := 2) sc_Tails___init__.nd rfl (Or.inl rfl) (pcall Dstands_of Gstands_of (hr.mono (by decide)) (pa_cons (pe_ix (k_ixT K) (pv 1) pe_int (fun _ _ => rfl)) pa_nil)))
      (pss_cons (ps_fld (pv 0) (pe_ix (k_ixT K) (pv 1) pe_int (fun _ _ => rfl)) rfl)
      (pss_cons (ps_fld (pv 0) (pe_callB (k_len K) (by rfl) T.n_len PySem.boot_len (pa_cons (pv 2) pa_nil)) rfl)
      (pss_cons (ps_fld (pv 0) (pcall Dall_steps Gall_steps (hr.mono (by decide)) (pa_cons (pv 1) (pa_cons (pv 2) pa_nil))) rfl)
      (pss_one (ps_fld (pv 0) (pe_lst (pa_cons (pe_op op_cat (pe_op op_rep (pe_lst (pa_cons pe_int pa_nil)) (pe_callB (k_len K) (by rfl) T.n_len PySem.boot_len (pa_cons (pv 2) pa_nil))) (pe_lst (pa_cons (pe_ifExp (pt_val (pcall Dlacks_all Glacks_all (hr.mono (by decide)) (pa_cons (pe_ix (k_ixT K) (pv 1) pe_int (fun _ _ => rfl)) (pa_cons (pe_lst (pa_cons pe_int pa_nil)) pa_nil)))) pe_int pe_int) pa_nil))) pa_nil)) rfl)))))), ?_⟩
    refine ⟨_, rfl, r, _, _, V.ref bl, rfl, rfl, SqT.of R.tu, rfl, bl, zs, rfl, R.li, R.st, h4, gz, hT, fun Dd ws H1 hDn hD hws SL h13 mL hT1 => ?_⟩
    have R1 : RuleAt H1 r b bl zs := ⟨mL _ _ (hT.tup R.tu) R.tu, mL _ _ (hT.lst R.li) R.li, fun z hz => mL _ _ (hT.lst (R.st z hz)) (R.st z hz)⟩
    have hp1 := mL _ _ npT hp
    have rp : r ≠ p := ne_of R1.tu hp1 (fun z => nomatch z)
    have lp : ∀ {c : Addr} {xs : List V}, H1 c = some (.lst xs) → c ≠ p := fun h => ne_of h hp1 (fun z => nomatch z)
    refine ⟨_, rfl, r, _, _, V.int b, rfl, rfl, SqT.of R1.tu, rfl, _, rfl, p, C, dx, _, rfl, hp1, cTails.cl, cTails.n_base, (by show 0 < 1000; decide), ?_⟩
    refine ⟨_, rfl, Dd, _, rfl, .inl (SqL.of (by rw [upd_ne (lp hD)]; exact hD)), _, rfl, p, C, dx, _, rfl, upd_same, cTails.cl, cTails.n_outset, (by show 1 < 1000; decide), ?_⟩
    rw [upd_upd, List.length_map]
    generalize hH3 : upd H1 p (.ins C dx (putF "outset" (.int (ws.length : Nat)) (putF "base" (.int b) []))) = H3
    have m3 : ∀ c o, c ≠ p → H1 c = some o → H3 c = some o := fun c o hc e => by rw [← hH3, upd_ne hc]; exact e
    have hp3 : H3 p = some (.ins C dx (putF "outset" (.int (ws.length : Nat)) (putF "base" (.int b) []))) := by rw [← hH3, upd_same]
    have R3 : RuleAt H3 r b bl zs := ⟨m3 _ _ rp R1.tu, m3 _ _ (lp R1.li) R1.li, fun z hz => m3 _ _ (lp (R1.st z hz)) (R1.st z hz)⟩
    refine ⟨_, rfl, _, rfl, r, b, bl, zs, Dd, ws, rfl, R3, g, m3 _ _ (lp hD) hD, fun z hz => m3 _ _ (lp (hws z hz).2.1) (hws z hz).2.1, SL, h13, fun sa srs H4 hsa m4 hsal hsrs hsr2 => ?_⟩
    have hp4 := m4 _ _ hp3
    have len2 : (putF "outset" (.int (ws.length : Nat)) (putF "base" (.int b) [])).length ≤ 2 := Nat.le_trans (length_putF _ _ _) (Nat.succ_le_succ (length_putF _ _ _))
    refine ⟨_, rfl, p, C, dx, _, rfl, hp4, cTails.cl, cTails.n_steps, by omega, ?_⟩
    generalize hH5 : upd H4 p (.ins C dx (putF "steps" (.ref sa) (putF "outset" (.int (ws.length : Nat)) (putF "base" (.int b) [])))) = H5
    have m5 : ∀ c o, c ≠ p → H4 c = some o → H5 c = some o := fun c o hc e => by rw [← hH5, upd_ne hc]; exact e
    have hp5 : H5 p = some (.ins C dx (putF "steps" (.ref sa) (putF "outset" (.int (ws.length : Nat)) (putF "base" (.int b) [])))) := by rw [← hH5, upd_same]
    have lp4 : ∀ {c : Addr} {xs : List V}, H4 c = some (.lst xs) → c ≠ p := fun h => ne_of h hp4 (fun z => nomatch z)
    have R4 := R3.same m4
    have R5 : RuleAt H5 r b bl zs := ⟨m5 _ _ (ne_of R4.tu hp4 (fun z => nomatch z)) R4.tu, m5 _ _ (lp4 R4.li) R4.li, fun z hz => m5 _ _ (lp4 (R4.st z hz)) (R4.st z hz)⟩
    have hD5 : H5 Dd = some (.lst (ws.map fun z => V.ref z.1)) := m5 _ _ (lp4 (m4 _ _ (m3 _ _ (lp hD) hD))) (m4 _ _ (m3 _ _ (lp hD) hD))
    refine ⟨(by show 1 ≤ sizeLine; decide), fun q1 n1 => ?_⟩
    refine ⟨_, rfl, Dd, _, rfl, .inl (SqL.of (same_upd n1 _ _ hD5)), ?_⟩
    rw [List.length_map]
    refine ⟨q1, _, _, rfl, rfl, upd_same, by omega, by omega, ?_, fun q2 n2 => ?_⟩
    · show 1 * (ws.length : Int).toNat ≤ sizeLine
      exact Nat.le_trans (show 1 * (ws.length : Int).toNat ≤ 13 by omega) (by decide)
    have s1 := same_upd n1 (o := .lst [V.int 1])
    have s2 := s1.trans (same_upd n2 (o := .lst (List.replicate (ws.length : Int).toNat [V.int 1]).flatten))
    have R6 := R5.same s2
    refine ⟨_, rfl, r, _, _, V.ref bl, rfl, rfl, SqT.of R6.tu, rfl, (by show 1 ≤ sizeLine; decide), fun q3 n3 => ?_⟩
    have s3 := s2.trans (same_upd n3 (o := .lst [V.int 0]))
    have R7 := R5.same s3
    refine ⟨bl, q3, zs, [0], rfl, R7.li, R7.st, upd_same, by omega, by decide, fun z hz => ⟨(gz z hz).1, Nat.le_trans (gz z hz).2 (by decide)⟩, fun H8 s8 => ⟨_, rfl, ?_⟩⟩
    have s38 := s3.trans s8
    have fin : ∀ x : Int, x = ((cntO (zs.map (·.2)) b 0 : Nat) : Int) → ∀ q4, H8 q4 = none → q2 ≠ q4 → ∀ q5, upd H8 q4 (.lst [V.int x]) q5 = none → ∀ q6, upd (upd H8 q4 (.lst [V.int x])) q5 (.lst ((List.replicate (ws.length : Int).toNat [V.int 1]).flatten ++ [V.int x])) q6 = none →
        Q .non (upd (upd (upd (upd H8 q4 (.lst [V.int x])) q5 (.lst ((List.replicate (ws.length : Int).toNat [V.int 1]).flatten ++ [V.int x]))) q6 (.lst [V.ref q5])) p (.ins C dx (putF "layers" (.ref q6) (putF "steps" (.ref sa) (putF "outset" (.int (ws.length : Nat)) (putF "base" (.int b) [])))))) := by
      intro x hx q4 n4 _ q5 n5 q6 n6
      have t4 := same_upd n4 (o := .lst [V.int x])
      have t5 := same_upd n5 (o := .lst ((List.replicate (ws.length : Int).toNat [V.int 1]).flatten ++ [V.int x]))
      have t6 := same_upd n6 (o := .lst [V.ref q5])
      have t46 := t4.trans (t5.trans t6)
      have s56 := s38.trans t46
      have hp9 := s56 _ _ hp5
      have f5 : ∀ c, H5 c = none → H c = none := fun c hc => by
        have h5 : H4 c = none := by
          rw [← hH5] at hc
          by_cases z : c = p
          · subst z; rw [upd_same] at hc; cases hc
          · rwa [upd_ne z] at hc
        have h3' : H3 c = none := m4.free h5
        have h1' : H1 c = none := by
          rw [← hH3] at h3'
          by_cases z : c = p
          · subst z; rw [upd_same] at h3'; cases h3'
          · rwa [upd_ne z] at h3'
        cases e : H c with
        | none => rfl
        | some o =>
          by_cases z : c = T0
          · subst z
            exact absurd h1' (by
              rcases hT1 with h | ⟨d, h, _⟩
              · rw [h]; simp
              · rw [h]; simp)
          · rw [mL c o z e] at h1'; cases h1'
      have q6H5 : H5 q6 = none := (s38.trans (t4.trans t5)).free n6
      have q6p : q6 ≠ p := fun z => by rw [z, hp5] at q6H5; cases q6H5
      have np5 : q5 ≠ q6 := fun z => by rw [← z, upd_same] at n6; cases n6
      generalize hH9 : upd (upd (upd H8 q4 (.lst [V.int x])) q5 (.lst ((List.replicate (ws.length : Int).toNat [V.int 1]).flatten ++ [V.int x]))) q6 (.lst [V.ref q5]) = H9 at t6 t46 s56 hp9
      have hq6 : H9 q6 = some (.lst [V.ref q5]) := by rw [← hH9, upd_same]
      have hq5 : H9 q5 = some (.lst ((List.replicate (ws.length : Int).toNat [V.int 1]).flatten ++ [V.int x])) := by rw [← hH9, upd_ne np5, upd_same]
      have q5p : q5 ≠ p := ne_of hq5 hp9 (fun z => nomatch z)
      have off : ∀ c o, c ≠ p → H5 c = some o → aw [q6] (upd H9 p (.ins C dx (fldT b ws.length sa q6))) c = some o := fun c o hc e => by
        have hcq : c ≠ q6 := ne_of_none e q6H5
        rw [aw_out (by simpa using hcq), upd_ne hc]
        exact s56 c o e
      have sa4 : H4 sa = some (.lst (srs.map fun z => V.ref z.1)) := hsal
      have l1 : ∀ {c : Addr} {xs : List V}, H4 c = some (.lst xs) → H5 c = some (.lst xs) ∧ c ≠ p := fun h => ⟨m5 _ _ (lp4 h) h, lp4 h⟩
      refine kk q6 (ws.map (·.2)) _ ⟨⟨dx, sa, srs, ?_, off _ _ (l1 hsal).2 (l1 hsal).1, fun z hz => off _ _ (l1 (hsrs z hz).2).2 (l1 (hsrs z hz).2).1, hsr2⟩, ⟨[(q5, layerV (zs.map (·.2)) (ws.map (·.2)) b 0)], by rw [upd_ne q6p]; exact hq6, fun z hz => ?_, rfl⟩, Nat.le_refl _⟩ ⟨g, SL, by rw [List.length_map]; exact h13⟩ (fun c o hc hcT e => ?_) ?_ (f5 _ q6H5)
      · rw [aw_out (by simpa using Ne.symm q6p), List.length_map]
        exact upd_same
      · have e : z = (q5, layerV (zs.map (·.2)) (ws.map (·.2)) b 0) := by simpa using hz
        subst e
        rw [aw_out (by simpa using np5), upd_ne q5p, hq5]
        congr 2
        unfold layerV
        rw [List.map_append, hx, Int.toNat_natCast, List.map_map, List.map_map]
        rw [rep_one (fun _ => rfl) ws]
        rfl
      · rw [upd_ne hc]
        have h1 := mL c o hcT e
        exact s56 c o (m5 c o hc (m4 c o (m3 c o hc h1)))
      · have a1 : LT T0 H3 := by
          rcases hT1 with h | ⟨d, h1, h2⟩
          · exact .inl (m3 _ _ (Ne.symm npT) h)
          · exact .inr ⟨d, m3 _ _ (Ne.symm npT) h1, m3 _ _ (ne_of h2 hp1 (fun z => nomatch z)) h2⟩
        have a2 := a1.same m4
        have a3 : LT T0 H5 := by
          rcases a2 with h | ⟨d, h1, h2⟩
          · exact .inl (m5 _ _ (Ne.symm npT) h)
          · exact .inr ⟨d, m5 _ _ (Ne.symm npT) h1, m5 _ _ (ne_of h2 hp4 (fun z => nomatch z)) h2⟩
        have a4 := a3.same s56
        rcases a4 with h | ⟨d, h1, h2⟩
        · exact .inl (by rw [upd_ne (Ne.symm npT)]; exact h)
        · exact .inr ⟨d, by rw [upd_ne (Ne.symm npT)]; exact h1, by rw [upd_ne (ne_of h2 hp9 (fun z => nomatch z))]; exact h2⟩
    have hq2 : H8 q2 = some (.lst (List.replicate (ws.length : Int).toNat [V.int 1]).flatten) := s8 _ _ (same_upd n3 _ _ upd_same)
    have lenr : (List.replicate (ws.length : Int).toNat [V.int 1]).flatten.length ≤ 13 := by rw [Int.toNat_natCast, rep_one (f := fun _ => V.int 1) (fun _ => rfl) ws, List.length_map]; exact h13
    have len3 : (putF "steps" (.ref sa) (putF "outset" (.int (ws.length : Nat)) (putF "base" (.int b) []))).length ≤ 3 := Nat.le_trans (length_putF _ _ _) (Nat.succ_le_succ len2)
    have tail : ∀ x : Int, x = ((cntO (zs.map (·.2)) b 0 : Nat) : Int) → ∀ q4, H8 q4 = none → ∃ l b' xs zs', V.ref q2 = V.ref l ∧ V.ref q4 = V.ref b' ∧ upd H8 q4 (.lst [V.int x]) l = some (.lst xs) ∧ upd H8 q4 (.lst [V.int x]) b' = some (.lst zs') ∧ xs.length + zs'.length ≤ sizeLine ∧ ∀ q5, upd H8 q4 (.lst [V.int x]) q5 = none →
        1 ≤ sizeLine ∧ ∀ q6, upd (upd H8 q4 (.lst [V.int x])) q5 (.lst (xs ++ zs')) q6 = none → ∃ v, some (some (V.ref p)) = some (some v) ∧ ∃ a C' dx' fs, v = .ref a ∧ upd (upd (upd H8 q4 (.lst [V.int x])) q5 (.lst (xs ++ zs'))) q6 (.lst [V.ref q5]) a = some (.ins C' dx' fs) ∧ Cls K C' ∧ NoAttr K C' "layers" ∧ fs.length < 1000 ∧ Q .non (upd (upd (upd (upd H8 q4 (.lst [V.int x])) q5 (.lst (xs ++ zs'))) q6 (.lst [V.ref q5])) a (.ins C' dx' (putF "layers" (.ref q6) fs))) := by
      intro x hx q4 n4
      have nq : q2 ≠ q4 := ne_of_none hq2 n4
      refine ⟨q2, q4, _, _, rfl, rfl, by rw [upd_ne nq]; exact hq2, upd_same, Nat.le_trans (Nat.add_le_add lenr (Nat.le_refl 1)) (by decide), fun q5 n5 => ⟨(by decide), fun q6 n6 => ?_⟩⟩
      have hp8 := s38 _ _ hp5
      exact ⟨_, rfl, p, C, dx, _, rfl, (same_upd n4).trans ((same_upd n5).trans (same_upd n6)) _ _ hp8, cTails.cl, cTails.n_layers, by omega, fin x hx q4 n4 nq q5 n5 q6 n6⟩
    cases hlk : lacks (zs.map (·.2)) [0] with
    | true =>
      refine iteT ?_
      refine ⟨(by show 1 ≤ sizeLine; decide), fun q4 n4 => ?_⟩
      exact tail 1 (by unfold cntO; rw [hlk]; rfl) q4 n4
    | false =>
      refine iteF ?_
      refine ⟨(by show 1 ≤ sizeLine; decide), fun q4 n4 => ?_⟩
      exact tail 0 (by unfold cntO; rw [hlk]; rfl) q4 n4
def sp_are_endless (C : Addr) : Sp := fun vs H Q _ => ∃ (p la : Addr) (b : Nat) (ls ws : List (List Int)) (L : Nat), vs = [.ref p] ∧ TailsAt C H p la b ls ws L ∧ GoodT b ls ws ∧ L ≤ 1000 ∧ TQ C H p la b ls ws L fun L' H' => L' ≤ 1000 → Q (.bl (decide (cntO ls b ws.length < cntO ls b (ws.length + 1)))) H'
end
end Lw
set_option Elab.async false
set_option linter.all false
set_option maxRecDepth 100000
namespace Lw
open PySem L2 PyProof.Rows
theorem mk_same {H : Hp} {x dx : Addr} {C : Addr} (nx : H x = none) (ndx : H dx = none) : Same H (upd (upd H dx (.own x)) x (.ins C dx [])) := fun b o e => by
  rw [upd_ne (ne_of_none e nx), upd_ne (ne_of_none e ndx)]
  exact e
theorem RuleAt.sameL {T0 r bl : Addr} {H H' : Hp} {b : Nat} {zs : List (Addr × List Int)} (R : RuleAt H r b bl zs) (hT : LT T0 H) (m : SameL T0 H H') : RuleAt H' r b bl zs :=
  ⟨m _ _ (hT.tup R.tu) R.tu, m _ _ (hT.lst R.li) R.li, fun z hz => m _ _ (hT.lst (R.st z hz)) (R.st z hz)⟩
theorem sameL_off {T0 la : Addr} {H H1 H2 : Hp} (m : SameL T0 H H1) (hla : H la = none) (a : Same (aw [la] H1) (aw [la] H2)) : SameL T0 H H2 := fun c o hc e => by
  have hcl : c ∉ [la] := by simpa using ne_of_none e hla
  have := a c o (by rw [aw_out hcl]; exact m c o hc e)
  rwa [aw_out hcl] at this
theorem TailsAt.la {C p la b : Nat} {H : Hp} {ls ws : List (List Int)} {L : Nat} (TA : TailsAt C H p la b ls ws L) : ∃ xs, H la = some (.lst xs) := let ⟨_, h, _⟩ := TA.ly; ⟨_, h⟩
section
variable {P : Program} {w : World} {K : PySem.W.Frag} {mg : Str → Option Value} {base : Heap} {T0 C : Addr}
def MadeT (T0 C : Addr) (b : Nat) (ls : List (List Int)) (H : Hp) (x : Addr) (H' : Hp) : Prop := ∃ (la : Addr) (ws : List (List Int)), TailsAt C H' x la b ls ws 1 ∧ GoodT b ls ws ∧ SameL T0 H H' ∧ LT T0 H' ∧ H la = none
theorem made_of {r : Addr} {b : Nat} {bl : Addr} {zs : List (Addr × List Int)} {H : Hp} (R : RuleAt H r b bl zs) (g : GoodRule b (zs.map (·.2))) (hT : LT T0 H) {R' : Addr → Hp → Prop} (k : ∀ x H', MadeT T0 C b (zs.map (·.2)) H x H' → R' x H') :
    ∀ x dx, H x = none → H dx = none → dx ≠ x → sp_tails T0 C (.ref x :: ([.ref r] ++ [])) (upd (upd H dx (.own x)) x (.ins C dx [])) (fun v H2 => v = .non ∧ R' x H2) E0 := by
  intro x dx nx ndx nex
  have s0 := mk_same (C := C) nx ndx
  refine ⟨x, dx, r, b, bl, zs, rfl, upd_same, R.same s0, g, hT.same s0, fun la ws H' TA G fr hT' hla => ⟨rfl, k x H' ⟨la, ws, TA, G, fun c o hc e => fr c o (ne_of_none e nx) hc (s0 c o e), hT', s0.free hla⟩⟩⟩
theorem sc_Tails_are_endless : FnScope ["self"] ["self"] (defScope s_Tails_are_endless) := ⟨rfl, rfl, rfl, by decide +kernel, rfl, by decide +kernel, by decide +kernel⟩
theorem ok_are_endless {f f1 : Addr} {fd fd1 : FuncData} (D : Mt K C "Tails.are_endless" "are_endless" s_Tails_are_endless ["self"] f fd) (MTails_many_within : Mt K C "Tails.many_within" "many_within" s_Tails_many_within ["self", "size"] f1 fd1) (GTails_many_within : FnOk P w K mg base CX0 3 f1 fd1 ["self", "size"] (sp_many_within C)) (cTails : ClT K mg C) : FnOk P w K mg base CX0 4 f fd ["self"] (sp_are_endless C) := by
  refine D.fn.ok sc_Tails_are_endless (fun vs H Q E h => ?_) (fun cdv A outer s H vs Q E hr h => ?_)
  · obtain ⟨p, la, b, ls, ws, L, rfl, _⟩ := h; rfl
  · obtain ⟨p, la, b, ls, ws, L, rfl, TA, G, hL, kk⟩ := h
    have h13 := G.h13
    obtain ⟨dx, sa, hp⟩ := TA.obj
    refine ⟨_, (pss_one (ps_ret (pe_cmpR op_gt (pmeth MTails_many_within cTails.cl GTails_many_within (hr.mono (by decide)) (pv 0) (pa_cons (pe_op op_add (k_fld K (pv 0)) pe_int) pa_nil)) (pmeth MTails_many_within cTails.cl GTails_many_within (hr.mono (by decide)) (pv 0) (pa_cons (k_fld K (pv 0)) pa_nil)) (nomark _)))), ?_⟩
    refine ⟨_, rfl, p, dx, _, rfl, hp, fldT_no _ _ _ _ (by decide +kernel) (by decide +kernel) (by decide +kernel) (by decide +kernel), _, rfl, p, C, dx, _, _, rfl, hp, cTails.cl, cTails.n_outset, fldT_outset _ _ _ _, _, _, rfl, rfl, p, la, b, ls, ws, L, ws.length + 1, by rw [Int.natCast_add]; rfl, TA, G, hL, by omega, fun L2 H2 hL2 TA2 m2 hmx => ?_⟩
    obtain ⟨dx2, sa2, hp2⟩ := TA2.obj
    refine ⟨_, rfl, p, dx2, _, rfl, hp2, fldT_no _ _ _ _ (by decide +kernel) (by decide +kernel) (by decide +kernel) (by decide +kernel), _, rfl, p, C, dx2, _, _, rfl, hp2, cTails.cl, cTails.n_outset, fldT_outset _ _ _ _, p, la, b, ls, ws, L2, ws.length, rfl, TA2, G, by omega, by omega, fun L3 H3 hL3 TA3 m3 hmx3 => ⟨_, _, rfl, rfl, ?_⟩⟩
    have q := kk L3 H3 (by omega) TA3 (m2.trans m3) (by omega)
    rw [show decide (cntO ls b ws.length < cntO ls b (ws.length + 1)) = decide (((cntO ls b ws.length : Nat) : Int) < ((cntO ls b (ws.length + 1) : Nat) : Int)) by rw [Bool.eq_iff_iff]; simp] at q
    exact q
def sp_ask (T0 : Addr) (pre : List (List Int) → Nat → Nat → Prop) (R : List (List Int) → Nat → Nat → V → Prop) : Sp := fun vs H Q _ => ∃ (r : Addr) (b : Nat) (bl : Addr) (zs : List (Addr × List Int)) (n : Nat), vs = [.ref r, .int n] ∧ RuleAt H r b bl zs ∧ GoodRule b (zs.map (·.2)) ∧ pre (zs.map (·.2)) b n ∧ LT T0 H ∧ ∀ v H', R (zs.map (·.2)) b n v → SameL T0 H H' → LT T0 H' → Q v H'
end
end Lw
set_option Elab.async false
set_option linter.all false
set_option maxRecDepth 100000
namespace Lw
open PySem L2 PyProof.Rows
section
variable {P : Program} {w : World} {K : PySem.W.Frag} {mg : Str → Option Value} {base : Heap} {T0 C : Addr}
def sp_check_length : Sp := fun vs H Q _ => ∃ m : Nat, vs = [.int m] ∧ 1 ≤ m ∧ m ≤ 60 ∧ Q .non H
theorem sc_check_length : FnScope ["thing"] ["thing"] (defScope s_check_length) := ⟨rfl, rfl, rfl, by decide +kernel, rfl, by decide +kernel, by decide +kernel⟩
theorem ok_check_length {f f1 : Addr} {fd fd1 : FuncData} {t1 : Tok} (D : Df K mg "check_length" s_check_length ["thing"] f fd) (Dis_number : Df K mg "is_number" s_is_number ["thing"] f1 fd1) (Gis_number : FnOk P w K mg base CX0 2 f1 fd1 ["thing"] sp_is_number) (c_MOST_FIGURES : mg "MOST_FIGURES" = some (.int 60 t1)) : FnOk P w K mg base CX0 3 f fd ["thing"] sp_check_length := by
  refine D.fn.ok sc_check_length (fun vs H Q E h => ?_) (fun cdv A outer s H vs Q E hr h => ?_)
  · obtain ⟨m, rfl, _⟩ := h; rfl
  · obtain ⟨m, rfl, h1, h2, kk⟩ := h
    refine ⟨_, (pss_one (ps_if (PW.pt (pw_or (pt_not (pt_val (pcall Dis_number Gis_number (hr.mono (by decide)) (pa_cons (pv 0) pa_nil)))) (pw_or1 (pt_not (pt_chain op_le op_le pe_int (pv 0) (pe_glob (v := .int 60) rfl c_MOST_FIGURES ⟨_, rfl⟩))))))
        (pss_one ps_never)
        pss_nil)), ?_⟩
    refine ⟨_, rfl, (m : Int), rfl, _, rfl, ?_⟩
    rw [decide_eq_true (show (0 : Int) ≤ m by omega)]
    refine iteF ?_
    refine ⟨_, rfl, _, _, rfl, rfl, _, rfl, ?_⟩
    rw [decide_eq_true (show (1 : Int) ≤ m by omega)]
    refine iteT ?_
    refine ⟨_, _, rfl, rfl, _, rfl, ?_⟩
    rw [decide_eq_true (show (m : Int) ≤ 60 by omega)]
    exact iteF kk
def low (ls : List (List Int)) (b m : Nat) : Nat := if m = 1 then 0 else many (gd ls b) (b ^ (m - 1))
def sp_count_shorter (C : Addr) : Sp := fun vs H Q _ => ∃ (p la : Addr) (b : Nat) (ls ws : List (List Int)) (L m : Nat), vs = [.ref p, .int m] ∧ TailsAt C H p la b ls ws L ∧ GoodT b ls ws ∧ L ≤ 1000 ∧ 1 ≤ m ∧ m ≤ 60 ∧ TQ C H p la b ls ws L fun L' H' => L' ≤ 1000 → Q (.int (low ls b m : Nat)) H'
theorem sc_count_shorter : FnScope ["tails", "m"] ["tails", "m"] (defScope s_count_shorter) := ⟨rfl, rfl, rfl, by decide +kernel, rfl, by decide +kernel, by decide +kernel⟩
theorem ok_count_shorter {f f1 : Addr} {fd fd1 : FuncData} (D : Df K mg "count_shorter" s_count_shorter ["tails", "m"] f fd) (MTails_many_within : Mt K C "Tails.many_within" "many_within" s_Tails_many_within ["self", "size"] f1 fd1) (GTails_many_within : FnOk P w K mg base CX0 3 f1 fd1 ["self", "size"] (sp_many_within C)) (cTails : ClT K mg C) : FnOk P w K mg base CX0 4 f fd ["tails", "m"] (sp_count_shorter C) := by
  refine D.fn.ok sc_count_shorter (fun vs H Q E h => ?_) (fun cdv A outer s H vs Q E hr h => ?_)
  · obtain ⟨p, la, b, ls, ws, L, m, rfl, _⟩ := h; rfl
  · obtain ⟨p, la, b, ls, ws, L, m, rfl, TA, G, hL, h1, h2, kk⟩ := h
    obtain ⟨dx, sa, hp⟩ := TA.obj
    refine ⟨_, (pss_cons (ps_if (pt_cmpR op_eq (pv 1) pe_int (nomark _))
        (pss_one (ps_ret pe_int))
        pss_nil)
      (pss_one (ps_ret (pmeth MTails_many_within cTails.cl GTails_many_within (hr.mono (by decide)) (pv 0) (pa_cons (pe_op op_sub (pv 1) pe_int) pa_nil))))), ?_⟩
    refine ⟨_, rfl, rfl, _, rfl, ?_⟩
    refine ite2 (fun hz => ?_) (fun hz => ?_)
    · have e : m = 1 := by
        have z := of_decide_eq_true hz
        injection z with z
        omega
      have q := kk L H (Nat.le_refl _) TA (Same.refl _) hL
      unfold low at q
      rw [if_pos e] at q
      exact q
    · have e : ¬ m = 1 := fun z => hz (decide_eq_true (by rw [z]; rfl))
      refine ⟨_, rfl, p, dx, _, rfl, hp, fldT_no _ _ _ _ (by decide +kernel) (by decide +kernel) (by decide +kernel) (by decide +kernel), _, rfl, _, _, rfl, rfl, p, la, b, ls, ws, L, m - 1, ?_, TA, G, hL, by omega, fun L2 H2 hL2 TA2 m2 hmx => ?_⟩
      · show [V.ref p, V.int ((m : Int) - 1)] = _
        rw [show ((m : Int) - 1) = ((m - 1 : Nat) : Int) by omega]
      · have q := kk L2 H2 hL2 TA2 m2 (by omega)
        unfold low at q
        rw [if_neg e, ← cntO_many G.ne G.g.b2] at q
        exact q
abbrev lenPre : List (List Int) → Nat → Nat → Prop := fun _ _ m => 1 ≤ m ∧ m ≤ 60
abbrev sp_count_long (T0 : Addr) : Sp := sp_ask T0 lenPre (fun ls b m v => v = .int ((many (gd ls b) (b ^ m) : Nat) - (low ls b m : Nat)))
def LeastL (ls : List (List Int)) (b m : Nat) (v : V) : Prop := (v = .non ∧ many (gd ls b) (b ^ m) = low ls b m) ∨ ∃ g : Nat, v = .int g ∧ gd ls b g = true ∧ many (gd ls b) g = low ls b m ∧ g < b ^ m
def GreatestL (ls : List (List Int)) (b m : Nat) (v : V) : Prop := (v = .non ∧ many (gd ls b) (b ^ m) = low ls b m) ∨ ∃ g : Nat, v = .int g ∧ gd ls b g = true ∧ many (gd ls b) g + 1 = many (gd ls b) (b ^ m) ∧ g < b ^ m ∧ low ls b m < many (gd ls b) (b ^ m)
theorem low_le {ls : List (List Int)} {b m : Nat} (hb : 1 ≤ b) : low ls b m ≤ many (gd ls b) (b ^ m) := by
  unfold low
  split
  · exact Nat.zero_le _
  · exact many_mono _ (Nat.pow_le_pow_right hb (by omega))
theorem sc_count_long : FnScope ["rule", "m", "tails"] ["rule", "m"] (defScope s_count_long) := ⟨rfl, rfl, rfl, by decide +kernel, rfl, by decide +kernel, by decide +kernel⟩
theorem ok_count_long {f f1 f2 f3 f4 f5 : Addr} {fd fd1 fd2 fd3 fd4 fd5 : FuncData} (D : Df K mg "count_long" s_count_long ["rule", "m"] f fd) (Dcheck_rule : Df K mg "check_rule" s_check_rule ["thing"] f1 fd1) (Gcheck_rule : FnOk P w K mg base CX0 7 f1 fd1 ["thing"] sp_check_rule) (Dcheck_length : Df K mg "check_length" s_check_length ["thing"] f2 fd2) (Gcheck_length : FnOk P w K mg base CX0 3 f2 fd2 ["thing"] sp_check_length)
    (KTails : Mk K C f3) (BTails : Binds K fd3 ["self", "rule"] []) (GTails_init : FnOk P w K mg base CX0 7 f3 fd3 ["self", "rule"] (sp_tails T0 C)) (MTails_many_within : Mt K C "Tails.many_within" "many_within" s_Tails_many_within ["self", "size"] f4 fd4) (GTails_many_within : FnOk P w K mg base CX0 3 f4 fd4 ["self", "size"] (sp_many_within C)) (Dcount_shorter : Df K mg "count_shorter" s_count_shorter ["tails", "m"] f5 fd5) (Gcount_shorter : FnOk P w K mg base CX0 4 f5 fd5 ["tails", "m"] (sp_count_shorter C)) (cTails : ClT K mg C) : FnOk P w K mg base CX0 9 f fd ["rule", "m"] (sp_count_long T0) := by
  refine D.fn.ok sc_count_long (fun vs H Q E h => ?_) (fun cdv A outer s H vs Q E hr h => ?_)
  · obtain ⟨r, b, bl, zs, n, rfl, _⟩ := h; rfl
  · obtain ⟨r, b, bl, zs, m, rfl, R, g, ⟨hm1, hm2⟩, hT, kk⟩ := h
    refine ⟨_, (pss_cons (ps_expr (pcall Dcheck_rule Gcheck_rule (hr.mono (by decide)) (pa_cons (pv 0) pa_nil)))
      (pss_cons (ps_expr (pcall Dcheck_length Gcheck_length (hr.mono (by decide)) (pa_cons (pv 1) pa_nil)))
      (pss_cons (ps_set (i := 2) sc_count_long.nd rfl (Or.inl rfl) (pe_make KTails GTails_init (hr.mono (by decide)) rfl cTails.nm BTails .nil pass0 (pa_cons (pv 0) pa_nil)))
      (pss_one (ps_ret (pe_op op_sub (pmeth MTails_many_within cTails.cl GTails_many_within (hr.mono (by decide)) (pv 2) (pa_cons (pv 1) pa_nil)) (pcall Dcount_shorter Gcount_shorter (hr.mono (by decide)) (pa_cons (pv 2) (pa_cons (pv 1) pa_nil))))))))), ?_⟩
    refine ⟨_, rfl, r, b, bl, zs, rfl, R, g, fun H1 m1 => ?_⟩
    refine ⟨_, rfl, m, rfl, hm1, hm2, ?_⟩
    refine ⟨_, rfl, ?_⟩
    refine made_of (R.same m1) g (hT.same m1) ?_
    rintro x H3 ⟨la, ws, TA, G, mL, hT3, hla⟩
    obtain ⟨xs, hla3⟩ := TA.la
    obtain ⟨dx3, sa3, hp3⟩ := TA.obj
    refine ⟨_, rfl, x, dx3, _, rfl, hp3, fldT_no _ _ _ _ (by decide +kernel) (by decide +kernel) (by decide +kernel) (by decide +kernel), _, rfl, x, la, b, _, ws, 1, m, rfl, TA, G, by decide, by omega, fun L4 H4 hL4 TA4 m4 hmx => ?_⟩
    refine ⟨_, rfl, _, rfl, x, la, b, _, ws, L4, m, rfl, TA4, G, by omega, hm1, hm2, fun L5 H5 hL5 TA5 m5 hL5' => ⟨_, _, rfl, rfl, ?_⟩⟩
    have m45 := m4.trans m5
    refine kk _ H5 ?_ (sameL_off ((SameL.of m1).trans mL) (m1.free hla) m45) (hT3.off hla3 m45)
    rw [cntO_many G.ne g.b2]
theorem sc_least_long : FnScope ["rule", "m", "tails", "k"] ["rule", "m"] (defScope s_least_long) := ⟨rfl, rfl, rfl, by decide +kernel, rfl, by decide +kernel, by decide +kernel⟩
theorem ok_least_long {f f1 f2 f3 f4 f5 f6 : Addr} {fd fd1 fd2 fd3 fd4 fd5 fd6 : FuncData} (D : Df K mg "least_long" s_least_long ["rule", "m"] f fd) (Dcheck_rule : Df K mg "check_rule" s_check_rule ["thing"] f1 fd1) (Gcheck_rule : FnOk P w K mg base CX0 7 f1 fd1 ["thing"] sp_check_rule) (Dcheck_length : Df K mg "check_length" s_check_length ["thing"] f2 fd2) (Gcheck_length : FnOk P w K mg base CX0 3 f2 fd2 ["thing"] sp_check_length)
    (KTails : Mk K C f3) (BTails : Binds K fd3 ["self", "rule"] []) (GTails_init : FnOk P w K mg base CX0 7 f3 fd3 ["self", "rule"] (sp_tails T0 C)) (MTails_many_within : Mt K C "Tails.many_within" "many_within" s_Tails_many_within ["self", "size"] f4 fd4) (GTails_many_within : FnOk P w K mg base CX0 3 f4 fd4 ["self", "size"] (sp_many_within C)) (Dcount_shorter : Df K mg "count_shorter" s_count_shorter ["tails", "m"] f5 fd5) (Gcount_shorter : FnOk P w K mg base CX0 4 f5 fd5 ["tails", "m"] (sp_count_shorter C))
    (MTails_number_at : Mt K C "Tails.number_at" "number_at" s_Tails_number_at ["self", "size", "k"] f6 fd6) (GTails_number_at : FnOk P w K mg base CX0 5 f6 fd6 ["self", "size", "k"] (sp_number_at C)) (cTails : ClT K mg C) : FnOk P w K mg base CX0 9 f fd ["rule", "m"] (sp_ask T0 lenPre LeastL) := by
  refine D.fn.ok sc_least_long (fun vs H Q E h => ?_) (fun cdv A outer s H vs Q E hr h => ?_)
  · obtain ⟨r, b, bl, zs, n, rfl, _⟩ := h; rfl
  · obtain ⟨r, b, bl, zs, m, rfl, R, g, ⟨hm1, hm2⟩, hT, kk⟩ := h
    refine ⟨_, (pss_cons (ps_expr (pcall Dcheck_rule Gcheck_rule (hr.mono (by decide)) (pa_cons (pv 0) pa_nil)))
      (pss_cons (ps_expr (pcall Dcheck_length Gcheck_length (hr.mono (by decide)) (pa_cons (pv 1) pa_nil)))
      (pss_cons (ps_set (i := 2) sc_least_long.nd rfl (Or.inl rfl) (pe_make KTails GTails_init (hr.mono (by decide)) rfl cTails.nm BTails .nil pass0 (pa_cons (pv 0) pa_nil)))
      (pss_cons (ps_set (i := 3) sc_least_long.nd rfl (Or.inl rfl) (pcall Dcount_shorter Gcount_shorter (hr.mono (by decide)) (pa_cons (pv 2) (pa_cons (pv 1) pa_nil))))
      (pss_cons (ps_if (pt_cmpR op_eq (pmeth MTails_many_within cTails.cl GTails_many_within (hr.mono (by decide)) (pv 2) (pa_cons (pv 1) pa_nil)) (pv 3) (nomark _))
        (pss_one (ps_ret pe_non))
        pss_nil)
      (pss_one (ps_ret (pmeth MTails_number_at cTails.cl GTails_number_at (hr.mono (by decide)) (pv 2) (pa_cons (pv 1) (pa_cons (pv 3) pa_nil)))))))))), ?_⟩
    refine ⟨_, rfl, r, b, bl, zs, rfl, R, g, fun H1 m1 => ?_⟩
    refine ⟨_, rfl, m, rfl, hm1, hm2, ?_⟩
    refine ⟨_, rfl, ?_⟩
    refine made_of (R.same m1) g (hT.same m1) ?_
    rintro x H3 ⟨la, ws, TA, G, mL, hT3, hla⟩
    obtain ⟨xs, hla3⟩ := TA.la
    have hle := low_le (ls := zs.map (·.2)) (m := m) (show 1 ≤ b by have := g.b2; omega)
    refine ⟨_, rfl, _, rfl, x, la, b, _, ws, 1, m, rfl, TA, G, by decide, hm1, hm2, fun L4 H4 hL4 TA4 m4 hL4' => ?_⟩
    obtain ⟨dx4, sa4, hp4⟩ := TA4.obj
    refine ⟨_, rfl, x, dx4, _, rfl, hp4, fldT_no _ _ _ _ (by decide +kernel) (by decide +kernel) (by decide +kernel) (by decide +kernel), _, rfl, x, la, b, _, ws, L4, m, rfl, TA4, G, hL4', by omega, fun L5 H5 hL5 TA5 m5 hmx => ?_⟩
    rw [cntO_many G.ne g.b2]
    have m45 := m4.trans m5
    have fin : ∀ H', Same (aw [la] H5) (aw [la] H') → SameL T0 H H' ∧ LT T0 H' := fun H' m' => ⟨sameL_off ((SameL.of m1).trans mL) (m1.free hla) (m45.trans m'), hT3.off hla3 (m45.trans m')⟩
    refine ⟨_, rfl, rfl, _, rfl, ?_⟩
    refine ite2 (fun hz => ?_) (fun hz => ?_)
    · have e : many (gd (zs.map (·.2)) b) (b ^ m) = low (zs.map (·.2)) b m := by
        have z := of_decide_eq_true hz
        injection z with z
        omega
      obtain ⟨a1, a2⟩ := fin H5 (Same.refl _)
      exact kk _ H5 (.inl ⟨rfl, e⟩) a1 a2
    · have e : ¬ many (gd (zs.map (·.2)) b) (b ^ m) = low (zs.map (·.2)) b m := fun z => hz (decide_eq_true (by rw [z]))
      obtain ⟨dx5, sa5, hp5⟩ := TA5.obj
      refine ⟨_, rfl, x, dx5, _, rfl, hp5, fldT_no _ _ _ _ (by decide +kernel) (by decide +kernel) (by decide +kernel) (by decide +kernel), _, rfl, _, rfl, x, la, b, _, ws, L5, m, low (zs.map (·.2)) b m, rfl, TA5, G, by omega, by omega, by omega, fun q hg hm hq L6 H6 hL6 TA6 m6 hL6' => ?_⟩
      obtain ⟨a1, a2⟩ := fin H6 m6
      exact kk _ H6 (.inr ⟨q, rfl, hg, hm, hq⟩) a1 a2
theorem sc_greatest_long : FnScope ["rule", "m", "tails", "many"] ["rule", "m"] (defScope s_greatest_long) := ⟨rfl, rfl, rfl, by decide +kernel, rfl, by decide +kernel, by decide +kernel⟩
theorem ok_greatest_long {f f1 f2 f3 f4 f5 f6 : Addr} {fd fd1 fd2 fd3 fd4 fd5 fd6 : FuncData} (D : Df K mg "greatest_long" s_greatest_long ["rule", "m"] f fd) (Dcheck_rule : Df K mg "check_rule" s_check_rule ["thing"] f1 fd1) (Gcheck_rule : FnOk P w K mg base CX0 7 f1 fd1 ["thing"] sp_check_rule) (Dcheck_length : Df K mg "check_length" s_check_length ["thing"] f2 fd2) (Gcheck_length : FnOk P w K mg base CX0 3 f2 fd2 ["thing"] sp_check_length)
    (KTails : Mk K C f3) (BTails : Binds K fd3 ["self", "rule"] []) (GTails_init : FnOk P w K mg base CX0 7 f3 fd3 ["self", "rule"] (sp_tails T0 C)) (MTails_many_within : Mt K C "Tails.many_within" "many_within" s_Tails_many_within ["self", "size"] f4 fd4) (GTails_many_within : FnOk P w K mg base CX0 3 f4 fd4 ["self", "size"] (sp_many_within C)) (Dcount_shorter : Df K mg "count_shorter" s_count_shorter ["tails", "m"] f5 fd5) (Gcount_shorter : FnOk P w K mg base CX0 4 f5 fd5 ["tails", "m"] (sp_count_shorter C))
    (MTails_number_at : Mt K C "Tails.number_at" "number_at" s_Tails_number_at ["self", "size", "k"] f6 fd6) (GTails_number_at : FnOk P w K mg base CX0 5 f6 fd6 ["self", "size", "k"] (sp_number_at C)) (cTails : ClT K mg C) : FnOk P w K mg base CX0 9 f fd ["rule", "m"] (sp_ask T0 lenPre GreatestL) := by
  refine D.fn.ok sc_greatest_long (fun vs H Q E h => ?_) (fun cdv A outer s H vs Q E hr h => ?_)
  · obtain ⟨r, b, bl, zs, n, rfl, _⟩ := h; rfl
  · obtain ⟨r, b, bl, zs, m, rfl, R, g, ⟨hm1, hm2⟩, hT, kk⟩ := h
    refine ⟨_, (pss_cons (ps_expr (pcall Dcheck_rule Gcheck_rule (hr.mono (by decide)) (pa_cons (pv 0) pa_nil)))
      (pss_cons (ps_expr (pcall Dcheck_length Gcheck_length (hr.mono (by decide)) (pa_cons (pv 1) pa_nil)))
      (pss_cons (ps_set (i := 2) sc_greatest_long.nd rfl (Or.inl rfl) (pe_make KTails GTails_init (hr.mono (by decide)) rfl cTails.nm BTails .nil pass0 (pa_cons (pv 0) pa_nil)))
      (pss_cons (ps_set (i := 3) sc_greatest_long.nd rfl (Or.inl rfl) (pmeth MTails_many_within cTails.cl GTails_many_within (hr.mono (by decide)) (pv 2) (pa_cons (pv 1) pa_nil)))
      (pss_cons (ps_if (pt_cmpR op_eq (pv 3) (pcall Dcount_shorter Gcount_shorter (hr.mono (by decide)) (pa_cons (pv 2) (pa_cons (pv 1) pa_nil))) (nomark _))
        (pss_one (ps_ret pe_non))
        pss_nil)
      (pss_one (ps_ret (pmeth MTails_number_at cTails.cl GTails_number_at (hr.mono (by decide)) (pv 2) (pa_cons (pv 1) (pa_cons (pe_op op_sub (pv 3) pe_int) pa_nil)))))))))), ?_⟩
    refine ⟨_, rfl, r, b, bl, zs, rfl, R, g, fun H1 m1 => ?_⟩
    refine ⟨_, rfl, m, rfl, hm1, hm2, ?_⟩
    refine ⟨_, rfl, ?_⟩
    refine made_of (R.same m1) g (hT.same m1) ?_
    rintro x H3 ⟨la, ws, TA, G, mL, hT3, hla⟩
    obtain ⟨xs, hla3⟩ := TA.la
    have hle := low_le (ls := zs.map (·.2)) (m := m) (show 1 ≤ b by have := g.b2; omega)
    obtain ⟨dx3, sa3, hp3⟩ := TA.obj
    refine ⟨_, rfl, x, dx3, _, rfl, hp3, fldT_no _ _ _ _ (by decide +kernel) (by decide +kernel) (by decide +kernel) (by decide +kernel), _, rfl, x, la, b, _, ws, 1, m, rfl, TA, G, by decide, by omega, fun L4 H4 hL4 TA4 m4 hmx => ?_⟩
    rw [cntO_many G.ne g.b2]
    refine ⟨_, rfl, _, rfl, _, rfl, x, la, b, _, ws, L4, m, rfl, TA4, G, by omega, hm1, hm2, fun L5 H5 hL5 TA5 m5 hL5' => ?_⟩
    have m45 := m4.trans m5
    have fin : ∀ H', Same (aw [la] H5) (aw [la] H') → SameL T0 H H' ∧ LT T0 H' := fun H' m' => ⟨sameL_off ((SameL.of m1).trans mL) (m1.free hla) (m45.trans m'), hT3.off hla3 (m45.trans m')⟩
    refine ⟨rfl, _, rfl, ?_⟩
    refine ite2 (fun hz => ?_) (fun hz => ?_)
    · have e : many (gd (zs.map (·.2)) b) (b ^ m) = low (zs.map (·.2)) b m := by
        have z := of_decide_eq_true hz
        injection z with z
        omega
      obtain ⟨a1, a2⟩ := fin H5 (Same.refl _)
      exact kk _ H5 (.inl ⟨rfl, e⟩) a1 a2
    · have e : ¬ many (gd (zs.map (·.2)) b) (b ^ m) = low (zs.map (·.2)) b m := fun z => hz (decide_eq_true (by rw [z]))
      obtain ⟨dx5, sa5, hp5⟩ := TA5.obj
      refine ⟨_, rfl, x, dx5, _, rfl, hp5, fldT_no _ _ _ _ (by decide +kernel) (by decide +kernel) (by decide +kernel) (by decide +kernel), _, rfl, _, rfl, _, _, rfl, rfl, x, la, b, _, ws, L5, m, many (gd (zs.map (·.2)) b) (b ^ m) - 1, ?_, TA5, G, by omega, by omega, by omega, fun q hg hm hq L6 H6 hL6 TA6 m6 hL6' => ?_⟩
      · show [V.ref x, V.int m, V.int ((many (gd (zs.map (·.2)) b) (b ^ m) : Nat) - 1 : Int)] = _
        rw [show (((many (gd (zs.map (·.2)) b) (b ^ m) : Nat) : Int) - 1) = ((many (gd (zs.map (·.2)) b) (b ^ m) - 1 : Nat) : Int) by omega]
      · obtain ⟨a1, a2⟩ := fin H6 m6
        exact kk _ H6 (.inr ⟨q, rfl, hg, by omega, hq, by omega⟩) a1 a2
end
end Lw
set_option Elab.async false
set_option linter.all false
set_option maxRecDepth 100000
namespace Lw
open PySem L2 PyProof.Rows
structure ClS (K : PySem.W.Frag) (mg : Str → Option Value) (C : Addr) : Prop where
  cl : Cls K C
  nm : mg "Totals" = some (.ref C)
  n_tails : NoAttr K C "tails"
  n_weights : NoAttr K C "weights"
  n_layers : NoAttr K C "layers"
def fldS (tl wa l2 : Addr) : List (Str × V) := putF "layers" (.ref l2) (putF "weights" (.ref wa) (putF "tails" (.ref tl) []))
theorem fldS_tails (tl wa l2 : Addr) : (fldS tl wa l2).lookup ("tails" : Str) = some (.ref tl) := by
  unfold fldS
  rw [lookup_putF, if_neg (by decide +kernel), lookup_putF, if_neg (by decide +kernel), lookup_putF, if_pos rfl]
theorem fldS_weights (tl wa l2 : Addr) : (fldS tl wa l2).lookup ("weights" : Str) = some (.ref wa) := by
  unfold fldS
  rw [lookup_putF, if_neg (by decide +kernel), lookup_putF, if_pos rfl]
theorem fldS_layers (tl wa l2 : Addr) : (fldS tl wa l2).lookup ("layers" : Str) = some (.ref l2) := by
  unfold fldS
  rw [lookup_putF, if_pos rfl]
theorem fldS_no (tl wa l2 : Addr) {m : Str} (h1 : ¬ m = "layers") (h2 : ¬ m = "weights") (h3 : ¬ m = "tails") : (fldS tl wa l2).lookup m = none := by
  unfold fldS
  rw [lookup_putF, if_neg h1, lookup_putF, if_neg h2, lookup_putF, if_neg h3]
  rfl
def wrow (b : Nat) (w : Nat → Nat) (sc k : Nat) : List Int := (List.range b).map fun (c : Nat) => ((sc ^ k * w c : Nat) : Int)
def totV (ls ws : List (List Int)) (b : Nat) (w : Nat → Nat) (sc t : Nat) : List Int := (ws.map fun x => ((tt ls b w sc t x : Nat) : Int)) ++ [((ttO ls b w sc t : Nat) : Int)]
def stepT (ls : List (List Int)) (b : Nat) (w : Nat → Nat) (sc t : Nat) : Option (List Int) → Nat → Nat
  | some x, c => if lacks ls (x ++ [(c : Int)]) = true then sc ^ t * w c * cnt ls b t (tailS ls (x ++ [(c : Int)])) + tt ls b w sc t (tailS ls (x ++ [(c : Int)])) else 0
  | none, c => if c = 0 then ttO ls b w sc t else if lacks ls [(c : Int)] = true then sc ^ t * w c * cnt ls b t (tailS ls [(c : Int)]) + tt ls b w sc t (tailS ls [(c : Int)]) else 0
def underT (ls : List (List Int)) (b : Nat) (w : Nat → Nat) (sc t : Nat) (o : Option (List Int)) (s : Nat) : Nat := ((List.range s).map (stepT ls b w sc t o)).sum
theorem underT_succ (ls : List (List Int)) (b : Nat) (w : Nat → Nat) (sc t : Nat) (o : Option (List Int)) (s : Nat) : underT ls b w sc t o (s + 1) = underT ls b w sc t o s + stepT ls b w sc t o s := by
  unfold underT
  rw [List.range_succ, List.map_append, List.sum_append]
  simp
theorem totV_more {ls ws : List (List Int)} {b sc t : Nat} {w : Nat → Nat} : ((List.range (ws.length + 1)).map fun i => ((underT ls b w sc t ws[i]? b : Nat) : Int)) = totV ls ws b w sc (t + 1) := by
  unfold totV
  apply List.ext_getElem?
  intro i
  rw [List.getElem?_map]
  by_cases h : i < ws.length
  · rw [List.getElem?_range (by omega), List.getElem?_append_left (by rw [List.length_map]; exact h), List.getElem?_map, Option.map_some, List.getElem?_eq_getElem h]
    rfl
  · by_cases h2 : i = ws.length
    · subst h2
      rw [List.getElem?_range (by omega), List.getElem?_append_right (by rw [List.length_map]; exact Nat.le_refl _), List.length_map, Nat.sub_self, Option.map_some, List.getElem?_eq_none (Nat.le_refl _)]
      rfl
    · rw [List.getElem?_eq_none (by rw [List.length_range]; omega), List.getElem?_eq_none (by rw [List.length_append, List.length_map, List.length_singleton]; omega)]
      rfl
theorem stepT_cases {ls ws : List (List Int)} {b sc t : Nat} {w : Nat → Nat} (G : GoodT b ls ws) {i c : Nat} (hi : i ≤ ws.length) :
    (stepV ls ws ws[i]? c = .non ∧ stepT ls b w sc t ws[i]? c = 0 ∧ stepC ls b t ws[i]? c = 0) ∨ ∃ (j x y z : Nat), stepV ls ws ws[i]? c = .int j ∧ j ≤ ws.length ∧ (layerV ls ws b t)[j]? = some ((x : Nat) : Int) ∧ (totV ls ws b w sc t)[j]? = some ((y : Nat) : Int) ∧ z = (if j = ws.length then 0 else sc ^ t * w c) ∧ stepT ls b w sc t ws[i]? c = z * x + y ∧ stepC ls b t ws[i]? c = x := by
  have at_ : ∀ fs : List Int, lacks ls fs = true → ∃ j : Nat, plc ls ws fs = .int j ∧ j < ws.length ∧ (layerV ls ws b t)[j]? = some ((cnt ls b t (tailS ls fs) : Nat) : Int) ∧ (totV ls ws b w sc t)[j]? = some ((tt ls b w sc t (tailS ls fs) : Nat) : Int) := by
    intro fs h
    have hm : tailS ls fs ∈ ws := (G.s.mem _).mpr (tailS_isSt G.ne h)
    have hlt := List.idxOf_lt_length_iff.mpr hm
    refine ⟨ws.idxOf (tailS ls fs), by unfold plc; rw [if_pos h], hlt, ?_, ?_⟩
    · unfold layerV
      rw [List.getElem?_append_left (by rw [List.length_map]; exact hlt), List.getElem?_map, List.getElem?_eq_getElem hlt, List.getElem_idxOf hlt]
      rfl
    · unfold totV
      rw [List.getElem?_append_left (by rw [List.length_map]; exact hlt), List.getElem?_map, List.getElem?_eq_getElem hlt, List.getElem_idxOf hlt]
      rfl
  cases hw : ws[i]? with
  | some x =>
    by_cases h : lacks ls (x ++ [(c : Int)]) = true
    · right
      obtain ⟨j, h1, h2, h3, h4⟩ := at_ _ h
      refine ⟨j, _, _, sc ^ t * w c, h1, Nat.le_of_lt h2, h3, h4, by rw [if_neg (by omega)], ?_, by rw [stepC_some, if_pos h]⟩
      show (if lacks ls (x ++ [(c : Int)]) = true then _ else 0) = _
      rw [if_pos h]
    · left
      refine ⟨by rw [stepV_some]; unfold plc; rw [if_neg h], ?_, by rw [stepC_some, if_neg h]⟩
      show (if lacks ls (x ++ [(c : Int)]) = true then _ else 0) = _
      rw [if_neg h]
  | none =>
    by_cases h0 : c = 0
    · right
      refine ⟨ws.length, cntO ls b t, ttO ls b w sc t, 0, by rw [stepV_none, if_pos h0], Nat.le_refl _, ?_, ?_, by rw [if_pos rfl], ?_, by rw [stepC_none, if_pos h0]⟩
      · unfold layerV
        rw [List.getElem?_append_right (by rw [List.length_map]; exact Nat.le_refl _), List.length_map, Nat.sub_self]
        rfl
      · unfold totV
        rw [List.getElem?_append_right (by rw [List.length_map]; exact Nat.le_refl _), List.length_map, Nat.sub_self]
        rfl
      · show (if c = 0 then _ else _) = _
        rw [if_pos h0]; omega
    · by_cases h : lacks ls [(c : Int)] = true
      · right
        obtain ⟨j, h1, h2, h3, h4⟩ := at_ _ h
        refine ⟨j, _, _, sc ^ t * w c, by rw [stepV_none, if_neg h0]; exact h1, Nat.le_of_lt h2, h3, h4, by rw [if_neg (by omega)], ?_, by rw [stepC_none, if_neg h0, if_pos h]⟩
        show (if c = 0 then _ else if lacks ls [(c : Int)] = true then _ else 0) = _
        rw [if_neg h0, if_pos h]
      · left
        refine ⟨?_, ?_, by rw [stepC_none, if_neg h0, if_neg h]⟩
        · rw [stepV_none, if_neg h0]; unfold plc; rw [if_neg h]
        · show (if c = 0 then _ else if lacks ls [(c : Int)] = true then _ else 0) = _
          rw [if_neg h0, if_neg h]
structure RowsAt (H : Hp) (a : Addr) (rs : List (List Int)) : Prop where
  ex : ∃ zs : List (Addr × List Int), H a = some (.lst (zs.map fun z => V.ref z.1)) ∧ (∀ z ∈ zs, H z.1 = some (.lst (z.2.map V.int))) ∧ zs.map (·.2) = rs
theorem RowsAt.same {H H' : Hp} {a : Addr} {rs : List (List Int)} (R : RowsAt H a rs) (m : Same H H') : RowsAt H' a rs := by
  obtain ⟨zs, h1, h2, h3⟩ := R.ex
  exact ⟨⟨zs, m _ _ h1, fun z hz => m _ _ (h2 z hz), h3⟩⟩
theorem RowsAt.get {H : Hp} {a : Addr} {rs : List (List Int)} (R : RowsAt H a rs) {k : Nat} {r : List Int} (h : rs[k]? = some r) : ∃ (zs : List V) (q : Addr), H a = some (.lst zs) ∧ atI zs (k : Int) = some (V.ref q) ∧ H q = some (.lst (r.map V.int)) := by
  obtain ⟨zs, h1, h2, h3⟩ := R.ex
  rw [← h3, List.getElem?_map] at h
  obtain ⟨z, hz, e⟩ := Option.map_eq_some_iff.mp h
  subst e
  exact ⟨_, z.1, h1, atI_nat (by rw [List.getElem?_map, hz]; rfl), h2 z (List.mem_of_getElem? hz)⟩
section
variable {P : Program} {w : World} {K : PySem.W.Frag} {mg : Str → Option Value} {base : Heap} {T0 C CS : Addr}
def sp_weights_by_left : Sp := fun vs H Q _ => ∃ (wl : Addr) (b : Nat) (w : Nat → Nat) (sc sz : Nat), vs = [.ref wl, .int sc, .int sz] ∧ H wl = some (.lst ((wrow b w sc 0).map V.int)) ∧ b ≤ 16 ∧ sc ≤ 16 ∧ sz ≤ 900 ∧ ∀ (q : Addr) (H' : Hp), H q = none → RowsAt H' q ((List.range sz).map (wrow b w sc)) → Same H H' → Q (.ref q) H'
theorem sc_weights_by_left : FnScope ["weights", "scale", "size", "told", "left"] ["weights", "scale", "size"] (defScope s_weights_by_left) := ⟨rfl, rfl, rfl, by decide +kernel, rfl, by decide +kernel, by decide +kernel⟩
theorem ok_weights_by_left {f : Addr} {fd : FuncData} (D : Df K mg "weights_by_left" s_weights_by_left ["weights", "scale", "size"] f fd) (T : Blt mg) : FnOk P w K mg base CX0 1 f fd ["weights", "scale", "size"] sp_weights_by_left := by
  refine D.fn.ok sc_weights_by_left (fun vs H Q E h => ?_) (fun cdv A outer s H vs Q E hr h => ?_)
  · obtain ⟨wl, b, w, sc, sz, rfl, _⟩ := h; rfl
  · obtain ⟨wl, b, wt, sc, sz, rfl, hw, hb, hsc, hsz, kk⟩ := h
    refine ⟨_, (pss_cons (ps_set (i := 3) sc_weights_by_left.nd rfl (Or.inl rfl) (pe_lst pa_nil))
      (pss_cons (ps_for PassesOwn.never rfl (pi_range1 rfl T.n_range (pa_cons (pv 2) pa_nil)) (pg_name (i := 4) sc_weights_by_left.nd rfl (Or.inl rfl))
        (pss_cons (ps_expr (pe_bm PySem.F.plainAttrs_list PySem.F.slot_list_append PySem.F.type_list_append mt_append (pv 3) (pa_cons (pv 0) pa_nil)))
        (pss_one (ps_setComp (i := 0) (show CScope (defScope s_weights_by_left) _ "weight" ["weights", "scale", "size", "told", "left"] ["scale"] [1] from ⟨rfl, by decide +kernel, by decide +kernel, rfl, by decide +kernel, rfl, by decide +kernel, by decide +kernel⟩) rfl sc_weights_by_left.nd rfl (Or.inl rfl) (k_pi K (pv 0)) (fun _ _ _ _ => pts_nil) (fun _ _ _ _ => (pe_op op_mul (pv 1) (pv 0)))))))
      (pss_one (ps_ret (pv 3))))), ?_⟩
    refine ⟨(by decide : 0 ≤ sizeLine), fun to hto => ?_⟩
    have m1 := same_upd hto (o := .lst [])
    refine ⟨_, rfl, _, rfl, by omega, by omega, for_range (lo := 0) (n := (sz : Int).toNat) (fun i σ H2 => ∃ (v4 : Option V) (wi : Addr) (zs : List (Addr × List Int)), σ = [some (.ref wi), some (.int sc), some (.int sz), some (.ref to), v4] ∧ wi ≠ to ∧ H2 wi = some (.lst ((wrow b wt sc i).map V.int)) ∧ H2 to = some (.lst (zs.map fun z => V.ref z.1)) ∧ (∀ z ∈ zs, z.1 ≠ to ∧ H2 z.1 = some (.lst (z.2.map V.int))) ∧ zs.map (·.2) = (List.range i).map (wrow b wt sc) ∧ Same H H2)
      ⟨none, wl, [], rfl, ne_of_none hw hto, m1 _ _ hw, upd_same, by simp, rfl, m1⟩ ?_ ?_⟩
    · rintro i σ H2 hi ⟨v4, wi, zs, rfl, nw, hwi, hto2, hzs, ezs, m2⟩
      have hzl : zs.length = i := by have := congrArg List.length ezs; rwa [List.length_map, List.length_map, List.length_range] at this
      refine ⟨_, rfl, .inl ⟨rfl, _, SqL.of hto2⟩, _, rfl, to, _, _, rfl, rfl, hto2, by rw [List.length_map, hzl]; exact Nat.lt_of_lt_of_le (show i < 1000 by omega) (by decide), ?_⟩
      have m3 : Same H (upd H2 to (.lst (zs.map (fun z => V.ref z.1) ++ [V.ref wi]))) := fun c o e => by rw [upd_ne (ne_of_none e hto)]; exact m2 c o e
      have hwi3 : upd H2 to (.lst (zs.map (fun z => V.ref z.1) ++ [V.ref wi])) wi = some (.lst ((wrow b wt sc i).map V.int)) := by rw [upd_ne nw]; exact hwi
      have hz3 : ∀ z ∈ zs ++ [(wi, wrow b wt sc i)], z.1 ≠ to ∧ upd H2 to (.lst (zs.map (fun z => V.ref z.1) ++ [V.ref wi])) z.1 = some (.lst (z.2.map V.int)) := fun z hz => by
        rcases List.mem_append.mp hz with hz | hz
        · exact ⟨(hzs z hz).1, by rw [upd_ne (hzs z hz).1]; exact (hzs z hz).2⟩
        · have e : z = (wi, wrow b wt sc i) := by simpa using hz
          subst e; exact ⟨nw, hwi3⟩
      have hto3 : upd H2 to (.lst (zs.map (fun z => V.ref z.1) ++ [V.ref wi])) to = some (.lst ((zs ++ [(wi, wrow b wt sc i)]).map fun z => V.ref z.1)) := by rw [upd_same]; simp
      generalize upd H2 to (.lst (zs.map (fun z => V.ref z.1) ++ [V.ref wi])) = H3 at m3 hwi3 hz3 hto3
      refine ⟨_, rfl, wi, rfl, ⟨_, SqL.of hwi3⟩, comp_list (K := K) (a := wi) (xs := (wrow b wt sc i).map V.int) (fun k ys H4 => H4 = H3 ∧ ys = ((wrow b wt sc (i + 1)).take k).map V.int) ⟨rfl, rfl⟩ (fun k ys H4 _ ⟨e, _⟩ => by rw [e]; exact SqL.of hwi3) ?_ ?_⟩
      · rintro k x ys H4 hx ⟨rfl, rfl⟩
        unfold wrow at hx
        rw [List.getElem?_map, List.getElem?_map] at hx
        obtain ⟨y, hy, e⟩ := Option.map_eq_some_iff.mp hx
        obtain ⟨c, hc, e2⟩ := Option.map_eq_some_iff.mp hy
        subst e2; subst e
        have hk : k < b := by have := (List.getElem?_eq_some_iff.mp hc).1; rwa [List.length_range] at this
        have ec : c = k := by rw [List.getElem?_range hk] at hc; exact (Option.some.inj hc).symm
        subst ec
        refine ⟨by rw [List.length_map]; exact Nat.lt_of_le_of_lt (Nat.le_trans (List.length_take_le' _ _) (by unfold wrow; rw [List.length_map, List.length_range]; exact hb)) (by decide), ?_⟩
        unfold tYes
        dsimp only
        rw [if_pos rfl]
        refine ⟨_, rfl, _, rfl, _, _, rfl, rfl, .inl ⟨by omega, by omega⟩, rfl, ?_⟩
        have e3 : (wrow b wt sc (i + 1))[c]? = some ((sc : Int) * ((sc ^ i * wt c : Nat) : Int)) := by
          unfold wrow
          rw [List.getElem?_map, List.getElem?_range hk, Option.map_some, Nat.pow_succ', Nat.mul_assoc, Int.natCast_mul]
        rw [List.take_succ, e3, List.map_append]
        rfl
      · rintro ys H4 ⟨rfl, rfl⟩ q hq
        have m4 := same_upd hq (o := .lst (((wrow b wt sc (i + 1)).take ((wrow b wt sc i).map V.int).length).map V.int))
        have nq : q ≠ to := Ne.symm (ne_of_none hto3 hq)
        have etk : (wrow b wt sc (i + 1)).take ((wrow b wt sc i).map V.int).length = wrow b wt sc (i + 1) := List.take_of_length_le (by unfold wrow; simp)
        refine ⟨_, q, zs ++ [(wi, wrow b wt sc i)], rfl, nq, by rw [upd_same, etk], m4 _ _ hto3, fun z hz => ⟨(hz3 z hz).1, m4 _ _ (hz3 z hz).2⟩, ?_, m3.trans m4⟩
        rw [List.map_append, ezs, List.range_succ, List.map_append]
        rfl
    · rintro σ H2 ⟨v4, wi, zs, rfl, nw, hwi, hto2, hzs, ezs, m2⟩
      exact ⟨_, rfl, kk to H2 hto ⟨⟨zs, hto2, fun z hz => (hzs z hz).2, by rw [ezs, Int.toNat_natCast]⟩⟩ m2⟩
end
end Lw
set_option Elab.async false
set_option linter.all false
set_option maxRecDepth 100000
namespace Lw
open PySem L2 PyProof.Rows
structure TotAt (C CS : Addr) (H : Hp) (p tl la wa l2 : Addr) (b : Nat) (ls ws : List (List Int)) (L : Nat) (wt : Nat → Nat) (sc sz M : Nat) : Prop where
  ob : ∃ dx, aw [la, l2] H p = some (.ins CS dx (fldS tl wa l2))
  ta : TailsAt C H tl la b ls ws L
  sa : ∃ dx sa, aw [la, l2] H tl = some (.ins C dx (fldT b ws.length sa la)) ∧ sa ≠ l2
  wr : RowsAt (aw [la, l2] H) wa ((List.range sz).map (wrow b wt sc))
  ly : ∃ zs : List (Addr × List Int), H l2 = some (.lst (zs.map fun z => V.ref z.1)) ∧ (∀ z ∈ zs, aw [la, l2] H z.1 = some (.lst (z.2.map V.int))) ∧ zs.map (·.2) = (List.range M).map (totV ls ws b wt sc)
  ne : la ≠ l2
theorem aw_two {la l2 : Addr} {H H' : Hp} (m : Same (aw [la] H) (aw [la] H')) : Same (aw [la, l2] H) (aw [la, l2] H') := fun c o e => by
  have hc : c ∉ [la, l2] := fun hc => by rw [aw_in hc] at e; cases e
  have hc1 : c ∉ [la] := fun z => hc (by simp at z; simp [z])
  rw [aw_out hc] at e ⊢
  have := m c o (by rw [aw_out hc1]; exact e)
  rwa [aw_out hc1] at this
section
variable {C CS : Addr} {H H' : Hp} {p tl la wa l2 : Addr} {b : Nat} {ls ws : List (List Int)} {L L' : Nat} {wt : Nat → Nat} {sc sz M : Nat}
theorem TotAt.more (A : TotAt C CS H p tl la wa l2 b ls ws L wt sc sz M) (TA : TailsAt C H' tl la b ls ws L') (m : Same (aw [la] H) (aw [la] H')) : TotAt C CS H' p tl la wa l2 b ls ws L' wt sc sz M := by
  have m2 := aw_two (l2 := l2) m
  obtain ⟨dx, h1⟩ := A.ob
  obtain ⟨dx2, sa, h2, h3⟩ := A.sa
  obtain ⟨zs, g1, g2, g3⟩ := A.ly
  have hn : l2 ∉ [la] := by simpa using Ne.symm A.ne
  exact ⟨⟨dx, m2 _ _ h1⟩, TA, ⟨dx2, sa, m2 _ _ h2, h3⟩, A.wr.same m2, ⟨zs, by
    have := m l2 _ (by rw [aw_out hn]; exact g1)
    rwa [aw_out hn] at this, fun z hz => m2 _ _ (g2 z hz), g3⟩, A.ne⟩
theorem TotAt.same (A : TotAt C CS H p tl la wa l2 b ls ws L wt sc sz M) (m : Same H H') : TotAt C CS H' p tl la wa l2 b ls ws L wt sc sz M := A.more (A.ta.same m) (m.aw [la])
theorem TotAt.obj (A : TotAt C CS H p tl la wa l2 b ls ws L wt sc sz M) : ∃ dx, H p = some (.ins CS dx (fldS tl wa l2)) := let ⟨dx, h⟩ := A.ob; ⟨dx, aw_same _ _ _ _ h⟩
theorem TotAt.lay (A : TotAt C CS H p tl la wa l2 b ls ws L wt sc sz M) {t : Nat} (ht : t < M) : ∃ (zs : List V) (q : Addr), H l2 = some (.lst zs) ∧ atI zs (t : Int) = some (V.ref q) ∧ aw [la] H q = some (.lst ((totV ls ws b wt sc t).map V.int)) := by
  obtain ⟨zs, g1, g2, g3⟩ := A.ly
  have h : ((List.range M).map (totV ls ws b wt sc))[t]? = some (totV ls ws b wt sc t) := by rw [List.getElem?_map, List.getElem?_range ht]; rfl
  rw [← g3, List.getElem?_map] at h
  obtain ⟨z, hz, e⟩ := Option.map_eq_some_iff.mp h
  refine ⟨_, z.1, g1, atI_nat (by rw [List.getElem?_map, hz]; rfl), ?_⟩
  have := g2 z (List.mem_of_getElem? hz)
  rw [e] at this
  have hc : z.1 ∉ [la, l2] := fun hc => by rw [aw_in hc] at this; cases this
  rw [aw_out hc] at this
  rw [aw_out (fun z => hc (by simp at z; simp [z]))]
  exact this
end
theorem cnt_le (ls : List (List Int)) (b : Nat) : ∀ (t : Nat) (x : List Int), cnt ls b t x ≤ b ^ t
  | 0, _ => by simp [cnt]
  | t + 1, x => by
    rw [cnt, Nat.pow_succ']
    have : ∀ (n : Nat), ((List.range n).map fun (c : Nat) => if lacks ls (x ++ [(c : Int)]) = true then cnt ls b t (tailS ls (x ++ [(c : Int)])) else 0).sum ≤ n * b ^ t := by
      intro n
      induction n with
      | zero => simp
      | succ n ih =>
        rw [List.range_succ, List.map_append, List.sum_append, Nat.succ_mul]
        simp only [List.map_cons, List.map_nil, List.sum_cons, List.sum_nil, Nat.add_zero]
        have : (if lacks ls (x ++ [(n : Int)]) = true then cnt ls b t (tailS ls (x ++ [(n : Int)])) else 0) ≤ b ^ t := by
          split
          · exact cnt_le ls b t _
          · exact Nat.zero_le _
        omega
    exact this b
theorem many_le (p : Nat → Bool) : ∀ N : Nat, many p N ≤ N
  | 0 => Nat.le_refl _
  | N + 1 => by
    rw [many]
    have := many_le p N
    split <;> omega
theorem stepC_le {ls : List (List Int)} (ne : ∀ l ∈ ls, l ≠ []) {b : Nat} (h2 : 2 ≤ b) (t : Nat) (o : Option (List Int)) (c : Nat) : stepC ls b t o c ≤ b ^ t := by
  cases o with
  | some x =>
    show (if _ then _ else 0) ≤ _
    split
    · exact cnt_le ls b t _
    · exact Nat.zero_le _
  | none =>
    show (if c = 0 then _ else if _ then _ else 0) ≤ _
    split
    · rw [cntO_many ne h2]; exact many_le _ _
    · split
      · exact cnt_le ls b t _
      · exact Nat.zero_le _
theorem pow16 {b t : Nat} (h : b ≤ 16) (ht : t ≤ 1000) : b ^ t < 2 ^ 4001 := by
  have h1 : b ^ t ≤ 16 ^ t := Nat.pow_le_pow_left h t
  have h2 : (16 : Nat) ^ t = 2 ^ (4 * t) := by rw [show (16 : Nat) = 2 ^ 4 from rfl, ← Nat.pow_mul]
  have h3 : 2 ^ (4 * t) < 2 ^ 4001 := Nat.pow_lt_pow_right (Nat.lt_succ_self 1) (by omega)
  omega
section
variable {P : Program} {w : World} {K : PySem.W.Frag} {mg : Str → Option Value} {base : Heap} {T0 C CS : Addr}
def sp_weight_of (C CS : Addr) : Sp := fun vs H Q _ => ∃ (p tl la wa l2 : Addr) (b : Nat) (ls ws : List (List Int)) (L : Nat) (wt : Nat → Nat) (sc sz M j c t : Nat), vs = [.ref p, .int j, .int c, .int t] ∧ TotAt C CS H p tl la wa l2 b ls ws L wt sc sz M ∧ c < b ∧ t < sz ∧ Q (.int ((if j = ws.length then 0 else sc ^ t * wt c : Nat) : Int)) H
theorem sc_Totals_weight_of : FnScope ["self", "behind", "figure", "left"] ["self", "behind", "figure", "left"] (defScope s_Totals_weight_of) := ⟨rfl, rfl, rfl, by decide +kernel, rfl, by decide +kernel, by decide +kernel⟩
theorem ok_weight_of {f : Addr} {fd : FuncData} (D : Mt K CS "Totals.weight_of" "weight_of" s_Totals_weight_of ["self", "behind", "figure", "left"] f fd) (cTails : ClT K mg C) (cTotals : ClS K mg CS) : FnOk P w K mg base CX0 1 f fd ["self", "behind", "figure", "left"] (sp_weight_of C CS) := by
  refine D.fn.ok sc_Totals_weight_of (fun vs H Q E h => ?_) (fun cdv A outer s H vs Q E hr h => ?_)
  · obtain ⟨p, tl, la, wa, l2, b, ls, ws, L, wt, sc, sz, M, j, c, t, rfl, _⟩ := h; rfl
  · obtain ⟨p, tl, la, wa, l2, b, ls, ws, L, wt, sc, sz, M, j, c, t, rfl, TT, hc, ht, kk⟩ := h
    obtain ⟨dx, hp⟩ := TT.obj
    obtain ⟨dt, sa, htl⟩ := TT.ta.obj
    obtain ⟨zs, q, w1, w2, w3⟩ := TT.wr.get (k := t) (r := wrow b wt sc t) (by rw [List.getElem?_map, List.getElem?_range ht]; rfl)
    refine ⟨_, (pss_cons (ps_if (pt_cmpR op_eq (pv 1) (k_fld K (k_fld K (pv 0))) (nomark _))
        (pss_one (ps_ret pe_int))
        pss_nil)
      (pss_one (ps_ret (pe_ix (k_ixL K) (pe_ix (k_ixL K) (k_fld K (pv 0)) (pv 3) (fun _ _ => rfl)) (pv 2) (fun _ _ => rfl))))), ?_⟩
    refine ⟨_, rfl, _, rfl, p, CS, dx, _, _, rfl, hp, cTotals.cl, cTotals.n_tails, fldS_tails _ _ _, tl, C, dt, _, _, rfl, htl, cTails.cl, cTails.n_outset, fldT_outset _ _ _ _, rfl, _, rfl, ?_⟩
    refine ite2 (fun h => ?_) (fun h => ?_)
    · have e : j = ws.length := by have z := of_decide_eq_true h; injection z with z; omega
      rw [if_pos e] at kk
      exact kk
    · have e : ¬ j = ws.length := fun z => h (decide_eq_true (by rw [z]))
      rw [if_neg e] at kk
      refine ⟨_, rfl, p, CS, dx, _, _, rfl, hp, cTotals.cl, cTotals.n_weights, fldS_weights _ _ _, _, rfl, wa, _, _, V.ref q, rfl, rfl, SqL.of (aw_same _ _ _ _ w1), w2, _, rfl, q, _, _, V.int ((sc ^ t * wt c : Nat) : Int), rfl, rfl, SqL.of (aw_same _ _ _ _ w3), atI_nat ?_, kk⟩
      unfold wrow
      rw [List.getElem?_map, List.getElem?_map, List.getElem?_range hc]
      rfl
def SQ (C CS : Addr) (H : Hp) (p tl la wa l2 : Addr) (b : Nat) (ls ws : List (List Int)) (L : Nat) (wt : Nat → Nat) (sc sz M : Nat) (R : Nat → Hp → Prop) : Prop := ∀ (L' : Nat) (H' : Hp), L ≤ L' → TotAt C CS H' p tl la wa l2 b ls ws L' wt sc sz M → Same (aw [la] H) (aw [la] H') → R L' H'
def sp_total_under (C CS : Addr) : Sp := fun vs H Q _ => ∃ (p tl la wa l2 : Addr) (b : Nat) (ls ws : List (List Int)) (L : Nat) (wt : Nat → Nat) (sc sz M i s t ah : Nat), vs = [.ref p, .int i, .int s, .int t, .int ah] ∧ TotAt C CS H p tl la wa l2 b ls ws L wt sc sz M ∧ GoodT b ls ws ∧ L ≤ 1000 ∧ t < 900 ∧ t < sz ∧ t < M ∧ i ≤ ws.length ∧ s ≤ b ∧ sc ≤ 16 ∧ (∀ c, c < b → wt c < 2 ^ 64) ∧ ah < 2 ^ 5000 ∧
  SQ C CS H p tl la wa l2 b ls ws L wt sc sz M fun L' H' => L' ≤ max L (t + 1) → Q (.int ((ah * under ls b t ws[i]? s + underT ls b wt sc t ws[i]? s : Nat) : Int)) H'
theorem sc_Totals_total_under : FnScope ["self", "place", "stop", "left", "ahead", "counts", "totals", "total", "figure", "behind", "weight"] ["self", "place", "stop", "left", "ahead"] (defScope s_Totals_total_under) := ⟨rfl, rfl, rfl, by decide +kernel, rfl, by decide +kernel, by decide +kernel⟩
set_option maxHeartbeats 4000000 in
theorem ok_total_under {f f1 f2 : Addr} {fd fd1 fd2 : FuncData} (D : Mt K CS "Totals.total_under" "total_under" s_Totals_total_under ["self", "place", "stop", "left", "ahead"] f fd) (MTails_layer : Mt K C "Tails.layer" "layer" s_Tails_layer ["self", "left"] f1 fd1) (GTails_layer : FnOk P w K mg base CX0 2 f1 fd1 ["self", "left"] (sp_layer C)) (MTotals_weight_of : Mt K CS "Totals.weight_of" "weight_of" s_Totals_weight_of ["self", "behind", "figure", "left"] f2 fd2) (GTotals_weight_of : FnOk P w K mg base CX0 1 f2 fd2 ["self", "behind", "figure", "left"] (sp_weight_of C CS)) (cTails : ClT K mg C) (cTotals : ClS K mg CS) (T : Blt mg) : FnOk P w K mg base CX0 3 f fd ["self", "place", "stop", "left", "ahead"] (sp_total_under C CS) := by
  refine D.fn.ok sc_Totals_total_under (fun vs H Q E h => ?_) (fun cdv A outer s H vs Q E hr h => ?_)
  · obtain ⟨p, tl, la, wa, l2, b, ls, ws, L, wt, sc, sz, M, i, s, t, ah, rfl, _⟩ := h; rfl
  · obtain ⟨p, tl, la, wa, l2, b, ls, ws, L, wt, sc, sz, M, i, s, t, ah, rfl, TT, G, hL, ht, hts, htM, hi, hs, hsc, hwt, hah, kk⟩ := h
    have b2 := G.g.b2
    have b16 := G.g.b16
    obtain ⟨dx, hp⟩ := TT.obj
    obtain ⟨dt, sa0, htl⟩ := TT.ta.obj
    refine ⟨_, (pss_cons (ps_set (i := 5) sc_Totals_total_under.nd rfl (Or.inl rfl) (pmeth MTails_layer cTails.cl GTails_layer (hr.mono (by decide)) (k_fld K (pv 0)) (pa_cons (pv 3) pa_nil)))
      (pss_cons (ps_set (i := 6) sc_Totals_total_under.nd rfl (Or.inl rfl) (pe_ix (k_ixL K) (k_fld K (pv 0)) (pv 3) (fun _ _ => rfl)))
      (pss_cons (ps_set (i := 7) sc_Totals_total_under.nd rfl (Or.inl rfl) pe_int)
      (pss_cons (ps_for PassesOwn.never rfl (pi_enum K rfl T.n_enumerate (pa_cons (pe_slice (k_slL K) (pe_ix (k_ixL K) (k_fld K (k_fld K (pv 0))) (pv 1) (fun _ _ => rfl)) po_none (po_some (pv 2))) pa_nil)) (pg_tup rfl (pgs_cons (pg_name (i := 8) sc_Totals_total_under.nd rfl (Or.inl rfl)) (pgs_cons (pg_name (i := 9) sc_Totals_total_under.nd rfl (Or.inl rfl)) pgs_nil)))
        (pss_one (ps_if (pt_cmpR op_notN (pv 9) pe_non (nomark _))
          (pss_cons (ps_set (i := 10) sc_Totals_total_under.nd rfl (Or.inl rfl) (pe_op op_add (pv 4) (pmeth MTotals_weight_of cTotals.cl GTotals_weight_of (hr.mono (by decide)) (pv 0) (pa_cons (pv 9) (pa_cons (pv 8) (pa_cons (pv 3) pa_nil))))))
          (pss_one (ps_aug (i := 7) sc_Totals_total_under.nd rfl (Or.inl rfl) (pe_op op_add (pe_op op_mulB (pv 10) (pe_ix (k_ixL K) (pv 5) (pv 9) (fun _ _ => rfl))) (pe_ix (k_ixL K) (pv 6) (pv 9) (fun _ _ => rfl))) ip_add)))
          pss_nil)))
      (pss_one (ps_ret (pv 7))))))), ?_⟩
    refine ⟨_, rfl, p, CS, dx, _, _, rfl, hp, cTotals.cl, cTotals.n_tails, fldS_tails _ _ _, tl, dt, _, rfl, htl, fldT_no _ _ _ _ (by decide +kernel) (by decide +kernel) (by decide +kernel) (by decide +kernel), _, rfl, tl, la, b, ls, ws, L, t, rfl, TT.ta, G, hL, by omega, fun lay L1 H1 hL1 TA1 m1 hmx hlay => ?_⟩
    have TT1 := TT.more TA1 m1
    obtain ⟨dx1, hp1⟩ := TT1.obj
    obtain ⟨zs, tq, g1, g2, g3⟩ := TT1.lay htM
    refine ⟨_, rfl, p, CS, dx1, _, _, rfl, hp1, cTotals.cl, cTotals.n_layers, fldS_layers _ _ _, _, rfl, l2, _, _, V.ref tq, rfl, rfl, SqL.of g1, g2, ?_⟩
    obtain ⟨dt1, sa, srs, h1, h2, h3, h4⟩ := TA1.ob
    have hrow := stepsV_get (ls := ls) (b := b) (by omega) hi
    rw [← h4, List.getElem?_map] at hrow
    obtain ⟨z, hz, ez⟩ := Option.map_eq_some_iff.mp hrow
    have hz3 := aw_same _ _ _ _ (h3 z (List.mem_of_getElem? hz))
    refine ⟨_, rfl, p, CS, dx1, _, _, rfl, hp1, cTotals.cl, cTotals.n_tails, fldS_tails _ _ _, tl, C, dt1, _, _, rfl, aw_same _ _ _ _ h1, cTails.cl, cTails.n_steps, fldT_steps _ _ _ _, _, rfl, sa, _, _, V.ref z.1, rfl, rfl, SqL.of (aw_same _ _ _ _ h2), atI_nat (by rw [List.getElem?_map, hz]; rfl), ?_⟩
    refine ⟨_, rfl, _, rfl, z.1, _, rfl, SqL.of hz3, fun q hq => ?_⟩
    have ecut : cutV z.2 none (some (s : Int)) = (List.range s).map (stepV ls ws ws[i]?) := by
      rw [cutV_upto, ez, ← List.map_take, List.take_range, Nat.min_eq_left hs]
    rw [ecut]
    have m2 := same_upd hq (o := .lst ((List.range s).map (stepV ls ws ws[i]?)))
    have TT2 := TT1.same m2
    have hq2 : upd H1 q (.lst ((List.range s).map (stepV ls ws ws[i]?))) q = some (.lst ((List.range s).map (stepV ls ws ws[i]?))) := upd_same
    have hlay2 := m2 _ _ (aw_same _ _ _ _ hlay)
    have htq2 := m2 _ _ (aw_same _ _ _ _ g3)
    generalize upd H1 q (.lst ((List.range s).map (stepV ls ws ws[i]?))) = H2 at m2 TT2 hq2 hlay2 htq2
    refine ⟨q, rfl, ⟨_, SqL.of hq2⟩, for_enum (K := K) (a := q) (xs := (List.range s).map (stepV ls ws ws[i]?)) (fun k σ H3 => ∃ (v8 v9 v10 : Option V), σ = [some (.ref p), some (.int i), some (.int s), some (.int t), some (.int ah), some (.ref lay), some (.ref tq), some (.int ((ah * under ls b t ws[i]? k + underT ls b wt sc t ws[i]? k : Nat) : Int)), v8, v9, v10] ∧ Same H2 H3)
      ⟨none, none, none, rfl, Same.refl _⟩ (fun k σ H3 _ ⟨_, _, _, _, m⟩ => SqL.of (m _ _ hq2)) ?_ ?_⟩
    · rintro k x σ H3 T1 hx ⟨v8, v9, v10, rfl, m3⟩ hT1
      rw [List.getElem?_map] at hx
      obtain ⟨c, hc, e⟩ := Option.map_eq_some_iff.mp hx
      have hk : k < s := by have := (List.getElem?_eq_some_iff.mp hc).1; rwa [List.length_range] at this
      have ec : c = k := by rw [List.getElem?_range hk] at hc; exact (Option.some.inj hc).symm
      subst ec
      subst e
      refine ⟨T1, _, rfl, SqT.of upd_same, rfl, _, _, rfl, _, _, rfl, rfl, ?_⟩
      have m4 := m3.trans (same_upd hT1 (o := .tup [.int (c : Nat), stepV ls ws ws[i]? c]))
      generalize upd H3 T1 (.tup [.int (c : Nat), stepV ls ws ws[i]? c]) = H4 at m4
      have hus := under_succ ls b t ws[i]? c
      have hut := underT_succ ls b wt sc t ws[i]? c
      rcases stepT_cases (t := t) (w := wt) (sc := sc) G (c := c) hi with ⟨e1, e2, e3⟩ | ⟨j, xx, y, zz, e1, e2, e3, e4, e5, e6, e7⟩
      · rw [e1]
        refine ⟨_, rfl, rfl, _, rfl, iteF ⟨some (.int (c : Nat)), some .non, v10, ?_, m4⟩⟩
        rw [hus, hut, e2, e3]
        rfl
      · rw [e1]
        refine ⟨_, rfl, rfl, _, rfl, iteT ?_⟩
        have TT4 := TT2.same m4
        obtain ⟨dx4, hp4⟩ := TT4.obj
        refine ⟨_, rfl, _, rfl, p, dx4, _, rfl, hp4, fldS_no _ _ _ (by decide +kernel) (by decide +kernel) (by decide +kernel), _, rfl, _, rfl, _, rfl, p, tl, la, wa, l2, b, ls, ws, L1, wt, sc, sz, M, j, c, t, rfl, TT4, by omega, hts, ?_⟩
        rw [← e5]
        have hzz : zz < 2 ^ 5000 := by
          rw [e5]
          split
          · exact Nat.pow_pos (by decide)
          · have a1 := pow16 (b := sc) hsc (show t ≤ 1000 by omega)
            have a2 := hwt c (by omega)
            exact Nat.lt_of_lt_of_le (Nat.mul_lt_mul'' a1 a2) (by rw [← Nat.pow_add]; exact Nat.pow_le_pow_right (Nat.le_succ 1) (by decide))
        have hxx : xx < 2 ^ 4001 := by
          have := stepC_le G.ne b2 t ws[i]? c
          rw [e7] at this
          exact Nat.lt_of_le_of_lt this (pow16 b16 (by omega))
        have haz : ah + zz < 2 ^ 5001 := by rw [Nat.pow_succ]; omega
        refine ⟨_, _, rfl, rfl, ?_⟩
        refine ⟨_, rfl, _, rfl, _, rfl, _, rfl, lay, _, _, V.int ((xx : Nat) : Int), rfl, rfl, SqL.of (m4 _ _ hlay2), atI_nat (by rw [List.getElem?_map, e3]; rfl), _, _, rfl, rfl, (CMulB.nat (i := ah + zz) (j := xx) haz hxx (by decide) (by decide) : CMulB ((ah + zz : Nat) : Int) (xx : Int)), ?_⟩
        refine ⟨_, rfl, _, rfl, tq, _, _, V.int ((y : Nat) : Int), rfl, rfl, SqL.of (m4 _ _ htq2), atI_nat (by rw [List.getElem?_map, e4]; rfl), _, _, rfl, rfl, _, _, rfl, rfl, some (.int (c : Nat)), some (.int (j : Nat)), some (.int ((ah + zz : Nat) : Int)), ?_, m4⟩
        have ev : ((ah * under ls b t ws[i]? (c + 1) + underT ls b wt sc t ws[i]? (c + 1) : Nat) : Int) = ((ah * under ls b t ws[i]? c + underT ls b wt sc t ws[i]? c : Nat) : Int) + (((ah + zz : Nat) : Int) * (xx : Int) + (y : Int)) := by
          rw [hus, hut, e6, e7, ← Int.natCast_mul, ← Int.natCast_add, ← Int.natCast_add]
          congr 1
          rw [Nat.mul_add, Nat.add_mul]
          omega
        rw [ev]
        rfl
    · rintro σ H3 ⟨v8, v9, v10, rfl, m3⟩
      rw [List.length_map, List.length_range]
      exact ⟨_, rfl, kk L1 H3 hL1 (TT2.same m3) (m1.trans ((m2.trans m3).aw [la])) hmx⟩
end
end Lw
set_option Elab.async false
set_option linter.all false
set_option maxRecDepth 100000
namespace Lw
open PySem L2 PyProof.Rows
theorem stepsV_noref {ls ws : List (List Int)} {b : Nat} (G : GoodT b ls ws) {r : List V} (hr : r ∈ stepsV ls ws b) {a : Addr} : V.ref a ∉ r := by
  obtain ⟨i, hi, e⟩ := List.mem_iff_getElem.mp hr
  have hlen : (stepsV ls ws b).length = ws.length + 1 := by unfold stepsV; rw [List.length_append, List.length_map, List.length_singleton]
  have hi' : i ≤ ws.length := by omega
  have h := stepsV_get (ls := ls) (b := b) (by have := G.g.b2; omega) hi'
  rw [List.getElem?_eq_getElem hi, e] at h
  have h' := Option.some.inj h
  intro hm
  rw [h'] at hm
  obtain ⟨c, _, hc⟩ := List.mem_map.mp hm
  rcases stepV_cases (b := b) (t := 0) G (c := c) hi' with ⟨e1, _⟩ | ⟨j, e1, _⟩
  · rw [e1] at hc; cases hc
  · rw [e1] at hc; cases hc
theorem TailsAt.updL {C tl la b l2 : Nat} {H : Hp} {ls ws : List (List Int)} {L : Nat} {o : HO} {r0 : Addr} {rest : List V} (TA : TailsAt C H tl la b ls ws L) (G : GoodT b ls ws) (h : H l2 = some (.lst (V.ref r0 :: rest))) (hne : la ≠ l2) (hsa : ∃ dx sa, H tl = some (.ins C dx (fldT b ws.length sa la)) ∧ sa ≠ l2) : TailsAt C (upd H l2 o) tl la b ls ws L := by
  obtain ⟨dx, sa, srs, h1, h2, h3, h4⟩ := TA.ob
  obtain ⟨lrs, g1, g2, g3⟩ := TA.ly
  obtain ⟨dx', sa', k1, k2⟩ := hsa
  have esa : sa' = sa := by
    have := aw_same _ _ _ _ h1
    rw [k1] at this
    injection this with this
    injection this with _ _ this
    have e := fldT_steps b ws.length sa la
    rw [← this, fldT_steps] at e
    injection e with e
    injection e
  have go : ∀ c u, c ≠ l2 → aw [la] H c = some u → aw [la] (upd H l2 o) c = some u := fun c u hc e => by
    have hcl : c ∉ [la] := fun hz => by rw [aw_in hz] at e; cases e
    rw [aw_out hcl] at e ⊢
    rw [upd_ne hc]; exact e
  refine ⟨⟨dx, sa, srs, go _ _ (fun z => ?_) h1, go _ _ (fun z => k2 (by rw [esa, z])) h2, fun z hz => go _ _ (fun y => ?_) (h3 z hz), h4⟩, ⟨lrs, by rw [upd_ne hne]; exact g1, fun z hz => go _ _ (fun y => ?_) (g2 z hz), g3⟩, TA.l1⟩
  · have := aw_same _ _ _ _ h1
    rw [z, h] at this; cases this
  · have e := aw_same _ _ _ _ (h3 z hz)
    rw [y, h] at e
    injection e with e
    injection e with e
    have hm : z.2 ∈ stepsV ls ws b := by rw [← h4]; exact List.mem_map.mpr ⟨z, hz, rfl⟩
    exact stepsV_noref G hm (a := r0) (by rw [← e]; exact List.mem_cons_self)
  · have e := aw_same _ _ _ _ (g2 z hz)
    rw [y, h] at e
    injection e with e
    injection e with e
    cases hz2 : z.2 with
    | nil => rw [hz2] at e; cases e
    | cons a l => rw [hz2, List.map_cons] at e; injection e with e _; cases e
theorem TailsAt.updI {C tl la b p CS dxp : Nat} {H : Hp} {ls ws : List (List Int)} {L : Nat} {o : HO} {fs : List (Str × V)} (TA : TailsAt C H tl la b ls ws L) (h : H p = some (.ins CS dxp fs)) (hne : tl ≠ p) : TailsAt C (upd H p o) tl la b ls ws L := by
  obtain ⟨dx, sa, srs, h1, h2, h3, h4⟩ := TA.ob
  obtain ⟨lrs, g1, g2, g3⟩ := TA.ly
  have nl : ∀ {c : Addr} {xs : List V}, H c = some (.lst xs) → c ≠ p := fun e z => by rw [z, h] at e; cases e
  have go : ∀ c u, c ≠ p → aw [la] H c = some u → aw [la] (upd H p o) c = some u := fun c u hc e => by
    have hcl : c ∉ [la] := fun hz => by rw [aw_in hz] at e; cases e
    rw [aw_out hcl] at e ⊢
    rw [upd_ne hc]; exact e
  exact ⟨⟨dx, sa, srs, go _ _ hne h1, go _ _ (nl (aw_same _ _ _ _ h2)) h2, fun z hz => go _ _ (nl (aw_same _ _ _ _ (h3 z hz))) (h3 z hz), h4⟩, ⟨lrs, by rw [upd_ne (nl g1)]; exact g1, fun z hz => go _ _ (nl (aw_same _ _ _ _ (g2 z hz))) (g2 z hz), g3⟩, TA.l1⟩
theorem RowsAt.updI {H : Hp} {a p CS dxp : Addr} {rs : List (List Int)} {o : HO} {fs : List (Str × V)} (R : RowsAt H a rs) (h : H p = some (.ins CS dxp fs)) : RowsAt (upd H p o) a rs := by
  obtain ⟨zs, h1, h2, h3⟩ := R.ex
  have nl : ∀ {c : Addr} {xs : List V}, H c = some (.lst xs) → c ≠ p := fun e z => by rw [z, h] at e; cases e
  exact ⟨⟨zs, by rw [upd_ne (nl h1)]; exact h1, fun z hz => by rw [upd_ne (nl (h2 z hz))]; exact h2 z hz, h3⟩⟩
theorem LT.putI {T p CS dx : Addr} {H : Hp} {o : HO} {fs : List (Str × V)} (h : LT T H) (e : H p = some (.ins CS dx fs)) : LT T (upd H p o) := by
  have nT : p ≠ T := fun z => by
    rw [z] at e
    rcases h with h | ⟨c, h, _⟩
    · rw [h] at e; cases e
    · rw [h] at e; cases e
  rcases h with h | ⟨c, h1, h2⟩
  · exact .inl (by rw [upd_ne (Ne.symm nT)]; exact h)
  · exact .inr ⟨c, by rw [upd_ne (Ne.symm nT)]; exact h1, by rw [upd_ne (fun z => by rw [z, e] at h2; cases h2)]; exact h2⟩
section
variable {C CS : Addr} {H H' : Hp} {p tl la wa l2 : Addr} {b : Nat} {ls ws : List (List Int)} {L L' : Nat} {wt : Nat → Nat} {sc sz M : Nat}
theorem TotAt.push (A : TotAt C CS H p tl la wa l2 b ls ws L wt sc sz M) (G : GoodT b ls ws) (hM : 1 ≤ M) {q : Addr} {xs : List V} (hx : H l2 = some (.lst xs)) (hq : aw [la, l2] H q = some (.lst ((totV ls ws b wt sc M).map V.int))) : TotAt C CS (upd H l2 (.lst (xs ++ [.ref q]))) p tl la wa l2 b ls ws L wt sc sz (M + 1) := by
  obtain ⟨dx, h1⟩ := A.ob
  obtain ⟨dx2, sa, h2, h3⟩ := A.sa
  obtain ⟨zs, g1, g2, g3⟩ := A.ly
  have ex : xs = zs.map fun z => V.ref z.1 := by
    rw [hx] at g1
    injection g1 with g1
    injection g1
  have hzl : zs.length = M := by have := congrArg List.length g3; rwa [List.length_map, List.length_map, List.length_range] at this
  have e0 := aw_upd_in' (fp := [la, l2]) (H := H) (b := l2) (o := .lst (xs ++ [.ref q])) (by simp)
  obtain ⟨z0, zr, ez⟩ : ∃ z0 zr, zs = z0 :: zr := by
    cases zs with
    | nil => simp at hzl; omega
    | cons a l => exact ⟨a, l, rfl⟩
  refine ⟨⟨dx, by rw [e0]; exact h1⟩, A.ta.updL G (r0 := z0.1) (rest := zr.map fun z => V.ref z.1) (by rw [hx, ex, ez]; rfl) A.ne ⟨dx2, sa, aw_same _ _ _ _ h2, h3⟩, ⟨dx2, sa, by rw [e0]; exact h2, h3⟩, by rw [e0]; exact A.wr, ⟨zs ++ [(q, totV ls ws b wt sc M)], by rw [upd_same, ex]; simp, fun z hz => ?_, ?_⟩, A.ne⟩
  · rw [e0]
    rcases List.mem_append.mp hz with hz | hz
    · exact g2 z hz
    · have e : z = (q, totV ls ws b wt sc M) := by simpa using hz
      subst e; exact hq
  · rw [List.map_append, g3, List.range_succ, List.map_append]
    rfl
end
section
variable {P : Program} {w : World} {K : PySem.W.Frag} {mg : Str → Option Value} {base : Heap} {T0 C CS : Addr}
def sp_longer_layer (C CS : Addr) : Sp := fun vs H Q _ => ∃ (p tl la wa l2 : Addr) (b : Nat) (ls ws : List (List Int)) (L : Nat) (wt : Nat → Nat) (sc sz M t : Nat), vs = [.ref p, .int t] ∧ TotAt C CS H p tl la wa l2 b ls ws L wt sc sz M ∧ GoodT b ls ws ∧ L ≤ 900 ∧ t < 900 ∧ t < sz ∧ t < M ∧ sc ≤ 16 ∧ (∀ c, c < b → wt c < 2 ^ 64) ∧
  ∀ q, SQ C CS H p tl la wa l2 b ls ws L wt sc sz M fun L' H' => L' ≤ max L (t + 1) → aw [la, l2] H' q = some (.lst ((totV ls ws b wt sc (t + 1)).map V.int)) → Q (.ref q) H'
theorem sc_Totals_longer_layer : FnScope ["self", "left"] ["self", "left"] (defScope s_Totals_longer_layer) := ⟨rfl, rfl, rfl, by decide +kernel, rfl, by decide +kernel, by decide +kernel⟩
set_option maxHeartbeats 4000000 in
theorem ok_longer_layer {f f1 : Addr} {fd fd1 : FuncData} (D : Mt K CS "Totals.longer_layer" "longer_layer" s_Totals_longer_layer ["self", "left"] f fd) (MTotals_total_under : Mt K CS "Totals.total_under" "total_under" s_Totals_total_under ["self", "place", "stop", "left", "ahead"] f1 fd1) (GTotals_total_under : FnOk P w K mg base CX0 3 f1 fd1 ["self", "place", "stop", "left", "ahead"] (sp_total_under C CS)) (cTails : ClT K mg C) (cTotals : ClS K mg CS) (T : Blt mg) : FnOk P w K mg base CX0 4 f fd ["self", "left"] (sp_longer_layer C CS) := by
  refine D.fn.ok sc_Totals_longer_layer (fun vs H Q E h => ?_) (fun cdv A outer s H vs Q E hr h => ?_)
  · obtain ⟨p, tl, la, wa, l2, b, ls, ws, L, wt, sc, sz, M, t, rfl, _⟩ := h; rfl
  · obtain ⟨p, tl, la, wa, l2, b, ls, ws, L, wt, sc, sz, M, t, rfl, TT, G, hL, ht, hts, htM, hsc, hwt, kk⟩ := h
    have h13 := G.h13
    obtain ⟨dx, hp⟩ := TT.obj
    obtain ⟨dt, sa0, htl⟩ := TT.ta.obj
    refine ⟨_, (pss_one (ps_ret (pe_comp (show CScope (defScope s_Totals_longer_layer) _ "place" ["self", "left"] ["left", "self"] [1, 0] from ⟨rfl, by decide +kernel, by decide +kernel, rfl, by decide +kernel, rfl, by decide +kernel, by decide +kernel⟩) rfl (pi_range1 rfl T.n_range (pa_cons (pe_op op_add (k_fld K (k_fld K (pv 0))) pe_int) pa_nil)) (fun _ _ _ _ => pts_nil) (fun _ _ _ _ => (pmeth MTotals_total_under cTotals.cl GTotals_total_under (hr.mono (by decide)) (pv 2) (pa_cons (pv 0) (pa_cons (k_fld K (k_fld K (pv 2))) (pa_cons (pv 1) (pa_cons pe_int pa_nil))))))))), ?_⟩
    refine ⟨_, rfl, p, CS, dx, _, _, rfl, hp, cTotals.cl, cTotals.n_tails, fldS_tails _ _ _, tl, C, dt, _, _, rfl, htl, cTails.cl, cTails.n_outset, fldT_outset _ _ _ _, _, _, rfl, rfl, ((ws.length : Int) + 1), rfl, by omega, by omega, comp_range (lo := 0) (n := ((ws.length : Int) + 1).toNat) (fun i ys H4 => ∃ L', ys = (((List.range i).map fun i => ((underT ls b wt sc t ws[i]? b : Nat) : Int))).map V.int ∧ L ≤ L' ∧ L' ≤ max L (t + 1) ∧ TotAt C CS H4 p tl la wa l2 b ls ws L' wt sc sz M ∧ Same (aw [la] H) (aw [la] H4)) ⟨L, rfl, Nat.le_refl _, Nat.le_max_left _ _, TT, Same.refl _⟩ ?_ ?_⟩
    · rintro i ys H4 hi ⟨L', rfl, hLL, hLm, TT4, m4⟩
      refine ⟨by rw [List.length_map, List.length_map, List.length_range]; exact Nat.lt_of_lt_of_le (show i < 20 by omega) (by decide), ?_⟩
      unfold tYes
      dsimp only
      rw [if_pos rfl]
      obtain ⟨dx4, hp4⟩ := TT4.obj
      obtain ⟨dt4, sa4, htl4⟩ := TT4.ta.obj
      refine ⟨_, rfl, p, dx4, _, rfl, hp4, fldS_no _ _ _ (by decide +kernel) (by decide +kernel) (by decide +kernel), _, rfl, _, rfl, p, CS, dx4, _, _, rfl, hp4, cTotals.cl, cTotals.n_tails, fldS_tails _ _ _, tl, C, dt4, _, _, rfl, htl4, cTails.cl, cTails.n_base, fldT_base _ _ _ _, _, rfl, p, tl, la, wa, l2, b, ls, ws, L', wt, sc, sz, M, i, b, t, 0, by rw [Int.zero_add]; rfl, TT4, G, by omega, ht, hts, htM, by omega, Nat.le_refl _, hsc, hwt, Nat.pow_pos (by decide), fun L5 H5 hL5 TT5 m5 hm5 => ⟨L5, ?_, by omega, by omega, TT5, m4.trans m5⟩⟩
      rw [List.range_succ, List.map_append, List.map_append, Nat.zero_mul, Nat.zero_add]
      rfl
    · rintro ys H4 ⟨L', rfl, hLL, hLm, TT4, m4⟩ q hq
      rw [show ((ws.length : Int) + 1).toNat = ws.length + 1 by omega, totV_more]
      have m5 := same_upd hq (o := .lst ((totV ls ws b wt sc (t + 1)).map V.int))
      obtain ⟨xs, hla⟩ := TT4.ta.la
      obtain ⟨zs, hl2, _⟩ := TT4.ly
      exact kk q L' _ hLL (TT4.same m5) (m4.trans (m5.aw [la])) hLm (by rw [aw_out (by simp [Ne.symm (ne_of_none hla hq), Ne.symm (ne_of_none hl2 hq)]), upd_same])
def sp_total_within (C CS : Addr) : Sp := fun vs H Q _ => ∃ (p tl la wa l2 : Addr) (b : Nat) (ls ws : List (List Int)) (L : Nat) (wt : Nat → Nat) (sc sz M t : Nat), vs = [.ref p, .int t] ∧ TotAt C CS H p tl la wa l2 b ls ws L wt sc sz M ∧ t < M ∧ Q (.int (ttO ls b wt sc t : Nat)) H
theorem sc_Totals_total_within : FnScope ["self", "size"] ["self", "size"] (defScope s_Totals_total_within) := ⟨rfl, rfl, rfl, by decide +kernel, rfl, by decide +kernel, by decide +kernel⟩
theorem ok_total_within {f : Addr} {fd : FuncData} (D : Mt K CS "Totals.total_within" "total_within" s_Totals_total_within ["self", "size"] f fd) (cTails : ClT K mg C) (cTotals : ClS K mg CS) : FnOk P w K mg base CX0 1 f fd ["self", "size"] (sp_total_within C CS) := by
  refine D.fn.ok sc_Totals_total_within (fun vs H Q E h => ?_) (fun cdv A outer s H vs Q E hr h => ?_)
  · obtain ⟨p, tl, la, wa, l2, b, ls, ws, L, wt, sc, sz, M, t, rfl, _⟩ := h; rfl
  · obtain ⟨p, tl, la, wa, l2, b, ls, ws, L, wt, sc, sz, M, t, rfl, TT, htM, kk⟩ := h
    obtain ⟨dx, hp⟩ := TT.obj
    obtain ⟨dt, sa0, htl⟩ := TT.ta.obj
    obtain ⟨zs, tq, g1, g2, g3⟩ := TT.lay htM
    refine ⟨_, (pss_one (ps_ret (pe_ix (k_ixL K) (pe_ix (k_ixL K) (k_fld K (pv 0)) (pv 1) (fun _ _ => rfl)) (k_fld K (k_fld K (pv 0))) (fun _ _ => rfl)))), ?_⟩
    refine ⟨_, rfl, p, CS, dx, _, _, rfl, hp, cTotals.cl, cTotals.n_layers, fldS_layers _ _ _, _, rfl, l2, _, _, V.ref tq, rfl, rfl, SqL.of g1, g2, _, rfl, p, CS, dx, _, _, rfl, hp, cTotals.cl, cTotals.n_tails, fldS_tails _ _ _, tl, C, dt, _, _, rfl, htl, cTails.cl, cTails.n_outset, fldT_outset _ _ _ _, tq, _, _, V.int ((ttO ls b wt sc t : Nat) : Int), rfl, rfl, SqL.of (aw_same _ _ _ _ g3), atI_nat ?_, kk⟩
    unfold totV
    rw [List.map_append, List.getElem?_append_right (by rw [List.length_map, List.length_map]; exact Nat.le_refl _), List.length_map, List.length_map, Nat.sub_self]
    rfl
end
end Lw
set_option Elab.async false
set_option linter.all false
set_option maxRecDepth 100000
namespace Lw
open PySem L2 PyProof.Rows
theorem LT.putL2 {T p : Addr} {H : Hp} {o : HO} {xs : List V} (h : LT T H) (e : H p = some (.lst xs)) : LT T (upd H p o) :=
  h.off e (by rw [aw_upd_in' (by simp)]; exact Same.refl _)
theorem rep_nought {α : Type} {f : α → V} (h : ∀ a, f a = V.int 0) : ∀ l : List α, (List.replicate l.length [V.int 0]).flatten = l.map f
  | [] => rfl
  | a :: l => by rw [List.length_cons, List.replicate_succ, List.flatten_cons, rep_nought h l, List.map_cons, h a]; rfl
theorem totV_zero {ls ws : List (List Int)} {b sc : Nat} {wt : Nat → Nat} : (totV ls ws b wt sc 0).map V.int = (List.replicate ws.length [V.int 0]).flatten ++ [V.int ((wt 0 : Nat) * (cntO ls b 0 : Nat) : Int)] := by
  unfold totV
  rw [List.map_append, List.map_map, rep_nought (f := V.int ∘ fun x => ((tt ls b wt sc 0 x : Nat) : Int)) (fun _ => rfl) ws]
  congr 1
section
variable {P : Program} {w : World} {K : PySem.W.Frag} {mg : Str → Option Value} {base : Heap} {T0 C CS : Addr}
def sp_totals (T0 C CS : Addr) : Sp := fun vs H Q _ => ∃ (p dx r : Addr) (b : Nat) (bl : Addr) (zs : List (Addr × List Int)) (wl : Addr) (wt : Nat → Nat) (sc sz : Nat), vs = [.ref p, .ref r, .ref wl, .int sc, .int sz] ∧ H p = some (.ins CS dx []) ∧ RuleAt H r b bl zs ∧ GoodRule b (zs.map (·.2)) ∧ LT T0 H ∧ H wl = some (.lst ((wrow b wt sc 0).map V.int)) ∧ sc ≤ 16 ∧ sz ≤ 800 ∧ (∀ c, c < b → wt c < 2 ^ 64) ∧
  ∀ (tl la wa l2 : Addr) (ws : List (List Int)) (L : Nat) (H' : Hp), TotAt C CS H' p tl la wa l2 b (zs.map (·.2)) ws L wt sc sz (sz + 1) → GoodT b (zs.map (·.2)) ws → L ≤ 801 → (∀ c o, c ≠ p → c ≠ T0 → H c = some o → H' c = some o) → LT T0 H' → H la = none → H l2 = none → Q .non H'
theorem sc_Totals___init__ : FnScope ["self", "rule", "weights", "scale", "size", "left"] ["self", "rule", "weights", "scale", "size"] (defScope s_Totals___init__) := ⟨rfl, rfl, rfl, by decide +kernel, rfl, by decide +kernel, by decide +kernel⟩
set_option maxHeartbeats 4000000 in
theorem ok_totals {f f1 f2 f3 f4 : Addr} {fd fd1 fd2 fd3 fd4 : FuncData} (D : Mt K CS "Totals.__init__" "__init__" s_Totals___init__ ["self", "rule", "weights", "scale", "size"] f fd) (KTails : Mk K C f1) (BTails : Binds K fd1 ["self", "rule"] []) (GTails_init : FnOk P w K mg base CX0 7 f1 fd1 ["self", "rule"] (sp_tails T0 C)) (Dweights_by_left : Df K mg "weights_by_left" s_weights_by_left ["weights", "scale", "size"] f2 fd2) (Gweights_by_left : FnOk P w K mg base CX0 1 f2 fd2 ["weights", "scale", "size"] sp_weights_by_left)
    (MTails_many_within : Mt K C "Tails.many_within" "many_within" s_Tails_many_within ["self", "size"] f3 fd3) (GTails_many_within : FnOk P w K mg base CX0 3 f3 fd3 ["self", "size"] (sp_many_within C)) (MTotals_longer_layer : Mt K CS "Totals.longer_layer" "longer_layer" s_Totals_longer_layer ["self", "left"] f4 fd4) (GTotals_longer_layer : FnOk P w K mg base CX0 4 f4 fd4 ["self", "left"] (sp_longer_layer C CS)) (cTails : ClT K mg C) (cTotals : ClS K mg CS) (T : Blt mg) : FnOk P w K mg base CX0 9 f fd ["self", "rule", "weights", "scale", "size"] (sp_totals T0 C CS) := by
  refine D.fn.ok sc_Totals___init__ (fun vs H Q E h => ?_) (fun cdv A outer s H vs Q E hr h => ?_)
  · obtain ⟨p, dx, r, b, bl, zs, wl, wt, sc, sz, rfl, _⟩ := h; rfl
  · obtain ⟨p, dx, r, b, bl, zs, wl, wt, sc, sz, rfl, hp, R, g, hT, hwl, hsc, hsz, hwt, kk⟩ := h
    have b2 := g.b2
    have b16 := g.b16
    have npT : p ≠ T0 := fun z => by
      rw [z] at hp
      rcases hT with h | ⟨c, h, _⟩
      · rw [h] at hp; cases hp
      · rw [h] at hp; cases hp
    have wlp : wl ≠ p := ne_of hwl hp (fun z => nomatch z)
    refine ⟨_, (pss_cons (ps_fld (pv 0) (pe_make KTails GTails_init (hr.mono (by decide)) rfl cTails.nm BTails .nil pass0 (pa_cons (pv 1) pa_nil)) rfl)
      (pss_cons (ps_fld (pv 0) (pcall Dweights_by_left Gweights_by_left (hr.mono (by decide)) (pa_cons (pv 2) (pa_cons (pv 3) (pa_cons (pv 4) pa_nil)))) rfl)
      (pss_cons (ps_fld (pv 0) (pe_lst (pa_cons (pe_op op_cat (pe_op op_rep (pe_lst (pa_cons pe_int pa_nil)) (k_fld K (k_fld K (pv 0)))) (pe_lst (pa_cons (pe_op op_mul (pe_ix (k_ixL K) (pv 2) pe_int (fun _ _ => rfl)) (pmeth MTails_many_within cTails.cl GTails_many_within (hr.mono (by decide)) (k_fld K (pv 0)) (pa_cons pe_int pa_nil))) pa_nil))) pa_nil)) rfl)
      (pss_one (ps_for PassesOwn.never rfl (pi_range1 rfl T.n_range (pa_cons (pv 4) pa_nil)) (pg_name (i := 5) sc_Totals___init__.nd rfl (Or.inl rfl))
        (pss_one (ps_expr (pe_bm PySem.F.plainAttrs_list PySem.F.slot_list_append PySem.F.type_list_append mt_append (k_fld K (pv 0)) (pa_cons (pmeth MTotals_longer_layer cTotals.cl GTotals_longer_layer (hr.mono (by decide)) (pv 0) (pa_cons (pv 5) pa_nil)) pa_nil))))))))), ?_⟩
    refine ⟨_, rfl, ?_⟩
    refine made_of R g hT ?_
    rintro tl H1 ⟨la, ws, TA1, G, m1, hT1, hla⟩
    have h13 := G.h13
    have hp1 := m1 _ _ npT hp
    have hwl1 := m1 _ _ (hT.lst hwl) hwl
    have tlp : tl ≠ p := fun z => by
      obtain ⟨dt, sa, e⟩ := TA1.obj
      rw [z, hp1] at e
      injection e with e
      injection e with _ _ e
      have := fldT_steps b ws.length sa la
      rw [← e] at this
      cases this
    refine ⟨_, rfl, p, CS, dx, _, rfl, hp1, cTotals.cl, cTotals.n_tails, (by show 0 < 1000; decide), ?_⟩
    have TA2 := TA1.updI (o := .ins CS dx (putF "tails" (.ref tl) [])) hp1 tlp
    have hT2 := hT1.putI (o := .ins CS dx (putF "tails" (.ref tl) [])) hp1
    have hp2 : upd H1 p (.ins CS dx (putF "tails" (.ref tl) [])) p = some (.ins CS dx (putF "tails" (.ref tl) [])) := upd_same
    have hwl2 : upd H1 p (.ins CS dx (putF "tails" (.ref tl) [])) wl = some (.lst ((wrow b wt sc 0).map V.int)) := by rw [upd_ne wlp]; exact hwl1
    have n2 : ∀ c o, c ≠ p → c ≠ T0 → H c = some o → upd H1 p (.ins CS dx (putF "tails" (.ref tl) [])) c = some o := fun c o h1 h2 e => by rw [upd_ne h1]; exact m1 c o h2 e
    generalize upd H1 p (.ins CS dx (putF "tails" (.ref tl) [])) = H2 at TA2 hT2 hp2 hwl2 n2
    refine ⟨_, rfl, _, rfl, _, rfl, wl, b, wt, sc, sz, rfl, hwl2, b16, hsc, by omega, fun wa H3 hwa RW3 m3 => ?_⟩
    have hp3 := m3 _ _ hp2
    refine ⟨_, rfl, p, CS, dx, _, rfl, hp3, cTotals.cl, cTotals.n_weights, (by show 1 < 1000; decide), ?_⟩
    have TA3 := TA2.same m3
    have TA4 := TA3.updI (o := .ins CS dx (putF "weights" (.ref wa) (putF "tails" (.ref tl) []))) hp3 tlp
    have hT4 := (hT2.same m3).putI (o := .ins CS dx (putF "weights" (.ref wa) (putF "tails" (.ref tl) []))) hp3
    have RW4 := RW3.updI (o := .ins CS dx (putF "weights" (.ref wa) (putF "tails" (.ref tl) []))) hp3
    have hp4 : upd H3 p (.ins CS dx (putF "weights" (.ref wa) (putF "tails" (.ref tl) []))) p = some (.ins CS dx (putF "weights" (.ref wa) (putF "tails" (.ref tl) []))) := upd_same
    have hwl4 : upd H3 p (.ins CS dx (putF "weights" (.ref wa) (putF "tails" (.ref tl) []))) wl = some (.lst ((wrow b wt sc 0).map V.int)) := by rw [upd_ne wlp]; exact m3 _ _ hwl2
    have n4 : ∀ c o, c ≠ p → c ≠ T0 → H c = some o → upd H3 p (.ins CS dx (putF "weights" (.ref wa) (putF "tails" (.ref tl) []))) c = some o := fun c o h1 h2 e => by rw [upd_ne h1]; exact m3 _ _ (n2 c o h1 h2 e)
    generalize upd H3 p (.ins CS dx (putF "weights" (.ref wa) (putF "tails" (.ref tl) []))) = H4 at TA4 hT4 RW4 hp4 hwl4 n4
    have lkt : (putF "weights" (.ref wa) (putF "tails" (.ref tl) [])).lookup ("tails" : Str) = some (V.ref tl) := by rw [lookup_putF, if_neg (by decide +kernel), lookup_putF, if_pos rfl]
    refine ⟨(by show 1 ≤ sizeLine; decide), fun q1 k1 => ?_⟩
    have s1 := same_upd k1 (o := .lst [V.int 0])
    obtain ⟨dt, sa, htl⟩ := (TA4.same s1).obj
    refine ⟨_, rfl, p, CS, dx, _, _, rfl, s1 _ _ hp4, cTotals.cl, cTotals.n_tails, lkt, tl, C, dt, _, _, rfl, htl, cTails.cl, cTails.n_outset, fldT_outset _ _ _ _, ?_⟩
    refine ⟨q1, _, _, rfl, rfl, upd_same, by omega, by omega, ?_, fun q2 k2 => ?_⟩
    · show 1 * (ws.length : Int).toNat ≤ sizeLine
      exact Nat.le_trans (show 1 * (ws.length : Int).toNat ≤ 13 by omega) (by decide)
    have q2la : q2 ≠ la := fun z => by
      obtain ⟨lx, hlx⟩ := TA4.la
      have := s1 _ _ hlx
      rw [← z, k2] at this; cases this
    have s2 := s1.trans (same_upd k2 (o := .lst (List.replicate (ws.length : Int).toNat [V.int 0]).flatten))
    have hq2 : upd (upd H4 q1 (.lst [V.int 0])) q2 (.lst (List.replicate (ws.length : Int).toNat [V.int 0]).flatten) q2 = some (.lst (List.replicate (ws.length : Int).toNat [V.int 0]).flatten) := upd_same
    generalize upd (upd H4 q1 (.lst [V.int 0])) q2 (.lst (List.replicate (ws.length : Int).toNat [V.int 0]).flatten) = H5 at s2 hq2
    have TA5 := TA4.same s2
    obtain ⟨dt5, sa5, htl5⟩ := TA5.obj
    refine ⟨_, rfl, wl, _, _, V.int ((sc ^ 0 * wt 0 : Nat) : Int), rfl, rfl, SqL.of (s2 _ _ hwl4), ?_, ?_⟩
    · refine atI_nat (j := 0) ?_
      unfold wrow
      rw [List.getElem?_map, List.getElem?_map, List.getElem?_range (by omega)]
      rfl
    refine ⟨_, rfl, p, CS, dx, _, _, rfl, s2 _ _ hp4, cTotals.cl, cTotals.n_tails, lkt, tl, dt5, _, rfl, htl5, fldT_no _ _ _ _ (by decide +kernel) (by decide +kernel) (by decide +kernel) (by decide +kernel), tl, la, b, _, ws, 1, 0, rfl, TA5, G, by decide, by decide, fun L6 H6 hL6 TA6 m6 hmx => ?_⟩
    have w0 := hwt 0 (by omega)
    have e00 : sc ^ 0 * wt 0 = wt 0 := by rw [Nat.pow_zero, Nat.one_mul]
    refine ⟨_, _, rfl, rfl, .inl ⟨by omega, by omega⟩, ?_⟩
    have hT6 : LT T0 H6 := (hT4.same s2).off (la := la) (xs := _) (TA5.la.choose_spec) m6
    have off6 : ∀ c o, c ≠ la → H5 c = some o → H6 c = some o := fun c o hc e => by
      have hc' : c ∉ [la] := by simpa using hc
      have := m6 c o (by rw [aw_out hc']; exact e)
      rwa [aw_out hc'] at this
    obtain ⟨lx, hlx⟩ := TA4.la
    have pla : p ≠ la := ne_of hp4 hlx (fun z => nomatch z)
    have hp6 := off6 _ _ pla (s2 _ _ hp4)
    have hq6' := off6 _ _ q2la hq2
    refine ⟨(by show 1 ≤ sizeLine; decide), fun q4 k4 => ?_⟩
    have nq : q2 ≠ q4 := ne_of_none hq6' k4
    refine ⟨q2, q4, _, _, rfl, rfl, by rw [upd_ne nq]; exact hq6', upd_same, ?_, fun q5 k5 => ⟨(by show 1 ≤ sizeLine; decide), fun q6 k6 => ?_⟩⟩
    · rw [Int.toNat_natCast, rep_nought (f := fun _ => V.int 0) (fun _ => rfl) ws, List.length_map]
      exact Nat.le_trans (show ws.length + 1 ≤ 14 by omega) (by decide)
    have t4 := same_upd k4 (o := .lst [V.int (((sc ^ 0 * wt 0 : Nat) : Int) * ((cntO (zs.map (·.2)) b 0 : Nat) : Int))])
    have t5 := t4.trans (same_upd k5 (o := .lst ((List.replicate (ws.length : Int).toNat [V.int 0]).flatten ++ [V.int (((sc ^ 0 * wt 0 : Nat) : Int) * ((cntO (zs.map (·.2)) b 0 : Nat) : Int))])))
    have t6 := t5.trans (same_upd k6 (o := .lst [V.ref q5]))
    have f6 := t5.free k6
    refine ⟨_, rfl, p, CS, dx, _, rfl, t6 _ _ hp6, cTotals.cl, cTotals.n_layers, (by show 2 < 1000; decide), ?_⟩
    have np5 : q5 ≠ q6 := fun z => by rw [← z, upd_same] at k6; cases k6
    have hp9 := t6 _ _ hp6
    have hq6 := (upd_same : upd (upd (upd H6 q4 (.lst [V.int (((sc ^ 0 * wt 0 : Nat) : Int) * ((cntO (zs.map (·.2)) b 0 : Nat) : Int))])) q5 (.lst ((List.replicate (ws.length : Int).toNat [V.int 0]).flatten ++ [V.int (((sc ^ 0 * wt 0 : Nat) : Int) * ((cntO (zs.map (·.2)) b 0 : Nat) : Int))]))) q6 (.lst [V.ref q5]) q6 = _)
    have hq5 : upd (upd (upd H6 q4 (.lst [V.int (((sc ^ 0 * wt 0 : Nat) : Int) * ((cntO (zs.map (·.2)) b 0 : Nat) : Int))])) q5 (.lst ((List.replicate (ws.length : Int).toNat [V.int 0]).flatten ++ [V.int (((sc ^ 0 * wt 0 : Nat) : Int) * ((cntO (zs.map (·.2)) b 0 : Nat) : Int))]))) q6 (.lst [V.ref q5]) q5 = some (.lst ((totV (zs.map (·.2)) ws b wt sc 0).map V.int)) := by
      rw [upd_ne np5, upd_same, totV_zero, Int.toNat_natCast, Nat.pow_zero, Nat.one_mul]
    have f5 : H6 q5 = none := t4.free k5
    generalize upd (upd (upd H6 q4 (.lst [V.int (((sc ^ 0 * wt 0 : Nat) : Int) * ((cntO (zs.map (·.2)) b 0 : Nat) : Int))])) q5 (.lst ((List.replicate (ws.length : Int).toNat [V.int 0]).flatten ++ [V.int (((sc ^ 0 * wt 0 : Nat) : Int) * ((cntO (zs.map (·.2)) b 0 : Nat) : Int))]))) q6 (.lst [V.ref q5]) = H9 at t6 hp9 hq6 hq5
    have q6p : q6 ≠ p := fun z => by rw [z, hp6] at f6; cases f6
    have q5p : q5 ≠ p := fun z => by rw [z, hp6] at f5; cases f5
    obtain ⟨lx6, hlx6⟩ := TA6.la
    have q6la : q6 ≠ la := fun z => by rw [z, hlx6] at f6; cases f6
    have q5la : q5 ≠ la := fun z => by rw [z, hlx6] at f5; cases f5
    have TA9 := (TA6.same t6).updI (o := .ins CS dx (fldS tl wa q6)) hp9 tlp
    have go : ∀ c o, c ≠ p → c ≠ la → H5 c = some o → aw [la, q6] (upd H9 p (.ins CS dx (fldS tl wa q6))) c = some o := fun c o h1 h2 e => by
      have e6 := off6 c o h2 e
      have h3 : c ≠ q6 := ne_of_none e6 f6
      rw [aw_out (by simp [h2, h3]), upd_ne h1]
      exact t6 _ _ e6
    have TT : TotAt C CS (upd H9 p (.ins CS dx (fldS tl wa q6))) p tl la wa q6 b (zs.map (·.2)) ws L6 wt sc sz 1 := by
      refine ⟨⟨dx, by rw [aw_out (by simp [pla, Ne.symm q6p]), upd_same]⟩, TA9, ?_, ?_, ⟨[(q5, totV (zs.map (·.2)) ws b wt sc 0)], by rw [upd_ne q6p]; exact hq6, fun z hz => ?_, rfl⟩, Ne.symm q6la⟩
      · obtain ⟨dz, sz', srs, e1, e2, _⟩ := TA6.ob
        have e1' := aw_same _ _ _ _ e1
        have e2' := aw_same _ _ _ _ e2
        have tla : tl ≠ la := ne_of e1' hlx6 (fun z => nomatch z)
        refine ⟨dz, sz', ?_, ne_of_none e2' f6⟩
        rw [aw_out (by simp [tla, ne_of_none e1' f6]), upd_ne tlp]
        exact t6 _ _ e1'
      · obtain ⟨rz, r1, r2, r3⟩ := RW4.ex
        have wane : wa ≠ la := fun z => by
          obtain ⟨lx2, h2⟩ := TA2.la
          rw [z, h2] at hwa; cases hwa
        have wap : wa ≠ p := ne_of r1 hp4 (fun z => nomatch z)
        refine ⟨⟨rz, go _ _ wap wane (s2 _ _ r1), fun z hz => go _ _ (ne_of (r2 z hz) hp4 (fun z => nomatch z)) (fun e => ?_) (s2 _ _ (r2 z hz)), r3⟩⟩
        obtain ⟨lrs, y1, _, _⟩ := TA4.ly
        have y2 := r2 z hz
        rw [e, y1] at y2
        have hm : z.2 ∈ (List.range sz).map (wrow b wt sc) := by rw [← r3]; exact List.mem_map.mpr ⟨z, hz, rfl⟩
        obtain ⟨k, _, ek⟩ := List.mem_map.mp hm
        have hl : z.2.length = b := by rw [← ek]; unfold wrow; rw [List.length_map, List.length_range]
        injection y2 with y2
        injection y2 with y2
        cases hz2 : z.2 with
        | nil => rw [hz2] at hl; simp at hl; omega
        | cons a l =>
          rw [hz2] at y2
          cases lrs with
          | nil => cases y2
          | cons a' l' => injection y2 with y3 _; cases y3
      · have e : z = (q5, totV (zs.map (·.2)) ws b wt sc 0) := by simpa using hz
        subst e
        rw [aw_out (by simp [q5la, np5]), upd_ne q5p]
        exact hq5
    have hT9 := (hT6.same t6).putI (o := .ins CS dx (fldS tl wa q6)) hp9
    have hfr : ∀ c o, c ≠ p → c ≠ T0 → H c = some o → upd H9 p (.ins CS dx (fldS tl wa q6)) c = some o := fun c o h1 h2 e => by
      rw [upd_ne h1]
      exact t6 _ _ (off6 _ _ (ne_of_none e hla) (s2 _ _ (n4 c o h1 h2 e)))
    have q6H : H q6 = none := by
      cases e : H q6 with
      | none => rfl
      | some o =>
        have := off6 _ _ (ne_of_none e hla) (s2 _ _ (n4 q6 o q6p (hT6.none f6) e))
        rw [f6] at this; cases this
    have eF : fldS tl wa q6 = putF "layers" (.ref q6) (putF "weights" (.ref wa) (putF "tails" (.ref tl) [])) := rfl
    rw [← eF]
    generalize upd H9 p (.ins CS dx (fldS tl wa q6)) = H10 at TT hT9 hfr
    refine ⟨_, rfl, _, rfl, by omega, by omega, for_range (lo := 0) (n := (sz : Int).toNat) (fun i σ H2 => ∃ (v5 : Option V) (L : Nat), σ = [some (.ref p), some (.ref r), some (.ref wl), some (.int sc), some (.int sz), v5] ∧ L ≤ i + 1 ∧ TotAt C CS H2 p tl la wa q6 b (zs.map (·.2)) ws L wt sc sz (i + 1) ∧ (∀ c o, c ≠ p → c ≠ T0 → H c = some o → H2 c = some o) ∧ LT T0 H2)
      ⟨none, L6, rfl, by omega, TT, hfr, hT9⟩ ?_ ?_⟩
    · rintro i σ Hi hi ⟨v5, L, rfl, hL, TTi, fri, hTi⟩
      obtain ⟨dxi, hpi⟩ := TTi.obj
      obtain ⟨zi, hl2, _⟩ := TTi.ly
      refine ⟨_, rfl, p, CS, dxi, _, _, rfl, hpi, cTotals.cl, cTotals.n_layers, fldS_layers _ _ _, .inl ⟨rfl, _, SqL.of hl2⟩, _, rfl, p, dxi, _, rfl, hpi, fldS_no _ _ _ (by decide +kernel) (by decide +kernel) (by decide +kernel), _, rfl, p, tl, la, wa, q6, b, _, ws, L, wt, sc, sz, i + 1, i, by rw [Int.zero_add]; rfl, TTi, G, by omega, by omega, by omega, by omega, hsc, hwt, fun q L' H' hLL TT' m' hLm hq => ?_⟩
      obtain ⟨zi', hl2', _, e3⟩ := TT'.ly
      have hzl : zi'.length = i + 1 := by have := congrArg List.length e3; rwa [List.length_map, List.length_map, List.length_range] at this
      refine ⟨q6, _, _, rfl, rfl, hl2', by rw [List.length_map, hzl]; exact Nat.lt_of_lt_of_le (show i + 1 < 1000 by omega) (by decide), ?_⟩
      refine ⟨_, L', rfl, by omega, TT'.push G (by omega) hl2' hq, fun c o h1 h2 e => ?_, (hTi.off TTi.ta.la.choose_spec m').putL2 hl2'⟩
      have e2 := fri c o h1 h2 e
      have hcl : c ≠ la := ne_of_none e hla
      have hc' : c ∉ [la] := by simpa using hcl
      have := m' c o (by rw [aw_out hc']; exact e2)
      rw [aw_out hc'] at this
      rw [upd_ne (ne_of_none e q6H)]
      exact this
    · rintro σ Hn ⟨v5, L, rfl, hL, TTn, frn, hTn⟩
      rw [Int.toNat_natCast] at hL TTn
      exact kk tl la wa q6 ws L Hn TTn G (by omega) frn hTn hla q6H
end
end Lw
set_option Elab.async false
set_option linter.all false
set_option maxRecDepth 100000
namespace Lw
open PySem L2 PyProof.Rows
theorem low_N {ls : List (List Int)} {b m : Nat} : low ls b m = many (gd ls b) (lowN b m) := by
  unfold low lowN
  split
  · rfl
  · rfl
theorem wrow_id (b : Nat) : (wrow b (fun c => c) b 0).map V.int = (List.range b).map fun (c : Nat) => V.int c := by
  unfold wrow
  rw [List.map_map]
  apply List.map_congr_left
  intro c _
  show V.int ((b ^ 0 * c : Nat) : Int) = V.int (c : Int)
  rw [Nat.pow_zero, Nat.one_mul]
def EndR (ls : List (List Int)) (b : Nat) (v : V) : Prop := (v = .bl true ∧ End ls b) ∨ (v = .bl false ∧ ∀ g, gd ls b g = true → g < b ^ 13)
def GreatG (ls : List (List Int)) (b : Nat) (v : V) : Prop := (v = .non ∧ ∀ g, gd ls b g = false) ∨ ∃ g : Nat, v = .int g ∧ gd ls b g = true ∧ g < b ^ 13 ∧ ∀ h, gd ls b h = true → h ≤ g
section
variable {P : Program} {w : World} {K : PySem.W.Frag} {mg : Str → Option Value} {base : Heap} {T0 C CS : Addr}
def sp_number_totals (T0 C CS : Addr) : Sp := fun vs H Q _ => ∃ (r : Addr) (b : Nat) (bl : Addr) (zs : List (Addr × List Int)) (sz : Nat), vs = [.ref r, .int sz] ∧ RuleAt H r b bl zs ∧ GoodRule b (zs.map (·.2)) ∧ LT T0 H ∧ sz ≤ 800 ∧
  ∀ (x tl la wa l2 : Addr) (ws : List (List Int)) (L : Nat) (H' : Hp), TotAt C CS H' x tl la wa l2 b (zs.map (·.2)) ws L (fun c => c) b sz (sz + 1) → GoodT b (zs.map (·.2)) ws → L ≤ 801 → SameL T0 H H' → LT T0 H' → H la = none → H l2 = none → Q (.ref x) H'
theorem sc_number_totals : FnScope ["rule", "size"] ["rule", "size"] (defScope s_number_totals) := ⟨rfl, rfl, rfl, by decide +kernel, rfl, by decide +kernel, by decide +kernel⟩
theorem ok_number_totals {f f1 : Addr} {fd fd1 : FuncData} (D : Df K mg "number_totals" s_number_totals ["rule", "size"] f fd) (KTotals : Mk K CS f1) (BTotals : Binds K fd1 ["self", "rule", "weights", "scale", "size"] []) (GTotals_init : FnOk P w K mg base CX0 9 f1 fd1 ["self", "rule", "weights", "scale", "size"] (sp_totals T0 C CS)) (cTotals : ClS K mg CS) (T : Blt mg) : FnOk P w K mg base CX0 11 f fd ["rule", "size"] (sp_number_totals T0 C CS) := by
  refine D.fn.ok sc_number_totals (fun vs H Q E h => ?_) (fun cdv A outer s H vs Q E hr h => ?_)
  · obtain ⟨r, b, bl, zs, sz, rfl, _⟩ := h; rfl
  · obtain ⟨r, b, bl, zs, sz, rfl, R, g, hT, hsz, kk⟩ := h
    have b2 := g.b2
    have b16 := g.b16
    refine ⟨_, (pss_one (ps_ret (pe_make KTotals GTotals_init (hr.mono (by decide)) rfl cTotals.nm BTotals .nil pass0 (pa_cons (pv 0) (pa_cons (pe_listRange rfl rfl T.n_list rfl T.n_range (pe_ix (k_ixT K) (pv 0) pe_int (fun _ _ => rfl))) (pa_cons (pe_ix (k_ixT K) (pv 0) pe_int (fun _ _ => rfl)) (pa_cons (pv 1) pa_nil))))))), ?_⟩
    refine ⟨_, rfl, _, rfl, r, _, _, V.int b, rfl, rfl, SqT.of R.tu, rfl, b, rfl, by omega, fun q hq => ?_⟩
    have s1 := same_upd hq (o := .lst ((List.range b).map fun (c : Nat) => V.int c))
    have R1 := R.same s1
    refine ⟨_, rfl, r, _, _, V.int b, rfl, rfl, SqT.of R1.tu, rfl, _, rfl, fun x dx nx ndx nex => ?_⟩
    have s0 := mk_same (C := CS) nx ndx
    have hwl : upd H q (.lst ((List.range b).map fun (c : Nat) => V.int c)) q = some (.lst ((wrow b (fun c => c) b 0).map V.int)) := by rw [upd_same, wrow_id]
    refine ⟨x, dx, r, b, bl, zs, q, (fun c => c), b, sz, rfl, upd_same, R1.same s0, g, (hT.same s1).same s0, s0 _ _ hwl, b16, hsz, fun c hc => Nat.lt_of_lt_of_le (show c < 16 by omega) (by decide), fun tl la wa l2 ws L H' TT G hL fr hT' hla hl2 => ⟨rfl, ?_⟩⟩
    refine kk x tl la wa l2 ws L H' TT G hL (fun c o hc e => ?_) hT' ((s1.trans s0).free hla) ((s1.trans s0).free hl2)
    exact fr c o (ne_of_none (s1 _ _ e) nx) hc ((s1.trans s0) c o e)
abbrev sp_sum_long (T0 : Addr) : Sp := sp_ask T0 lenPre (fun ls b m v => v = .int ((tot (gd ls b) (fun n => n) (b ^ m) : Nat) - (tot (gd ls b) (fun n => n) (lowN b m) : Nat)))
theorem sc_sum_long : FnScope ["rule", "m", "totals"] ["rule", "m"] (defScope s_sum_long) := ⟨rfl, rfl, rfl, by decide +kernel, rfl, by decide +kernel, by decide +kernel⟩
theorem ok_sum_long {f f1 f2 f3 f4 : Addr} {fd fd1 fd2 fd3 fd4 : FuncData} (D : Df K mg "sum_long" s_sum_long ["rule", "m"] f fd) (Dcheck_rule : Df K mg "check_rule" s_check_rule ["thing"] f1 fd1) (Gcheck_rule : FnOk P w K mg base CX0 7 f1 fd1 ["thing"] sp_check_rule) (Dcheck_length : Df K mg "check_length" s_check_length ["thing"] f2 fd2) (Gcheck_length : FnOk P w K mg base CX0 3 f2 fd2 ["thing"] sp_check_length)
    (Dnumber_totals : Df K mg "number_totals" s_number_totals ["rule", "size"] f3 fd3) (Gnumber_totals : FnOk P w K mg base CX0 11 f3 fd3 ["rule", "size"] (sp_number_totals T0 C CS)) (MTotals_total_within : Mt K CS "Totals.total_within" "total_within" s_Totals_total_within ["self", "size"] f4 fd4) (GTotals_total_within : FnOk P w K mg base CX0 1 f4 fd4 ["self", "size"] (sp_total_within C CS)) (cTotals : ClS K mg CS) : FnOk P w K mg base CX0 12 f fd ["rule", "m"] (sp_sum_long T0) := by
  refine D.fn.ok sc_sum_long (fun vs H Q E h => ?_) (fun cdv A outer s H vs Q E hr h => ?_)
  · obtain ⟨r, b, bl, zs, n, rfl, _⟩ := h; rfl
  · obtain ⟨r, b, bl, zs, m, rfl, R, g, ⟨hm1, hm2⟩, hT, kk⟩ := h
    have b2 := g.b2
    refine ⟨_, (pss_cons (ps_expr (pcall Dcheck_rule Gcheck_rule (hr.mono (by decide)) (pa_cons (pv 0) pa_nil)))
      (pss_cons (ps_expr (pcall Dcheck_length Gcheck_length (hr.mono (by decide)) (pa_cons (pv 1) pa_nil)))
      (pss_cons (ps_set (i := 2) sc_sum_long.nd rfl (Or.inl rfl) (pcall Dnumber_totals Gnumber_totals (hr.mono (by decide)) (pa_cons (pv 0) (pa_cons (pv 1) pa_nil))))
      (pss_one (ps_ret (pe_op op_sub (pmeth MTotals_total_within cTotals.cl GTotals_total_within (hr.mono (by decide)) (pv 2) (pa_cons (pv 1) pa_nil)) (pmeth MTotals_total_within cTotals.cl GTotals_total_within (hr.mono (by decide)) (pv 2) (pa_cons (pe_op op_sub (pv 1) pe_int) pa_nil)))))))), ?_⟩
    refine ⟨_, rfl, r, b, bl, zs, rfl, R, g, fun H1 m1 => ?_⟩
    refine ⟨_, rfl, m, rfl, hm1, hm2, ?_⟩
    refine ⟨_, rfl, _, rfl, r, b, bl, zs, m, rfl, R.same m1, g, hT.same m1, by omega, fun x tl la wa l2 ws L H2 TT G hL sL hT2 hla hl2 => ?_⟩
    obtain ⟨dx, hp⟩ := TT.obj
    refine ⟨_, rfl, x, dx, _, rfl, hp, fldS_no _ _ _ (by decide +kernel) (by decide +kernel) (by decide +kernel), _, rfl, x, tl, la, wa, l2, b, _, ws, L, _, b, m, m + 1, m, rfl, TT, by omega, ?_⟩
    refine ⟨_, rfl, x, dx, _, rfl, hp, fldS_no _ _ _ (by decide +kernel) (by decide +kernel) (by decide +kernel), _, rfl, _, _, rfl, rfl, x, tl, la, wa, l2, b, _, ws, L, _, b, m, m + 1, m - 1, ?_, TT, by omega, _, _, rfl, rfl, ?_⟩
    · show [V.ref x, V.int ((m : Int) - 1)] = _
      rw [show ((m : Int) - 1) = ((m - 1 : Nat) : Int) by omega]
    · refine kk _ H2 ?_ ((SameL.of m1).trans sL) hT2
      rw [ttO_num G.ne b2, ttO_num G.ne b2, tot_low]
def sp_ask1 (T0 : Addr) (pre : List (List Int) → Nat → Prop) (R : List (List Int) → Nat → V → Prop) : Sp := fun vs H Q _ => ∃ (r : Addr) (b : Nat) (bl : Addr) (zs : List (Addr × List Int)), vs = [.ref r] ∧ RuleAt H r b bl zs ∧ GoodRule b (zs.map (·.2)) ∧ pre (zs.map (·.2)) b ∧ LT T0 H ∧ ∀ v H', R (zs.map (·.2)) b v → SameL T0 H H' → LT T0 H' → Q v H'
abbrev sp_is_endless (T0 : Addr) : Sp := sp_ask1 T0 (fun _ _ => True) EndR
theorem sc_is_endless : FnScope ["rule"] ["rule"] (defScope s_is_endless) := ⟨rfl, rfl, rfl, by decide +kernel, rfl, by decide +kernel, by decide +kernel⟩
theorem ok_is_endless {f f1 f3 f4 : Addr} {fd fd1 fd3 fd4 : FuncData} (D : Df K mg "is_endless" s_is_endless ["rule"] f fd) (Dcheck_rule : Df K mg "check_rule" s_check_rule ["thing"] f1 fd1) (Gcheck_rule : FnOk P w K mg base CX0 7 f1 fd1 ["thing"] sp_check_rule) (KTails : Mk K C f3) (BTails : Binds K fd3 ["self", "rule"] []) (GTails_init : FnOk P w K mg base CX0 7 f3 fd3 ["self", "rule"] (sp_tails T0 C))
    (MTails_are_endless : Mt K C "Tails.are_endless" "are_endless" s_Tails_are_endless ["self"] f4 fd4) (GTails_are_endless : FnOk P w K mg base CX0 4 f4 fd4 ["self"] (sp_are_endless C)) (cTails : ClT K mg C) : FnOk P w K mg base CX0 9 f fd ["rule"] (sp_is_endless T0) := by
  refine D.fn.ok sc_is_endless (fun vs H Q E h => ?_) (fun cdv A outer s H vs Q E hr h => ?_)
  · obtain ⟨r, b, bl, zs, rfl, _⟩ := h; rfl
  · obtain ⟨r, b, bl, zs, rfl, R, g, _, hT, kk⟩ := h
    have b2 := g.b2
    refine ⟨_, (pss_cons (ps_expr (pcall Dcheck_rule Gcheck_rule (hr.mono (by decide)) (pa_cons (pv 0) pa_nil)))
      (pss_one (ps_ret (pmeth0 MTails_are_endless cTails.cl GTails_are_endless (hr.mono (by decide)) (pe_make KTails GTails_init (hr.mono (by decide)) rfl cTails.nm BTails .nil pass0 (pa_cons (pv 0) pa_nil)))))), ?_⟩
    refine ⟨_, rfl, r, b, bl, zs, rfl, R, g, fun H1 m1 => ?_⟩
    refine ⟨_, rfl, ?_⟩
    refine made_of (R.same m1) g (hT.same m1) ?_
    rintro x H3 ⟨la, ws, TA, G, mL, hT3, hla⟩
    have h13 := G.h13
    obtain ⟨xs, hla3⟩ := TA.la
    obtain ⟨dx3, sa3, hp3⟩ := TA.obj
    refine ⟨x, dx3, _, rfl, hp3, fldT_no _ _ _ _ (by decide +kernel) (by decide +kernel) (by decide +kernel) (by decide +kernel), x, la, b, _, ws, 1, rfl, TA, G, by decide, fun L4 H4 hL4 TA4 m4 hL4' => ?_⟩
    refine kk _ H4 ?_ (sameL_off ((SameL.of m1).trans mL) (m1.free hla) m4) (hT3.off hla3 m4)
    by_cases z : cntO (zs.map (·.2)) b ws.length < cntO (zs.map (·.2)) b (ws.length + 1)
    · rw [decide_eq_true z]
      exact .inl ⟨rfl, end_true G.ne G.s b2 z⟩
    · rw [decide_eq_false z]
      exact .inr ⟨rfl, fun k hk => Nat.lt_of_lt_of_le (end_false G.ne G.s b2 z hk) (Nat.pow_le_pow_right (by omega) h13)⟩
abbrev sp_greatest_good (T0 : Addr) : Sp := sp_ask1 T0 (fun ls b => ∀ g, gd ls b g = true → g < b ^ 13) GreatG
theorem sc_greatest_good : FnScope ["rule", "tails", "many"] ["rule"] (defScope s_greatest_good) := ⟨rfl, rfl, rfl, by decide +kernel, rfl, by decide +kernel, by decide +kernel⟩
theorem ok_greatest_good {f f1 f3 f4 f5 f6 : Addr} {fd fd1 fd3 fd4 fd5 fd6 : FuncData} (D : Df K mg "greatest_good" s_greatest_good ["rule"] f fd) (Dcheck_rule : Df K mg "check_rule" s_check_rule ["thing"] f1 fd1) (Gcheck_rule : FnOk P w K mg base CX0 7 f1 fd1 ["thing"] sp_check_rule) (KTails : Mk K C f3) (BTails : Binds K fd3 ["self", "rule"] []) (GTails_init : FnOk P w K mg base CX0 7 f3 fd3 ["self", "rule"] (sp_tails T0 C))
    (MTails_are_endless : Mt K C "Tails.are_endless" "are_endless" s_Tails_are_endless ["self"] f4 fd4) (GTails_are_endless : FnOk P w K mg base CX0 4 f4 fd4 ["self"] (sp_are_endless C)) (MTails_many_within : Mt K C "Tails.many_within" "many_within" s_Tails_many_within ["self", "size"] f5 fd5) (GTails_many_within : FnOk P w K mg base CX0 3 f5 fd5 ["self", "size"] (sp_many_within C))
    (MTails_number_at : Mt K C "Tails.number_at" "number_at" s_Tails_number_at ["self", "size", "k"] f6 fd6) (GTails_number_at : FnOk P w K mg base CX0 5 f6 fd6 ["self", "size", "k"] (sp_number_at C)) (cTails : ClT K mg C) : FnOk P w K mg base CX0 9 f fd ["rule"] (sp_greatest_good T0) := by
  refine D.fn.ok sc_greatest_good (fun vs H Q E h => ?_) (fun cdv A outer s H vs Q E hr h => ?_)
  · obtain ⟨r, b, bl, zs, rfl, _⟩ := h; rfl
  · obtain ⟨r, b, bl, zs, rfl, R, g, hpre, hT, kk⟩ := h
    have b2 := g.b2
    refine ⟨_, (pss_cons (ps_expr (pcall Dcheck_rule Gcheck_rule (hr.mono (by decide)) (pa_cons (pv 0) pa_nil)))
      (pss_cons (ps_set (i := 1) sc_greatest_good.nd rfl (Or.inl rfl) (pe_make KTails GTails_init (hr.mono (by decide)) rfl cTails.nm BTails .nil pass0 (pa_cons (pv 0) pa_nil)))
      (pss_cons (ps_if (pt_val (pmeth0 MTails_are_endless cTails.cl GTails_are_endless (hr.mono (by decide)) (pv 1)))
        (pss_one ps_never)
        pss_nil)
      (pss_cons (ps_set (i := 2) sc_greatest_good.nd rfl (Or.inl rfl) (pmeth MTails_many_within cTails.cl GTails_many_within (hr.mono (by decide)) (pv 1) (pa_cons (k_fld K (pv 1)) pa_nil)))
      (pss_cons (ps_if (pt_cmpR op_eq (pv 2) pe_int (nomark _))
        (pss_one (ps_ret pe_non))
        pss_nil)
      (pss_one (ps_ret (pmeth MTails_number_at cTails.cl GTails_number_at (hr.mono (by decide)) (pv 1) (pa_cons (k_fld K (pv 1)) (pa_cons (pe_op op_sub (pv 2) pe_int) pa_nil)))))))))), ?_⟩
    refine ⟨_, rfl, r, b, bl, zs, rfl, R, g, fun H1 m1 => ?_⟩
    refine ⟨_, rfl, ?_⟩
    refine made_of (R.same m1) g (hT.same m1) ?_
    rintro x H3 ⟨la, ws, TA, G, mL, hT3, hla⟩
    have h13 := G.h13
    obtain ⟨xs, hla3⟩ := TA.la
    obtain ⟨dx3, sa3, hp3⟩ := TA.obj
    have hne : ¬ cntO (zs.map (·.2)) b ws.length < cntO (zs.map (·.2)) b (ws.length + 1) := fun z => by
      obtain ⟨k, k1, k2, _⟩ := end_true G.ne G.s b2 z 13
      have := hpre k k1
      omega
    refine ⟨_, rfl, x, dx3, _, rfl, hp3, fldT_no _ _ _ _ (by decide +kernel) (by decide +kernel) (by decide +kernel) (by decide +kernel), x, la, b, _, ws, 1, rfl, TA, G, by decide, fun L4 H4 hL4 TA4 m4 hL4' => ⟨_, rfl, ?_⟩⟩
    rw [decide_eq_false hne]
    refine iteF ?_
    obtain ⟨dx4, sa4, hp4⟩ := TA4.obj
    refine ⟨_, rfl, x, dx4, _, rfl, hp4, fldT_no _ _ _ _ (by decide +kernel) (by decide +kernel) (by decide +kernel) (by decide +kernel), _, rfl, x, C, dx4, _, _, rfl, hp4, cTails.cl, cTails.n_outset, fldT_outset _ _ _ _, x, la, b, _, ws, L4, ws.length, rfl, TA4, G, by omega, by omega, fun L5 H5 hL5 TA5 m5 hmx => ?_⟩
    rw [cntO_many G.ne b2]
    have m45 := m4.trans m5
    have fin : ∀ H', Same (aw [la] H5) (aw [la] H') → SameL T0 H H' ∧ LT T0 H' := fun H' m' => ⟨sameL_off ((SameL.of m1).trans mL) (m1.free hla) (m45.trans m'), hT3.off hla3 (m45.trans m')⟩
    have hall : ∀ k, gd (zs.map (·.2)) b k = true → k < b ^ ws.length := fun k hk => end_false G.ne G.s b2 hne hk
    refine ⟨_, rfl, rfl, _, rfl, ?_⟩
    refine ite2 (fun hz => ?_) (fun hz => ?_)
    · have e : many (gd (zs.map (·.2)) b) (b ^ ws.length) = 0 := by
        have z := of_decide_eq_true hz
        injection z with z
        omega
      obtain ⟨a1, a2⟩ := fin H5 (Same.refl _)
      refine kk _ H5 (.inl ⟨rfl, fun k => ?_⟩) a1 a2
      cases hk : gd (zs.map (·.2)) b k with
      | false => rfl
      | true =>
        have := many_lt _ (hall k hk) hk
        omega
    · have e : ¬ many (gd (zs.map (·.2)) b) (b ^ ws.length) = 0 := fun z => hz (decide_eq_true (by rw [z]; rfl))
      obtain ⟨dx5, sa5, hp5⟩ := TA5.obj
      refine ⟨_, rfl, x, dx5, _, rfl, hp5, fldT_no _ _ _ _ (by decide +kernel) (by decide +kernel) (by decide +kernel) (by decide +kernel), _, rfl, x, C, dx5, _, _, rfl, hp5, cTails.cl, cTails.n_outset, fldT_outset _ _ _ _, _, rfl, _, _, rfl, rfl, x, la, b, _, ws, L5, ws.length, many (gd (zs.map (·.2)) b) (b ^ ws.length) - 1, ?_, TA5, G, by omega, by omega, by omega, fun q hg hm hq L6 H6 hL6 TA6 m6 hL6' => ?_⟩
      · show [V.ref x, V.int (ws.length : Nat), V.int ((many (gd (zs.map (·.2)) b) (b ^ ws.length) : Nat) - 1 : Int)] = _
        rw [show (((many (gd (zs.map (·.2)) b) (b ^ ws.length) : Nat) : Int) - 1) = ((many (gd (zs.map (·.2)) b) (b ^ ws.length) - 1 : Nat) : Int) by omega]
      · obtain ⟨a1, a2⟩ := fin H6 m6
        refine kk _ H6 (.inr ⟨q, rfl, hg, hpre q hg, fun k hk => ?_⟩) a1 a2
        refine ge_of_many hg ?_
        have := many_lt _ (hall k hk) hk
        omega
end
end Lw
set_option Elab.async false
set_option linter.all false
set_option maxRecDepth 100000
namespace Lw
open PySem L2 PyProof.Rows
section
variable {P : Program} {w : World} {K : PySem.W.Frag} {mg : Str → Option Value} {base : Heap}
def sp__law_some_rule : Sp := fun vs H Q _ => ∃ (d : Addr) (fp : List Addr), vs = [.ref d] ∧ Deck H d fp ∧
  ∀ (r : Addr) (b : Nat) (bl : Addr) (zs : List (Addr × List Int)) (H' : Hp), Stp fp d H H' → RuleAt (aw fp H') r b bl zs → GoodRule b (zs.map (·.2)) → Q (.ref r) H'
theorem sc__law_some_rule : FnScope ["deck", "base", "few", "first", "most", "bad", "k", "one"] ["deck"] (defScope s__law_some_rule) := ⟨rfl, rfl, rfl, by decide +kernel, rfl, by decide +kernel, by decide +kernel⟩
theorem stp_aw {fp : List Addr} {d l : Addr} {H H' : Hp} (S : Stp fp d H H') : Same (aw (l :: fp) H) (aw (l :: fp) H') := fun c o e => by
  by_cases hc : c ∈ l :: fp
  · rw [aw_in hc] at e; cases e
  · rw [aw_out hc] at e ⊢
    exact S.get (fun z => hc (List.mem_cons_of_mem _ z)) e
theorem aw_upd_out {fp : List Addr} {l : Addr} {H : Hp} {o : HO} : Same (aw (l :: fp) H) (aw (l :: fp) (upd H l o)) := fun c u e => by
  by_cases hc : c ∈ l :: fp
  · rw [aw_in hc] at e; cases e
  · rw [aw_out hc] at e ⊢
    rw [upd_ne (fun z => hc (by rw [z]; simp))]; exact e
theorem ok__law_some_rule {f f1 : Addr} {fd fd1 : FuncData} (D : Df K mg "_law_some_rule" s__law_some_rule ["deck"] f fd) (D_law_draw : Df K mg "_law_draw" s__law_draw ["deck", "many"] f1 fd1) (T : Blt mg) : FnOk P w K mg base CX0 2 f fd ["deck"] sp__law_some_rule := by
  have G_law_draw : FnOk P w K mg base CX0 1 f1 fd1 ["deck", "many"] sp__law_draw := ok__law_draw D_law_draw T
  refine D.fn.ok sc__law_some_rule (fun vs H Q E h => ?_) (fun cdv A outer s H vs Q E hr h => ?_)
  · obtain ⟨d, fp, rfl, _⟩ := h; rfl
  · obtain ⟨d, fp, rfl, DK, kk⟩ := h
    have HU := HUof hr
    refine ⟨_, (pss_cons (ps_set (i := 1) sc__law_some_rule.nd rfl (Or.inl rfl) (pe_ix (k_ixL K) (pe_lst (pa_cons (pe_op op_add pe_int (pcall D_law_draw G_law_draw (hr.mono (by decide)) (pa_cons (pv 0) (pa_cons pe_int pa_nil)))) (pa_cons pe_int (pa_cons pe_int (pa_cons pe_int (pa_cons pe_int (pa_cons (pe_op op_add pe_int (pcall D_law_draw G_law_draw (hr.mono (by decide)) (pa_cons (pv 0) (pa_cons pe_int pa_nil)))) pa_nil))))))) (pcall D_law_draw G_law_draw (hr.mono (by decide)) (pa_cons (pv 0) (pa_cons pe_int pa_nil))) (fun _ _ => rfl)))
      (pss_cons (ps_set (i := 2) sc__law_some_rule.nd rfl (Or.inr rfl) (pe_callB (call_min2 rfl) (by rfl) T.n_min boot_min (pa_cons (pv 1) (pa_cons (pe_ix (k_ixL K) (pe_lst (pa_cons pe_int (pa_cons pe_int (pa_cons pe_int pa_nil)))) (pcall D_law_draw G_law_draw (hr.mono (by decide)) (pa_cons (pv 0) (pa_cons pe_int pa_nil))) (fun _ _ => rfl)) pa_nil))))
      (pss_cons (ps_set (i := 3) sc__law_some_rule.nd rfl (Or.inr rfl) (pcall D_law_draw G_law_draw (hr.mono (by decide)) (pa_cons (pv 0) (pa_cons (pe_op op_add (pe_op op_sub (pv 1) (pv 2)) pe_int) pa_nil))))
      (pss_cons (ps_set (i := 4) sc__law_some_rule.nd rfl (Or.inl rfl) (pe_ix (k_ixL K) (pe_lst (pa_cons (pe_op op_add pe_int (pcall D_law_draw G_law_draw (hr.mono (by decide)) (pa_cons (pv 0) (pa_cons pe_int pa_nil)))) (pa_cons pe_int (pa_cons pe_int (pa_cons pe_int pa_nil))))) (pcall D_law_draw G_law_draw (hr.mono (by decide)) (pa_cons (pv 0) (pa_cons pe_int pa_nil))) (fun _ _ => rfl)))
      (pss_cons (ps_set (i := 5) sc__law_some_rule.nd rfl (Or.inl rfl) (pe_lst pa_nil))
      (pss_cons (ps_for PassesOwn.never rfl (pi_range1 rfl T.n_range (pa_cons (pe_ix (k_ixL K) (pe_lst (pa_cons (pcall D_law_draw G_law_draw (hr.mono (by decide)) (pa_cons (pv 0) (pa_cons pe_int pa_nil))) (pa_cons pe_int (pa_cons pe_int (pa_cons pe_int pa_nil))))) (pcall D_law_draw G_law_draw (hr.mono (by decide)) (pa_cons (pv 0) (pa_cons pe_int pa_nil))) (fun _ _ => rfl)) pa_nil)) (pg_name (i := 6) sc__law_some_rule.nd rfl (Or.inl rfl))
        (pss_cons (ps_setComp (i := 7) (show CScope (defScope s__law_some_rule) _ "at" ["deck", "base", "few", "first", "most", "bad", "k", "one"] ["first", "deck", "few"] [3, 0, 2] from ⟨rfl, by decide +kernel, by decide +kernel, rfl, by decide +kernel, rfl, by decide +kernel, by decide +kernel⟩) rfl sc__law_some_rule.nd rfl (Or.inl rfl) (pi_range1 rfl T.n_range (pa_cons (pe_op op_add pe_int (pcall D_law_draw G_law_draw (hr.mono (by decide)) (pa_cons (pv 0) (pa_cons (pv 4) pa_nil)))) pa_nil)) (fun _ _ _ _ => pts_nil) (fun _ _ _ _ => (pe_op op_add (pv 1) (pcall D_law_draw G_law_draw (hr.mono (by decide)) (pa_cons (pv 2) (pa_cons (pv 3) pa_nil))))))
        (pss_one (ps_if (pt_cmpR (k_notInT K HU) (pv 7) (pv 5) (by with_unfolding_all rfl))
          (pss_one (ps_expr (pe_bm PySem.F.plainAttrs_list PySem.F.slot_list_append PySem.F.type_list_append mt_append (pv 5) (pa_cons (pv 7) pa_nil))))
          pss_nil))))
      (pss_one (ps_ret (pe_tup (pa_cons (pv 1) (pa_cons (pe_callB (k_sortL K HU) (by rfl) T.n_sorted boot_sorted (pa_cons (pv 5) pa_nil)) pa_nil))))))))))), ?_⟩
    refine ⟨_, rfl, d, _, fp, rfl, DK, (by decide), (by decide), fun x1 H1 hx1 S1 => ⟨_, _, rfl, rfl, ?_⟩⟩
    refine ⟨_, rfl, d, _, fp, rfl, S1.dk, (by decide), (by decide), fun x2 H2 hx2 S2 => ⟨_, _, rfl, rfl, (by show 6 ≤ sizeLine; decide), fun l1 hl1 => ?_⟩⟩
    have S12 := S1.trans S2
    have f1 := S12.dk.fresh hl1
    have S3 := S12.new hl1 (o := .lst [.int (2 + (x1 : Int)), .int 2, .int 3, .int 10, .int 16, .int (2 + (x2 : Int))])
    refine ⟨_, rfl, d, _, fp, rfl, S3.dk, (by decide), (by decide), fun x3 H4 hx3 S4 => ?_⟩
    obtain ⟨b, hb, hb2, hb16⟩ : ∃ b : Nat, atI [V.int (2 + (x1 : Int)), V.int 2, V.int 3, V.int 10, V.int 16, V.int (2 + (x2 : Int))] (x3 : Int) = some (.int b) ∧ 2 ≤ b ∧ b ≤ 16 := by
      have h6 : x3 < 6 := by omega
      match x3, h6 with
      | 0, _ => exact ⟨2 + x1, rfl, by omega, by omega⟩
      | 1, _ => exact ⟨2, rfl, by omega, by omega⟩
      | 2, _ => exact ⟨3, rfl, by omega, by omega⟩
      | 3, _ => exact ⟨10, rfl, by omega, by omega⟩
      | 4, _ => exact ⟨16, rfl, by omega, by omega⟩
      | 5, _ => exact ⟨2 + x2, rfl, by omega, by omega⟩
    refine ⟨l1, _, _, _, rfl, rfl, SqL.of (S4.get f1 upd_same), hb, ?_⟩
    have S34 := S3.trans S4
    refine ⟨_, rfl, (by show 3 ≤ sizeLine; decide), fun l2 hl2 => ?_⟩
    have f2 := S34.dk.fresh hl2
    have S5 := S34.new hl2 (o := .lst [.int 2, .int 3, .int 16])
    refine ⟨_, rfl, d, _, fp, rfl, S5.dk, (by decide), (by decide), fun x4 H6 hx4 S6 => ?_⟩
    obtain ⟨m, hm, hm2⟩ : ∃ m : Nat, atI [V.int 2, V.int 3, V.int 16] (x4 : Int) = some (.int m) ∧ 2 ≤ m := by
      have h3 : x4 < 3 := by omega
      match x4, h3 with
      | 0, _ => exact ⟨2, rfl, by omega⟩
      | 1, _ => exact ⟨3, rfl, by omega⟩
      | 2, _ => exact ⟨16, rfl, by omega⟩
    refine ⟨l2, _, _, _, rfl, rfl, SqL.of (S6.get f2 upd_same), hm, _, _, rfl, ?_⟩
    obtain ⟨few, hfew, hfew1, hfew2⟩ : ∃ few : Nat, (if (m : Int) < (b : Int) then (m : Int) else (b : Int)) = (few : Int) ∧ 2 ≤ few ∧ few ≤ b := by
      by_cases z : m < b
      · exact ⟨m, by rw [if_pos (by omega)], by omega, by omega⟩
      · exact ⟨b, by rw [if_neg (by omega)], by omega, by omega⟩
    rw [hfew]
    have S56 := S5.trans S6
    refine ⟨_, rfl, _, rfl, _, rfl, _, _, rfl, rfl, _, _, rfl, rfl, d, _, fp, rfl, S56.dk, by omega, by omega, fun x5 H7 hx5 S7 => ?_⟩
    have S57 := S56.trans S7
    refine ⟨_, rfl, d, _, fp, rfl, S57.dk, (by decide), (by decide), fun x6 H8 hx6 S8 => ⟨_, _, rfl, rfl, (by show 4 ≤ sizeLine; decide), fun l3 hl3 => ?_⟩⟩
    have S58 := S57.trans S8
    have f3 := S58.dk.fresh hl3
    have S9 := S58.new hl3 (o := .lst [.int (1 + (x6 : Int)), .int 2, .int 3, .int 4])
    refine ⟨_, rfl, d, _, fp, rfl, S9.dk, (by decide), (by decide), fun x7 H10 hx7 S10 => ?_⟩
    obtain ⟨most, hmost, hmost1, hmost2⟩ : ∃ most : Nat, atI [V.int (1 + (x6 : Int)), V.int 2, V.int 3, V.int 4] (x7 : Int) = some (.int most) ∧ 1 ≤ most ∧ most ≤ 4 := by
      have h4 : x7 < 4 := by omega
      match x7, h4 with
      | 0, _ => exact ⟨1 + x6, rfl, by omega, by omega⟩
      | 1, _ => exact ⟨2, rfl, by omega, by omega⟩
      | 2, _ => exact ⟨3, rfl, by omega, by omega⟩
      | 3, _ => exact ⟨4, rfl, by omega, by omega⟩
    refine ⟨l3, _, _, _, rfl, rfl, SqL.of (S10.get f3 upd_same), hmost, ?_⟩
    have S910 := S9.trans S10
    refine ⟨(by decide : 0 ≤ sizeLine), fun bl hbl => ?_⟩
    have fbl := S910.dk.fresh hbl
    have S11 := S910.new hbl (o := .lst [])
    refine ⟨_, rfl, d, _, fp, rfl, S11.dk, (by decide), (by decide), fun x8 H12 hx8 S12' => ⟨(by show 4 ≤ sizeLine; decide), fun l4 hl4 => ?_⟩⟩
    have S112 := S11.trans S12'
    have f4 := S112.dk.fresh hl4
    have S13 := S112.new hl4 (o := .lst [.int x8, .int 4, .int 3, .int 1])
    refine ⟨_, rfl, d, _, fp, rfl, S13.dk, (by decide), (by decide), fun x9 H14 hx9 S14 => ?_⟩
    obtain ⟨N, hN, hN4⟩ : ∃ N : Nat, atI [V.int x8, V.int 4, V.int 3, V.int 1] (x9 : Int) = some (.int N) ∧ N ≤ 4 := by
      have h4 : x9 < 4 := by omega
      match x9, h4 with
      | 0, _ => exact ⟨x8, rfl, by omega⟩
      | 1, _ => exact ⟨4, rfl, by omega⟩
      | 2, _ => exact ⟨3, rfl, by omega⟩
      | 3, _ => exact ⟨1, rfl, by omega⟩
    have S1314 := S13.trans S14
    refine ⟨l4, _, _, _, rfl, rfl, SqL.of (S14.get f4 upd_same), hN, (N : Int), rfl, by omega, by omega, for_range (lo := 0) (n := (N : Int).toNat) (fun i σ H15 => ∃ (v1 v2 : Option V) (zs : List (Addr × List Int)),
      σ = [some (.ref d), some (.int b), some (.int few), some (.int x5), some (.int most), some (.ref bl), v1, v2] ∧ zs.length ≤ i ∧ Deck H15 d fp ∧ H15 bl = some (.lst (zs.map fun z => V.ref z.1)) ∧ (∀ z ∈ zs, H15 z.1 = some (.lst (z.2.map V.int)) ∧ z.1 ∉ fp ∧ z.1 ≠ bl) ∧ (∀ l ∈ zs.map (·.2), GoodSt b l) ∧ (zs.map (·.2)).Nodup ∧ Same (aw (bl :: fp) H) (aw (bl :: fp) H15)) ⟨none, none, [], rfl, Nat.le_refl _, S1314.dk, ?_, (by simp), (by simp), (by simp), ?_⟩ ?_ ?_⟩
    · exact S14.get fbl (same_upd hl4 _ _ (S12'.get fbl upd_same))
    · exact stp_aw S1314
    · rintro i σ H15 hi ⟨v1, v2, zs, rfl, hzl, D15, hB, hZ, hG, nd, sm⟩
      refine ⟨_, rfl, _, rfl, d, _, fp, rfl, D15, by omega, by omega, fun y1 H16 hy1 S16 => ⟨_, _, rfl, rfl, (1 + (y1 : Int)), rfl, by omega, by omega, comp_range (lo := 0) (n := (1 + (y1 : Int)).toNat) (fun j ys Hc => Stp fp d H15 Hc ∧ ∃ ms : List Int, ys = ms.map V.int ∧ ms.length = j ∧ ∀ f ∈ ms, 0 ≤ f ∧ f < (b : Int)) ⟨S16, [], rfl, rfl, by simp⟩ ?_ ?_⟩⟩
      · rintro j ys Hc hj ⟨Sc, ms, rfl, hml, hmf⟩
        refine ⟨by rw [List.length_map, hml]; exact Nat.lt_of_lt_of_le (show j < 5 by omega) (by decide), ?_⟩
        unfold tYes
        dsimp only
        rw [if_pos rfl]
        refine ⟨_, rfl, _, rfl, _, rfl, d, _, fp, rfl, Sc.dk, by omega, by omega, fun y2 H17 hy2 S17 => ⟨_, _, rfl, rfl, Sc.trans S17, ms ++ [(x5 : Int) + y2], by simp, by simp [hml], fun f hf => ?_⟩⟩
        rcases List.mem_append.mp hf with hf | hf
        · exact hmf f hf
        · have e : f = (x5 : Int) + y2 := by simpa using hf
          omega
      · rintro ys Hc ⟨Sc, ms, rfl, hml, hmf⟩ p hp
        have hBc := Sc.get fbl hB
        have nbp : bl ≠ p := ne_of_none hBc hp
        have hZc : ∀ z ∈ zs, Hc z.1 = some (.lst (z.2.map V.int)) := fun z hz => Sc.get (hZ z hz).2.1 (hZ z hz).1
        have fpp := Sc.dk.fresh hp
        refine ⟨_, rfl, _, rfl, bl, _, (zs.map (·.2)).map tInts, tInts ms, rfl, SqL.of (same_upd hp _ _ hBc), TrsAt.lists (fun z hz => same_upd hp _ _ (hZc z hz)), TrAt.ints (a := p) (SqL.of upd_same), Nat.le_trans (tdeps_tInts _) (by decide), _, rfl, ?_⟩
        have sm2 : Same (aw (bl :: fp) H) (aw (bl :: fp) (upd Hc p (.lst (ms.map V.int)))) := sm.trans ((stp_aw Sc).trans ((same_upd hp).aw _))
        have D18 := Sc.dk.upd fpp (o := .lst (ms.map V.int))
        rw [if_pos rfl, notin_any]
        by_cases hin : ms ∈ zs.map (·.2)
        · rw [decide_eq_true hin]
          refine iteF ?_
          exact ⟨_, _, zs, rfl, by omega, D18, same_upd hp _ _ hBc, fun z hz => ⟨same_upd hp _ _ (hZc z hz), (hZ z hz).2⟩, hG, nd, sm2⟩
        · rw [decide_eq_false hin]
          refine iteT ?_
          refine ⟨_, rfl, .inl ⟨rfl, _, SqL.of (same_upd hp _ _ hBc)⟩, _, rfl, bl, _, _, rfl, rfl, same_upd hp _ _ hBc, by rw [List.length_map]; exact Nat.lt_of_le_of_lt (show zs.length ≤ 4 by omega) (by decide), ?_⟩
          refine ⟨_, _, zs ++ [(p, ms)], rfl, by rw [List.length_append, List.length_singleton]; omega, D18.upd fbl, by rw [upd_same]; simp, fun z hz => ?_, fun l hl => ?_, ?_, sm2.trans aw_upd_out⟩
          · rcases List.mem_append.mp hz with hz | hz
            · rw [upd_ne (hZ z hz).2.2]
              exact ⟨same_upd hp _ _ (hZc z hz), (hZ z hz).2⟩
            · have e : z = (p, ms) := by simpa using hz
              subst e
              exact ⟨by rw [upd_ne (Ne.symm nbp), upd_same], fpp, Ne.symm nbp⟩
          · rw [List.map_append] at hl
            rcases List.mem_append.mp hl with hl | hl
            · exact hG l hl
            · have e : l = ms := by simpa using hl
              subst e
              exact ⟨fun z => by rw [z] at hml; simp at hml; omega, by omega, hmf⟩
          · rw [List.map_append]
            refine List.nodup_append.mpr ⟨nd, by simp, fun x hx y hy => ?_⟩
            have e : y = ms := by simpa using hy
            rw [e]
            exact fun z => hin (z ▸ hx)
    · rintro σ H15 ⟨v1, v2, zs, rfl, hzl, D15, hB, hZ, hG, nd, sm⟩
      refine ⟨_, rfl, _, rfl, bl, zs, rfl, SqL.of hB, by omega, fun z hz => SqL.of (hZ z hz).1, nd, fun p zs' hp pm pw => ⟨(by show 2 ≤ sizeLine; decide), fun r hr => ?_⟩⟩
      have D16 := D15.same (same_upd hp (o := .lst (zs'.map fun z => V.ref z.1)))
      have npr : p ≠ r := fun z => by rw [← z, upd_same] at hr; cases hr
      refine kk r b p zs' _ ⟨D16.same (same_upd hr), fun c o e => ?_⟩ ⟨?_, ?_, fun z hz => ?_⟩ ⟨hb2, hb16, by rw [List.length_map, pm.length_eq]; omega, fun l hl => ?_, by rw [List.pairwise_map]; exact pw⟩
      · have hc : c ∉ fp := fun hc => by rw [aw_in hc] at e; cases e
        have hcb : c ≠ bl := fun z => by
          rw [aw_out hc, z, S910.free hbl] at e; cases e
        have hc2 : c ∉ bl :: fp := fun z => by
          rcases List.mem_cons.mp z with z | z
          · exact hcb z
          · exact hc z
        rw [aw_out hc] at e ⊢
        have z := sm c o (by rw [aw_out hc2]; exact e)
        rw [aw_out hc2] at z
        exact same_upd hr _ _ (same_upd hp _ _ z)
      · rw [aw_out (D16.fresh hr), upd_same]
      · rw [aw_out (D15.fresh hp), upd_ne npr, upd_same]
      · have hzm := pm.mem_iff.mp hz
        rw [aw_out (hZ z hzm).2.1]
        exact same_upd hr _ _ (same_upd hp _ _ (hZ z hzm).1)
      · obtain ⟨z, hz, rfl⟩ := List.mem_map.mp hl
        exact hG _ (List.mem_map.mpr ⟨z, pm.mem_iff.mp hz, rfl⟩)
end
theorem RuleAt.step {fp : List Addr} {d r bl : Addr} {H H' : Hp} {b : Nat} {zs : List (Addr × List Int)} (R : RuleAt (aw fp H) r b bl zs) (S : Stp fp d H H') : RuleAt (aw fp H') r b bl zs := R.same S.sm
theorem map_erase {α β : Type} (f : α → β) : ∀ (l : List α) (j : Nat), (l.map f).eraseIdx j = (l.eraseIdx j).map f
  | [], _ => rfl
  | _ :: _, 0 => rfl
  | x :: l, j + 1 => by rw [List.map_cons, List.eraseIdx_cons_succ, List.eraseIdx_cons_succ, List.map_cons, map_erase f l j]
theorem good_erase {b : Nat} {ls : List (List Int)} (g : GoodRule b ls) (j : Nat) : GoodRule b (ls.eraseIdx j) :=
  ⟨g.b2, g.b16, Nat.le_trans (len_erase ls j) g.len, fun l hl => g.st l (List.mem_of_mem_eraseIdx hl), g.up.sublist (List.eraseIdx_sublist ls j)⟩
section
variable {T : Addr}
theorem Deck.sameL {H H' : Hp} {d : Addr} {fp : List Addr} (D : Deck H d fp) (lt : LT T H) (s : SameL T H H') : Deck H' d fp := by
  obtain ⟨pp, qs, i, rfl, h1, h2, h3, h4, h5⟩ := D.ex
  exact ⟨pp, qs, i, rfl, s _ _ (lt.lst h1) h1, s _ _ (lt.lst h2) h2, h3, h4, fun q hq => by obtain ⟨x, y, z, e⟩ := h5 q hq; exact ⟨x, y, z, s _ _ (lt.lst e) e⟩⟩
theorem Deck.lst {H : Hp} {d : Addr} {fp : List Addr} (D : Deck H d fp) {b : Addr} (hb : b ∈ fp) : ∃ xs, H b = some (.lst xs) := by
  obtain ⟨pp, qs, i, rfl, h1, h2, h3, h4, h5⟩ := D.ex
  rcases List.mem_cons.mp hb with e | hb
  · rw [e]; exact ⟨_, h1⟩
  · rcases List.mem_cons.mp hb with e | hb
    · rw [e]; exact ⟨_, h2⟩
    · obtain ⟨x, y, z, e⟩ := h5 b hb
      exact ⟨_, e⟩
theorem LT.away {H : Hp} {d : Addr} {fp : List Addr} (h : LT T H) (D : Deck H d fp) : LT T (aw fp H) := by
  have out : ∀ b o, H b = some o → (∀ xs, o ≠ .lst xs) → aw fp H b = some o := fun b o e n => by
    rw [aw_out (fun hb => by
      obtain ⟨xs, q⟩ := D.lst hb
      rw [e] at q
      cases q
      exact n _ rfl)]
    exact e
  rcases h with h | ⟨c, h1, h2⟩
  · exact .inl (out _ _ h (fun xs z => by cases z))
  · exact .inr ⟨c, out _ _ h1 (fun xs z => by cases z), out _ _ h2 (fun xs z => by unfold CodeO at z; cases z)⟩
theorem Stp.lt {H H' : Hp} {d : Addr} {fp : List Addr} (S : Stp fp d H H') (D : Deck H d fp) (h : LT T H) : LT T H' := ((h.away D).same S.sm).same (aw_same fp H')
theorem RuleAt.awL {fp : List Addr} {H H' : Hp} {r bl : Addr} {b : Nat} {zs : List (Addr × List Int)} (R : RuleAt (aw fp H) r b bl zs) (lt : LT T H) (s : SameL T H H') : RuleAt (aw fp H') r b bl zs := by
  have g : ∀ x o, x ≠ T → aw fp H x = some o → aw fp H' x = some o := fun x o hx e => by
    have hi : x ∉ fp := fun z => by rw [aw_in z] at e; cases e
    rw [aw_out hi] at e ⊢
    exact s _ _ hx e
  have R0 := R.all
  exact ⟨g _ _ (lt.tup R0.tu) R.tu, g _ _ (lt.lst R0.li) R.li, fun z hz => g _ _ (lt.lst (R0.st z hz)) (R.st z hz)⟩
end
end Lw
set_option Elab.async false
set_option linter.all false
set_option maxRecDepth 100000
namespace Lw
open PySem L2 PyProof.Rows
section
variable {P : Program} {w : World} {K : PySem.W.Frag} {mg : Str → Option Value} {base : Heap}
def sp__law_lengths : Sp := fun vs H Q _ => ∃ (d : Addr) (fp : List Addr), vs = [.ref d] ∧ Deck H d fp ∧ ∀ (m : Nat) (H' : Hp), 1 ≤ m → m ≤ 60 → Stp fp d H H' → Q (.int m) H'
theorem sc__law_lengths : FnScope ["deck"] ["deck"] (defScope s__law_lengths) := ⟨rfl, rfl, rfl, by decide +kernel, rfl, by decide +kernel, by decide +kernel⟩
theorem ok__law_lengths {f f1 : Addr} {fd fd1 : FuncData} (D : Df K mg "_law_lengths" s__law_lengths ["deck"] f fd) (D_law_draw : Df K mg "_law_draw" s__law_draw ["deck", "many"] f1 fd1) (T : Blt mg) : FnOk P w K mg base CX0 2 f fd ["deck"] sp__law_lengths := by
  have G_law_draw : FnOk P w K mg base CX0 1 f1 fd1 ["deck", "many"] sp__law_draw := ok__law_draw D_law_draw T
  refine D.fn.ok sc__law_lengths (fun vs H Q E h => ?_) (fun cdv A outer s H vs Q E hr h => ?_)
  · obtain ⟨d, fp, rfl, _⟩ := h; rfl
  · obtain ⟨d, fp, rfl, DK, kk⟩ := h
    refine ⟨_, (pss_one (ps_ret (pe_ix (k_ixL K) (pe_lst (pa_cons (pe_op op_add pe_int (pcall D_law_draw G_law_draw (hr.mono (by decide)) (pa_cons (pv 0) (pa_cons pe_int pa_nil)))) (pa_cons (pe_op op_add pe_int (pcall D_law_draw G_law_draw (hr.mono (by decide)) (pa_cons (pv 0) (pa_cons pe_int pa_nil)))) (pa_cons (pe_op op_add pe_int (pcall D_law_draw G_law_draw (hr.mono (by decide)) (pa_cons (pv 0) (pa_cons pe_int pa_nil)))) (pa_cons pe_int (pa_cons pe_int pa_nil)))))) (pcall D_law_draw G_law_draw (hr.mono (by decide)) (pa_cons (pv 0) (pa_cons pe_int pa_nil))) (fun _ _ => rfl)))), ?_⟩
    refine ⟨_, rfl, d, _, fp, rfl, DK, (by decide), (by decide), fun x1 H1 hx1 S1 => ⟨_, _, rfl, rfl, ?_⟩⟩
    refine ⟨_, rfl, d, _, fp, rfl, S1.dk, (by decide), (by decide), fun x2 H2 hx2 S2 => ⟨_, _, rfl, rfl, ?_⟩⟩
    refine ⟨_, rfl, d, _, fp, rfl, S2.dk, (by decide), (by decide), fun x3 H3 hx3 S3 => ⟨_, _, rfl, rfl, (by show 5 ≤ sizeLine; decide), fun l1 hl1 => ?_⟩⟩
    have f1 := S3.dk.fresh hl1
    have S4 := ((S1.trans S2).trans S3).new hl1 (o := .lst [.int (1 + (x1 : Int)), .int (1 + (x2 : Int)), .int (1 + (x3 : Int)), .int 60, .int 1])
    refine ⟨_, rfl, d, _, fp, rfl, S4.dk, (by decide), (by decide), fun x4 H5 hx4 S5 => ?_⟩
    obtain ⟨m, hm, hm1, hm2⟩ : ∃ m : Nat, atI [V.int (1 + (x1 : Int)), V.int (1 + (x2 : Int)), V.int (1 + (x3 : Int)), V.int 60, V.int 1] (x4 : Int) = some (.int m) ∧ 1 ≤ m ∧ m ≤ 60 := by
      have h5 : x4 < 5 := by omega
      match x4, h5 with
      | 0, _ => exact ⟨1 + x1, rfl, by omega, by omega⟩
      | 1, _ => exact ⟨1 + x2, rfl, by omega, by omega⟩
      | 2, _ => exact ⟨1 + x3, rfl, by omega, by omega⟩
      | 3, _ => exact ⟨60, rfl, by omega, by omega⟩
      | 4, _ => exact ⟨1, rfl, by omega, by omega⟩
    exact ⟨l1, _, _, _, rfl, rfl, SqL.of (S5.get f1 upd_same), hm, kk m H5 hm1 hm2 (S4.trans S5)⟩
def sp__law_tight_rule : Sp := fun vs H Q _ => ∃ (d : Addr) (fp : List Addr), vs = [.ref d] ∧ Deck H d fp ∧
  ∀ (r : Addr) (b : Nat) (bl : Addr) (zs : List (Addr × List Int)) (H' : Hp), Stp fp d H H' → RuleAt (aw fp H') r b bl zs → GoodRule b (zs.map (·.2)) → Q (.ref r) H'
theorem same_off {fp : List Addr} {bl : Addr} {H H' : Hp} (sm : Same (aw (bl :: fp) H) (aw (bl :: fp) H')) (hb : H bl = none) : Same (aw fp H) (aw fp H') := fun c o e => by
  have hc : c ∉ fp := fun hc => by rw [aw_in hc] at e; cases e
  rw [aw_out hc] at e ⊢
  have hc2 : c ∉ bl :: fp := fun z => by
    rcases List.mem_cons.mp z with z | z
    · exact ne_of_none e hb z
    · exact hc z
  have z := sm c o (by rw [aw_out hc2]; exact e)
  rwa [aw_out hc2] at z
theorem sc__law_tight_rule : FnScope ["deck", "base", "bad", "k", "one"] ["deck"] (defScope s__law_tight_rule) := ⟨rfl, rfl, rfl, by decide +kernel, rfl, by decide +kernel, by decide +kernel⟩
set_option maxHeartbeats 1000000 in
theorem ok__law_tight_rule {f f1 : Addr} {fd fd1 : FuncData} (D : Df K mg "_law_tight_rule" s__law_tight_rule ["deck"] f fd) (D_law_draw : Df K mg "_law_draw" s__law_draw ["deck", "many"] f1 fd1) (T : Blt mg) : FnOk P w K mg base CX0 2 f fd ["deck"] sp__law_tight_rule := by
  have G_law_draw : FnOk P w K mg base CX0 1 f1 fd1 ["deck", "many"] sp__law_draw := ok__law_draw D_law_draw T
  refine D.fn.ok sc__law_tight_rule (fun vs H Q E h => ?_) (fun cdv A outer s H vs Q E hr h => ?_)
  · obtain ⟨d, fp, rfl, _⟩ := h; rfl
  · obtain ⟨d, fp, rfl, DK, kk⟩ := h
    have HU := HUof hr
    refine ⟨_, (pss_cons (ps_set (i := 1) sc__law_tight_rule.nd rfl (Or.inr rfl) (pe_op op_add pe_int (pcall D_law_draw G_law_draw (hr.mono (by decide)) (pa_cons (pv 0) (pa_cons pe_int pa_nil)))))
      (pss_cons (ps_set (i := 2) sc__law_tight_rule.nd rfl (Or.inl rfl) (pe_lst pa_nil))
      (pss_cons (ps_for PassesOwn.never rfl (pi_range1 rfl T.n_range (pa_cons pe_int pa_nil)) (pg_name (i := 3) sc__law_tight_rule.nd rfl (Or.inl rfl))
        (pss_cons (ps_setComp (i := 4) (show CScope (defScope s__law_tight_rule) _ "at" ["deck", "base", "bad", "k", "one"] ["deck", "base"] [0, 1] from ⟨rfl, by decide +kernel, by decide +kernel, rfl, by decide +kernel, rfl, by decide +kernel, by decide +kernel⟩) rfl sc__law_tight_rule.nd rfl (Or.inl rfl) (pi_range1 rfl T.n_range (pa_cons (pe_ix (k_ixL K) (pe_lst (pa_cons (pe_op op_add pe_int (pcall D_law_draw G_law_draw (hr.mono (by decide)) (pa_cons (pv 0) (pa_cons pe_int pa_nil)))) (pa_cons pe_int (pa_cons pe_int pa_nil)))) (pcall D_law_draw G_law_draw (hr.mono (by decide)) (pa_cons (pv 0) (pa_cons pe_int pa_nil))) (fun _ _ => rfl)) pa_nil)) (fun _ _ _ _ => pts_nil) (fun _ _ _ _ => (pcall D_law_draw G_law_draw (hr.mono (by decide)) (pa_cons (pv 1) (pa_cons (pv 2) pa_nil)))))
        (pss_one (ps_if (pt_cmpR (k_notInT K HU) (pv 4) (pv 2) (by with_unfolding_all rfl))
          (pss_one (ps_expr (pe_bm PySem.F.plainAttrs_list PySem.F.slot_list_append PySem.F.type_list_append mt_append (pv 2) (pa_cons (pv 4) pa_nil))))
          pss_nil))))
      (pss_cons (ps_if (pt_cmpR op_eq (pcall D_law_draw G_law_draw (hr.mono (by decide)) (pa_cons (pv 0) (pa_cons pe_int pa_nil))) pe_int (nomark _))
        (pss_cons (ps_set (i := 1) sc__law_tight_rule.nd rfl (Or.inr rfl) (pe_op op_add pe_int (pcall D_law_draw G_law_draw (hr.mono (by decide)) (pa_cons (pv 0) (pa_cons pe_int pa_nil)))))
        (pss_cons (ps_setComp (i := 2) (show CScope (defScope s__law_tight_rule) _ "figure" ["deck", "base", "bad", "k", "one"] [] [] from ⟨rfl, by decide +kernel, by decide +kernel, rfl, by decide +kernel, rfl, by decide +kernel, by decide +kernel⟩) rfl sc__law_tight_rule.nd rfl (Or.inl rfl) (pi_range2 rfl T.n_range (pa_cons pe_int (pa_cons (pv 1) pa_nil))) (fun _ _ _ _ => pts_nil) (fun _ _ _ _ => (pe_lst (pa_cons (pv 0) pa_nil))))
        (pss_one (ps_if (pt_cmpR op_eq (pcall D_law_draw G_law_draw (hr.mono (by decide)) (pa_cons (pv 0) (pa_cons pe_int pa_nil))) pe_int (nomark _))
          (pss_one (ps_set (i := 2) sc__law_tight_rule.nd rfl (Or.inl rfl) (pe_op op_cat (pe_slice (k_slL K) (pv 2) (po_some pe_int) po_none) (pe_lst (pa_cons (pe_lst (pa_cons pe_int pa_nil)) pa_nil)))))
          pss_nil))))
        pss_nil)
      (pss_one (ps_ret (pe_tup (pa_cons (pv 1) (pa_cons (pe_callB (k_sortL K HU) (by rfl) T.n_sorted boot_sorted (pa_cons (pv 2) pa_nil)) pa_nil))))))))), ?_⟩
    refine ⟨_, rfl, d, _, fp, rfl, DK, (by decide), (by decide), fun x1 H1 hx1 S1 => ⟨_, _, rfl, rfl, ?_⟩⟩
    obtain ⟨b, hb, hb2, hb3⟩ : ∃ b : Nat, (2 + (x1 : Int)) = (b : Int) ∧ 2 ≤ b ∧ b ≤ 3 := ⟨2 + x1, by omega, by omega, by omega⟩
    dsimp only
    rw [hb]
    refine ⟨(by decide : 0 ≤ sizeLine), fun bl hbl => ?_⟩
    have fbl := S1.dk.fresh hbl
    have blH := S1.free hbl
    have S2 := S1.new hbl (o := .lst [])
    refine ⟨4, rfl, by decide, by decide, for_range (lo := 0) (n := 4) (fun i σ H15 => ∃ (v1 v2 : Option V) (zs : List (Addr × List Int)),
      σ = [some (.ref d), some (.int b), some (.ref bl), v1, v2] ∧ zs.length ≤ i ∧ Deck H15 d fp ∧ H15 bl = some (.lst (zs.map fun z => V.ref z.1)) ∧ (∀ z ∈ zs, H15 z.1 = some (.lst (z.2.map V.int)) ∧ z.1 ∉ fp ∧ z.1 ≠ bl) ∧ (∀ l ∈ zs.map (·.2), GoodSt b l) ∧ (zs.map (·.2)).Nodup ∧ Same (aw (bl :: fp) H) (aw (bl :: fp) H15)) ⟨none, none, [], rfl, Nat.le_refl _, S2.dk, upd_same, (by simp), (by simp), (by simp), stp_aw S2⟩ ?_ ?_⟩
    · rintro i σ H15 hi ⟨v1, v2, zs, rfl, hzl, D15, hB, hZ, hG, nd, sm⟩
      refine ⟨_, rfl, d, _, fp, rfl, D15, by decide, by decide, fun y1 H16 hy1 S16 => ⟨_, _, rfl, rfl, (by show 3 ≤ sizeLine; decide), fun l4 hl4 => ?_⟩⟩
      have f4 := S16.dk.fresh hl4
      have S17 := S16.new hl4 (o := .lst [.int (1 + (y1 : Int)), .int 2, .int 3])
      refine ⟨_, rfl, d, _, fp, rfl, S17.dk, by decide, by decide, fun y2 H18 hy2 S18 => ?_⟩
      obtain ⟨N, hN, hN1, hN3⟩ : ∃ N : Nat, atI [V.int (1 + (y1 : Int)), V.int 2, V.int 3] (y2 : Int) = some (.int N) ∧ 1 ≤ N ∧ N ≤ 3 := by
        have h3 : y2 < 3 := by omega
        match y2, h3 with
        | 0, _ => exact ⟨1 + y1, rfl, by omega, by omega⟩
        | 1, _ => exact ⟨2, rfl, by omega, by omega⟩
        | 2, _ => exact ⟨3, rfl, by omega, by omega⟩
      refine ⟨l4, _, _, _, rfl, rfl, SqL.of (S18.get f4 upd_same), hN, (N : Int), rfl, by omega, by omega, comp_range (lo := 0) (n := (N : Int).toNat) (fun j ys Hc => Stp fp d H15 Hc ∧ ∃ ms : List Int, ys = ms.map V.int ∧ ms.length = j ∧ ∀ f ∈ ms, 0 ≤ f ∧ f < (b : Int)) ⟨S17.trans S18, [], rfl, rfl, by simp⟩ ?_ ?_⟩
      · rintro j ys Hc hj ⟨Sc, ms, rfl, hml, hmf⟩
        refine ⟨by rw [List.length_map, hml]; exact Nat.lt_of_lt_of_le (show j < 5 by omega) (by decide), ?_⟩
        unfold tYes
        dsimp only
        rw [if_pos rfl]
        refine ⟨_, rfl, _, rfl, d, _, fp, rfl, Sc.dk, by omega, by omega, fun y3 H19 hy3 S19 => ⟨Sc.trans S19, ms ++ [(y3 : Int)], by simp, by simp [hml], fun f hf => ?_⟩⟩
        rcases List.mem_append.mp hf with hf | hf
        · exact hmf f hf
        · have e : f = (y3 : Int) := by simpa using hf
          omega
      · rintro ys Hc ⟨Sc, ms, rfl, hml, hmf⟩ p hp
        have hBc := Sc.get fbl hB
        have nbp : bl ≠ p := ne_of_none hBc hp
        have hZc : ∀ z ∈ zs, Hc z.1 = some (.lst (z.2.map V.int)) := fun z hz => Sc.get (hZ z hz).2.1 (hZ z hz).1
        have fpp := Sc.dk.fresh hp
        refine ⟨_, rfl, _, rfl, bl, _, (zs.map (·.2)).map tInts, tInts ms, rfl, SqL.of (same_upd hp _ _ hBc), TrsAt.lists (fun z hz => same_upd hp _ _ (hZc z hz)), TrAt.ints (a := p) (SqL.of upd_same), Nat.le_trans (tdeps_tInts _) (by decide), _, rfl, ?_⟩
        have sm2 : Same (aw (bl :: fp) H) (aw (bl :: fp) (upd Hc p (.lst (ms.map V.int)))) := sm.trans ((stp_aw Sc).trans ((same_upd hp).aw _))
        have D18 := Sc.dk.upd fpp (o := .lst (ms.map V.int))
        rw [if_pos rfl, notin_any]
        by_cases hin : ms ∈ zs.map (·.2)
        · rw [decide_eq_true hin]
          refine iteF ?_
          exact ⟨_, _, zs, rfl, by omega, D18, same_upd hp _ _ hBc, fun z hz => ⟨same_upd hp _ _ (hZc z hz), (hZ z hz).2⟩, hG, nd, sm2⟩
        · rw [decide_eq_false hin]
          refine iteT ?_
          refine ⟨_, rfl, .inl ⟨rfl, _, SqL.of (same_upd hp _ _ hBc)⟩, _, rfl, bl, _, _, rfl, rfl, same_upd hp _ _ hBc, by rw [List.length_map]; exact Nat.lt_of_le_of_lt (show zs.length ≤ 4 by omega) (by decide), ?_⟩
          refine ⟨_, _, zs ++ [(p, ms)], rfl, by rw [List.length_append, List.length_singleton]; omega, D18.upd fbl, by rw [upd_same]; simp, fun z hz => ?_, fun l hl => ?_, ?_, sm2.trans aw_upd_out⟩
          · rcases List.mem_append.mp hz with hz | hz
            · rw [upd_ne (hZ z hz).2.2]
              exact ⟨same_upd hp _ _ (hZc z hz), (hZ z hz).2⟩
            · have e : z = (p, ms) := by simpa using hz
              subst e
              exact ⟨by rw [upd_ne (Ne.symm nbp), upd_same], fpp, Ne.symm nbp⟩
          · rw [List.map_append] at hl
            rcases List.mem_append.mp hl with hl | hl
            · exact hG l hl
            · have e : l = ms := by simpa using hl
              subst e
              exact ⟨fun z => by rw [z] at hml; simp at hml; omega, by omega, hmf⟩
          · rw [List.map_append]
            refine List.nodup_append.mpr ⟨nd, by simp, fun x hx y hy => ?_⟩
            have e : y = ms := by simpa using hy
            rw [e]
            exact fun z => hin (z ▸ hx)
    rintro σ H15 ⟨v1, v2, zs0, rfl, hzl, D15, hB, hZ, hG, nd, sm⟩
    have sm0 := same_off sm blH
    dsimp only [tSeq]
    refine (?key : ∀ D : Ends, (∀ (b : Nat) (bl : Addr) (zs : List (Addr × List Int)) (H2 : Hp) (v3 v4 : Option V), 2 ≤ b → b ≤ 16 → zs.length ≤ 4 → Deck H2 d fp → H2 bl = some (.lst (zs.map fun z => V.ref z.1)) → (∀ z ∈ zs, H2 z.1 = some (.lst (z.2.map V.int)) ∧ z.1 ∉ fp) → (∀ l ∈ zs.map (·.2), GoodSt b l) → (zs.map (·.2)).Nodup → Same (aw fp H) (aw fp H2) → D.nx [some (.ref d), some (.int b), some (.ref bl), v3, v4] H2) → (tIfS _ _ _) D _ H15) _ ?_
    · intro D hnx
      refine ⟨_, rfl, d, _, fp, rfl, D15, by decide, by decide, fun x6 H16 hx6 S16 => ⟨rfl, _, rfl, ?_⟩⟩
      refine ite2 (fun _ => ?_) (fun _ => ?_)
      · refine ⟨_, rfl, d, _, fp, rfl, S16.dk, by decide, by decide, fun x7 H17 hx7 S17 => ⟨_, _, rfl, rfl, ?_⟩⟩
        obtain ⟨c, hc, hc2, hc5⟩ : ∃ c : Nat, (2 + (x7 : Int)) = (c : Int) ∧ 2 ≤ c ∧ c ≤ 5 := ⟨2 + x7, by omega, by omega, by omega⟩
        dsimp only
        rw [hc]
        refine ⟨_, rfl, 1, (c : Int), rfl, ⟨by omega, by omega, by omega, by omega⟩, comp_range (lo := 1) (n := ((c : Int) - 1).toNat) (fun j ys Hc => Stp fp d H15 Hc ∧ ∃ zs : List (Addr × List Int), ys = (zs.map fun z => V.ref z.1) ∧ zs.map (·.2) = (List.range j).map (fun (i : Nat) => [(i : Int) + 1]) ∧ ∀ z ∈ zs, Hc z.1 = some (.lst (z.2.map V.int)) ∧ z.1 ∉ fp) ⟨S16.trans S17, [], rfl, rfl, by simp⟩ ?_ ?_⟩
        · rintro j ys Hc hj ⟨Sc, zs, rfl, hzs, hz⟩
          have hzl : zs.length = j := by have := congrArg List.length hzs; rwa [List.length_map, List.length_map, List.length_range] at this
          refine ⟨by rw [List.length_map, hzl]; exact Nat.lt_of_lt_of_le (show j < 5 by omega) (by decide), ?_⟩
          unfold tYes
          dsimp only
          rw [if_pos rfl]
          refine ⟨_, rfl, (by show 1 ≤ sizeLine; decide), fun p hp => ⟨Sc.new hp, zs ++ [(p, [(j : Int) + 1])], by simp, ?_, fun z hzm => ?_⟩⟩
          · rw [List.map_append, hzs, List.range_succ, List.map_append]; rfl
          · rcases List.mem_append.mp hzm with hzm | hzm
            · exact ⟨same_upd hp _ _ (hz z hzm).1, (hz z hzm).2⟩
            · have e : z = (p, [(j : Int) + 1]) := by simpa using hzm
              subst e
              exact ⟨by rw [upd_same, show (1 : Int) + (j : Int) = (j : Int) + 1 by omega]; rfl, Sc.dk.fresh hp⟩
        · rintro ys Hc ⟨Sc, zs, rfl, hzs, hz⟩ q hq
          have fq := Sc.dk.fresh hq
          have Sq := Sc.new hq (o := .lst (zs.map fun z => V.ref z.1))
          have hq1 : upd Hc q (.lst (zs.map fun z => V.ref z.1)) q = some (.lst (zs.map fun z => V.ref z.1)) := upd_same
          have hzq : ∀ z ∈ zs, upd Hc q (.lst (zs.map fun z => V.ref z.1)) z.1 = some (.lst (z.2.map V.int)) ∧ z.1 ∉ fp := fun z hm => ⟨same_upd hq _ _ (hz z hm).1, (hz z hm).2⟩
          generalize upd Hc q (.lst (zs.map fun z => V.ref z.1)) = Hq at Sq hq1 hzq
          have hcn : ((c : Int) - 1).toNat = c - 1 := by omega
          rw [hcn] at hzs
          have hzl : zs.length = c - 1 := by have := congrArg List.length hzs; rwa [List.length_map, List.length_map, List.length_range] at this
          have gst : ∀ l ∈ zs.map (·.2), GoodSt c l ∧ l ≠ [0] := fun l hl => by
            rw [hzs] at hl
            obtain ⟨i, hi, rfl⟩ := List.mem_map.mp hl
            have hi := List.mem_range.mp hi
            refine ⟨⟨by simp, (by show 1 ≤ 4; decide), fun f hf => ?_⟩, fun z => ?_⟩
            · have e : f = (i : Int) + 1 := by simpa using hf
              omega
            · injection z with z; omega
          have ndz : (zs.map (·.2)).Nodup := by
            rw [hzs]
            refine List.Pairwise.map _ (fun i j hij => ?_) (List.nodup_range (n := c - 1))
            intro z; injection z with z; omega
          refine ⟨_, rfl, d, _, fp, rfl, Sq.dk, by decide, by decide, fun x8 H18 hx8 S18 => ⟨rfl, _, rfl, ?_⟩⟩
          have hq8 := S18.get fq hq1
          have hz8 : ∀ z ∈ zs, H18 z.1 = some (.lst (z.2.map V.int)) ∧ z.1 ∉ fp := fun z hm => ⟨S18.get (hzq z hm).2 (hzq z hm).1, (hzq z hm).2⟩
          have S8 := Sq.trans S18
          have D8 := S8.dk
          refine ite2 (fun _ => ?_) (fun _ => ?_)
          · refine ⟨_, rfl, _, rfl, q, _, rfl, SqL.of hq8, fun q2 k2 => ?_⟩
            rw [show cutV (zs.map fun z => V.ref z.1) (some 1) none = (zs.map fun z => V.ref z.1).drop 1 from cutV_from _ 1]
            refine ⟨(by show 1 ≤ sizeLine; decide), fun q3 k3 => ⟨(by show 1 ≤ sizeLine; decide), fun q4 k4 => ?_⟩⟩
            have t3 := (same_upd k3 (o := .lst [V.int 0])).trans (same_upd k4 (o := .lst [V.ref q3]))
            have t4 := (same_upd k2 (o := .lst ((zs.map fun z => V.ref z.1).drop 1))).trans t3
            refine ⟨q2, q4, _, _, rfl, rfl, t3 _ _ upd_same, upd_same, ?_, fun q5 k5 => ?_⟩
            · rw [List.length_drop, List.length_map, hzl]
              exact Nat.le_trans (show c - 1 - 1 + 1 ≤ 10 by omega) (by decide)
            have t5 := t4.trans (same_upd k5 (o := .lst ((zs.map fun z => V.ref z.1).drop 1 ++ [V.ref q3])))
            have D9 := D8.same (same_upd k2 (o := .lst ((zs.map fun z => V.ref z.1).drop 1)))
            have S9 := S8.trans (.of D8 t5)
            have h3 := same_upd k5 (o := .lst ((zs.map fun z => V.ref z.1).drop 1 ++ [V.ref q3])) _ _ (same_upd k4 (o := .lst [V.ref q3]) _ _ (upd_same (H := upd H18 q2 (.lst ((zs.map fun z => V.ref z.1).drop 1))) (a := q3) (o := .lst [V.int 0])))
            refine hnx c q5 (zs.drop 1 ++ [(q3, [0])]) _ _ _ (by omega) (by omega) (by rw [List.length_append, List.length_drop, hzl]; simp; omega) S9.dk (by rw [upd_same, List.map_append, List.map_drop]; rfl) (fun z hm => ?_) (fun l hl => ?_) ?_ (sm0.trans S9.sm)
            · rcases List.mem_append.mp hm with hm | hm
              · have hm := List.mem_of_mem_drop hm
                exact ⟨t5 _ _ (hz8 z hm).1, (hz8 z hm).2⟩
              · have e : z = (q3, [0]) := by simpa using hm
                subst e
                exact ⟨h3, D9.fresh k3⟩
            · rw [List.map_append] at hl
              rcases List.mem_append.mp hl with hl | hl
              · obtain ⟨z, hm, rfl⟩ := List.mem_map.mp hl
                exact (gst _ (List.mem_map.mpr ⟨z, List.mem_of_mem_drop hm, rfl⟩)).1
              · have e : l = [0] := by simpa using hl
                subst e
                exact ⟨by simp, (by show 1 ≤ 4; decide), fun f hf => by
                  have e : f = 0 := by simpa using hf
                  omega⟩
            · rw [List.map_append, List.map_drop]
              refine List.nodup_append.mpr ⟨ndz.sublist (List.drop_sublist _ _), by simp, fun x hx y hy => ?_⟩
              have e : y = [0] := by simpa using hy
              rw [e]
              exact (gst x (List.mem_of_mem_drop hx)).2
          · exact hnx c q zs _ _ _ (by omega) (by omega) (by omega) D8 hq8 hz8 (fun l hl => (gst l hl).1) ndz (sm0.trans S8.sm)
      · exact hnx b bl zs0 _ _ _ hb2 (by omega) (by omega) S16.dk (S16.get fbl hB) (fun z hz => ⟨S16.get (hZ z hz).2.1 (hZ z hz).1, (hZ z hz).2.1⟩) hG nd (sm0.trans S16.sm)
    · intro b bl zs H2 v3 v4 hb2 hb16 hzl D2 hB hZ hG nd sm
      refine ⟨_, rfl, _, rfl, bl, zs, rfl, SqL.of hB, by omega, fun z hz => SqL.of (hZ z hz).1, nd, fun p zs' hp pm pw => ⟨(by show 2 ≤ sizeLine; decide), fun r hr => ?_⟩⟩
      have D16 := D2.same (same_upd hp (o := .lst (zs'.map fun z => V.ref z.1)))
      have npr : p ≠ r := fun z => by rw [← z, upd_same] at hr; cases hr
      have t2 := (same_upd hp (o := .lst (zs'.map fun z => V.ref z.1))).trans (same_upd hr (o := .tup [V.int b, V.ref p]))
      refine kk r b p zs' _ ⟨D16.same (same_upd hr), sm.trans (t2.aw fp)⟩ ⟨?_, ?_, fun z hz => ?_⟩ ⟨hb2, hb16, by rw [List.length_map, pm.length_eq]; omega, fun l hl => ?_, by rw [List.pairwise_map]; exact pw⟩
      · rw [aw_out (D16.fresh hr), upd_same]
      · rw [aw_out (D2.fresh hp), upd_ne npr, upd_same]
      · have hzm := pm.mem_iff.mp hz
        rw [aw_out (hZ z hzm).2]
        exact t2 _ _ (hZ z hzm).1
      · obtain ⟨z, hz, rfl⟩ := List.mem_map.mp hl
        exact hG _ (List.mem_map.mpr ⟨z, pm.mem_iff.mp hz, rfl⟩)
end
end Lw
set_option Elab.async false
set_option linter.all false
set_option maxRecDepth 100000
namespace Lw
open PySem L2 PyProof.Rows
theorem iteB {c : Bool} {A B : Prop} (hc : c = false) (h : B) : if c = true then A else B := by rw [hc]; exact iteF h
theorem iteA {c : Bool} {A B : Prop} (hc : c = true) (h : A) : if c = true then A else B := by rw [hc]; exact iteT h
theorem pow60 {b m : Nat} (h : b ≤ 16) (hm : m ≤ 61) : b ^ m ≤ 2 ^ 244 := by
  have h1 : b ^ m ≤ 16 ^ m := Nat.pow_le_pow_left h m
  have h2 : (16 : Nat) ^ m = 2 ^ (4 * m) := by rw [show (16 : Nat) = 2 ^ 4 from rfl, ← Nat.pow_mul]
  have h3 : 2 ^ (4 * m) ≤ 2 ^ 244 := Nat.pow_le_pow_right (by decide) (by omega)
  omega
theorem up900 {n : Nat} (h : n ≤ 2 ^ 244) : n < 2 ^ 900 := Nat.lt_of_le_of_lt h (Nat.pow_lt_pow_right (by decide) (by decide))
theorem dec_ints {i j : Int} (h : ¬ i = j) : decide (V.int i = V.int j) = false := decide_eq_false (fun z => h (by injection z))
section
variable {P : Program} {w : World} {K : PySem.W.Frag} {mg : Str → Option Value} {base : Heap} {T0 : Addr}
abbrev sp__law_length_right (T0 : Addr) : Sp := sp_ask T0 lenPre (fun _ _ _ v => v = .bl true)
theorem sc__law_length_right : FnScope ["rule", "m", "many", "least", "greatest", "n"] ["rule", "m"] (defScope s__law_length_right) := ⟨rfl, rfl, rfl, by decide +kernel, rfl, by decide +kernel, by decide +kernel⟩
set_option maxHeartbeats 2000000 in
theorem ok__law_length_right {f f1 f2 f3 f4 f5 f6 : Addr} {fd fd1 fd2 fd3 fd4 fd5 fd6 : FuncData} (D : Df K mg "_law_length_right" s__law_length_right ["rule", "m"] f fd) (Dcount_long : Df K mg "count_long" s_count_long ["rule", "m"] f1 fd1) (Gcount_long : FnOk P w K mg base CX0 9 f1 fd1 ["rule", "m"] (sp_count_long T0)) (Dleast_long : Df K mg "least_long" s_least_long ["rule", "m"] f2 fd2) (Gleast_long : FnOk P w K mg base CX0 9 f2 fd2 ["rule", "m"] (sp_ask T0 lenPre LeastL))
    (Dgreatest_long : Df K mg "greatest_long" s_greatest_long ["rule", "m"] f3 fd3) (Ggreatest_long : FnOk P w K mg base CX0 9 f3 fd3 ["rule", "m"] (sp_ask T0 lenPre GreatestL)) (Dsum_long : Df K mg "sum_long" s_sum_long ["rule", "m"] f4 fd4) (Gsum_long : FnOk P w K mg base CX0 12 f4 fd4 ["rule", "m"] (sp_sum_long T0)) (Dis_good : Df K mg "is_good" s_is_good ["rule", "n"] f5 fd5) (Gis_good : FnOk P w K mg base CX0 8 f5 fd5 ["rule", "n"] sp_is_good)
    (Dfigures_of : Df K mg "figures_of" s_figures_of ["base", "n"] f6 fd6) (Gfigures_of : FnOk P w K mg base CX0 4 f6 fd6 ["base", "n"] sp_figures_of) (T : Blt mg) : FnOk P w K mg base CX0 13 f fd ["rule", "m"] (sp__law_length_right T0) := by
  refine D.fn.ok sc__law_length_right (fun vs H Q E h => ?_) (fun cdv A outer s H vs Q E hr h => ?_)
  · obtain ⟨r, b, bl, zs, n, rfl, _⟩ := h; rfl
  · obtain ⟨r, b, bl, zs, m, rfl, R, g, ⟨hm1, hm2⟩, hT, kk⟩ := h
    have b2 := g.b2
    have b16 := g.b16
    have ne : ∀ l ∈ zs.map (·.2), l ≠ [] := fun l hl => (g.st l hl).ne
    have hle := low_le (ls := zs.map (·.2)) (m := m) (show 1 ≤ b by omega)
    have hpw := pow60 (m := m) b16 (by omega)
    refine ⟨_, (pss_cons (ps_set (i := 2) sc__law_length_right.nd rfl (Or.inl rfl) (pcall Dcount_long Gcount_long (hr.mono (by decide)) (pa_cons (pv 0) (pa_cons (pv 1) pa_nil))))
      (pss_cons (ps_set (i := 3) sc__law_length_right.nd rfl (Or.inl rfl) (pcall Dleast_long Gleast_long (hr.mono (by decide)) (pa_cons (pv 0) (pa_cons (pv 1) pa_nil))))
      (pss_cons (ps_set (i := 4) sc__law_length_right.nd rfl (Or.inl rfl) (pcall Dgreatest_long Ggreatest_long (hr.mono (by decide)) (pa_cons (pv 0) (pa_cons (pv 1) pa_nil))))
      (pss_cons (ps_if (PW.pt (pw_or (pt_cmpR op_ne (pe_cmpR op_isN (pv 3) pe_non (nomark _)) (pe_cmpR op_eq (pv 2) pe_int (nomark _)) (nomark _)) (pw_or1 (pt_cmpR op_ne (pe_cmpR op_isN (pv 4) pe_non (nomark _)) (pe_cmpR op_eq (pv 2) pe_int (nomark _)) (nomark _)))))
        (pss_one (ps_ret pe_bl))
        pss_nil)
      (pss_cons (ps_if (pt_cmpR op_eq (pv 2) pe_int (nomark _))
        (pss_one (ps_ret (pe_and (pe_cmpR op_eq (pcall Dsum_long Gsum_long (hr.mono (by decide)) (pa_cons (pv 0) (pa_cons (pv 1) pa_nil))) pe_int (nomark _)) (pe_one (pe_or (pe_cmpR op_eq (pv 1) pe_int (nomark _)) (pe_or (pe_cmpR op_eq (pcall Dcount_long Gcount_long (hr.mono (by decide)) (pa_cons (pv 0) (pa_cons (pe_op op_add (pv 1) pe_int) pa_nil))) pe_int (nomark _)) (pe_one (pe_cmpR op_eq (pv 1) pe_int (nomark _)))))))))
        pss_nil)
      (pss_cons (ps_for PassesOwn.never rfl (k_pi K (pe_lst (pa_cons (pv 3) (pa_cons (pv 4) pa_nil)))) (pg_name (i := 5) sc__law_length_right.nd rfl (Or.inl rfl))
        (pss_one (ps_if (PW.pt (pw_or (pt_not (pt_val (pcall Dis_good Gis_good (hr.mono (by decide)) (pa_cons (pv 0) (pa_cons (pv 5) pa_nil))))) (pw_or1 (pt_cmpR op_ne (pe_callB (k_len K) (by rfl) T.n_len PySem.boot_len (pa_cons (pcall Dfigures_of Gfigures_of (hr.mono (by decide)) (pa_cons (pe_ix (k_ixT K) (pv 0) pe_int (fun _ _ => rfl)) (pa_cons (pv 5) pa_nil))) pa_nil)) (pv 1) (nomark _)))))
          (pss_one (ps_ret pe_bl))
          pss_nil)))
      (pss_cons (ps_if (PW.pt (pw_or (pt_cmpR op_ne (pe_cmpR op_eq (pv 3) (pv 4) (nomark _)) (pe_cmpR op_eq (pv 2) pe_int (nomark _)) (nomark _)) (pw_or1 (pt_cmpR op_gt (pv 3) (pv 4) (nomark _)))))
        (pss_one (ps_ret pe_bl))
        pss_nil)
      (pss_one (ps_ret (pe_chain op_le op_le (pe_op op_mulB (pv 2) (pv 3)) (pcall Dsum_long Gsum_long (hr.mono (by decide)) (pa_cons (pv 0) (pa_cons (pv 1) pa_nil))) (pe_op op_mulB (pv 2) (pv 4)))))))))))), ?_⟩
    refine ⟨_, rfl, _, rfl, r, b, bl, zs, m, rfl, R, g, ⟨hm1, hm2⟩, hT, fun v1 H1 e1 s1 hT1 => ?_⟩
    subst e1
    have R1 := R.sameL hT s1
    obtain ⟨c, hc⟩ : ∃ c : Nat, many (gd (zs.map (·.2)) b) (b ^ m) - low (zs.map (·.2)) b m = c := ⟨_, rfl⟩
    rw [show ((many (gd (zs.map (·.2)) b) (b ^ m) : Nat) : Int) - (low (zs.map (·.2)) b m : Nat) = (c : Int) by omega]
    refine ⟨_, rfl, _, rfl, r, b, bl, zs, m, rfl, R1, g, ⟨hm1, hm2⟩, hT1, fun v2 H2 e2 s2 hT2 => ?_⟩
    have R2 := R1.sameL hT1 s2
    refine ⟨_, rfl, _, rfl, r, b, bl, zs, m, rfl, R2, g, ⟨hm1, hm2⟩, hT2, fun v3 H3 e3 s3 hT3 => ?_⟩
    have R3 := R2.sameL hT2 s3
    have s13 := (s1.trans s2).trans s3
    by_cases hN : many (gd (zs.map (·.2)) b) (b ^ m) = low (zs.map (·.2)) b m
    · have e2' : v2 = .non := by
        rcases e2 with ⟨e, _⟩ | ⟨g1, _, a1, a2, a3⟩
        · exact e
        · have := many_lt _ a3 a1; omega
      have e3' : v3 = .non := by
        rcases e3 with ⟨e, _⟩ | ⟨g1, _, _, _, _, a⟩
        · exact e
        · omega
      subst e2'
      subst e3'
      have c0 : c = 0 := by omega
      subst c0
      have lowe : many (gd (zs.map (·.2)) b) (lowN b m) = many (gd (zs.map (·.2)) b) (b ^ m) := by rw [← low_N]; exact hN.symm
      refine ⟨_, rfl, rfl, _, rfl, rfl, rfl, _, rfl, iteB (by simp) ?_⟩
      refine ⟨_, rfl, rfl, _, rfl, rfl, rfl, _, rfl, iteB (by simp) ?_⟩
      refine ⟨_, rfl, rfl, _, rfl, iteA (by simp) ?_⟩
      refine ⟨_, rfl, _, rfl, r, b, bl, zs, m, rfl, R3, g, ⟨hm1, hm2⟩, hT3, fun v4 H4 e4 s4 hT4 => ?_⟩
      subst e4
      have R4 := R3.sameL hT3 s4
      refine ⟨rfl, _, rfl, iteA ?_ ?_⟩
      · rw [tot_same (lowN_le b2) lowe, Int.sub_self]
        simp
      refine ⟨_, rfl, rfl, _, rfl, ?_⟩
      refine ite2 (fun _ => kk _ H4 rfl (s13.trans s4) hT4) (fun h60 => ?_)
      have h60' : m ≠ 60 := fun z => h60 (decide_eq_true (by rw [z]; rfl))
      refine ⟨_, rfl, _, rfl, _, _, rfl, rfl, r, b, bl, zs, m + 1, by rw [Int.natCast_add]; rfl, R4, g, ⟨by omega, by omega⟩, hT4, fun v5 H5 e5 s5 hT5 => ?_⟩
      subst e5
      refine ⟨rfl, _, rfl, ?_⟩
      refine ite2 (fun _ => kk _ H5 rfl ((s13.trans s4).trans s5) hT5) (fun hz => ?_)
      by_cases hm : m = 1
      · subst hm
        refine ⟨_, rfl, rfl, ?_⟩
        exact kk _ H5 (by simp) ((s13.trans s4).trans s5) hT5
      · exfalso
        apply hz
        have h := none_on ne b2 (show 2 ≤ m by omega) (by rw [← lowe]; unfold lowN; rw [if_neg hm])
        refine decide_eq_true ?_
        congr 1
        unfold low
        rw [if_neg (by omega), Nat.add_sub_cancel, h, Int.sub_self]
    · rcases e2 with ⟨_, z⟩ | ⟨l, rfl, l1, l2, l3⟩
      · exact absurd z hN
      rcases e3 with ⟨_, z⟩ | ⟨gg, rfl, g1, g2, g3, g4⟩
      · exact absurd z hN
      have c0 : ¬ c = 0 := by omega
      have d0 : decide (V.int (c : Int) = V.int 0) = false := dec_ints (by omega)
      have dl : decide (V.int (l : Int) = V.non) = false := decide_eq_false (fun z => by cases z)
      have dg : decide (V.int (gg : Int) = V.non) = false := decide_eq_false (fun z => by cases z)
      have lowl : lowN b m ≤ l := ge_of_many l1 (by rw [l2, low_N]; exact Nat.le_refl _)
      have lg : l ≤ gg := ge_of_many g1 (by omega)
      refine ⟨_, rfl, rfl, _, rfl, rfl, rfl, _, rfl, iteB (by rw [d0, dl]; rfl) ?_⟩
      refine ⟨_, rfl, rfl, _, rfl, rfl, rfl, _, rfl, iteB (by rw [d0, dg]; rfl) ?_⟩
      refine ⟨_, rfl, rfl, _, rfl, iteB d0 ?_⟩
      refine ⟨_, rfl, _, rfl, (by show 2 ≤ sizeLine; decide), fun q hq => ?_⟩
      have sq := same_upd hq (o := .lst [V.int (l : Int), V.int (gg : Int)])
      have hq1 : upd H3 q (.lst [V.int (l : Int), V.int (gg : Int)]) q = some (.lst [V.int (l : Int), V.int (gg : Int)]) := upd_same
      generalize upd H3 q (.lst [V.int (l : Int), V.int (gg : Int)]) = H4 at sq hq1
      refine ⟨q, rfl, ⟨_, SqL.of hq1⟩, for_list (K := K) (a := q) (xs := [V.int (l : Int), V.int (gg : Int)]) (fun i σ H5 => ∃ v5 : Option V, σ = [some (.ref r), some (.int m), some (.int c), some (.int l), some (.int gg), v5] ∧ Same H4 H5) ⟨none, rfl, Same.refl _⟩ (fun i σ H5 _ ⟨_, _, e⟩ => SqL.of (e _ _ hq1)) ?_ ?_⟩
      · rintro i x σ H5 hx ⟨v5, rfl, s5⟩
        obtain ⟨n, rfl, n1, n2, n3⟩ : ∃ n : Nat, x = .int n ∧ gd (zs.map (·.2)) b n = true ∧ lowN b m ≤ n ∧ n < b ^ m := by
          match i, hx with
          | 0, hx => exact ⟨l, (Option.some.inj hx).symm, l1, lowl, l3⟩
          | 1, hx => exact ⟨gg, (Option.some.inj hx).symm, g1, Nat.le_trans lowl lg, g3⟩
          | i + 2, hx => simp at hx
        have R5 := R3.same (sq.trans s5)
        have n9 := up900 (n := n) (by omega)
        refine ⟨_, rfl, _, rfl, r, b, bl, zs, n, rfl, R5, g, n9, fun H6 s6 => ⟨_, rfl, iteB (by rw [show lacks (zs.map (·.2)) (figs b n) = true from n1]; rfl) ?_⟩⟩
        have R6 := R5.same s6
        refine ⟨_, rfl, r, _, _, V.int b, rfl, rfl, SqT.of R6.tu, rfl, _, rfl, b, n, rfl, b2, b16, n9, fun l5 H7 hl5 hv5 s7 => ⟨l5, _, rfl, .inl (SqL.of hv5), ?_⟩⟩
        refine ⟨_, rfl, rfl, _, rfl, iteB ?_ ⟨_, rfl, (s5.trans s6).trans s7⟩⟩
        rw [List.length_map, size_low b2 hm1 n2 n3]
        simp
      · rintro σ H5 ⟨v5, rfl, s5⟩
        have R5 := R3.same (sq.trans s5)
        have hT5 := hT3.same (sq.trans s5)
        have s15 := s13.trans (SameL.of (sq.trans s5))
        have eq1 : decide (V.int (l : Int) = V.int (gg : Int)) = decide (V.int (c : Int) = V.int 1) := by
          by_cases z : c = 1
          · have e : l = gg := many_inj _ l1 g1 (by omega)
            rw [z, e]; simp
          · rw [dec_ints (show ¬ (c : Int) = 1 by omega), dec_ints fun e => ?_]
            have e : l = gg := by omega
            subst e; omega
        refine ⟨_, rfl, _, rfl, rfl, _, rfl, rfl, rfl, _, rfl, iteB (by rw [eq1]; simp) ?_⟩
        refine ⟨_, rfl, _, rfl, _, _, rfl, rfl, _, rfl, iteB (decide_eq_false (by omega)) ?_⟩
        have cle : c ≤ 2 ^ 244 := by
          have := many_le (gd (zs.map (·.2)) b) (b ^ m)
          omega
        have up : ∀ n : Nat, n ≤ 2 ^ 244 → n < 2 ^ 245 := fun n h => Nat.lt_of_le_of_lt h (by decide)
        have lo := low_N (ls := zs.map (·.2)) (b := b) (m := m)
        have hmono := tot_mono (gd (zs.map (·.2)) b) (fun n => n) (lowN_le (b := b) (m := m) b2)
        have hge := sum_ge (p := gd (zs.map (·.2)) b) (lowN_le (b := b) (m := m) b2) (l := l) (by rw [l2, lo])
        have hle2 := sum_le (p := gd (zs.map (·.2)) b) (lowN_le (b := b) (m := m) b2) g1 g2
        rw [← lo, hc] at hge hle2
        refine ⟨_, rfl, _, rfl, _, _, rfl, rfl, CMulB.nat (up c cle) (up l (by omega)) (by decide) (by decide), ?_⟩
        refine ⟨_, rfl, _, rfl, r, b, bl, zs, m, rfl, R5, g, ⟨hm1, hm2⟩, hT5, fun v7 H7 e7 s7 hT7 => ?_⟩
        subst e7
        refine ⟨_, _, rfl, rfl, _, rfl, iteA (decide_eq_true ?_) ?_⟩
        · rw [← Int.natCast_mul]; omega
        refine ⟨_, rfl, _, rfl, _, _, rfl, rfl, CMulB.nat (up c cle) (up gg (by omega)) (by decide) (by decide), _, _, rfl, rfl, ?_⟩
        refine kk _ H7 ?_ (s15.trans s7) hT7
        dsimp only
        rw [decide_eq_true ?_]
        rw [← Int.natCast_mul]; omega
end
end Lw
set_option Elab.async false
set_option linter.all false
set_option maxRecDepth 100000
namespace Lw
open PySem L2 PyProof.Rows
theorem EndR.yes {ls : List (List Int)} {b : Nat} {v : V} (h : End ls b) (e : EndR ls b v) : v = .bl true := by
  rcases e with ⟨e, _⟩ | ⟨_, e⟩
  · exact e
  · obtain ⟨g, h1, h2, _⟩ := h 13
    have := e g h1
    omega
theorem EndR.no {ls : List (List Int)} {b : Nat} {v : V} (h : ¬ End ls b) (e : EndR ls b v) : v = .bl false ∧ ∀ g, gd ls b g = true → g < b ^ 13 := by
  rcases e with ⟨_, e⟩ | e
  · exact absurd e h
  · exact e
theorem none_above {ls : List (List Int)} {b k m : Nat} (b2 : 2 ≤ b) (h : ∀ g, gd ls b g = true → g < b ^ k) (hk : k + 1 ≤ m) (hm : 2 ≤ m) : many (gd ls b) (b ^ m) = low ls b m := by
  have e : low ls b m = many (gd ls b) (b ^ (m - 1)) := by unfold low; rw [if_neg (by omega)]
  rw [e]
  by_cases z : many (gd ls b) (b ^ (m - 1)) < many (gd ls b) (b ^ m)
  · obtain ⟨g, h1, h2, _⟩ := many_ex z
    have := h g h1
    have := Nat.pow_le_pow_right (show 0 < b by omega) (show k ≤ m - 1 by omega)
    omega
  · have := many_mono (gd ls b) (Nat.pow_le_pow_right (show 0 < b by omega) (show m - 1 ≤ m by omega))
    omega
theorem some_end {ls : List (List Int)} {b m : Nat} (h : End ls b) (hm : 2 ≤ m) : low ls b m < many (gd ls b) (b ^ m) := by
  have e : low ls b m = many (gd ls b) (b ^ (m - 1)) := by unfold low; rw [if_neg (by omega)]
  rw [e]
  have := end_lt h (m - 1)
  rwa [show m - 1 + 1 = m by omega] at this
theorem neB {p : Prop} [Decidable p] {c : Bool} (h : decide p = c) : (!decide (V.bl c = V.bl (decide p))) = false := by rw [h]; simp
section
variable {P : Program} {w : World} {K : PySem.W.Frag} {mg : Str → Option Value} {base : Heap} {T0 : Addr}
abbrev sp__law_endless_right (T0 : Addr) : Sp := sp_ask1 T0 (fun _ _ => True) (fun _ _ v => v = .bl true)
theorem sc__law_endless_right : FnScope ["rule", "greatest", "m"] ["rule"] (defScope s__law_endless_right) := ⟨rfl, rfl, rfl, by decide +kernel, rfl, by decide +kernel, by decide +kernel⟩
set_option maxHeartbeats 2000000 in
theorem ok__law_endless_right {f f1 f2 f3 f4 f5 f6 : Addr} {fd fd1 fd2 fd3 fd4 fd5 fd6 : FuncData} (D : Df K mg "_law_endless_right" s__law_endless_right ["rule"] f fd) (Dcount_long : Df K mg "count_long" s_count_long ["rule", "m"] f1 fd1) (Gcount_long : FnOk P w K mg base CX0 9 f1 fd1 ["rule", "m"] (sp_count_long T0)) (Dis_endless : Df K mg "is_endless" s_is_endless ["rule"] f2 fd2) (Gis_endless : FnOk P w K mg base CX0 9 f2 fd2 ["rule"] (sp_is_endless T0))
    (Dgreatest_long : Df K mg "greatest_long" s_greatest_long ["rule", "m"] f3 fd3) (Ggreatest_long : FnOk P w K mg base CX0 9 f3 fd3 ["rule", "m"] (sp_ask T0 lenPre GreatestL)) (Dgreatest_good : Df K mg "greatest_good" s_greatest_good ["rule"] f4 fd4) (Ggreatest_good : FnOk P w K mg base CX0 9 f4 fd4 ["rule"] (sp_greatest_good T0)) (Dis_good : Df K mg "is_good" s_is_good ["rule", "n"] f5 fd5) (Gis_good : FnOk P w K mg base CX0 8 f5 fd5 ["rule", "n"] sp_is_good)
    (Dfigures_of : Df K mg "figures_of" s_figures_of ["base", "n"] f6 fd6) (Gfigures_of : FnOk P w K mg base CX0 4 f6 fd6 ["base", "n"] sp_figures_of) (T : Blt mg) : FnOk P w K mg base CX0 10 f fd ["rule"] (sp__law_endless_right T0) := by
  refine D.fn.ok sc__law_endless_right (fun vs H Q E h => ?_) (fun cdv A outer s H vs Q E hr h => ?_)
  · obtain ⟨r, b, bl, zs, rfl, _⟩ := h; rfl
  · obtain ⟨r, b, bl, zs, rfl, R, g, _, hT, kk⟩ := h
    have HU := HUof hr
    have b2 := g.b2
    have b16 := g.b16
    have ne : ∀ l ∈ zs.map (·.2), l ≠ [] := fun l hl => (g.st l hl).ne
    refine ⟨_, (pss_cons (ps_if (PW.pt (pw_or (pt_cmpR op_ne (pcall Dis_endless Gis_endless (hr.mono (by decide)) (pa_cons (pv 0) pa_nil)) (pe_cmpR op_gt (pcall Dcount_long Gcount_long (hr.mono (by decide)) (pa_cons (pv 0) (pa_cons pe_int pa_nil))) pe_int (nomark _)) (nomark _)) (pw_or1 (pt_cmpR op_ne (pcall Dis_endless Gis_endless (hr.mono (by decide)) (pa_cons (pv 0) pa_nil)) (pe_cmpR op_gt (pcall Dcount_long Gcount_long (hr.mono (by decide)) (pa_cons (pv 0) (pa_cons pe_int pa_nil))) pe_int (nomark _)) (nomark _)))))
        (pss_one (ps_ret pe_bl))
        pss_nil)
      (pss_cons (ps_if (pt_val (pcall Dis_endless Gis_endless (hr.mono (by decide)) (pa_cons (pv 0) pa_nil)))
        (pss_one (ps_ret pe_bl))
        pss_nil)
      (pss_cons (ps_set (i := 1) sc__law_endless_right.nd rfl (Or.inl rfl) (pcall Dgreatest_good Ggreatest_good (hr.mono (by decide)) (pa_cons (pv 0) pa_nil)))
      (pss_cons (ps_if (pt_cmpR op_isN (pv 1) pe_non (nomark _))
        (pss_one (ps_ret (pe_cmpR (k_eqT K HU) (pe_comp (show CScope (defScope s__law_endless_right) _ "m" ["rule", "greatest", "m"] ["rule"] [0] from ⟨rfl, by decide +kernel, by decide +kernel, rfl, by decide +kernel, rfl, by decide +kernel, by decide +kernel⟩) rfl (pi_range2 rfl T.n_range (pa_cons pe_int (pa_cons pe_int pa_nil))) (fun _ _ _ _ => (pts_one (pt_cmpR op_gt (pcall Dcount_long Gcount_long (hr.mono (by decide)) (pa_cons (pv 1) (pa_cons (pv 0) pa_nil))) pe_int (nomark _)))) (fun _ _ _ _ => (pv 0))) (pe_lst pa_nil) (nomark _))))
        pss_nil)
      (pss_cons (ps_set (i := 2) sc__law_endless_right.nd rfl (Or.inl rfl) (pe_callB (k_len K) (by rfl) T.n_len PySem.boot_len (pa_cons (pcall Dfigures_of Gfigures_of (hr.mono (by decide)) (pa_cons (pe_ix (k_ixT K) (pv 0) pe_int (fun _ _ => rfl)) (pa_cons (pv 1) pa_nil))) pa_nil)))
      (pss_cons (ps_if (PW.pt (pw_or (pt_cmpR op_ne (pcall Dgreatest_long Ggreatest_long (hr.mono (by decide)) (pa_cons (pv 0) (pa_cons (pv 2) pa_nil))) (pv 1) (nomark _)) (pw_or1 (pt_not (pt_val (pcall Dis_good Gis_good (hr.mono (by decide)) (pa_cons (pv 0) (pa_cons (pv 1) pa_nil))))))))
        (pss_one (ps_ret pe_bl))
        pss_nil)
      (pss_one (ps_ret (pe_cmpR (k_eqT K HU) (pe_comp (show CScope (defScope s__law_endless_right) _ "more" ["rule", "greatest", "m"] ["rule"] [0] from ⟨rfl, by decide +kernel, by decide +kernel, rfl, by decide +kernel, rfl, by decide +kernel, by decide +kernel⟩) rfl (pi_range2 rfl T.n_range (pa_cons (pe_op op_add (pv 2) pe_int) (pa_cons (pe_op op_add (pv 2) pe_int) pa_nil))) (fun _ _ _ _ => (pts_one (pt_cmpR op_gt (pcall Dcount_long Gcount_long (hr.mono (by decide)) (pa_cons (pv 1) (pa_cons (pv 0) pa_nil))) pe_int (nomark _)))) (fun _ _ _ _ => (pv 0))) (pe_lst pa_nil) (nomark _)))))))))), ?_⟩
    refine ⟨_, rfl, r, b, bl, zs, rfl, R, g, trivial, hT, fun v1 H1 e1 s1 hT1 => ?_⟩
    have R1 := R.sameL hT s1
    by_cases hE : End (zs.map (·.2)) b
    · obtain rfl := e1.yes hE
      refine ⟨_, rfl, r, b, bl, zs, 20, rfl, R1, g, ⟨by decide, by decide⟩, hT1, fun v2 H2 e2 s2 hT2 => ?_⟩
      subst e2
      have R2 := R1.sameL hT1 s2
      have c20 := some_end hE (show 2 ≤ 20 by decide)
      have c60 := some_end hE (show 2 ≤ 60 by decide)
      refine ⟨_, _, rfl, rfl, rfl, _, rfl, iteB (neB (decide_eq_true (by omega))) ?_⟩
      refine ⟨_, rfl, r, b, bl, zs, rfl, R2, g, trivial, hT2, fun v3 H3 e3 s3 hT3 => ?_⟩
      have R3 := R2.sameL hT2 s3
      obtain rfl := e3.yes hE
      refine ⟨_, rfl, r, b, bl, zs, 60, rfl, R3, g, ⟨by decide, by decide⟩, hT3, fun v4 H4 e4 s4 hT4 => ?_⟩
      subst e4
      have R4 := R3.sameL hT3 s4
      refine ⟨_, _, rfl, rfl, rfl, _, rfl, iteB (neB (decide_eq_true (by omega))) ?_⟩
      refine ⟨_, rfl, r, b, bl, zs, rfl, R4, g, trivial, hT4, fun v5 H5 e5 s5 hT5 => ?_⟩
      obtain rfl := e5.yes hE
      exact ⟨_, rfl, iteT (kk _ H5 rfl ((((s1.trans s2).trans s3).trans s4).trans s5) hT5)⟩
    · obtain ⟨rfl, hno⟩ := e1.no hE
      refine ⟨_, rfl, r, b, bl, zs, 20, rfl, R1, g, ⟨by decide, by decide⟩, hT1, fun v2 H2 e2 s2 hT2 => ?_⟩
      subst e2
      have R2 := R1.sameL hT1 s2
      have c20 := none_above b2 hno (show 13 + 1 ≤ 20 by decide) (by decide)
      have c60 := none_above b2 hno (show 13 + 1 ≤ 60 by decide) (by decide)
      refine ⟨_, _, rfl, rfl, rfl, _, rfl, iteB (neB (decide_eq_false (by omega))) ?_⟩
      refine ⟨_, rfl, r, b, bl, zs, rfl, R2, g, trivial, hT2, fun v3 H3 e3 s3 hT3 => ?_⟩
      have R3 := R2.sameL hT2 s3
      obtain ⟨rfl, _⟩ := e3.no hE
      refine ⟨_, rfl, r, b, bl, zs, 60, rfl, R3, g, ⟨by decide, by decide⟩, hT3, fun v4 H4 e4 s4 hT4 => ?_⟩
      subst e4
      have R4 := R3.sameL hT3 s4
      refine ⟨_, _, rfl, rfl, rfl, _, rfl, iteB (neB (decide_eq_false (by omega))) ?_⟩
      refine ⟨_, rfl, r, b, bl, zs, rfl, R4, g, trivial, hT4, fun v5 H5 e5 s5 hT5 => ?_⟩
      have R5 := R4.sameL hT4 s5
      obtain ⟨rfl, _⟩ := e5.no hE
      refine ⟨_, rfl, iteF ?_⟩
      refine ⟨_, rfl, r, b, bl, zs, rfl, R5, g, hno, hT5, fun v6 H6 e6 s6 hT6 => ?_⟩
      have R6 := R5.sameL hT5 s6
      have s16 := ((((s1.trans s2).trans s3).trans s4).trans s5).trans s6
      rcases e6 with ⟨rfl, hnone⟩ | ⟨gg, rfl, g1, g2, g3⟩
      · refine ⟨_, rfl, rfl, _, rfl, iteA (by simp) ?_⟩
        refine ⟨1, 14, rfl, ⟨by decide, by decide, by decide, by decide⟩, comp_range (lo := 1) (n := 13) (fun j ys Hc => ys = [] ∧ SameL T0 H6 Hc ∧ LT T0 Hc) ⟨rfl, fun _ _ _ e => e, hT6⟩ ?_ ?_⟩
        · rintro j ys Hc hj ⟨rfl, sc, hTc⟩
          have Rc := R6.sameL hT6 sc
          refine ⟨by decide, ?_⟩
          refine ⟨_, rfl, _, rfl, r, b, bl, zs, j + 1, ?_, Rc, g, ⟨by omega, by omega⟩, hTc, fun v7 H7 e7 s7 hT7 => ?_⟩
          · show [V.ref r, V.int (1 + (j : Int))] = _
            rw [show (1 : Int) + (j : Int) = ((j + 1 : Nat) : Int) by omega]
          subst e7
          have z : ∀ n, many (gd (zs.map (·.2)) b) n = 0 := fun n => many_none fun k _ => hnone k
          have z2 : low (zs.map (·.2)) b (j + 1) = 0 := by rw [low_N]; exact z _
          have z1 := z (b ^ (j + 1))
          exact ⟨_, _, rfl, rfl, _, rfl, iteB (decide_eq_false (by rw [z1, z2]; decide)) ⟨rfl, sc.trans s7, hT7⟩⟩
        · rintro ys Hc ⟨rfl, sc, hTc⟩ Dd hD
          refine ⟨(by decide : 0 ≤ sizeLine), fun p0 hp0 => ?_⟩
          have hDp : Dd ≠ p0 := fun z => by rw [← z, upd_same] at hp0; cases hp0
          refine ⟨tInts [], tInts [], TrAt.ints (a := Dd) (SqL.of (by rw [upd_ne hDp, upd_same]; rfl)), TrAt.ints (a := p0) (SqL.of upd_same), (by rw [tdep_tInts]; decide), ?_⟩
          have t := (same_upd hD (o := .lst [])).trans (same_upd hp0 (o := .lst []))
          exact kk _ _ (by rw [teq_refl]; rfl) ((s16.trans sc).trans (SameL.of t)) (hTc.same t)
      · have dg : decide (V.int (gg : Int) = V.non) = false := decide_eq_false (fun z => by cases z)
        refine ⟨_, rfl, rfl, _, rfl, iteB dg ?_⟩
        have hp13 := pow60 (b := b) (m := 13) b16 (by decide)
        have n9 := up900 (n := gg) (by omega)
        refine ⟨_, rfl, r, _, _, V.int b, rfl, rfl, SqT.of R6.tu, rfl, _, rfl, b, gg, rfl, b2, b16, n9, fun l7 H7 hl7 hv7 s7 => ⟨l7, _, rfl, .inl (SqL.of hv7), ?_⟩⟩
        rw [List.length_map]
        obtain ⟨M, hM⟩ : ∃ M, (figs b gg).length = M := ⟨_, rfl⟩
        rw [hM]
        have hM1 : 1 ≤ M := by
          obtain ⟨k, k1, k2⟩ := size_ex b2 gg
          rw [figs_size b2 k1 k2] at hM; omega
        obtain ⟨lo, hi⟩ := size_lowN b2 hM hM1
        have hM13 : M ≤ 13 := by
          by_cases z : M ≤ 13
          · exact z
          · have : lowN b M = b ^ (M - 1) := by unfold lowN; rw [if_neg (by omega)]
            have := Nat.pow_le_pow_right (show 0 < b by omega) (show 13 ≤ M - 1 by omega)
            omega
        have R7 := R6.same s7
        have hT7 := hT6.same s7
        refine ⟨_, rfl, _, rfl, r, b, bl, zs, M, rfl, R7, g, ⟨by omega, by omega⟩, hT7, fun v8 H8 e8 s8 hT8 => ?_⟩
        have hlt := many_lt _ hi g1
        have e8' : v8 = .int gg := by
          rcases e8 with ⟨_, z⟩ | ⟨g', rfl, a1, a2, a3, a4⟩
          · exfalso
            rw [low_N] at z
            have := many_mono (gd (zs.map (·.2)) b) lo
            omega
          · have x1 := g3 g' a1
            have x2 := ge_of_many a1 (show many (gd (zs.map (·.2)) b) gg ≤ many (gd (zs.map (·.2)) b) g' by omega)
            rw [show g' = gg by omega]
        subst e8'
        have R8 := R7.sameL hT7 s8
        refine ⟨_, rfl, rfl, _, rfl, iteB (by simp) ?_⟩
        refine ⟨_, rfl, _, rfl, r, b, bl, zs, gg, rfl, R8, g, n9, fun H9 s9 => ⟨_, rfl, iteB (by rw [show lacks (zs.map (·.2)) (figs b gg) = true from g1]; rfl) ?_⟩⟩
        have R9 := R8.same s9
        have hT9 := hT8.same s9
        have s19 := ((s16.trans (SameL.of s7)).trans s8).trans (SameL.of s9)
        refine ⟨_, rfl, _, _, rfl, rfl, _, rfl, _, _, rfl, rfl, (M : Int) + 1, (M : Int) + 4, rfl, ⟨by omega, by omega, by omega, by omega⟩, comp_range (lo := (M : Int) + 1) (n := ((M : Int) + 4 - ((M : Int) + 1)).toNat) (fun j ys Hc => ys = [] ∧ SameL T0 H9 Hc ∧ LT T0 Hc) ⟨rfl, fun _ _ _ e => e, hT9⟩ ?_ ?_⟩
        · rintro j ys Hc hj ⟨rfl, sc, hTc⟩
          have Rc := R9.sameL hT9 sc
          refine ⟨by decide, ?_⟩
          refine ⟨_, rfl, _, rfl, r, b, bl, zs, M + 1 + j, ?_, Rc, g, ⟨by omega, by omega⟩, hTc, fun v7 H7 e7 s7 hT7 => ?_⟩
          · show [V.ref r, V.int ((M : Int) + 1 + (j : Int))] = _
            rw [show (M : Int) + 1 + (j : Int) = ((M + 1 + j : Nat) : Int) by omega]
          subst e7
          have z := none_above (m := M + 1 + j) (k := M) b2 (fun h hh => Nat.lt_of_le_of_lt (g3 h hh) hi) (by omega) (by omega)
          exact ⟨_, _, rfl, rfl, _, rfl, iteB (decide_eq_false (by rw [z, Int.sub_self]; decide)) ⟨rfl, sc.trans s7, hT7⟩⟩
        · rintro ys Hc ⟨rfl, sc, hTc⟩ Dd hD
          refine ⟨(by decide : 0 ≤ sizeLine), fun p0 hp0 => ?_⟩
          have hDp : Dd ≠ p0 := fun z => by rw [← z, upd_same] at hp0; cases hp0
          refine ⟨tInts [], tInts [], TrAt.ints (a := Dd) (SqL.of (by rw [upd_ne hDp, upd_same]; rfl)), TrAt.ints (a := p0) (SqL.of upd_same), (by rw [tdep_tInts]; decide), ?_⟩
          have t := (same_upd hD (o := .lst [])).trans (same_upd hp0 (o := .lst []))
          exact kk _ _ (by rw [teq_refl]; rfl) ((s19.trans sc).trans (SameL.of t)) (hTc.same t)
end
end Lw
set_option Elab.async false
set_option linter.all false
set_option maxRecDepth 100000
namespace Lw
open PySem L2 PyProof.Rows
theorem cut_erase {α β : Type} (f : α → β) (zs : List α) (j : Nat) : (zs.map f).take j ++ (zs.map f).drop (j + 1) = (zs.eraseIdx j).map f := by
  rw [← List.eraseIdx_eq_take_drop_succ, map_erase]
theorem long_all {b m : Nat} (h2 : 2 ≤ b) (hm : 1 ≤ m) : (((many (gd [] b) (b ^ m) : Nat) : Int) - ((low [] b m : Nat) : Int)) = ((b ^ m : Nat) : Int) - ((b ^ m : Nat) : Int) / (b : Int) * (if decide ((m : Int) > 1) = true then 1 else 0) := by
  rw [many_all]
  unfold low
  by_cases z : m = 1
  · subst z
    rw [if_pos rfl, decide_eq_false (by decide)]
    simp
  · rw [if_neg z, many_all, decide_eq_true (show (m : Int) > 1 by omega), if_pos rfl, Int.mul_one, ← Int.natCast_ediv]
    congr 2
    obtain ⟨k, rfl⟩ : ∃ k, m = k + 1 := ⟨m - 1, by omega⟩
    rw [Nat.add_sub_cancel, Nat.pow_succ, Nat.mul_div_cancel _ (by omega)]
theorem neV {x y : V} (h : x = y) : (!decide (x = y)) = false := by rw [decide_eq_true h]; rfl
section
variable {P : Program} {w : World} {K : PySem.W.Frag} {mg : Str → Option Value} {base : Heap} {T0 : Addr}
def sp__law_less_right (T0 : Addr) : Sp := fun vs H Q _ => ∃ (d : Addr) (fp : List Addr) (r : Addr) (b : Nat) (bl : Addr) (zs : List (Addr × List Int)) (m : Nat), vs = [.ref d, .ref r, .int m] ∧ Deck H d fp ∧ RuleAt (aw fp H) r b bl zs ∧ GoodRule b (zs.map (·.2)) ∧ 1 ≤ m ∧ m ≤ 60 ∧ LT T0 H ∧ ∀ H', Deck H' d fp → RuleAt (aw fp H') r b bl zs → LT T0 H' → (∀ c o, c ∉ fp → c ≠ T0 → H c = some o → H' c = some o) → Q (.bl true) H'
theorem sc__law_less_right : FnScope ["deck", "rule", "m", "base", "bad", "whole", "turn", "at", "fewer"] ["deck", "rule", "m"] (defScope s__law_less_right) := ⟨rfl, rfl, rfl, by decide +kernel, rfl, by decide +kernel, by decide +kernel⟩
set_option maxHeartbeats 2000000 in
theorem ok__law_less_right {f f1 f2 f3 f4 : Addr} {fd fd1 fd2 fd3 fd4 : FuncData} (D : Df K mg "_law_less_right" s__law_less_right ["deck", "rule", "m"] f fd) (Dcount_long : Df K mg "count_long" s_count_long ["rule", "m"] f1 fd1) (Gcount_long : FnOk P w K mg base CX0 9 f1 fd1 ["rule", "m"] (sp_count_long T0)) (Dis_endless : Df K mg "is_endless" s_is_endless ["rule"] f2 fd2) (Gis_endless : FnOk P w K mg base CX0 9 f2 fd2 ["rule"] (sp_is_endless T0))
    (Dsum_long : Df K mg "sum_long" s_sum_long ["rule", "m"] f3 fd3) (Gsum_long : FnOk P w K mg base CX0 12 f3 fd3 ["rule", "m"] (sp_sum_long T0)) (D_law_draw : Df K mg "_law_draw" s__law_draw ["deck", "many"] f4 fd4) (T : Blt mg) : FnOk P w K mg base CX0 13 f fd ["deck", "rule", "m"] (sp__law_less_right T0) := by
  have G_law_draw : FnOk P w K mg base CX0 1 f4 fd4 ["deck", "many"] sp__law_draw := ok__law_draw D_law_draw T
  refine D.fn.ok sc__law_less_right (fun vs H Q E h => ?_) (fun cdv A outer s H vs Q E hr h => ?_)
  · obtain ⟨d, fp, r, b, bl, zs, m, rfl, _⟩ := h; rfl
  · obtain ⟨d, fp, r, b, bl, zs, m, rfl, DK, RA, g, hm1, hm2, hT, kk⟩ := h
    have HU := HUof hr
    have R := RA.all
    have b2 := g.b2
    have b16 := g.b16
    have h4 : zs.length ≤ 4 := by have := g.len; rwa [List.length_map] at this
    refine ⟨_, (pss_cons (ps_asg (pv 1) (pg_tup rfl (pgs_cons (pg_name (i := 3) sc__law_less_right.nd rfl (Or.inl rfl)) (pgs_cons (pg_name (i := 4) sc__law_less_right.nd rfl (Or.inl rfl)) pgs_nil))))
      (pss_cons (ps_set (i := 5) sc__law_less_right.nd rfl (Or.inl rfl) pe_int)
      (pss_cons (ps_for PassesOwn.never rfl (pi_range1 rfl T.n_range (pa_cons (pv 2) pa_nil)) (pg_name (i := 6) sc__law_less_right.nd rfl (Or.inl rfl))
        (pss_one (ps_set (i := 5) sc__law_less_right.nd rfl (Or.inl rfl) (pe_op op_mulB (pv 5) (pv 3)))))
      (pss_cons (ps_if (pt_cmpR op_ne (pcall Dcount_long Gcount_long (hr.mono (by decide)) (pa_cons (pe_tup (pa_cons (pv 3) (pa_cons (pe_lst pa_nil) pa_nil))) (pa_cons (pv 2) pa_nil))) (pe_op op_sub (pv 5) (pe_op op_mulB (pe_op op_fdivB (pv 5) (pv 3)) (pe_callTy call_int1 (by rfl) T.n_int boot_int (pa_cons (pe_cmpR op_gt (pv 2) pe_int (nomark _)) pa_nil)))) (nomark _))
        (pss_one (ps_ret pe_bl))
        pss_nil)
      (pss_cons (ps_if (pt_cmpR (k_eqT K HU) (pv 4) (pe_lst pa_nil) (nomark _))
        (pss_one (ps_ret pe_bl))
        pss_nil)
      (pss_cons (ps_set (i := 7) sc__law_less_right.nd rfl (Or.inl rfl) (pcall D_law_draw G_law_draw (hr.mono (by decide)) (pa_cons (pv 0) (pa_cons (pe_callB (k_len K) (by rfl) T.n_len PySem.boot_len (pa_cons (pv 4) pa_nil)) pa_nil))))
      (pss_cons (ps_set (i := 8) sc__law_less_right.nd rfl (Or.inl rfl) (pe_tup (pa_cons (pv 3) (pa_cons (pe_op op_cat (pe_slice (k_slL K) (pv 4) po_none (po_some (pv 7))) (pe_slice (k_slL K) (pv 4) (po_some (pe_op op_add (pv 7) pe_int)) po_none)) pa_nil))))
      (pss_cons (ps_if (PW.pt (pw_or (pt_cmpR op_lt (pcall Dcount_long Gcount_long (hr.mono (by decide)) (pa_cons (pv 8) (pa_cons (pv 2) pa_nil))) (pcall Dcount_long Gcount_long (hr.mono (by decide)) (pa_cons (pv 1) (pa_cons (pv 2) pa_nil))) (nomark _)) (pw_or1 (PW.pt (pw_and (pt_val (pcall Dis_endless Gis_endless (hr.mono (by decide)) (pa_cons (pv 1) pa_nil))) (pw_and1 (pt_not (pt_val (pcall Dis_endless Gis_endless (hr.mono (by decide)) (pa_cons (pv 8) pa_nil))))))))))
        (pss_one (ps_ret pe_bl))
        pss_nil)
      (pss_one (ps_ret (pe_cmpR op_ge (pcall Dsum_long Gsum_long (hr.mono (by decide)) (pa_cons (pv 8) (pa_cons (pv 2) pa_nil))) (pcall Dsum_long Gsum_long (hr.mono (by decide)) (pa_cons (pv 1) (pa_cons (pv 2) pa_nil))) (nomark _)))))))))))), ?_⟩
    refine ⟨_, rfl, r, _, rfl, SqT.of R.tu, rfl, _, _, rfl, _, _, rfl, rfl, ?_⟩
    refine ⟨_, rfl, _, rfl, by omega, by omega, for_range (lo := 0) (n := (m : Int).toNat) (fun i σ H2 => ∃ (wh : Nat) (v6 : Option V), σ = [some (.ref d), some (.ref r), some (.int m), some (.int b), some (.ref bl), some (.int wh), v6, none, none] ∧ wh = b ^ i ∧ H2 = H) ⟨1, none, rfl, rfl, rfl⟩ ?_ ?_⟩
    · rintro i σ H2 hi ⟨wh, v6, rfl, rfl, rfl⟩
      have hp := pow60 (b := b) (m := i) b16 (by omega)
      refine ⟨_, rfl, _, rfl, _, _, rfl, rfl, CMulB.nat (i := b ^ i) (j := b) (k := 245) (l := 245) (Nat.lt_of_le_of_lt hp (by decide)) (Nat.lt_of_le_of_lt b16 (by decide)) (by decide) (by decide), ⟨b ^ i * b, some (.int (0 + (i : Int))), ?_, by rw [Nat.pow_succ], rfl⟩⟩
      rw [Int.natCast_mul]
      rfl
    rintro σ H2 ⟨wh, v6, rfl, hwh, rfl⟩
    rw [Int.toNat_natCast] at hwh
    subst hwh
    refine ⟨_, rfl, (by decide : 0 ≤ sizeLine), fun p1 q1 => ⟨(by show 2 ≤ sizeLine; decide), fun p2 q2 => ?_⟩⟩
    have n12 : p1 ≠ p2 := fun z => by rw [← z, upd_same] at q2; cases q2
    have t2 := (same_upd q1 (o := .lst [])).trans (same_upd q2 (o := .tup [.int b, .ref p1]))
    have hT2 := hT.same t2
    have D2 := DK.same t2
    have RA2 := RA.same (t2.aw fp)
    have fr2 : ∀ c o, c ∉ fp → c ≠ T0 → _ = some o → _ = some o := fun c o (_ : c ∉ fp) (_ : c ≠ T0) e => t2 c o e
    refine ⟨_, rfl, p2, b, p1, [], m, rfl, ⟨upd_same, by rw [upd_ne n12, upd_same]; rfl, fun z hz => by cases hz⟩, good_nil b2 b16, ⟨hm1, hm2⟩, hT2, fun v3 H3 e3 s3 hT3 => ?_⟩
    subst e3
    have D3 := D2.sameL hT2 s3
    have RA3 := RA2.awL hT2 s3
    have fr3 : ∀ c o, c ∉ fp → c ≠ T0 → H2 c = some o → H3 c = some o := fun c o h1 h2 e => s3 c o h2 (fr2 c o h1 h2 e)
    have hpw := pow60 (b := b) (m := m) b16 (by omega)
    refine ⟨_, rfl, _, rfl, _, rfl, _, _, rfl, rfl, ⟨by omega, by omega⟩, _, rfl, _, _, rfl, rfl, .inr ⟨_, rfl, ?_⟩⟩
    refine ⟨_, _, rfl, rfl, ?_, _, _, rfl, rfl, rfl, _, rfl, iteB ?_ ?_⟩
    · have e1 : ((b ^ m : Nat) : Int) / (b : Int) = ((b ^ m / b : Nat) : Int) := (Int.natCast_ediv _ _).symm
      refine ⟨?_, ?_⟩
      · show (((b ^ m : Nat) : Int) / (b : Int)).natAbs < _
        rw [e1, Int.natAbs_natCast]
        exact Nat.lt_of_le_of_lt (Nat.le_trans (Nat.div_le_self _ _) hpw) (Nat.pow_lt_pow_right (by decide) (by decide))
      · show (if _ then (1 : Int) else 0).natAbs < _
        split
        · exact Nat.lt_of_lt_of_le (show (1 : Int).natAbs < 2 by decide) (Nat.le_trans (Nat.le_of_eq (Nat.pow_one 2).symm) (Nat.pow_le_pow_right (by decide) (by decide)))
        · exact Nat.pow_pos (by decide)
    · have := long_all (m := m) b2 hm1
      exact neV (congrArg V.int this)
    have R3 := RA3.all
    refine ⟨_, rfl, (by decide : 0 ≤ sizeLine), fun p0 hp0 => ?_⟩
    have t0 : Same H3 (upd H3 p0 (.lst [])) := same_upd hp0
    refine ⟨.lst ((zs.map (·.2)).map tInts), .lst [], ?_, ?_, ?_, _, rfl, ?_⟩
    · rw [TrAt]; exact ⟨bl, _, rfl, SqL.of (t0 _ _ R3.li), TrsAt.lists fun z hz => t0 _ _ (R3.st z hz)⟩
    · rw [TrAt]; exact ⟨p0, _, rfl, SqL.of upd_same, by rw [TrsAt]⟩
    · rw [tdep]; have := tdeps_tInts (zs.map (·.2)); omega
    have D4 := D3.same t0
    have RA4 := RA3.same (t0.aw fp)
    have hT4 := hT3.same t0
    have fr4 : ∀ c o, c ∉ fp → c ≠ T0 → H2 c = some o → upd H3 p0 (.lst []) c = some o := fun c o h1 h2 e => t0 _ _ (fr3 c o h1 h2 e)
    by_cases hz0 : zs = []
    · subst hz0
      exact iteT (kk _ D4 RA4 hT4 fr4)
    have hzl : 0 < zs.length := List.length_pos_iff.mpr hz0
    have hteq : teq (.lst ((zs.map (·.2)).map tInts)) (.lst []) = false := by
      rw [teq, teqs_length]
      rw [List.length_map, List.length_map]; simp; exact hz0
    show if teq (.lst ((zs.map (·.2)).map tInts)) (.lst []) = true then _ else _
    rw [hteq]
    refine iteF ?_
    generalize upd H3 p0 (.lst []) = H4 at D4 RA4 hT4 fr4
    refine ⟨_, rfl, _, rfl, bl, _, rfl, .inl (SqL.of RA4.all.li), d, _, fp, rfl, D4, by rw [List.length_map]; omega, by rw [List.length_map]; omega, fun j H5 hj S5 => ?_⟩
    rw [List.length_map] at hj
    have hj' : j < zs.length := by omega
    have RA5 := RA4.step S5
    have R5 := RA5.all
    have hT5 := S5.lt D4 hT4
    have fr5 : ∀ c o, c ∉ fp → c ≠ T0 → H2 c = some o → H5 c = some o := fun c o h1 h2 e => S5.get h1 (fr4 c o h1 h2 e)
    refine ⟨_, rfl, _, rfl, _, rfl, _, rfl, bl, _, rfl, SqL.of R5.li, fun pa ha => ?_⟩
    refine ⟨_, rfl, _, rfl, _, _, rfl, rfl, _, rfl, bl, _, rfl, SqL.of (same_upd ha _ _ R5.li), fun pb hb => ?_⟩
    rw [cutV_upto, show ((j : Int) + 1) = ((j + 1 : Nat) : Int) by omega, cutV_from] at *
    have nab : pa ≠ pb := fun z => by rw [← z, upd_same] at hb; cases hb
    refine ⟨pa, pb, _, _, rfl, rfl, (by rw [upd_ne nab]; exact upd_same), upd_same, ?_, fun pc hc => ?_⟩
    · rw [← List.length_append, cut_erase, List.length_map]; exact Nat.le_trans (len_erase zs j) (Nat.le_trans h4 (by decide))
    rw [cut_erase]
    refine ⟨(by show 2 ≤ sizeLine; decide), fun pt ht => ?_⟩
    have nac : pc ≠ pt := fun z => by rw [← z, upd_same] at ht; cases ht
    have t6 := (((same_upd ha (o := .lst ((zs.map fun z => V.ref z.1).take j))).trans (same_upd hb (o := .lst ((zs.map fun z => V.ref z.1).drop (j + 1))))).trans (same_upd hc (o := .lst ((zs.eraseIdx j).map fun z => V.ref z.1)))).trans (same_upd ht (o := .tup [.int b, .ref pc]))
    generalize hH6 : (upd (upd (upd (upd H5 pa (.lst ((zs.map fun z => V.ref z.1).take j))) pb (.lst ((zs.map fun z => V.ref z.1).drop (j + 1)))) pc (.lst ((zs.eraseIdx j).map fun z => V.ref z.1))) pt (.tup [.int b, .ref pc])) = H6 at t6
    have RF : RuleAt H6 pt b pc (zs.eraseIdx j) := by
      refine ⟨by rw [← hH6]; exact upd_same, by rw [← hH6, upd_ne nac, upd_same], fun z hz => t6 _ _ (R5.st z (List.mem_of_mem_eraseIdx hz))⟩
    have gE : GoodRule b ((zs.eraseIdx j).map (·.2)) := by rw [← map_erase]; exact good_erase g j
    have D6 := S5.dk.same t6
    have RA6 := RA5.same (t6.aw fp)
    have hT6 := hT5.same t6
    have fr6 : ∀ c o, c ∉ fp → c ≠ T0 → H2 c = some o → H6 c = some o := fun c o h1 h2 e => t6 _ _ (fr5 c o h1 h2 e)
    have sub : ∀ l ∈ (zs.eraseIdx j).map (·.2), l ∈ zs.map (·.2) := fun l hl => by
      obtain ⟨z, hz, rfl⟩ := List.mem_map.mp hl
      exact List.mem_map.mpr ⟨z, List.mem_of_mem_eraseIdx hz, rfl⟩
    have sub2 : ∀ n, gd (zs.map (·.2)) b n = true → gd ((zs.eraseIdx j).map (·.2)) b n = true := fun n hn => lacks_sub sub hn
    have hcl := many_lessL (lowN_le (b := b) (m := m) b2) sub2
    have hsl := sum_less (lowN_le (b := b) (m := m) b2) sub2
    have hc1 := many_mono (gd (zs.map (·.2)) b) (lowN_le (b := b) (m := m) b2)
    have hc2 := many_mono (gd ((zs.eraseIdx j).map (·.2)) b) (lowN_le (b := b) (m := m) b2)
    have hs1 := tot_mono (gd (zs.map (·.2)) b) (fun n => n) (lowN_le (b := b) (m := m) b2)
    have hs2 := tot_mono (gd ((zs.eraseIdx j).map (·.2)) b) (fun n => n) (lowN_le (b := b) (m := m) b2)
    clear hH6 ht hc hb ha nab nac
    refine ⟨_, rfl, _, rfl, pt, b, pc, zs.eraseIdx j, m, rfl, RF, gE, ⟨hm1, hm2⟩, hT6, fun v7 H7 e7 s7 hT7 => ?_⟩
    subst e7
    have RF7 := RF.sameL hT6 s7
    have RA7 := RA6.awL hT6 s7
    have D7 := D6.sameL hT6 s7
    refine ⟨_, rfl, _, rfl, r, b, bl, zs, m, rfl, RA7.all, g, ⟨hm1, hm2⟩, hT7, fun v8 H8 e8 s8 hT8 => ?_⟩
    subst e8
    have RF8 := RF7.sameL hT7 s8
    have RA8 := RA7.awL hT7 s8
    have D8 := D7.sameL hT7 s8
    refine ⟨_, _, rfl, rfl, _, rfl, iteB (decide_eq_false ?_) ?_⟩
    · rw [low_N, low_N]; omega
    have fin : ∀ H', Deck H' d fp → RuleAt (aw fp H') r b bl zs → RuleAt H' pt b pc (zs.eraseIdx j) → LT T0 H' → SameL T0 H8 H' → (tRet (tOp (rI0 fun i j => V.bl (decide (i ≥ j))) (tCall (sp_sum_long T0) [] E0 (tCons (tVar 8) (tCons (tVar 2) tNil))) (tCall (sp_sum_long T0) [] E0 (tCons (tVar 1) (tCons (tVar 2) tNil))))) { nx := fun _ H' => Q .non H', rt := Q } [some (.ref d), some (.ref r), some (.int m), some (.int b), some (.ref bl), some (.int ((b ^ m : Nat) : Int)), v6, some (.int (j : Nat)), some (.ref pt)] H' := by
      intro H9 D9 RA9 RF9 hT9 s9
      refine ⟨_, rfl, _, rfl, pt, b, pc, zs.eraseIdx j, m, rfl, RF9, gE, ⟨hm1, hm2⟩, hT9, fun v10 H10 e10 s10 hT10 => ?_⟩
      subst e10
      have RA10 := RA9.awL hT9 s10
      have D10 := D9.sameL hT9 s10
      refine ⟨_, rfl, _, rfl, r, b, bl, zs, m, rfl, RA10.all, g, ⟨hm1, hm2⟩, hT10, fun v11 H11 e11 s11 hT11 => ?_⟩
      subst e11
      refine ⟨_, _, rfl, rfl, ?_⟩
      dsimp only
      rw [decide_eq_true ?_]
      · exact kk H11 (D10.sameL hT10 s11) (RA10.awL hT10 s11) hT11 (fun c o h1 h2 e => s11 c o h2 (s10 c o h2 (s9 c o h2 (s8 c o h2 (s7 c o h2 (fr6 c o h1 h2 e))))))
      · omega
    refine ⟨_, rfl, r, b, bl, zs, rfl, RA8.all, g, trivial, hT8, fun v9 H9 e9 s9 hT9 => ?_⟩
    have RF9 := RF8.sameL hT8 s9
    have RA9 := RA8.awL hT8 s9
    have D9 := D8.sameL hT8 s9
    by_cases hE : End (zs.map (·.2)) b
    · obtain rfl := e9.yes hE
      refine ⟨_, rfl, iteT ?_⟩
      refine ⟨_, rfl, pt, b, pc, zs.eraseIdx j, rfl, RF9, gE, trivial, hT9, fun v10 H10 e10 s10 hT10 => ?_⟩
      obtain rfl := e10.yes (hE.less sub)
      exact ⟨_, rfl, iteF (fin H10 (D9.sameL hT9 s10) (RA9.awL hT9 s10) (RF9.sameL hT9 s10) hT10 (s9.trans s10))⟩
    · obtain ⟨rfl, _⟩ := e9.no hE
      exact ⟨_, rfl, iteF (iteF (fin H9 D9 RA9 RF9 hT9 s9))⟩
end
end Lw
set_option Elab.async false
set_option linter.all false
set_option maxRecDepth 100000
namespace Lw
open PySem L2 PyProof.Rows
section
variable {P : Program} {w : World} {K : PySem.W.Frag} {mg : Str → Option Value} {base : Heap} {T0 : Addr}
def sp_law (K : PySem.W.Frag) (T : Addr) : Sp := fun vs H Q _ => ∃ (a : Addr) (ns : List Int), vs = [.ref a] ∧ SqL K H a (ns.map V.int) ∧ ns.length ≤ 63 ∧ LT T H ∧ ∀ H', Q (.bl true) H'
theorem sc_law : FnScope ["script", "deck", "k", "rule", "m"] ["script"] (defScope s_law) := ⟨rfl, rfl, rfl, by decide +kernel, rfl, by decide +kernel, by decide +kernel⟩
theorem ok_law {f f1 f2 f3 f4 f5 f6 f7 f8 : Addr} {fd fd1 fd2 fd3 fd4 fd5 fd6 fd7 fd8 : FuncData} (D : Df K mg "law" s_law ["script"] f fd) (D_law_deck : Df K mg "_law_deck" s__law_deck ["script"] f1 fd1) (D_law_some_rule : Df K mg "_law_some_rule" s__law_some_rule ["deck"] f2 fd2) (D_law_tight_rule : Df K mg "_law_tight_rule" s__law_tight_rule ["deck"] f3 fd3) (D_law_lengths : Df K mg "_law_lengths" s__law_lengths ["deck"] f4 fd4)
    (D_law_length_right : Df K mg "_law_length_right" s__law_length_right ["rule", "m"] f5 fd5) (G_law_length_right : FnOk P w K mg base CX0 13 f5 fd5 ["rule", "m"] (sp__law_length_right T0)) (D_law_less_right : Df K mg "_law_less_right" s__law_less_right ["deck", "rule", "m"] f6 fd6) (G_law_less_right : FnOk P w K mg base CX0 13 f6 fd6 ["deck", "rule", "m"] (sp__law_less_right T0))
    (D_law_endless_right : Df K mg "_law_endless_right" s__law_endless_right ["rule"] f7 fd7) (G_law_endless_right : FnOk P w K mg base CX0 10 f7 fd7 ["rule"] (sp__law_endless_right T0)) (D_law_draw : Df K mg "_law_draw" s__law_draw ["deck", "many"] f8 fd8) (T : Blt mg) : FnOk P w K mg base CX0 14 f fd ["script"] (sp_law K T0) := by
  have G_law_deck : FnOk P w K mg base CX0 1 f1 fd1 ["script"] (sp__law_deck K) := ok__law_deck D_law_deck T
  have G_law_draw : FnOk P w K mg base CX0 1 f8 fd8 ["deck", "many"] sp__law_draw := ok__law_draw D_law_draw T
  have G_law_some_rule : FnOk P w K mg base CX0 2 f2 fd2 ["deck"] sp__law_some_rule := ok__law_some_rule D_law_some_rule D_law_draw T
  have G_law_tight_rule : FnOk P w K mg base CX0 2 f3 fd3 ["deck"] sp__law_tight_rule := ok__law_tight_rule D_law_tight_rule D_law_draw T
  have G_law_lengths : FnOk P w K mg base CX0 2 f4 fd4 ["deck"] sp__law_lengths := ok__law_lengths D_law_lengths D_law_draw T
  refine D.fn.ok sc_law (fun vs H Q E h => ?_) (fun cdv A outer s H vs Q E hr h => ?_)
  · obtain ⟨a, ns, rfl, _⟩ := h; rfl
  · obtain ⟨a, ns, rfl, hS, hlen, lt, kk⟩ := h
    refine ⟨_, (pss_cons (ps_set (i := 1) sc_law.nd rfl (Or.inl rfl) (pcall D_law_deck G_law_deck (hr.mono (by decide)) (pa_cons (pv 0) pa_nil)))
      (pss_cons (ps_for PassesOwn.never rfl (pi_range1 rfl T.n_range (pa_cons pe_int pa_nil)) (pg_name (i := 2) sc_law.nd rfl (Or.inl rfl))
        (pss_cons (ps_set (i := 3) sc_law.nd rfl (Or.inl rfl) (pe_ix (k_ixL K) (pe_lst (pa_cons (pcall D_law_some_rule G_law_some_rule (hr.mono (by decide)) (pa_cons (pv 1) pa_nil)) (pa_cons (pcall D_law_tight_rule G_law_tight_rule (hr.mono (by decide)) (pa_cons (pv 1) pa_nil)) pa_nil))) (pe_callTy call_int1 (by rfl) T.n_int boot_int (pa_cons (pe_cmpR op_eq (pcall D_law_draw G_law_draw (hr.mono (by decide)) (pa_cons (pv 1) (pa_cons pe_int pa_nil))) pe_int (nomark _)) pa_nil)) (fun _ _ => rfl)))
        (pss_cons (ps_for PassesOwn.never rfl (k_pi K (pe_lst (pa_cons (pcall D_law_lengths G_law_lengths (hr.mono (by decide)) (pa_cons (pv 1) pa_nil)) (pa_cons (pcall D_law_lengths G_law_lengths (hr.mono (by decide)) (pa_cons (pv 1) pa_nil)) pa_nil)))) (pg_name (i := 4) sc_law.nd rfl (Or.inl rfl))
          (pss_one (ps_if (PW.pt (pw_or (pt_not (pt_val (pcall D_law_length_right G_law_length_right (hr.mono (by decide)) (pa_cons (pv 3) (pa_cons (pv 4) pa_nil))))) (pw_or1 (pt_not (pt_val (pcall D_law_less_right G_law_less_right (hr.mono (by decide)) (pa_cons (pv 1) (pa_cons (pv 3) (pa_cons (pv 4) pa_nil)))))))))
            (pss_one (ps_ret pe_bl))
            pss_nil)))
        (pss_one (ps_if (pt_not (pt_val (pcall D_law_endless_right G_law_endless_right (hr.mono (by decide)) (pa_cons (pv 3) pa_nil))))
          (pss_one (ps_ret pe_bl))
          pss_nil)))))
      (pss_one (ps_ret pe_bl)))), ?_⟩
    refine ⟨_, rfl, a, ns, rfl, hS, hlen, fun d fp H0 D0 s0 _ => ?_⟩
    refine ⟨10, rfl, by decide, by decide, for_range (lo := 0) (n := 10) (fun i σ H2 => ∃ v2 v3 v4 : Option V, σ = [some (.ref a), some (.ref d), v2, v3, v4] ∧ Deck H2 d fp ∧ LT T0 H2) ⟨none, none, none, rfl, D0, lt.same s0⟩ ?_ ?_⟩
    · rintro i σ H2 hi ⟨v2, v3, v4, rfl, D2, lt2⟩
      refine ⟨_, rfl, d, fp, rfl, D2, fun r1 b1 bl1 zs1 H3 S3 RA3 g1 => ?_⟩
      refine ⟨_, rfl, d, fp, rfl, S3.dk, fun r2 b2 bl2 zs2 H4 S4 RA4 g2 => ⟨(by show 2 ≤ sizeLine; decide), fun q hq => ?_⟩⟩
      have fq := S4.dk.fresh hq
      have S5 := (S3.trans S4).new hq (o := .lst [V.ref r1, V.ref r2])
      have hq5 : upd H4 q (.lst [V.ref r1, V.ref r2]) q = some (.lst [V.ref r1, V.ref r2]) := upd_same
      have RB := (RA3.step S4).same ((same_upd hq (o := .lst [V.ref r1, V.ref r2])).aw fp)
      have RC := RA4.same ((same_upd hq (o := .lst [V.ref r1, V.ref r2])).aw fp)
      generalize upd H4 q (.lst [V.ref r1, V.ref r2]) = H5 at S5 hq5 RB RC
      refine ⟨_, rfl, d, _, fp, rfl, S5.dk, by decide, by decide, fun x H6 hx S6 => ⟨rfl, .inr ⟨_, rfl, ?_⟩⟩⟩
      have RB6 := RB.step S6
      have RC6 := RC.step S6
      obtain ⟨r, b, bl, zs, hat, RA6, g⟩ : ∃ (r : Addr) (b : Nat) (bl : Addr) (zs : List (Addr × List Int)), atI [V.ref r1, V.ref r2] (if decide (V.int (x : Int) = V.int 0) = true then 1 else 0) = some (.ref r) ∧ RuleAt (aw fp H6) r b bl zs ∧ GoodRule b (zs.map (·.2)) := by
        generalize decide (V.int (x : Int) = V.int 0) = kb
        cases kb with
        | false => exact ⟨r1, b1, bl1, zs1, rfl, RB6, g1⟩
        | true => exact ⟨r2, b2, bl2, zs2, rfl, RC6, g2⟩
      refine ⟨q, _, _, _, rfl, rfl, SqL.of (S6.get fq hq5), hat, ?_⟩
      have lt6 := (S5.trans S6).lt D2 lt2
      refine ⟨_, rfl, d, fp, rfl, S6.dk, fun m1 H7 a1 a2 S7 => ?_⟩
      refine ⟨_, rfl, d, fp, rfl, S7.dk, fun m2 H8 a3 a4 S8 => ⟨(by show 2 ≤ sizeLine; decide), fun q2 hq2 => ?_⟩⟩
      have fq2 := S8.dk.fresh hq2
      have S9 := (S7.trans S8).new hq2 (o := .lst [V.int (m1 : Int), V.int (m2 : Int)])
      have hq9 : upd H8 q2 (.lst [V.int (m1 : Int), V.int (m2 : Int)]) q2 = some (.lst [V.int (m1 : Int), V.int (m2 : Int)]) := upd_same
      generalize upd H8 q2 (.lst [V.int (m1 : Int), V.int (m2 : Int)]) = H9 at S9 hq9
      have RA9 := RA6.step S9
      have lt9 := S9.lt S6.dk lt6
      refine ⟨q2, rfl, ⟨_, SqL.of hq9⟩, for_list (K := K) (a := q2) (xs := [V.int (m1 : Int), V.int (m2 : Int)]) (fun j σ H10 => ∃ v2 v4 : Option V, σ = [some (.ref a), some (.ref d), v2, some (.ref r), v4] ∧ Deck H10 d fp ∧ RuleAt (aw fp H10) r b bl zs ∧ LT T0 H10 ∧ H10 q2 = some (.lst [V.int (m1 : Int), V.int (m2 : Int)])) ⟨_, _, rfl, S9.dk, RA9, lt9, hq9⟩ (fun j σ H10 _ ⟨_, _, _, _, _, _, e⟩ => SqL.of e) ?_ ?_⟩
      · rintro j y σ H10 hy ⟨v2, v4, rfl, D10, RA10, lt10, hq10⟩
        obtain ⟨m, rfl, hm1, hm2⟩ : ∃ m : Nat, y = .int m ∧ 1 ≤ m ∧ m ≤ 60 := by
          match j, hy with
          | 0, hy => exact ⟨m1, (Option.some.inj hy).symm, a1, a2⟩
          | 1, hy => exact ⟨m2, (Option.some.inj hy).symm, a3, a4⟩
          | j + 2, hy => simp at hy
        refine ⟨_, rfl, _, rfl, r, b, bl, zs, m, rfl, RA10.all, g, ⟨hm1, hm2⟩, lt10, fun v11 H11 e11 s11 lt11 => ?_⟩
        subst e11
        refine ⟨_, rfl, iteF ?_⟩
        refine ⟨_, rfl, _, rfl, _, rfl, d, fp, r, b, bl, zs, m, rfl, D10.sameL lt10 s11, RA10.awL lt10 s11, g, hm1, hm2, lt11, fun H12 D12 RA12 lt12 fr => ⟨_, rfl, iteF ?_⟩⟩
        exact ⟨_, _, rfl, D12, RA12, lt12, fr _ _ fq2 (lt10.lst hq10) (s11 _ _ (lt10.lst hq10) hq10)⟩
      · rintro σ H10 ⟨v2, v4, rfl, D10, RA10, lt10, hq10⟩
        refine ⟨_, rfl, r, b, bl, zs, rfl, RA10.all, g, trivial, lt10, fun v11 H11 e11 s11 lt11 => ?_⟩
        subst e11
        exact ⟨_, rfl, iteF ⟨_, _, _, rfl, D10.sameL lt10 s11, lt11⟩⟩
    · rintro σ H2 ⟨v2, v3, v4, rfl, D2, _⟩
      exact kk _
end
end Lw
set_option Elab.async false
set_option linter.all false
namespace Lw
open PySem L2
set_option maxHeartbeats 0 in
theorem all_mk {l : PySem.W.OpenLaw} {w : World} {K : PySem.W.Frag} {h : Heap} {mg : Str → Option Value} {fa T0 c0 : Addr} (X : K.In h) (G : h.Ns mainGlobals mg) (hfa : mg "law" = some (.ref fa)) (hcT : PySem.W.codeHdIn K c0 T0 = true) (hgT : mainGlobals ≠ T0)
    {f0 : Addr} {od0 an0 : Option Addr} {sl0 : Array (Option Value)} {oc0 kV0 dc0 pm0 cd0 ct0 : Value} (a0 : PySem.W.nsIn K mainGlobals "_wall" = some (some (.ref f0)))
    (l0 : K.lookup f0 = some ⟨oc0, od0, .func (PySem.W.fnOf "_wall" "_wall" (defArgs s__wall) (defBody s__wall) (defScope s__wall) .none kV0 dc0 pm0 an0 cd0 ct0), sl0⟩) (e0 : PySem.W.codeIn K cd0 "_wall" = true) (k0 : PySem.W.keepIn K (.ref f0) = true)
    {f1 : Addr} {od1 an1 : Option Addr} {sl1 : Array (Option Value)} {oc1 kV1 dc1 pm1 cd1 ct1 : Value} (a1 : PySem.W.nsIn K mainGlobals "is_whole" = some (some (.ref f1)))
    (l1 : K.lookup f1 = some ⟨oc1, od1, .func (PySem.W.fnOf "is_whole" "is_whole" (defArgs s_is_whole) (defBody s_is_whole) (defScope s_is_whole) .none kV1 dc1 pm1 an1 cd1 ct1), sl1⟩) (e1 : PySem.W.codeIn K cd1 "is_whole" = true) (k1 : PySem.W.keepIn K (.ref f1) = true)
    {f2 : Addr} {od2 an2 : Option Addr} {sl2 : Array (Option Value)} {oc2 kV2 dc2 pm2 cd2 ct2 : Value} (a2 : PySem.W.nsIn K mainGlobals "is_number" = some (some (.ref f2)))
    (l2 : K.lookup f2 = some ⟨oc2, od2, .func (PySem.W.fnOf "is_number" "is_number" (defArgs s_is_number) (defBody s_is_number) (defScope s_is_number) .none kV2 dc2 pm2 an2 cd2 ct2), sl2⟩) (e2 : PySem.W.codeIn K cd2 "is_number" = true) (k2 : PySem.W.keepIn K (.ref f2) = true)
    {f3 : Addr} {od3 an3 : Option Addr} {sl3 : Array (Option Value)} {oc3 kV3 dc3 pm3 cd3 ct3 : Value} (a3 : PySem.W.nsIn K mainGlobals "is_base" = some (some (.ref f3)))
    (l3 : K.lookup f3 = some ⟨oc3, od3, .func (PySem.W.fnOf "is_base" "is_base" (defArgs s_is_base) (defBody s_is_base) (defScope s_is_base) .none kV3 dc3 pm3 an3 cd3 ct3), sl3⟩) (e3 : PySem.W.codeIn K cd3 "is_base" = true) (k3 : PySem.W.keepIn K (.ref f3) = true)
    {f4 : Addr} {od4 an4 : Option Addr} {sl4 : Array (Option Value)} {oc4 kV4 dc4 pm4 cd4 ct4 : Value} (a4 : PySem.W.nsIn K mainGlobals "is_figure" = some (some (.ref f4)))
    (l4 : K.lookup f4 = some ⟨oc4, od4, .func (PySem.W.fnOf "is_figure" "is_figure" (defArgs s_is_figure) (defBody s_is_figure) (defScope s_is_figure) .none kV4 dc4 pm4 an4 cd4 ct4), sl4⟩) (e4 : PySem.W.codeIn K cd4 "is_figure" = true) (k4 : PySem.W.keepIn K (.ref f4) = true)
    {f5 : Addr} {od5 an5 : Option Addr} {sl5 : Array (Option Value)} {oc5 kV5 dc5 pm5 cd5 ct5 : Value} (a5 : PySem.W.nsIn K mainGlobals "are_figures" = some (some (.ref f5)))
    (l5 : K.lookup f5 = some ⟨oc5, od5, .func (PySem.W.fnOf "are_figures" "are_figures" (defArgs s_are_figures) (defBody s_are_figures) (defScope s_are_figures) .none kV5 dc5 pm5 an5 cd5 ct5), sl5⟩) (e5 : PySem.W.codeIn K cd5 "are_figures" = true) (k5 : PySem.W.keepIn K (.ref f5) = true)
    {f6 : Addr} {od6 an6 : Option Addr} {sl6 : Array (Option Value)} {oc6 kV6 dc6 pm6 cd6 ct6 : Value} (a6 : PySem.W.nsIn K mainGlobals "is_stretch" = some (some (.ref f6)))
    (l6 : K.lookup f6 = some ⟨oc6, od6, .func (PySem.W.fnOf "is_stretch" "is_stretch" (defArgs s_is_stretch) (defBody s_is_stretch) (defScope s_is_stretch) .none kV6 dc6 pm6 an6 cd6 ct6), sl6⟩) (e6 : PySem.W.codeIn K cd6 "is_stretch" = true) (k6 : PySem.W.keepIn K (.ref f6) = true)
    {f7 : Addr} {od7 an7 : Option Addr} {sl7 : Array (Option Value)} {oc7 kV7 dc7 pm7 cd7 ct7 : Value} (a7 : PySem.W.nsIn K mainGlobals "is_rising" = some (some (.ref f7)))
    (l7 : K.lookup f7 = some ⟨oc7, od7, .func (PySem.W.fnOf "is_rising" "is_rising" (defArgs s_is_rising) (defBody s_is_rising) (defScope s_is_rising) .none kV7 dc7 pm7 an7 cd7 ct7), sl7⟩) (e7 : PySem.W.codeIn K cd7 "is_rising" = true) (k7 : PySem.W.keepIn K (.ref f7) = true)
    {f8 : Addr} {od8 an8 : Option Addr} {sl8 : Array (Option Value)} {oc8 kV8 dc8 pm8 cd8 ct8 : Value} (a8 : PySem.W.nsIn K mainGlobals "is_bad_list" = some (some (.ref f8)))
    (l8 : K.lookup f8 = some ⟨oc8, od8, .func (PySem.W.fnOf "is_bad_list" "is_bad_list" (defArgs s_is_bad_list) (defBody s_is_bad_list) (defScope s_is_bad_list) .none kV8 dc8 pm8 an8 cd8 ct8), sl8⟩) (e8 : PySem.W.codeIn K cd8 "is_bad_list" = true) (k8 : PySem.W.keepIn K (.ref f8) = true)
    {f9 : Addr} {od9 an9 : Option Addr} {sl9 : Array (Option Value)} {oc9 kV9 dc9 pm9 cd9 ct9 : Value} (a9 : PySem.W.nsIn K mainGlobals "is_rule" = some (some (.ref f9)))
    (l9 : K.lookup f9 = some ⟨oc9, od9, .func (PySem.W.fnOf "is_rule" "is_rule" (defArgs s_is_rule) (defBody s_is_rule) (defScope s_is_rule) .none kV9 dc9 pm9 an9 cd9 ct9), sl9⟩) (e9 : PySem.W.codeIn K cd9 "is_rule" = true) (k9 : PySem.W.keepIn K (.ref f9) = true)
    {f10 : Addr} {od10 an10 : Option Addr} {sl10 : Array (Option Value)} {oc10 kV10 dc10 pm10 cd10 ct10 : Value} (a10 : PySem.W.nsIn K mainGlobals "check_base" = some (some (.ref f10)))
    (l10 : K.lookup f10 = some ⟨oc10, od10, .func (PySem.W.fnOf "check_base" "check_base" (defArgs s_check_base) (defBody s_check_base) (defScope s_check_base) .none kV10 dc10 pm10 an10 cd10 ct10), sl10⟩) (e10 : PySem.W.codeIn K cd10 "check_base" = true) (k10 : PySem.W.keepIn K (.ref f10) = true)
    {f11 : Addr} {od11 an11 : Option Addr} {sl11 : Array (Option Value)} {oc11 kV11 dc11 pm11 cd11 ct11 : Value} (a11 : PySem.W.nsIn K mainGlobals "check_number" = some (some (.ref f11)))
    (l11 : K.lookup f11 = some ⟨oc11, od11, .func (PySem.W.fnOf "check_number" "check_number" (defArgs s_check_number) (defBody s_check_number) (defScope s_check_number) .none kV11 dc11 pm11 an11 cd11 ct11), sl11⟩) (e11 : PySem.W.codeIn K cd11 "check_number" = true) (k11 : PySem.W.keepIn K (.ref f11) = true)
    {f12 : Addr} {od12 an12 : Option Addr} {sl12 : Array (Option Value)} {oc12 kV12 dc12 pm12 cd12 ct12 : Value} (a12 : PySem.W.nsIn K mainGlobals "check_rule" = some (some (.ref f12)))
    (l12 : K.lookup f12 = some ⟨oc12, od12, .func (PySem.W.fnOf "check_rule" "check_rule" (defArgs s_check_rule) (defBody s_check_rule) (defScope s_check_rule) .none kV12 dc12 pm12 an12 cd12 ct12), sl12⟩) (e12 : PySem.W.codeIn K cd12 "check_rule" = true) (k12 : PySem.W.keepIn K (.ref f12) = true)
    {f13 : Addr} {od13 an13 : Option Addr} {sl13 : Array (Option Value)} {oc13 kV13 dc13 pm13 cd13 ct13 : Value} (a13 : PySem.W.nsIn K mainGlobals "stands_within" = some (some (.ref f13)))
    (l13 : K.lookup f13 = some ⟨oc13, od13, .func (PySem.W.fnOf "stands_within" "stands_within" (defArgs s_stands_within) (defBody s_stands_within) (defScope s_stands_within) .none kV13 dc13 pm13 an13 cd13 ct13), sl13⟩) (e13 : PySem.W.codeIn K cd13 "stands_within" = true) (k13 : PySem.W.keepIn K (.ref f13) = true)
    {f14 : Addr} {od14 an14 : Option Addr} {sl14 : Array (Option Value)} {oc14 kV14 dc14 pm14 cd14 ct14 : Value} (a14 : PySem.W.nsIn K mainGlobals "lacks_all" = some (some (.ref f14)))
    (l14 : K.lookup f14 = some ⟨oc14, od14, .func (PySem.W.fnOf "lacks_all" "lacks_all" (defArgs s_lacks_all) (defBody s_lacks_all) (defScope s_lacks_all) .none kV14 dc14 pm14 an14 cd14 ct14), sl14⟩) (e14 : PySem.W.codeIn K cd14 "lacks_all" = true) (k14 : PySem.W.keepIn K (.ref f14) = true)
    {f15 : Addr} {od15 an15 : Option Addr} {sl15 : Array (Option Value)} {oc15 kV15 dc15 pm15 cd15 ct15 : Value} (a15 : PySem.W.nsIn K mainGlobals "figures_of" = some (some (.ref f15)))
    (l15 : K.lookup f15 = some ⟨oc15, od15, .func (PySem.W.fnOf "figures_of" "figures_of" (defArgs s_figures_of) (defBody s_figures_of) (defScope s_figures_of) .none kV15 dc15 pm15 an15 cd15 ct15), sl15⟩) (e15 : PySem.W.codeIn K cd15 "figures_of" = true) (k15 : PySem.W.keepIn K (.ref f15) = true)
    {f16 : Addr} {od16 an16 : Option Addr} {sl16 : Array (Option Value)} {oc16 kV16 dc16 pm16 cd16 ct16 : Value} (a16 : PySem.W.nsIn K mainGlobals "is_good" = some (some (.ref f16)))
    (l16 : K.lookup f16 = some ⟨oc16, od16, .func (PySem.W.fnOf "is_good" "is_good" (defArgs s_is_good) (defBody s_is_good) (defScope s_is_good) .none kV16 dc16 pm16 an16 cd16 ct16), sl16⟩) (e16 : PySem.W.codeIn K cd16 "is_good" = true) (k16 : PySem.W.keepIn K (.ref f16) = true)
    {f17 : Addr} {od17 an17 : Option Addr} {sl17 : Array (Option Value)} {oc17 kV17 dc17 pm17 cd17 ct17 : Value} (a17 : PySem.W.nsIn K mainGlobals "begins_one" = some (some (.ref f17)))
    (l17 : K.lookup f17 = some ⟨oc17, od17, .func (PySem.W.fnOf "begins_one" "begins_one" (defArgs s_begins_one) (defBody s_begins_one) (defScope s_begins_one) .none kV17 dc17 pm17 an17 cd17 ct17), sl17⟩) (e17 : PySem.W.codeIn K cd17 "begins_one" = true) (k17 : PySem.W.keepIn K (.ref f17) = true)
    {f18 : Addr} {od18 an18 : Option Addr} {sl18 : Array (Option Value)} {oc18 kV18 dc18 pm18 cd18 ct18 : Value} (a18 : PySem.W.nsIn K mainGlobals "longest_stand" = some (some (.ref f18)))
    (l18 : K.lookup f18 = some ⟨oc18, od18, .func (PySem.W.fnOf "longest_stand" "longest_stand" (defArgs s_longest_stand) (defBody s_longest_stand) (defScope s_longest_stand) .none kV18 dc18 pm18 an18 cd18 ct18), sl18⟩) (e18 : PySem.W.codeIn K cd18 "longest_stand" = true) (k18 : PySem.W.keepIn K (.ref f18) = true)
    {f19 : Addr} {od19 an19 : Option Addr} {sl19 : Array (Option Value)} {oc19 kV19 dc19 pm19 ct19 : Value} (a19 : PySem.W.nsIn K mainGlobals "stands_of" = some (some (.ref f19)))
    (l19 : K.lookup f19 = some ⟨oc19, od19, .func (PySem.W.fnOf "stands_of" "stands_of" (defArgs s_stands_of) (defBody s_stands_of) (defScope s_stands_of) .none kV19 dc19 pm19 an19 (.ref c0) ct19), sl19⟩) (e19 : PySem.W.codeIn K (.ref c0) "stands_of" = true) (k19 : PySem.W.keepIn K (.ref f19) = true)
    {f20 : Addr} {od20 an20 : Option Addr} {sl20 : Array (Option Value)} {oc20 kV20 dc20 pm20 cd20 ct20 : Value} (a20 : PySem.W.nsIn K mainGlobals "place_behind" = some (some (.ref f20)))
    (l20 : K.lookup f20 = some ⟨oc20, od20, .func (PySem.W.fnOf "place_behind" "place_behind" (defArgs s_place_behind) (defBody s_place_behind) (defScope s_place_behind) .none kV20 dc20 pm20 an20 cd20 ct20), sl20⟩) (e20 : PySem.W.codeIn K cd20 "place_behind" = true) (k20 : PySem.W.keepIn K (.ref f20) = true)
    {f21 : Addr} {od21 an21 : Option Addr} {sl21 : Array (Option Value)} {oc21 kV21 dc21 pm21 cd21 ct21 : Value} (a21 : PySem.W.nsIn K mainGlobals "steps_from" = some (some (.ref f21)))
    (l21 : K.lookup f21 = some ⟨oc21, od21, .func (PySem.W.fnOf "steps_from" "steps_from" (defArgs s_steps_from) (defBody s_steps_from) (defScope s_steps_from) .none kV21 dc21 pm21 an21 cd21 ct21), sl21⟩) (e21 : PySem.W.codeIn K cd21 "steps_from" = true) (k21 : PySem.W.keepIn K (.ref f21) = true)
    {f22 : Addr} {od22 an22 : Option Addr} {sl22 : Array (Option Value)} {oc22 kV22 dc22 pm22 cd22 ct22 : Value} (a22 : PySem.W.nsIn K mainGlobals "all_steps" = some (some (.ref f22)))
    (l22 : K.lookup f22 = some ⟨oc22, od22, .func (PySem.W.fnOf "all_steps" "all_steps" (defArgs s_all_steps) (defBody s_all_steps) (defScope s_all_steps) .none kV22 dc22 pm22 an22 cd22 ct22), sl22⟩) (e22 : PySem.W.codeIn K cd22 "all_steps" = true) (k22 : PySem.W.keepIn K (.ref f22) = true)
    {f23 : Addr} {od23 an23 : Option Addr} {sl23 : Array (Option Value)} {oc23 kV23 dc23 pm23 cd23 ct23 : Value} (a23 : PySem.W.nsIn K mainGlobals "weights_by_left" = some (some (.ref f23)))
    (l23 : K.lookup f23 = some ⟨oc23, od23, .func (PySem.W.fnOf "weights_by_left" "weights_by_left" (defArgs s_weights_by_left) (defBody s_weights_by_left) (defScope s_weights_by_left) .none kV23 dc23 pm23 an23 cd23 ct23), sl23⟩) (e23 : PySem.W.codeIn K cd23 "weights_by_left" = true) (k23 : PySem.W.keepIn K (.ref f23) = true)
    {f24 : Addr} {od24 an24 : Option Addr} {sl24 : Array (Option Value)} {oc24 kV24 dc24 pm24 cd24 ct24 : Value} (a24 : PySem.W.nsIn K mainGlobals "number_totals" = some (some (.ref f24)))
    (l24 : K.lookup f24 = some ⟨oc24, od24, .func (PySem.W.fnOf "number_totals" "number_totals" (defArgs s_number_totals) (defBody s_number_totals) (defScope s_number_totals) .none kV24 dc24 pm24 an24 cd24 ct24), sl24⟩) (e24 : PySem.W.codeIn K cd24 "number_totals" = true) (k24 : PySem.W.keepIn K (.ref f24) = true)
    {f25 : Addr} {od25 an25 : Option Addr} {sl25 : Array (Option Value)} {oc25 kV25 dc25 pm25 cd25 ct25 : Value} (a25 : PySem.W.nsIn K mainGlobals "check_length" = some (some (.ref f25)))
    (l25 : K.lookup f25 = some ⟨oc25, od25, .func (PySem.W.fnOf "check_length" "check_length" (defArgs s_check_length) (defBody s_check_length) (defScope s_check_length) .none kV25 dc25 pm25 an25 cd25 ct25), sl25⟩) (e25 : PySem.W.codeIn K cd25 "check_length" = true) (k25 : PySem.W.keepIn K (.ref f25) = true)
    {f26 : Addr} {od26 an26 : Option Addr} {sl26 : Array (Option Value)} {oc26 kV26 dc26 pm26 cd26 ct26 : Value} (a26 : PySem.W.nsIn K mainGlobals "count_shorter" = some (some (.ref f26)))
    (l26 : K.lookup f26 = some ⟨oc26, od26, .func (PySem.W.fnOf "count_shorter" "count_shorter" (defArgs s_count_shorter) (defBody s_count_shorter) (defScope s_count_shorter) .none kV26 dc26 pm26 an26 cd26 ct26), sl26⟩) (e26 : PySem.W.codeIn K cd26 "count_shorter" = true) (k26 : PySem.W.keepIn K (.ref f26) = true)
    {f27 : Addr} {od27 an27 : Option Addr} {sl27 : Array (Option Value)} {oc27 kV27 dc27 pm27 cd27 ct27 : Value} (a27 : PySem.W.nsIn K mainGlobals "count_long" = some (some (.ref f27)))
    (l27 : K.lookup f27 = some ⟨oc27, od27, .func (PySem.W.fnOf "count_long" "count_long" (defArgs s_count_long) (defBody s_count_long) (defScope s_count_long) .none kV27 dc27 pm27 an27 cd27 ct27), sl27⟩) (e27 : PySem.W.codeIn K cd27 "count_long" = true) (k27 : PySem.W.keepIn K (.ref f27) = true)
    {f28 : Addr} {od28 an28 : Option Addr} {sl28 : Array (Option Value)} {oc28 kV28 dc28 pm28 cd28 ct28 : Value} (a28 : PySem.W.nsIn K mainGlobals "least_long" = some (some (.ref f28)))
    (l28 : K.lookup f28 = some ⟨oc28, od28, .func (PySem.W.fnOf "least_long" "least_long" (defArgs s_least_long) (defBody s_least_long) (defScope s_least_long) .none kV28 dc28 pm28 an28 cd28 ct28), sl28⟩) (e28 : PySem.W.codeIn K cd28 "least_long" = true) (k28 : PySem.W.keepIn K (.ref f28) = true)
    {f29 : Addr} {od29 an29 : Option Addr} {sl29 : Array (Option Value)} {oc29 kV29 dc29 pm29 cd29 ct29 : Value} (a29 : PySem.W.nsIn K mainGlobals "greatest_long" = some (some (.ref f29)))
    (l29 : K.lookup f29 = some ⟨oc29, od29, .func (PySem.W.fnOf "greatest_long" "greatest_long" (defArgs s_greatest_long) (defBody s_greatest_long) (defScope s_greatest_long) .none kV29 dc29 pm29 an29 cd29 ct29), sl29⟩) (e29 : PySem.W.codeIn K cd29 "greatest_long" = true) (k29 : PySem.W.keepIn K (.ref f29) = true)
    {f30 : Addr} {od30 an30 : Option Addr} {sl30 : Array (Option Value)} {oc30 kV30 dc30 pm30 cd30 ct30 : Value} (a30 : PySem.W.nsIn K mainGlobals "sum_long" = some (some (.ref f30)))
    (l30 : K.lookup f30 = some ⟨oc30, od30, .func (PySem.W.fnOf "sum_long" "sum_long" (defArgs s_sum_long) (defBody s_sum_long) (defScope s_sum_long) .none kV30 dc30 pm30 an30 cd30 ct30), sl30⟩) (e30 : PySem.W.codeIn K cd30 "sum_long" = true) (k30 : PySem.W.keepIn K (.ref f30) = true)
    {f31 : Addr} {od31 an31 : Option Addr} {sl31 : Array (Option Value)} {oc31 kV31 dc31 pm31 cd31 ct31 : Value} (a31 : PySem.W.nsIn K mainGlobals "is_endless" = some (some (.ref f31)))
    (l31 : K.lookup f31 = some ⟨oc31, od31, .func (PySem.W.fnOf "is_endless" "is_endless" (defArgs s_is_endless) (defBody s_is_endless) (defScope s_is_endless) .none kV31 dc31 pm31 an31 cd31 ct31), sl31⟩) (e31 : PySem.W.codeIn K cd31 "is_endless" = true) (k31 : PySem.W.keepIn K (.ref f31) = true)
    {f32 : Addr} {od32 an32 : Option Addr} {sl32 : Array (Option Value)} {oc32 kV32 dc32 pm32 cd32 ct32 : Value} (a32 : PySem.W.nsIn K mainGlobals "greatest_good" = some (some (.ref f32)))
    (l32 : K.lookup f32 = some ⟨oc32, od32, .func (PySem.W.fnOf "greatest_good" "greatest_good" (defArgs s_greatest_good) (defBody s_greatest_good) (defScope s_greatest_good) .none kV32 dc32 pm32 an32 cd32 ct32), sl32⟩) (e32 : PySem.W.codeIn K cd32 "greatest_good" = true) (k32 : PySem.W.keepIn K (.ref f32) = true)
    {f33 : Addr} {od33 an33 : Option Addr} {sl33 : Array (Option Value)} {oc33 kV33 dc33 pm33 cd33 ct33 : Value} (a33 : PySem.W.nsIn K mainGlobals "_law_deck" = some (some (.ref f33)))
    (l33 : K.lookup f33 = some ⟨oc33, od33, .func (PySem.W.fnOf "_law_deck" "_law_deck" (defArgs s__law_deck) (defBody s__law_deck) (defScope s__law_deck) .none kV33 dc33 pm33 an33 cd33 ct33), sl33⟩) (e33 : PySem.W.codeIn K cd33 "_law_deck" = true) (k33 : PySem.W.keepIn K (.ref f33) = true)
    {f34 : Addr} {od34 an34 : Option Addr} {sl34 : Array (Option Value)} {oc34 kV34 dc34 pm34 cd34 ct34 : Value} (a34 : PySem.W.nsIn K mainGlobals "_law_draw" = some (some (.ref f34)))
    (l34 : K.lookup f34 = some ⟨oc34, od34, .func (PySem.W.fnOf "_law_draw" "_law_draw" (defArgs s__law_draw) (defBody s__law_draw) (defScope s__law_draw) .none kV34 dc34 pm34 an34 cd34 ct34), sl34⟩) (e34 : PySem.W.codeIn K cd34 "_law_draw" = true) (k34 : PySem.W.keepIn K (.ref f34) = true)
    {f35 : Addr} {od35 an35 : Option Addr} {sl35 : Array (Option Value)} {oc35 kV35 dc35 pm35 cd35 ct35 : Value} (a35 : PySem.W.nsIn K mainGlobals "_law_some_rule" = some (some (.ref f35)))
    (l35 : K.lookup f35 = some ⟨oc35, od35, .func (PySem.W.fnOf "_law_some_rule" "_law_some_rule" (defArgs s__law_some_rule) (defBody s__law_some_rule) (defScope s__law_some_rule) .none kV35 dc35 pm35 an35 cd35 ct35), sl35⟩) (e35 : PySem.W.codeIn K cd35 "_law_some_rule" = true) (k35 : PySem.W.keepIn K (.ref f35) = true)
    {f36 : Addr} {od36 an36 : Option Addr} {sl36 : Array (Option Value)} {oc36 kV36 dc36 pm36 cd36 ct36 : Value} (a36 : PySem.W.nsIn K mainGlobals "_law_lengths" = some (some (.ref f36)))
    (l36 : K.lookup f36 = some ⟨oc36, od36, .func (PySem.W.fnOf "_law_lengths" "_law_lengths" (defArgs s__law_lengths) (defBody s__law_lengths) (defScope s__law_lengths) .none kV36 dc36 pm36 an36 cd36 ct36), sl36⟩) (e36 : PySem.W.codeIn K cd36 "_law_lengths" = true) (k36 : PySem.W.keepIn K (.ref f36) = true)
    {f37 : Addr} {od37 an37 : Option Addr} {sl37 : Array (Option Value)} {oc37 kV37 dc37 pm37 cd37 ct37 : Value} (a37 : PySem.W.nsIn K mainGlobals "_law_tight_rule" = some (some (.ref f37)))
    (l37 : K.lookup f37 = some ⟨oc37, od37, .func (PySem.W.fnOf "_law_tight_rule" "_law_tight_rule" (defArgs s__law_tight_rule) (defBody s__law_tight_rule) (defScope s__law_tight_rule) .none kV37 dc37 pm37 an37 cd37 ct37), sl37⟩) (e37 : PySem.W.codeIn K cd37 "_law_tight_rule" = true) (k37 : PySem.W.keepIn K (.ref f37) = true)
    {f38 : Addr} {od38 an38 : Option Addr} {sl38 : Array (Option Value)} {oc38 kV38 dc38 pm38 cd38 ct38 : Value} (a38 : PySem.W.nsIn K mainGlobals "_law_length_right" = some (some (.ref f38)))
    (l38 : K.lookup f38 = some ⟨oc38, od38, .func (PySem.W.fnOf "_law_length_right" "_law_length_right" (defArgs s__law_length_right) (defBody s__law_length_right) (defScope s__law_length_right) .none kV38 dc38 pm38 an38 cd38 ct38), sl38⟩) (e38 : PySem.W.codeIn K cd38 "_law_length_right" = true) (k38 : PySem.W.keepIn K (.ref f38) = true)
    {f39 : Addr} {od39 an39 : Option Addr} {sl39 : Array (Option Value)} {oc39 kV39 dc39 pm39 cd39 ct39 : Value} (a39 : PySem.W.nsIn K mainGlobals "_law_endless_right" = some (some (.ref f39)))
    (l39 : K.lookup f39 = some ⟨oc39, od39, .func (PySem.W.fnOf "_law_endless_right" "_law_endless_right" (defArgs s__law_endless_right) (defBody s__law_endless_right) (defScope s__law_endless_right) .none kV39 dc39 pm39 an39 cd39 ct39), sl39⟩) (e39 : PySem.W.codeIn K cd39 "_law_endless_right" = true) (k39 : PySem.W.keepIn K (.ref f39) = true)
    {f40 : Addr} {od40 an40 : Option Addr} {sl40 : Array (Option Value)} {oc40 kV40 dc40 pm40 cd40 ct40 : Value} (a40 : PySem.W.nsIn K mainGlobals "_law_less_right" = some (some (.ref f40)))
    (l40 : K.lookup f40 = some ⟨oc40, od40, .func (PySem.W.fnOf "_law_less_right" "_law_less_right" (defArgs s__law_less_right) (defBody s__law_less_right) (defScope s__law_less_right) .none kV40 dc40 pm40 an40 cd40 ct40), sl40⟩) (e40 : PySem.W.codeIn K cd40 "_law_less_right" = true) (k40 : PySem.W.keepIn K (.ref f40) = true)
    {f41 : Addr} {od41 an41 : Option Addr} {sl41 : Array (Option Value)} {oc41 kV41 dc41 pm41 cd41 ct41 : Value} (a41 : PySem.W.nsIn K mainGlobals "law" = some (some (.ref f41)))
    (l41 : K.lookup f41 = some ⟨oc41, od41, .func (PySem.W.fnOf "law" "law" (defArgs s_law) (defBody s_law) (defScope s_law) .none kV41 dc41 pm41 an41 cd41 ct41), sl41⟩) (e41 : PySem.W.codeIn K cd41 "law" = true) (k41 : PySem.W.keepIn K (.ref f41) = true)
    {C : Addr} (aC : PySem.W.nsIn K mainGlobals "Tails" = some (some (.ref C)))
    {fC0 : Addr} {odC0 anC0 : Option Addr} {slC0 : Array (Option Value)} {ocC0 kVC0 dcC0 pmC0 cdC0 ctC0 : Value} (aC0 : PySem.W.findIn K (.ref C) "__init__" = some (some (.ref fC0))) (iC0 : PySem.W.isFn K (.ref fC0) = true)
    (lC0 : K.lookup fC0 = some ⟨ocC0, odC0, .func (PySem.W.fnOf "__init__" "Tails.__init__" (defArgs s_Tails___init__) (defBody s_Tails___init__) (defScope s_Tails___init__) .none kVC0 dcC0 pmC0 anC0 cdC0 ctC0), slC0⟩) (eC0 : PySem.W.codeIn K cdC0 "Tails.__init__" = true) (kC0 : PySem.W.keepIn K (.ref fC0) = true)
    {fC1 : Addr} {odC1 anC1 : Option Addr} {slC1 : Array (Option Value)} {ocC1 kVC1 dcC1 pmC1 cdC1 ctC1 : Value} (aC1 : PySem.W.findIn K (.ref C) "layer" = some (some (.ref fC1))) (iC1 : PySem.W.isFn K (.ref fC1) = true)
    (lC1 : K.lookup fC1 = some ⟨ocC1, odC1, .func (PySem.W.fnOf "layer" "Tails.layer" (defArgs s_Tails_layer) (defBody s_Tails_layer) (defScope s_Tails_layer) .none kVC1 dcC1 pmC1 anC1 cdC1 ctC1), slC1⟩) (eC1 : PySem.W.codeIn K cdC1 "Tails.layer" = true) (kC1 : PySem.W.keepIn K (.ref fC1) = true)
    {fC2 : Addr} {odC2 anC2 : Option Addr} {slC2 : Array (Option Value)} {ocC2 kVC2 dcC2 pmC2 cdC2 ctC2 : Value} (aC2 : PySem.W.findIn K (.ref C) "many_by" = some (some (.ref fC2))) (iC2 : PySem.W.isFn K (.ref fC2) = true)
    (lC2 : K.lookup fC2 = some ⟨ocC2, odC2, .func (PySem.W.fnOf "many_by" "Tails.many_by" (defArgs s_Tails_many_by) (defBody s_Tails_many_by) (defScope s_Tails_many_by) .none kVC2 dcC2 pmC2 anC2 cdC2 ctC2), slC2⟩) (eC2 : PySem.W.codeIn K cdC2 "Tails.many_by" = true) (kC2 : PySem.W.keepIn K (.ref fC2) = true)
    {fC3 : Addr} {odC3 anC3 : Option Addr} {slC3 : Array (Option Value)} {ocC3 kVC3 dcC3 pmC3 cdC3 ctC3 : Value} (aC3 : PySem.W.findIn K (.ref C) "many_under" = some (some (.ref fC3))) (iC3 : PySem.W.isFn K (.ref fC3) = true)
    (lC3 : K.lookup fC3 = some ⟨ocC3, odC3, .func (PySem.W.fnOf "many_under" "Tails.many_under" (defArgs s_Tails_many_under) (defBody s_Tails_many_under) (defScope s_Tails_many_under) .none kVC3 dcC3 pmC3 anC3 cdC3 ctC3), slC3⟩) (eC3 : PySem.W.codeIn K cdC3 "Tails.many_under" = true) (kC3 : PySem.W.keepIn K (.ref fC3) = true)
    {fC4 : Addr} {odC4 anC4 : Option Addr} {slC4 : Array (Option Value)} {ocC4 kVC4 dcC4 pmC4 cdC4 ctC4 : Value} (aC4 : PySem.W.findIn K (.ref C) "many_below" = some (some (.ref fC4))) (iC4 : PySem.W.isFn K (.ref fC4) = true)
    (lC4 : K.lookup fC4 = some ⟨ocC4, odC4, .func (PySem.W.fnOf "many_below" "Tails.many_below" (defArgs s_Tails_many_below) (defBody s_Tails_many_below) (defScope s_Tails_many_below) .none kVC4 dcC4 pmC4 anC4 cdC4 ctC4), slC4⟩) (eC4 : PySem.W.codeIn K cdC4 "Tails.many_below" = true) (kC4 : PySem.W.keepIn K (.ref fC4) = true)
    {fC5 : Addr} {odC5 anC5 : Option Addr} {slC5 : Array (Option Value)} {ocC5 kVC5 dcC5 pmC5 cdC5 ctC5 : Value} (aC5 : PySem.W.findIn K (.ref C) "many_within" = some (some (.ref fC5))) (iC5 : PySem.W.isFn K (.ref fC5) = true)
    (lC5 : K.lookup fC5 = some ⟨ocC5, odC5, .func (PySem.W.fnOf "many_within" "Tails.many_within" (defArgs s_Tails_many_within) (defBody s_Tails_many_within) (defScope s_Tails_many_within) .none kVC5 dcC5 pmC5 anC5 cdC5 ctC5), slC5⟩) (eC5 : PySem.W.codeIn K cdC5 "Tails.many_within" = true) (kC5 : PySem.W.keepIn K (.ref fC5) = true)
    {fC6 : Addr} {odC6 anC6 : Option Addr} {slC6 : Array (Option Value)} {ocC6 kVC6 dcC6 pmC6 cdC6 ctC6 : Value} (aC6 : PySem.W.findIn K (.ref C) "figure_at" = some (some (.ref fC6))) (iC6 : PySem.W.isFn K (.ref fC6) = true)
    (lC6 : K.lookup fC6 = some ⟨ocC6, odC6, .func (PySem.W.fnOf "figure_at" "Tails.figure_at" (defArgs s_Tails_figure_at) (defBody s_Tails_figure_at) (defScope s_Tails_figure_at) .none kVC6 dcC6 pmC6 anC6 cdC6 ctC6), slC6⟩) (eC6 : PySem.W.codeIn K cdC6 "Tails.figure_at" = true) (kC6 : PySem.W.keepIn K (.ref fC6) = true)
    {fC7 : Addr} {odC7 anC7 : Option Addr} {slC7 : Array (Option Value)} {ocC7 kVC7 dcC7 pmC7 cdC7 ctC7 : Value} (aC7 : PySem.W.findIn K (.ref C) "number_at" = some (some (.ref fC7))) (iC7 : PySem.W.isFn K (.ref fC7) = true)
    (lC7 : K.lookup fC7 = some ⟨ocC7, odC7, .func (PySem.W.fnOf "number_at" "Tails.number_at" (defArgs s_Tails_number_at) (defBody s_Tails_number_at) (defScope s_Tails_number_at) .none kVC7 dcC7 pmC7 anC7 cdC7 ctC7), slC7⟩) (eC7 : PySem.W.codeIn K cdC7 "Tails.number_at" = true) (kC7 : PySem.W.keepIn K (.ref fC7) = true)
    {fC8 : Addr} {odC8 anC8 : Option Addr} {slC8 : Array (Option Value)} {ocC8 kVC8 dcC8 pmC8 cdC8 ctC8 : Value} (aC8 : PySem.W.findIn K (.ref C) "are_endless" = some (some (.ref fC8))) (iC8 : PySem.W.isFn K (.ref fC8) = true)
    (lC8 : K.lookup fC8 = some ⟨ocC8, odC8, .func (PySem.W.fnOf "are_endless" "Tails.are_endless" (defArgs s_Tails_are_endless) (defBody s_Tails_are_endless) (defScope s_Tails_are_endless) .none kVC8 dcC8 pmC8 anC8 cdC8 ctC8), slC8⟩) (eC8 : PySem.W.codeIn K cdC8 "Tails.are_endless" = true) (kC8 : PySem.W.keepIn K (.ref fC8) = true)
    (pgC : PySem.W.plainGet K C Str.empty = true) (hdC : PySem.W.hasDictIn K C = true) (poC : PySem.W.plainOver K C = true) (saC : PySem.W.findIn K (.ref C) "__setattr__" = some (some (.builtin "object.__setattr__"))) (mkC : PySem.W.makesIn K C = true) (kcC : PySem.W.keepIn K (.ref C) = true)
    (nC_base : PySem.W.findIn K (.ref C) "base" = some none)
    (nC_outset : PySem.W.findIn K (.ref C) "outset" = some none)
    (nC_steps : PySem.W.findIn K (.ref C) "steps" = some none)
    (nC_layers : PySem.W.findIn K (.ref C) "layers" = some none)
    {CS : Addr} (aCS : PySem.W.nsIn K mainGlobals "Totals" = some (some (.ref CS)))
    {fCS0 : Addr} {odCS0 anCS0 : Option Addr} {slCS0 : Array (Option Value)} {ocCS0 kVCS0 dcCS0 pmCS0 cdCS0 ctCS0 : Value} (aCS0 : PySem.W.findIn K (.ref CS) "__init__" = some (some (.ref fCS0))) (iCS0 : PySem.W.isFn K (.ref fCS0) = true)
    (lCS0 : K.lookup fCS0 = some ⟨ocCS0, odCS0, .func (PySem.W.fnOf "__init__" "Totals.__init__" (defArgs s_Totals___init__) (defBody s_Totals___init__) (defScope s_Totals___init__) .none kVCS0 dcCS0 pmCS0 anCS0 cdCS0 ctCS0), slCS0⟩) (eCS0 : PySem.W.codeIn K cdCS0 "Totals.__init__" = true) (kCS0 : PySem.W.keepIn K (.ref fCS0) = true)
    {fCS1 : Addr} {odCS1 anCS1 : Option Addr} {slCS1 : Array (Option Value)} {ocCS1 kVCS1 dcCS1 pmCS1 cdCS1 ctCS1 : Value} (aCS1 : PySem.W.findIn K (.ref CS) "longer_layer" = some (some (.ref fCS1))) (iCS1 : PySem.W.isFn K (.ref fCS1) = true)
    (lCS1 : K.lookup fCS1 = some ⟨ocCS1, odCS1, .func (PySem.W.fnOf "longer_layer" "Totals.longer_layer" (defArgs s_Totals_longer_layer) (defBody s_Totals_longer_layer) (defScope s_Totals_longer_layer) .none kVCS1 dcCS1 pmCS1 anCS1 cdCS1 ctCS1), slCS1⟩) (eCS1 : PySem.W.codeIn K cdCS1 "Totals.longer_layer" = true) (kCS1 : PySem.W.keepIn K (.ref fCS1) = true)
    {fCS2 : Addr} {odCS2 anCS2 : Option Addr} {slCS2 : Array (Option Value)} {ocCS2 kVCS2 dcCS2 pmCS2 cdCS2 ctCS2 : Value} (aCS2 : PySem.W.findIn K (.ref CS) "weight_of" = some (some (.ref fCS2))) (iCS2 : PySem.W.isFn K (.ref fCS2) = true)
    (lCS2 : K.lookup fCS2 = some ⟨ocCS2, odCS2, .func (PySem.W.fnOf "weight_of" "Totals.weight_of" (defArgs s_Totals_weight_of) (defBody s_Totals_weight_of) (defScope s_Totals_weight_of) .none kVCS2 dcCS2 pmCS2 anCS2 cdCS2 ctCS2), slCS2⟩) (eCS2 : PySem.W.codeIn K cdCS2 "Totals.weight_of" = true) (kCS2 : PySem.W.keepIn K (.ref fCS2) = true)
    {fCS3 : Addr} {odCS3 anCS3 : Option Addr} {slCS3 : Array (Option Value)} {ocCS3 kVCS3 dcCS3 pmCS3 cdCS3 ctCS3 : Value} (aCS3 : PySem.W.findIn K (.ref CS) "total_under" = some (some (.ref fCS3))) (iCS3 : PySem.W.isFn K (.ref fCS3) = true)
    (lCS3 : K.lookup fCS3 = some ⟨ocCS3, odCS3, .func (PySem.W.fnOf "total_under" "Totals.total_under" (defArgs s_Totals_total_under) (defBody s_Totals_total_under) (defScope s_Totals_total_under) .none kVCS3 dcCS3 pmCS3 anCS3 cdCS3 ctCS3), slCS3⟩) (eCS3 : PySem.W.codeIn K cdCS3 "Totals.total_under" = true) (kCS3 : PySem.W.keepIn K (.ref fCS3) = true)
    {fCS4 : Addr} {odCS4 anCS4 : Option Addr} {slCS4 : Array (Option Value)} {ocCS4 kVCS4 dcCS4 pmCS4 cdCS4 ctCS4 : Value} (aCS4 : PySem.W.findIn K (.ref CS) "total_below" = some (some (.ref fCS4))) (iCS4 : PySem.W.isFn K (.ref fCS4) = true)
    (lCS4 : K.lookup fCS4 = some ⟨ocCS4, odCS4, .func (PySem.W.fnOf "total_below" "Totals.total_below" (defArgs s_Totals_total_below) (defBody s_Totals_total_below) (defScope s_Totals_total_below) .none kVCS4 dcCS4 pmCS4 anCS4 cdCS4 ctCS4), slCS4⟩) (eCS4 : PySem.W.codeIn K cdCS4 "Totals.total_below" = true) (kCS4 : PySem.W.keepIn K (.ref fCS4) = true)
    {fCS5 : Addr} {odCS5 anCS5 : Option Addr} {slCS5 : Array (Option Value)} {ocCS5 kVCS5 dcCS5 pmCS5 cdCS5 ctCS5 : Value} (aCS5 : PySem.W.findIn K (.ref CS) "total_within" = some (some (.ref fCS5))) (iCS5 : PySem.W.isFn K (.ref fCS5) = true)
    (lCS5 : K.lookup fCS5 = some ⟨ocCS5, odCS5, .func (PySem.W.fnOf "total_within" "Totals.total_within" (defArgs s_Totals_total_within) (defBody s_Totals_total_within) (defScope s_Totals_total_within) .none kVCS5 dcCS5 pmCS5 anCS5 cdCS5 ctCS5), slCS5⟩) (eCS5 : PySem.W.codeIn K cdCS5 "Totals.total_within" = true) (kCS5 : PySem.W.keepIn K (.ref fCS5) = true)
    (pgCS : PySem.W.plainGet K CS Str.empty = true) (hdCS : PySem.W.hasDictIn K CS = true) (poCS : PySem.W.plainOver K CS = true) (saCS : PySem.W.findIn K (.ref CS) "__setattr__" = some (some (.builtin "object.__setattr__"))) (mkCS : PySem.W.makesIn K CS = true) (kcCS : PySem.W.keepIn K (.ref CS) = true)
    (nCS_tails : PySem.W.findIn K (.ref CS) "tails" = some none)
    (nCS_weights : PySem.W.findIn K (.ref CS) "weights" = some none)
    (nCS_layers : PySem.W.findIn K (.ref CS) "layers" = some none)
    {t0 : Tok} (g0 : PySem.W.nsIn K mainGlobals "LEAST_BASE" = some (some (.int 2 t0)))
    {t1 : Tok} (g1 : PySem.W.nsIn K mainGlobals "GREATEST_BASE" = some (some (.int 16 t1)))
    {t2 : Tok} (g2 : PySem.W.nsIn K mainGlobals "MOST_STRETCHES" = some (some (.int 4 t2)))
    {t3 : Tok} (g3 : PySem.W.nsIn K mainGlobals "LONGEST_STRETCH" = some (some (.int 4 t3)))
    {t4 : Tok} (g4 : PySem.W.nsIn K mainGlobals "MOST_FIGURES" = some (some (.int 60 t4)))
    (z0 : PySem.W.nsIn K mainGlobals "isinstance" = some none)
    (z1 : PySem.W.nsIn K mainGlobals "int" = some none)
    (z2 : PySem.W.nsIn K mainGlobals "bool" = some none)
    (z3 : PySem.W.nsIn K mainGlobals "list" = some none)
    (z4 : PySem.W.nsIn K mainGlobals "tuple" = some none)
    (z5 : PySem.W.nsIn K mainGlobals "reversed" = some none)
    (z6 : PySem.W.nsIn K mainGlobals "len" = some none)
    (z7 : PySem.W.nsIn K mainGlobals "max" = some none)
    (z8 : PySem.W.nsIn K mainGlobals "min" = some none)
    (z9 : PySem.W.nsIn K mainGlobals "range" = some none)
    (z10 : PySem.W.nsIn K mainGlobals "all" = some none)
    (z11 : PySem.W.nsIn K mainGlobals "any" = some none)
    (z12 : PySem.W.nsIn K mainGlobals "sorted" = some none)
    (z13 : PySem.W.nsIn K mainGlobals "enumerate" = some none)
    (z14 : PySem.W.nsIn K mainGlobals "repr" = some none)
    (z15 : PySem.W.nsIn K mainGlobals "sum" = some none)
    (z16 : PySem.W.nsIn K mainGlobals "abs" = some none)
    (z17 : PySem.W.nsIn K mainGlobals "zip" = some none)
    (z18 : PySem.W.nsIn K mainGlobals "str" = some none)
    : ∃ fd : FuncData, (∀ (s : Shared) (v : Value), BindsTo s fd ⟨[v], []⟩ [("script", v)]) ∧ ∀ base : Heap, K.In base → base.Ns mainGlobals mg → base.BuiltinsAt mg T0 → FnOk l.prog w K mg base CX0 14 fa fd ["script"] (sp_law K T0) := by
  have e := hfa.symm.trans (PySem.W.mg_of X G a41)
  cases e
  have T : Blt mg := ⟨PySem.W.mg_none_of X G z0, PySem.W.mg_none_of X G z1, PySem.W.mg_none_of X G z2, PySem.W.mg_none_of X G z3, PySem.W.mg_none_of X G z4, PySem.W.mg_none_of X G z5, PySem.W.mg_none_of X G z6, PySem.W.mg_none_of X G z7, PySem.W.mg_none_of X G z8, PySem.W.mg_none_of X G z9, PySem.W.mg_none_of X G z10, PySem.W.mg_none_of X G z11, PySem.W.mg_none_of X G z12, PySem.W.mg_none_of X G z13, PySem.W.mg_none_of X G z14⟩
  have U : Blt2 mg := ⟨PySem.W.mg_none_of X G z15, PySem.W.mg_none_of X G z16, PySem.W.mg_none_of X G z17, PySem.W.mg_none_of X G z18⟩
  have c_LEAST_BASE := PySem.W.mg_of X G g0
  have c_GREATEST_BASE := PySem.W.mg_of X G g1
  have c_MOST_STRETCHES := PySem.W.mg_of X G g2
  have c_LONGEST_STRETCH := PySem.W.mg_of X G g3
  have c_MOST_FIGURES := PySem.W.mg_of X G g4
  have D_wall : Df K mg "_wall" s__wall ["k"] _ _ := df_mk X G a0 l0 e0 k0 fun _ _ _ _ _ _ us hl => match us, hl with | [_], _ => rfl
  have Dis_whole : Df K mg "is_whole" s_is_whole ["thing"] _ _ := df_mk X G a1 l1 e1 k1 fun _ _ _ _ _ _ us hl => match us, hl with | [_], _ => rfl
  have Dis_number : Df K mg "is_number" s_is_number ["thing"] _ _ := df_mk X G a2 l2 e2 k2 fun _ _ _ _ _ _ us hl => match us, hl with | [_], _ => rfl
  have Dis_base : Df K mg "is_base" s_is_base ["thing"] _ _ := df_mk X G a3 l3 e3 k3 fun _ _ _ _ _ _ us hl => match us, hl with | [_], _ => rfl
  have Dis_figure : Df K mg "is_figure" s_is_figure ["base", "thing"] _ _ := df_mk X G a4 l4 e4 k4 fun _ _ _ _ _ _ us hl => match us, hl with | [_, _], _ => rfl
  have Dare_figures : Df K mg "are_figures" s_are_figures ["base", "thing"] _ _ := df_mk X G a5 l5 e5 k5 fun _ _ _ _ _ _ us hl => match us, hl with | [_, _], _ => rfl
  have Dis_stretch : Df K mg "is_stretch" s_is_stretch ["base", "thing"] _ _ := df_mk X G a6 l6 e6 k6 fun _ _ _ _ _ _ us hl => match us, hl with | [_, _], _ => rfl
  have Dis_rising : Df K mg "is_rising" s_is_rising ["stretches"] _ _ := df_mk X G a7 l7 e7 k7 fun _ _ _ _ _ _ us hl => match us, hl with | [_], _ => rfl
  have Dis_bad_list : Df K mg "is_bad_list" s_is_bad_list ["base", "thing"] _ _ := df_mk X G a8 l8 e8 k8 fun _ _ _ _ _ _ us hl => match us, hl with | [_, _], _ => rfl
  have Dis_rule : Df K mg "is_rule" s_is_rule ["thing"] _ _ := df_mk X G a9 l9 e9 k9 fun _ _ _ _ _ _ us hl => match us, hl with | [_], _ => rfl
  have Dcheck_base : Df K mg "check_base" s_check_base ["thing"] _ _ := df_mk X G a10 l10 e10 k10 fun _ _ _ _ _ _ us hl => match us, hl with | [_], _ => rfl
  have Dcheck_number : Df K mg "check_number" s_check_number ["thing"] _ _ := df_mk X G a11 l11 e11 k11 fun _ _ _ _ _ _ us hl => match us, hl with | [_], _ => rfl
  have Dcheck_rule : Df K mg "check_rule" s_check_rule ["thing"] _ _ := df_mk X G a12 l12 e12 k12 fun _ _ _ _ _ _ us hl => match us, hl with | [_], _ => rfl
  have Dstands_within : Df K mg "stands_within" s_stands_within ["stretch", "figures"] _ _ := df_mk X G a13 l13 e13 k13 fun _ _ _ _ _ _ us hl => match us, hl with | [_, _], _ => rfl
  have Dlacks_all : Df K mg "lacks_all" s_lacks_all ["bad", "figures"] _ _ := df_mk X G a14 l14 e14 k14 fun _ _ _ _ _ _ us hl => match us, hl with | [_, _], _ => rfl
  have Dfigures_of : Df K mg "figures_of" s_figures_of ["base", "n"] _ _ := df_mk X G a15 l15 e15 k15 fun _ _ _ _ _ _ us hl => match us, hl with | [_, _], _ => rfl
  have Dis_good : Df K mg "is_good" s_is_good ["rule", "n"] _ _ := df_mk X G a16 l16 e16 k16 fun _ _ _ _ _ _ us hl => match us, hl with | [_, _], _ => rfl
  have Dbegins_one : Df K mg "begins_one" s_begins_one ["bad", "figures"] _ _ := df_mk X G a17 l17 e17 k17 fun _ _ _ _ _ _ us hl => match us, hl with | [_, _], _ => rfl
  have Dlongest_stand : Df K mg "longest_stand" s_longest_stand ["bad", "figures"] _ _ := df_mk X G a18 l18 e18 k18 fun _ _ _ _ _ _ us hl => match us, hl with | [_, _], _ => rfl
  have Dstands_of : Df K mg "stands_of" s_stands_of ["bad"] _ _ := df_mk X G a19 l19 e19 k19 fun _ _ _ _ _ _ us hl => match us, hl with | [_], _ => rfl
  have Dplace_behind : Df K mg "place_behind" s_place_behind ["bad", "stands", "figures"] _ _ := df_mk X G a20 l20 e20 k20 fun _ _ _ _ _ _ us hl => match us, hl with | [_, _, _], _ => rfl
  have Dsteps_from : Df K mg "steps_from" s_steps_from ["rule", "stands", "stand"] _ _ := df_mk X G a21 l21 e21 k21 fun _ _ _ _ _ _ us hl => match us, hl with | [_, _, _], _ => rfl
  have Dall_steps : Df K mg "all_steps" s_all_steps ["rule", "stands"] _ _ := df_mk X G a22 l22 e22 k22 fun _ _ _ _ _ _ us hl => match us, hl with | [_, _], _ => rfl
  have Dweights_by_left : Df K mg "weights_by_left" s_weights_by_left ["weights", "scale", "size"] _ _ := df_mk X G a23 l23 e23 k23 fun _ _ _ _ _ _ us hl => match us, hl with | [_, _, _], _ => rfl
  have Dnumber_totals : Df K mg "number_totals" s_number_totals ["rule", "size"] _ _ := df_mk X G a24 l24 e24 k24 fun _ _ _ _ _ _ us hl => match us, hl with | [_, _], _ => rfl
  have Dcheck_length : Df K mg "check_length" s_check_length ["thing"] _ _ := df_mk X G a25 l25 e25 k25 fun _ _ _ _ _ _ us hl => match us, hl with | [_], _ => rfl
  have Dcount_shorter : Df K mg "count_shorter" s_count_shorter ["tails", "m"] _ _ := df_mk X G a26 l26 e26 k26 fun _ _ _ _ _ _ us hl => match us, hl with | [_, _], _ => rfl
  have Dcount_long : Df K mg "count_long" s_count_long ["rule", "m"] _ _ := df_mk X G a27 l27 e27 k27 fun _ _ _ _ _ _ us hl => match us, hl with | [_, _], _ => rfl
  have Dleast_long : Df K mg "least_long" s_least_long ["rule", "m"] _ _ := df_mk X G a28 l28 e28 k28 fun _ _ _ _ _ _ us hl => match us, hl with | [_, _], _ => rfl
  have Dgreatest_long : Df K mg "greatest_long" s_greatest_long ["rule", "m"] _ _ := df_mk X G a29 l29 e29 k29 fun _ _ _ _ _ _ us hl => match us, hl with | [_, _], _ => rfl
  have Dsum_long : Df K mg "sum_long" s_sum_long ["rule", "m"] _ _ := df_mk X G a30 l30 e30 k30 fun _ _ _ _ _ _ us hl => match us, hl with | [_, _], _ => rfl
  have Dis_endless : Df K mg "is_endless" s_is_endless ["rule"] _ _ := df_mk X G a31 l31 e31 k31 fun _ _ _ _ _ _ us hl => match us, hl with | [_], _ => rfl
  have Dgreatest_good : Df K mg "greatest_good" s_greatest_good ["rule"] _ _ := df_mk X G a32 l32 e32 k32 fun _ _ _ _ _ _ us hl => match us, hl with | [_], _ => rfl
  have D_law_deck : Df K mg "_law_deck" s__law_deck ["script"] _ _ := df_mk X G a33 l33 e33 k33 fun _ _ _ _ _ _ us hl => match us, hl with | [_], _ => rfl
  have D_law_draw : Df K mg "_law_draw" s__law_draw ["deck", "many"] _ _ := df_mk X G a34 l34 e34 k34 fun _ _ _ _ _ _ us hl => match us, hl with | [_, _], _ => rfl
  have D_law_some_rule : Df K mg "_law_some_rule" s__law_some_rule ["deck"] _ _ := df_mk X G a35 l35 e35 k35 fun _ _ _ _ _ _ us hl => match us, hl with | [_], _ => rfl
  have D_law_lengths : Df K mg "_law_lengths" s__law_lengths ["deck"] _ _ := df_mk X G a36 l36 e36 k36 fun _ _ _ _ _ _ us hl => match us, hl with | [_], _ => rfl
  have D_law_tight_rule : Df K mg "_law_tight_rule" s__law_tight_rule ["deck"] _ _ := df_mk X G a37 l37 e37 k37 fun _ _ _ _ _ _ us hl => match us, hl with | [_], _ => rfl
  have D_law_length_right : Df K mg "_law_length_right" s__law_length_right ["rule", "m"] _ _ := df_mk X G a38 l38 e38 k38 fun _ _ _ _ _ _ us hl => match us, hl with | [_, _], _ => rfl
  have D_law_endless_right : Df K mg "_law_endless_right" s__law_endless_right ["rule"] _ _ := df_mk X G a39 l39 e39 k39 fun _ _ _ _ _ _ us hl => match us, hl with | [_], _ => rfl
  have D_law_less_right : Df K mg "_law_less_right" s__law_less_right ["deck", "rule", "m"] _ _ := df_mk X G a40 l40 e40 k40 fun _ _ _ _ _ _ us hl => match us, hl with | [_, _, _], _ => rfl
  have Dlaw : Df K mg "law" s_law ["script"] _ _ := df_mk X G a41 l41 e41 k41 fun _ _ _ _ _ _ us hl => match us, hl with | [_], _ => rfl
  have MTails___init__ : Mt K C "Tails.__init__" "__init__" s_Tails___init__ ["self", "rule"] _ _ := ⟨fun_mk (st := s_Tails___init__) lC0 eC0 kC0, (fun_mk (st := s_Tails___init__) lC0 eC0 kC0).binds (ps := ["self", "rule"]) fun _ _ _ _ _ _ us hl => match us, hl with | [_, _], _ => rfl, ⟨aC0, iC0, kC0⟩⟩
  have KTails : Mk K C fC0 := ⟨mkC, aC0, iC0, kcC⟩
  have BTails := MTails___init__.b
  have MTails_layer : Mt K C "Tails.layer" "layer" s_Tails_layer ["self", "left"] _ _ := ⟨fun_mk (st := s_Tails_layer) lC1 eC1 kC1, (fun_mk (st := s_Tails_layer) lC1 eC1 kC1).binds (ps := ["self", "left"]) fun _ _ _ _ _ _ us hl => match us, hl with | [_, _], _ => rfl, ⟨aC1, iC1, kC1⟩⟩
  have MTails_many_by : Mt K C "Tails.many_by" "many_by" s_Tails_many_by ["self", "layer", "place", "stop"] _ _ := ⟨fun_mk (st := s_Tails_many_by) lC2 eC2 kC2, (fun_mk (st := s_Tails_many_by) lC2 eC2 kC2).binds (ps := ["self", "layer", "place", "stop"]) fun _ _ _ _ _ _ us hl => match us, hl with | [_, _, _, _], _ => rfl, ⟨aC2, iC2, kC2⟩⟩
  have MTails_many_under : Mt K C "Tails.many_under" "many_under" s_Tails_many_under ["self", "place", "stop", "left"] _ _ := ⟨fun_mk (st := s_Tails_many_under) lC3 eC3 kC3, (fun_mk (st := s_Tails_many_under) lC3 eC3 kC3).binds (ps := ["self", "place", "stop", "left"]) fun _ _ _ _ _ _ us hl => match us, hl with | [_, _, _, _], _ => rfl, ⟨aC3, iC3, kC3⟩⟩
  have MTails_many_below : Mt K C "Tails.many_below" "many_below" s_Tails_many_below ["self", "figures"] _ _ := ⟨fun_mk (st := s_Tails_many_below) lC4 eC4 kC4, (fun_mk (st := s_Tails_many_below) lC4 eC4 kC4).binds (ps := ["self", "figures"]) fun _ _ _ _ _ _ us hl => match us, hl with | [_, _], _ => rfl, ⟨aC4, iC4, kC4⟩⟩
  have MTails_many_within : Mt K C "Tails.many_within" "many_within" s_Tails_many_within ["self", "size"] _ _ := ⟨fun_mk (st := s_Tails_many_within) lC5 eC5 kC5, (fun_mk (st := s_Tails_many_within) lC5 eC5 kC5).binds (ps := ["self", "size"]) fun _ _ _ _ _ _ us hl => match us, hl with | [_, _], _ => rfl, ⟨aC5, iC5, kC5⟩⟩
  have MTails_figure_at : Mt K C "Tails.figure_at" "figure_at" s_Tails_figure_at ["self", "place", "k", "left"] _ _ := ⟨fun_mk (st := s_Tails_figure_at) lC6 eC6 kC6, (fun_mk (st := s_Tails_figure_at) lC6 eC6 kC6).binds (ps := ["self", "place", "k", "left"]) fun _ _ _ _ _ _ us hl => match us, hl with | [_, _, _, _], _ => rfl, ⟨aC6, iC6, kC6⟩⟩
  have MTails_number_at : Mt K C "Tails.number_at" "number_at" s_Tails_number_at ["self", "size", "k"] _ _ := ⟨fun_mk (st := s_Tails_number_at) lC7 eC7 kC7, (fun_mk (st := s_Tails_number_at) lC7 eC7 kC7).binds (ps := ["self", "size", "k"]) fun _ _ _ _ _ _ us hl => match us, hl with | [_, _, _], _ => rfl, ⟨aC7, iC7, kC7⟩⟩
  have MTails_are_endless : Mt K C "Tails.are_endless" "are_endless" s_Tails_are_endless ["self"] _ _ := ⟨fun_mk (st := s_Tails_are_endless) lC8 eC8 kC8, (fun_mk (st := s_Tails_are_endless) lC8 eC8 kC8).binds (ps := ["self"]) fun _ _ _ _ _ _ us hl => match us, hl with | [_], _ => rfl, ⟨aC8, iC8, kC8⟩⟩
  have cTails : ClT K mg C := ⟨⟨pgC, hdC, poC, saC⟩, PySem.W.mg_of X G aC, nC_base, nC_outset, nC_steps, nC_layers⟩
  have MTotals___init__ : Mt K CS "Totals.__init__" "__init__" s_Totals___init__ ["self", "rule", "weights", "scale", "size"] _ _ := ⟨fun_mk (st := s_Totals___init__) lCS0 eCS0 kCS0, (fun_mk (st := s_Totals___init__) lCS0 eCS0 kCS0).binds (ps := ["self", "rule", "weights", "scale", "size"]) fun _ _ _ _ _ _ us hl => match us, hl with | [_, _, _, _, _], _ => rfl, ⟨aCS0, iCS0, kCS0⟩⟩
  have KTotals : Mk K CS fCS0 := ⟨mkCS, aCS0, iCS0, kcCS⟩
  have BTotals := MTotals___init__.b
  have MTotals_longer_layer : Mt K CS "Totals.longer_layer" "longer_layer" s_Totals_longer_layer ["self", "left"] _ _ := ⟨fun_mk (st := s_Totals_longer_layer) lCS1 eCS1 kCS1, (fun_mk (st := s_Totals_longer_layer) lCS1 eCS1 kCS1).binds (ps := ["self", "left"]) fun _ _ _ _ _ _ us hl => match us, hl with | [_, _], _ => rfl, ⟨aCS1, iCS1, kCS1⟩⟩
  have MTotals_weight_of : Mt K CS "Totals.weight_of" "weight_of" s_Totals_weight_of ["self", "behind", "figure", "left"] _ _ := ⟨fun_mk (st := s_Totals_weight_of) lCS2 eCS2 kCS2, (fun_mk (st := s_Totals_weight_of) lCS2 eCS2 kCS2).binds (ps := ["self", "behind", "figure", "left"]) fun _ _ _ _ _ _ us hl => match us, hl with | [_, _, _, _], _ => rfl, ⟨aCS2, iCS2, kCS2⟩⟩
  have MTotals_total_under : Mt K CS "Totals.total_under" "total_under" s_Totals_total_under ["self", "place", "stop", "left", "ahead"] _ _ := ⟨fun_mk (st := s_Totals_total_under) lCS3 eCS3 kCS3, (fun_mk (st := s_Totals_total_under) lCS3 eCS3 kCS3).binds (ps := ["self", "place", "stop", "left", "ahead"]) fun _ _ _ _ _ _ us hl => match us, hl with | [_, _, _, _, _], _ => rfl, ⟨aCS3, iCS3, kCS3⟩⟩
  have MTotals_total_below : Mt K CS "Totals.total_below" "total_below" s_Totals_total_below ["self", "figures"] _ _ := ⟨fun_mk (st := s_Totals_total_below) lCS4 eCS4 kCS4, (fun_mk (st := s_Totals_total_below) lCS4 eCS4 kCS4).binds (ps := ["self", "figures"]) fun _ _ _ _ _ _ us hl => match us, hl with | [_, _], _ => rfl, ⟨aCS4, iCS4, kCS4⟩⟩
  have MTotals_total_within : Mt K CS "Totals.total_within" "total_within" s_Totals_total_within ["self", "size"] _ _ := ⟨fun_mk (st := s_Totals_total_within) lCS5 eCS5 kCS5, (fun_mk (st := s_Totals_total_within) lCS5 eCS5 kCS5).binds (ps := ["self", "size"]) fun _ _ _ _ _ _ us hl => match us, hl with | [_, _], _ => rfl, ⟨aCS5, iCS5, kCS5⟩⟩
  have cTotals : ClS K mg CS := ⟨⟨pgCS, hdCS, poCS, saCS⟩, PySem.W.mg_of X G aCS, nCS_tails, nCS_weights, nCS_layers⟩
  refine ⟨PySem.W.fnOf "law" "law" (defArgs s_law) (defBody s_law) (defScope s_law) .none kV41 dc41 pm41 an41 cd41 ct41, fun s v => .of_eq rfl, fun base _ _ hBM => ?_⟩
  have Gis_whole : FnOk l.prog w K mg base CX0 1 _ _ ["thing"] sp_is_whole := ok_is_whole Dis_whole T
  have Gis_base : FnOk l.prog w K mg base CX0 2 _ _ ["thing"] sp_is_base := ok_is_base Dis_base Dis_whole T c_LEAST_BASE c_GREATEST_BASE
  have Gcheck_base : FnOk l.prog w K mg base CX0 3 _ _ ["thing"] sp_check_base := ok_check_base Dcheck_base Dis_base Gis_base
  have Gis_number : FnOk l.prog w K mg base CX0 2 _ _ ["thing"] sp_is_number := ok_is_number Dis_number Dis_whole T
  have Gcheck_number : FnOk l.prog w K mg base CX0 3 _ _ ["thing"] sp_check_number := ok_check_number Dcheck_number Dis_number Dis_whole T
  have Gfigures_of : FnOk l.prog w K mg base CX0 4 _ _ ["base", "n"] sp_figures_of := ok_figures_of Dfigures_of Dcheck_base Gcheck_base Dcheck_number Gcheck_number T
  have G_law_deck : FnOk l.prog w K mg base CX0 1 _ _ ["script"] (sp__law_deck K) := ok__law_deck D_law_deck T
  have G_law_draw : FnOk l.prog w K mg base CX0 1 _ _ ["deck", "many"] sp__law_draw := ok__law_draw D_law_draw T
  have Gis_figure : FnOk l.prog w K mg base CX0 2 _ _ ["base", "thing"] sp_is_figure := ok_is_figure Dis_figure Dis_whole T
  have Gare_figures : FnOk l.prog w K mg base CX0 3 _ _ ["base", "thing"] sp_are_figures := ok_are_figures Dare_figures Dis_figure Gis_figure T
  have Gis_stretch : FnOk l.prog w K mg base CX0 4 _ _ ["base", "thing"] sp_is_stretch := ok_is_stretch Dis_stretch Dare_figures Gare_figures c_LONGEST_STRETCH T
  have Gis_rising : FnOk l.prog w K mg base CX0 1 _ _ ["stretches"] sp_is_rising := ok_is_rising Dis_rising T
  have Gis_bad_list : FnOk l.prog w K mg base CX0 5 _ _ ["base", "thing"] sp_is_bad_list := ok_is_bad_list Dis_bad_list Dis_stretch Gis_stretch Dis_rising c_MOST_STRETCHES T
  have Gis_rule : FnOk l.prog w K mg base CX0 6 _ _ ["thing"] sp_is_rule := ok_is_rule Dis_rule Dis_base Gis_base Dis_bad_list Gis_bad_list T
  have Gcheck_rule : FnOk l.prog w K mg base CX0 7 _ _ ["thing"] sp_check_rule := ok_check_rule Dcheck_rule Dis_rule Gis_rule
  have Gstands_within : FnOk l.prog w K mg base CX0 1 _ _ ["stretch", "figures"] sp_stands_within := ok_stands_within Dstands_within T
  have Glacks_all : FnOk l.prog w K mg base CX0 2 _ _ ["bad", "figures"] sp_lacks_all := ok_lacks_all Dlacks_all Dstands_within T
  have Gis_good : FnOk l.prog w K mg base CX0 8 _ _ ["rule", "n"] sp_is_good := ok_is_good Dis_good Dcheck_rule Gcheck_rule Dlacks_all Glacks_all Dfigures_of Gfigures_of T
  have Gbegins_one : FnOk l.prog w K mg base CX0 1 _ _ ["bad", "figures"] sp_begins_one := ok_begins_one Dbegins_one T
  have Glongest_stand : FnOk l.prog w K mg base CX0 3 _ _ ["bad", "figures"] sp_longest_stand := ok_longest_stand Dlongest_stand Dlacks_all Glacks_all Dbegins_one T
  have Gstands_of : FnOk l.prog w K mg base CX0 6 _ _ ["bad"] (sp_stands_of T0) := ok_stands_of Dstands_of rfl hcT hBM hgT Dlacks_all Glacks_all T
  have Gplace_behind : FnOk l.prog w K mg base CX0 4 _ _ ["bad", "stands", "figures"] sp_place_behind := ok_place_behind Dplace_behind Dlongest_stand Glongest_stand
  have Gsteps_from : FnOk l.prog w K mg base CX0 5 _ _ ["rule", "stands", "stand"] sp_steps_from := ok_steps_from Dsteps_from Dplace_behind Gplace_behind T
  have Gall_steps : FnOk l.prog w K mg base CX0 6 _ _ ["rule", "stands"] sp_all_steps := ok_all_steps Dall_steps Dsteps_from Gsteps_from T
  have GTails_many_by : FnOk l.prog w K mg base CX0 1 _ _ ["self", "layer", "place", "stop"] (sp_many_by C) := ok_many_by MTails_many_by cTails T U
  have GTails_layer : FnOk l.prog w K mg base CX0 2 _ _ ["self", "left"] (sp_layer C) := ok_layer MTails_layer MTails_many_by cTails T U
  have GTails_many_under : FnOk l.prog w K mg base CX0 3 _ _ ["self", "place", "stop", "left"] (sp_many_under C) := ok_many_under MTails_many_under MTails_layer MTails_many_by cTails T U
  have GTails_many_within : FnOk l.prog w K mg base CX0 3 _ _ ["self", "size"] (sp_many_within C) := ok_many_within MTails_many_within MTails_layer MTails_many_by cTails T U
  have GTails_figure_at : FnOk l.prog w K mg base CX0 4 _ _ ["self", "place", "k", "left"] (sp_figure_at C) := ok_figure_at MTails_figure_at MTails_many_under GTails_many_under cTails T
  have GTails_number_at : FnOk l.prog w K mg base CX0 5 _ _ ["self", "size", "k"] (sp_number_at C) := ok_number_at MTails_number_at MTails_many_under GTails_many_under MTails_figure_at GTails_figure_at cTails T
  have GTails_init : FnOk l.prog w K mg base CX0 7 _ _ ["self", "rule"] (sp_tails T0 C) := ok_tails MTails___init__ Dstands_of Gstands_of Dall_steps Gall_steps Dlacks_all Glacks_all cTails T
  have GTails_are_endless : FnOk l.prog w K mg base CX0 4 _ _ ["self"] (sp_are_endless C) := ok_are_endless MTails_are_endless MTails_many_within GTails_many_within cTails
  have Gcheck_length : FnOk l.prog w K mg base CX0 3 _ _ ["thing"] sp_check_length := ok_check_length Dcheck_length Dis_number Gis_number c_MOST_FIGURES
  have Gcount_shorter : FnOk l.prog w K mg base CX0 4 _ _ ["tails", "m"] (sp_count_shorter C) := ok_count_shorter Dcount_shorter MTails_many_within GTails_many_within cTails
  have Gcount_long : FnOk l.prog w K mg base CX0 9 _ _ ["rule", "m"] (sp_count_long T0) := ok_count_long Dcount_long Dcheck_rule Gcheck_rule Dcheck_length Gcheck_length KTails BTails GTails_init MTails_many_within GTails_many_within Dcount_shorter Gcount_shorter cTails
  have Gleast_long : FnOk l.prog w K mg base CX0 9 _ _ ["rule", "m"] (sp_ask T0 lenPre LeastL) := ok_least_long Dleast_long Dcheck_rule Gcheck_rule Dcheck_length Gcheck_length KTails BTails GTails_init MTails_many_within GTails_many_within Dcount_shorter Gcount_shorter MTails_number_at GTails_number_at cTails
  have Ggreatest_long : FnOk l.prog w K mg base CX0 9 _ _ ["rule", "m"] (sp_ask T0 lenPre GreatestL) := ok_greatest_long Dgreatest_long Dcheck_rule Gcheck_rule Dcheck_length Gcheck_length KTails BTails GTails_init MTails_many_within GTails_many_within Dcount_shorter Gcount_shorter MTails_number_at GTails_number_at cTails
  have Gweights_by_left : FnOk l.prog w K mg base CX0 1 _ _ ["weights", "scale", "size"] sp_weights_by_left := ok_weights_by_left Dweights_by_left T
  have GTotals_weight_of : FnOk l.prog w K mg base CX0 1 _ _ ["self", "behind", "figure", "left"] (sp_weight_of C CS) := ok_weight_of MTotals_weight_of cTails cTotals
  have GTotals_total_under : FnOk l.prog w K mg base CX0 3 _ _ ["self", "place", "stop", "left", "ahead"] (sp_total_under C CS) := ok_total_under MTotals_total_under MTails_layer GTails_layer MTotals_weight_of GTotals_weight_of cTails cTotals T
  have GTotals_longer_layer : FnOk l.prog w K mg base CX0 4 _ _ ["self", "left"] (sp_longer_layer C CS) := ok_longer_layer MTotals_longer_layer MTotals_total_under GTotals_total_under cTails cTotals T
  have GTotals_total_within : FnOk l.prog w K mg base CX0 1 _ _ ["self", "size"] (sp_total_within C CS) := ok_total_within MTotals_total_within cTails cTotals
  have GTotals_init : FnOk l.prog w K mg base CX0 9 _ _ ["self", "rule", "weights", "scale", "size"] (sp_totals T0 C CS) := ok_totals MTotals___init__ KTails BTails GTails_init Dweights_by_left Gweights_by_left MTails_many_within GTails_many_within MTotals_longer_layer GTotals_longer_layer cTails cTotals T
  have Gnumber_totals : FnOk l.prog w K mg base CX0 11 _ _ ["rule", "size"] (sp_number_totals T0 C CS) := ok_number_totals Dnumber_totals KTotals BTotals GTotals_init cTotals T
  have Gsum_long : FnOk l.prog w K mg base CX0 12 _ _ ["rule", "m"] (sp_sum_long T0) := ok_sum_long Dsum_long Dcheck_rule Gcheck_rule Dcheck_length Gcheck_length Dnumber_totals Gnumber_totals MTotals_total_within GTotals_total_within cTotals
  have Gis_endless : FnOk l.prog w K mg base CX0 9 _ _ ["rule"] (sp_is_endless T0) := ok_is_endless Dis_endless Dcheck_rule Gcheck_rule KTails BTails GTails_init MTails_are_endless GTails_are_endless cTails
  have Ggreatest_good : FnOk l.prog w K mg base CX0 9 _ _ ["rule"] (sp_greatest_good T0) := ok_greatest_good Dgreatest_good Dcheck_rule Gcheck_rule KTails BTails GTails_init MTails_are_endless GTails_are_endless MTails_many_within GTails_many_within MTails_number_at GTails_number_at cTails
  have G_law_some_rule : FnOk l.prog w K mg base CX0 2 _ _ ["deck"] sp__law_some_rule := ok__law_some_rule D_law_some_rule D_law_draw T
  have G_law_lengths : FnOk l.prog w K mg base CX0 2 _ _ ["deck"] sp__law_lengths := ok__law_lengths D_law_lengths D_law_draw T
  have G_law_tight_rule : FnOk l.prog w K mg base CX0 2 _ _ ["deck"] sp__law_tight_rule := ok__law_tight_rule D_law_tight_rule D_law_draw T
  have G_law_length_right : FnOk l.prog w K mg base CX0 13 _ _ ["rule", "m"] (sp__law_length_right T0) := ok__law_length_right D_law_length_right Dcount_long Gcount_long Dleast_long Gleast_long Dgreatest_long Ggreatest_long Dsum_long Gsum_long Dis_good Gis_good Dfigures_of Gfigures_of T
  have G_law_endless_right : FnOk l.prog w K mg base CX0 10 _ _ ["rule"] (sp__law_endless_right T0) := ok__law_endless_right D_law_endless_right Dcount_long Gcount_long Dis_endless Gis_endless Dgreatest_long Ggreatest_long Dgreatest_good Ggreatest_good Dis_good Gis_good Dfigures_of Gfigures_of T
  have G_law_less_right : FnOk l.prog w K mg base CX0 13 _ _ ["deck", "rule", "m"] (sp__law_less_right T0) := ok__law_less_right D_law_less_right Dcount_long Gcount_long Dis_endless Gis_endless Dsum_long Gsum_long D_law_draw T
  exact ok_law Dlaw D_law_deck D_law_some_rule D_law_tight_rule D_law_lengths D_law_length_right G_law_length_right D_law_less_right G_law_less_right D_law_endless_right G_law_endless_right D_law_draw T
theorem walk2 {l : PySem.W.OpenLaw} {q : Program} {loose : List Str} {XP : (Str → Option Value) → Heap → Prop} {YP : World → Heap → Prop} {d : DefRec} {K : Params → PySem.W.Frag} {c T0 : Addr} (hn : l.most = some 63) (hdf : d.params.defaults = [])
    (hY : ∀ (w : World) (h : Heap), YP w h → (K w.params).In h) (hYT : ∀ (w : World) (h : Heap), YP w h → h.get? T0 = some (PySem.W.tabObj #[])) (hKT : ∀ w : World, (K w.params).lookup T0 = none) (hcT : ∀ w : World, PySem.W.codeHdIn (K w.params) c T0 = true)
    (F : ∀ (w : World) (mg : Str → Option Value) (fa : Addr) (h : Heap), (K w.params).In h → h.Ns mainGlobals mg → mg d.name = some (.ref fa) →
      ∃ fd : FuncData, (∀ (s : Shared) (u : Value), BindsTo s fd ⟨[u], []⟩ [("script", u)]) ∧ ∀ base : Heap, (K w.params).In base → base.Ns mainGlobals mg → base.BuiltinsAt mg T0 → FnOk l.prog w (K w.params) mg base CX0 14 fa fd ["script"] (sp_law (K w.params) T0)) :
    PySem.W.WalkO q loose XP YP l.row.toRowW d [] (fun f vs => PySem.call f vs) :=
  L2.walkP (n := 63) (k := 14) (x := "script") (sp := fun w => sp_law (K w.params) T0) hn (by decide) hdf ⟨rfl, by decide, by decide⟩ hY hYT hKT hcT F (fun w H a ns hl hT hS => ⟨a, ns, rfl, hS, hl, .inl hT, fun _ => rfl⟩)
end Lw
open PySem PySem.W PyProof.Rows
set_option maxRecDepth 100000 in
set_option maxHeartbeats 0 in
theorem PySem.Challenge.cw_lackstretch_k26_whole_lengths_together_holds : PySem.Challenge.rw_lackstretch_k26_whole_lengths_together.Holds := by
  w_on; o_law; k_head; (case hw => w_witness2)
  k_fill
  refine Lw.walk2 (l := PySem.Challenge.rw_lackstretch_k26_whole_lengths_together) (c := 202) (T0 := 198) rfl rfl (fun w h Y => PySem.W.km_in_of Y) (fun w h Y => PySem.W.km_tabs_of Y 198 (by decide)) (fun w => by kernel_rfl) (fun w => by kernel_rfl) ?F
  case F =>
    intro w mg fa h KX G hmg
    refine' Lw.all_mk (c0 := 202) (T0 := 198) KX G hmg (by kernel_rfl) (by decide) ?yya0 ?yyl0 ?yye0 ?yyk0 ?yya1 ?yyl1 ?yye1 ?yyk1 ?yya2 ?yyl2 ?yye2 ?yyk2 ?yya3 ?yyl3 ?yye3 ?yyk3 ?yya4 ?yyl4 ?yye4 ?yyk4 ?yya5 ?yyl5 ?yye5 ?yyk5 ?yya6 ?yyl6 ?yye6 ?yyk6 ?yya7 ?yyl7 ?yye7 ?yyk7 ?yya8 ?yyl8 ?yye8 ?yyk8 ?yya9 ?yyl9 ?yye9 ?yyk9 ?yya10 ?yyl10 ?yye10 ?yyk10 ?yya11 ?yyl11 ?yye11 ?yyk11 ?yya12 ?yyl12 ?yye12 ?yyk12 ?yya13 ?yyl13 ?yye13 ?yyk13 ?yya14 ?yyl14 ?yye14 ?yyk14 ?yya15 ?yyl15 ?yye15 ?yyk15 ?yya16 ?yyl16 ?yye16 ?yyk16 ?yya17 ?yyl17 ?yye17 ?yyk17 ?yya18 ?yyl18 ?yye18 ?yyk18 ?yya19 ?yyl19 ?yye19 ?yyk19 ?yya20 ?yyl20 ?yye20 ?yyk20 ?yya21 ?yyl21 ?yye21 ?yyk21 ?yya22 ?yyl22 ?yye22 ?yyk22 ?yya23 ?yyl23 ?yye23 ?yyk23 ?yya24 ?yyl24 ?yye24 ?yyk24 ?yya25 ?yyl25 ?yye25 ?yyk25 ?yya26 ?yyl26 ?yye26 ?yyk26 ?yya27 ?yyl27 ?yye27 ?yyk27 ?yya28 ?yyl28 ?yye28 ?yyk28 ?yya29 ?yyl29 ?yye29 ?yyk29 ?yya30 ?yyl30 ?yye30 ?yyk30 ?yya31 ?yyl31 ?yye31 ?yyk31 ?yya32 ?yyl32 ?yye32 ?yyk32 ?yya33 ?yyl33 ?yye33 ?yyk33 ?yya34 ?yyl34 ?yye34 ?yyk34 ?yya35 ?yyl35 ?yye35 ?yyk35 ?yya36 ?yyl36 ?yye36 ?yyk36 ?yya37 ?yyl37 ?yye37 ?yyk37 ?yya38 ?yyl38 ?yye38 ?yyk38 ?yya39 ?yyl39 ?yye39 ?yyk39 ?yya40 ?yyl40 ?yye40 ?yyk40 ?yya41 ?yyl41 ?yye41 ?yyk41 ?yyaC ?yyaC0 ?yyiC0 ?yylC0 ?yyeC0 ?yykC0 ?yyaC1 ?yyiC1 ?yylC1 ?yyeC1 ?yykC1 ?yyaC2 ?yyiC2 ?yylC2 ?yyeC2 ?yykC2 ?yyaC3 ?yyiC3 ?yylC3 ?yyeC3 ?yykC3 ?yyaC4 ?yyiC4 ?yylC4 ?yyeC4 ?yykC4 ?yyaC5 ?yyiC5 ?yylC5 ?yyeC5 ?yykC5 ?yyaC6 ?yyiC6 ?yylC6 ?yyeC6 ?yykC6 ?yyaC7 ?yyiC7 ?yylC7 ?yyeC7 ?yykC7 ?yyaC8 ?yyiC8 ?yylC8 ?yyeC8 ?yykC8 ?yypgC ?yyhdC ?yypoC ?yysaC ?yymkC ?yykcC ?yynC_base ?yynC_outset ?yynC_steps ?yynC_layers ?yyaCS ?yyaCS0 ?yyiCS0 ?yylCS0 ?yyeCS0 ?yykCS0 ?yyaCS1 ?yyiCS1 ?yylCS1 ?yyeCS1 ?yykCS1 ?yyaCS2 ?yyiCS2 ?yylCS2 ?yyeCS2 ?yykCS2 ?yyaCS3 ?yyiCS3 ?yylCS3 ?yyeCS3 ?yykCS3 ?yyaCS4 ?yyiCS4 ?yylCS4 ?yyeCS4 ?yykCS4 ?yyaCS5 ?yyiCS5 ?yylCS5 ?yyeCS5 ?yykCS5 ?yypgCS ?yyhdCS ?yypoCS ?yysaCS ?yymkCS ?yykcCS ?yynCS_tails ?yynCS_weights ?yynCS_layers ?yyg0 ?yyg1 ?yyg2 ?yyg3 ?yyg4 ?yyz0 ?yyz1 ?yyz2 ?yyz3 ?yyz4 ?yyz5 ?yyz6 ?yyz7 ?yyz8 ?yyz9 ?yyz10 ?yyz11 ?yyz12 ?yyz13 ?yyz14 ?yyz15 ?yyz16 ?yyz17 ?yyz18
    (case yya0 => k_is)
    (case yyl0 => k_is)
    (case yye0 => k_is)
    (case yyk0 => k_is)
    (case yya1 => k_is)
    (case yyl1 => k_is)
    (case yye1 => k_is)
    (case yyk1 => k_is)
    (case yya2 => k_is)
    (case yyl2 => k_is)
    (case yye2 => k_is)
    (case yyk2 => k_is)
    (case yya3 => k_is)
    (case yyl3 => k_is)
    (case yye3 => k_is)
    (case yyk3 => k_is)
    (case yya4 => k_is)
    (case yyl4 => k_is)
    (case yye4 => k_is)
    (case yyk4 => k_is)
    (case yya5 => k_is)
    (case yyl5 => k_is)
    (case yye5 => k_is)
    (case yyk5 => k_is)
    (case yya6 => k_is)
    (case yyl6 => k_is)
    (case yye6 => k_is)
    (case yyk6 => k_is)
    (case yya7 => k_is)
    (case yyl7 => k_is)
    (case yye7 => k_is)
    (case yyk7 => k_is)
    (case yya8 => k_is)
    (case yyl8 => k_is)
    (case yye8 => k_is)
    (case yyk8 => k_is)
    (case yya9 => k_is)
    (case yyl9 => k_is)
    (case yye9 => k_is)
    (case yyk9 => k_is)
    (case yya10 => k_is)
    (case yyl10 => k_is)
    (case yye10 => k_is)
    (case yyk10 => k_is)
    (case yya11 => k_is)
    (case yyl11 => k_is)
    (case yye11 => k_is)
    (case yyk11 => k_is)
    (case yya12 => k_is)
    (case yyl12 => k_is)
    (case yye12 => k_is)
    (case yyk12 => k_is)
    (case yya13 => k_is)
    (case yyl13 => k_is)
    (case yye13 => k_is)
    (case yyk13 => k_is)
    (case yya14 => k_is)
    (case yyl14 => k_is)
    (case yye14 => k_is)
    (case yyk14 => k_is)
    (case yya15 => k_is)
    (case yyl15 => k_is)
    (case yye15 => k_is)
    (case yyk15 => k_is)
    (case yya16 => k_is)
    (case yyl16 => k_is)
    (case yye16 => k_is)
    (case yyk16 => k_is)
    (case yya17 => k_is)
    (case yyl17 => k_is)
    (case yye17 => k_is)
    (case yyk17 => k_is)
    (case yya18 => k_is)
    (case yyl18 => k_is)
    (case yye18 => k_is)
    (case yyk18 => k_is)
    (case yya19 => k_is)
    (case yyl19 => k_is)
    (case yye19 => k_is)
    (case yyk19 => k_is)
    (case yya20 => k_is)
    (case yyl20 => k_is)
    (case yye20 => k_is)
    (case yyk20 => k_is)
    (case yya21 => k_is)
    (case yyl21 => k_is)
    (case yye21 => k_is)
    (case yyk21 => k_is)
    (case yya22 => k_is)
    (case yyl22 => k_is)
    (case yye22 => k_is)
    (case yyk22 => k_is)
    (case yya23 => k_is)
    (case yyl23 => k_is)
    (case yye23 => k_is)
    (case yyk23 => k_is)
    (case yya24 => k_is)
    (case yyl24 => k_is)
    (case yye24 => k_is)
    (case yyk24 => k_is)
    (case yya25 => k_is)
    (case yyl25 => k_is)
    (case yye25 => k_is)
    (case yyk25 => k_is)
    (case yya26 => k_is)
    (case yyl26 => k_is)
    (case yye26 => k_is)
    (case yyk26 => k_is)
    (case yya27 => k_is)
    (case yyl27 => k_is)
    (case yye27 => k_is)
    (case yyk27 => k_is)
    (case yya28 => k_is)
    (case yyl28 => k_is)
    (case yye28 => k_is)
    (case yyk28 => k_is)
    (case yya29 => k_is)
    (case yyl29 => k_is)
    (case yye29 => k_is)
    (case yyk29 => k_is)
    (case yya30 => k_is)
    (case yyl30 => k_is)
    (case yye30 => k_is)
    (case yyk30 => k_is)
    (case yya31 => k_is)
    (case yyl31 => k_is)
    (case yye31 => k_is)
    (case yyk31 => k_is)
    (case yya32 => k_is)
    (case yyl32 => k_is)
    (case yye32 => k_is)
    (case yyk32 => k_is)
    (case yya33 => k_is)
    (case yyl33 => k_is)
    (case yye33 => k_is)
    (case yyk33 => k_is)
    (case yya34 => k_is)
    (case yyl34 => k_is)
    (case yye34 => k_is)
    (case yyk34 => k_is)
    (case yya35 => k_is)
    (case yyl35 => k_is)
    (case yye35 => k_is)
    (case yyk35 => k_is)
    (case yya36 => k_is)
    (case yyl36 => k_is)
    (case yye36 => k_is)
    (case yyk36 => k_is)
    (case yya37 => k_is)
    (case yyl37 => k_is)
    (case yye37 => k_is)
    (case yyk37 => k_is)
    (case yya38 => k_is)
    (case yyl38 => k_is)
    (case yye38 => k_is)
    (case yyk38 => k_is)
    (case yya39 => k_is)
    (case yyl39 => k_is)
    (case yye39 => k_is)
    (case yyk39 => k_is)
    (case yya40 => k_is)
    (case yyl40 => k_is)
    (case yye40 => k_is)
    (case yyk40 => k_is)
    (case yya41 => k_is)
    (case yyl41 => k_is)
    (case yye41 => k_is)
    (case yyk41 => k_is)
    (case yyaC => k_is)
    (case yyaC0 => k_is)
    (case yyiC0 => k_is)
    (case yylC0 => k_is)
    (case yyeC0 => k_is)
    (case yykC0 => k_is)
    (case yyaC1 => k_is)
    (case yyiC1 => k_is)
    (case yylC1 => k_is)
    (case yyeC1 => k_is)
    (case yykC1 => k_is)
    (case yyaC2 => k_is)
    (case yyiC2 => k_is)
    (case yylC2 => k_is)
    (case yyeC2 => k_is)
    (case yykC2 => k_is)
    (case yyaC3 => k_is)
    (case yyiC3 => k_is)
    (case yylC3 => k_is)
    (case yyeC3 => k_is)
    (case yykC3 => k_is)
    (case yyaC4 => k_is)
    (case yyiC4 => k_is)
    (case yylC4 => k_is)
    (case yyeC4 => k_is)
    (case yykC4 => k_is)
    (case yyaC5 => k_is)
    (case yyiC5 => k_is)
    (case yylC5 => k_is)
    (case yyeC5 => k_is)
    (case yykC5 => k_is)
    (case yyaC6 => k_is)
    (case yyiC6 => k_is)
    (case yylC6 => k_is)
    (case yyeC6 => k_is)
    (case yykC6 => k_is)
    (case yyaC7 => k_is)
    (case yyiC7 => k_is)
    (case yylC7 => k_is)
    (case yyeC7 => k_is)
    (case yykC7 => k_is)
    (case yyaC8 => k_is)
    (case yyiC8 => k_is)
    (case yylC8 => k_is)
    (case yyeC8 => k_is)
    (case yykC8 => k_is)
    (case yypgC => k_is)
    (case yyhdC => k_is)
    (case yypoC => k_is)
    (case yysaC => k_is)
    (case yymkC => k_is)
    (case yykcC => k_is)
    (case yynC_base => k_is)
    (case yynC_outset => k_is)
    (case yynC_steps => k_is)
    (case yynC_layers => k_is)
    (case yyaCS => k_is)
    (case yyaCS0 => k_is)
    (case yyiCS0 => k_is)
    (case yylCS0 => k_is)
    (case yyeCS0 => k_is)
    (case yykCS0 => k_is)
    (case yyaCS1 => k_is)
    (case yyiCS1 => k_is)
    (case yylCS1 => k_is)
    (case yyeCS1 => k_is)
    (case yykCS1 => k_is)
    (case yyaCS2 => k_is)
    (case yyiCS2 => k_is)
    (case yylCS2 => k_is)
    (case yyeCS2 => k_is)
    (case yykCS2 => k_is)
    (case yyaCS3 => k_is)
    (case yyiCS3 => k_is)
    (case yylCS3 => k_is)
    (case yyeCS3 => k_is)
    (case yykCS3 => k_is)
    (case yyaCS4 => k_is)
    (case yyiCS4 => k_is)
    (case yylCS4 => k_is)
    (case yyeCS4 => k_is)
    (case yykCS4 => k_is)
    (case yyaCS5 => k_is)
    (case yyiCS5 => k_is)
    (case yylCS5 => k_is)
    (case yyeCS5 => k_is)
    (case yykCS5 => k_is)
    (case yypgCS => k_is)
    (case yyhdCS => k_is)
    (case yypoCS => k_is)
    (case yysaCS => k_is)
    (case yymkCS => k_is)
    (case yykcCS => k_is)
    (case yynCS_tails => k_is)
    (case yynCS_weights => k_is)
    (case yynCS_layers => k_is)
    (case yyg0 => k_is)
    (case yyg1 => k_is)
    (case yyg2 => k_is)
    (case yyg3 => k_is)
    (case yyg4 => k_is)
    (case yyz0 => k_is)
    (case yyz1 => k_is)
    (case yyz2 => k_is)
    (case yyz3 => k_is)
    (case yyz4 => k_is)
    (case yyz5 => k_is)
    (case yyz6 => k_is)
    (case yyz7 => k_is)
    (case yyz8 => k_is)
    (case yyz9 => k_is)
    (case yyz10 => k_is)
    (case yyz11 => k_is)
    (case yyz12 => k_is)
    (case yyz13 => k_is)
    (case yyz14 => k_is)
    (case yyz15 => k_is)
    (case yyz16 => k_is)
    (case yyz17 => k_is)
    (case yyz18 => k_is)
