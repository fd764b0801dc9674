import PyProof.Rows.All
import Wide.All
import OpenK.AllK
import Wide.FinOn
import Lean
import PyProof.EqAt
import PyProof.EqKinds
import PyProof.TupleCall
import PyProof.NeKinds
import KE.KRevSl
import KE.KRevIter
import PyProof.ConsumeWalk
import KE.KSortAsk
import KE.KSortTup
import KE.KDictSum
import PyProof.LongRange
import PyProof.Rows.SumAny
import PyProof.EnumStmt
import PyProof.EnumMake
import PyProof.Rows.EnumRows
import PyProof.Rows.FactsN_abs
import KE.KLam
import PySem.Challenge.RW_lackstretch_k31_whole_together_and_each
set_option Elab.async false
set_option linter.all false
set_option maxRecDepth 100000
namespace L2
open PySem PySem.Spec PyProof.Rows
abbrev Key := Sum Int Str
def keyIs : Key → Value → Bool
  | .inl k, v => Value.isInt k v
  | .inr x, v => Value.isStrOf x v
def keyH (w : World) : Key → Int
  | .inl k => hashInt k
  | .inr x => hashStr w x
theorem keyIs_shape : ∀ {k : Key} {v : Value}, keyIs k v = true → (∃ i t, k = Sum.inl i ∧ v = Value.int i t) ∨ (∃ x t, k = Sum.inr x ∧ v = Value.str x t)
  | .inl i, v, h => by
    obtain ⟨t, e⟩ := Value.isInt_shape (k := i) (v := v) h
    exact .inl ⟨i, t, rfl, e⟩
  | .inr x, v, h => by
    obtain ⟨t, e⟩ := Value.isStrOf_shape (x := x) (v := v) h
    exact .inr ⟨x, t, rfl, e⟩
theorem keyIs_int (i : Int) (t : Tok) : keyIs (.inl i) (.int i t) = true := by simp [keyIs, Value.isInt]
theorem keyIs_str (x : Str) (t : Tok) : keyIs (.inr x) (.str x t) = true := by simp [keyIs, Value.isStrOf]
theorem key_ll (a b : Int) : decide ((Sum.inl a : Key) = Sum.inl b) = (a == b) := by
  by_cases e : a = b
  · subst e; simp
  · have h : ¬ (Sum.inl a : Key) = Sum.inl b := fun q => e (Sum.inl.inj q)
    rw [decide_eq_false h]
    exact (beq_eq_false_iff_ne.mpr e).symm
theorem key_rr (a b : Str) : decide ((Sum.inr a : Key) = Sum.inr b) = decide (a = b) := by
  by_cases e : a = b
  · subst e; simp
  · have h : ¬ (Sum.inr a : Key) = Sum.inr b := fun q => e (Sum.inr.inj q)
    rw [decide_eq_false h, decide_eq_false e]
theorem key_lr (a : Int) (b : Str) : decide ((Sum.inl a : Key) = Sum.inr b) = false := decide_eq_false (fun q => nomatch q)
theorem key_rl (a : Str) (b : Int) : decide ((Sum.inr a : Key) = Sum.inl b) = false := decide_eq_false (fun q => nomatch q)
def mixKind (prog : Program) (w : World) : PySem.KeyKind prog w Key where
  is := keyIs
  hash := keyH w
  inj := fun v a b ha hb => by
    rcases keyIs_shape ha with ⟨i, t, rfl, rfl⟩ | ⟨x, t, rfl, rfl⟩
    · rcases keyIs_shape hb with ⟨j, u, rfl, e⟩ | ⟨y, u, rfl, e⟩
      · injection e with e1 _; rw [e1]
      · exact nomatch e
    · rcases keyIs_shape hb with ⟨j, u, rfl, e⟩ | ⟨y, u, rfl, e⟩
      · exact nomatch e
      · injection e with e1 _; rw [e1]
  byValue := fun k v h => by
    rcases keyIs_shape h with ⟨i, t, rfl, rfl⟩ | ⟨x, t, rfl, rfl⟩ <;> rfl
  pyHash := fun hv h => by
    rcases keyIs_shape hv with ⟨i, t, rfl, rfl⟩ | ⟨x, t, rfl, rfl⟩
    · exact wpAny_pyHash_int h
    · exact wpAny_pyHash_str h
  eqBool := fun hu hv h => by
    rcases keyIs_shape hu with ⟨i, t, rfl, rfl⟩ | ⟨x, t, rfl, rfl⟩
    · rcases keyIs_shape hv with ⟨j, u, rfl, rfl⟩ | ⟨y, u, rfl, rfl⟩
      · rw [key_ll] at h; exact wpAny_eqBool_int h
      · rw [key_lr] at h; exact SeqAt.EqAt.int_str i t y u _ _ _ _ h
    · rcases keyIs_shape hv with ⟨j, u, rfl, rfl⟩ | ⟨y, u, rfl, rfl⟩
      · rw [key_rl] at h; exact SeqAt.EqAt.str_int x t j u _ _ _ _ h
      · rw [key_rr] at h; exact wpAny_eqBool_str h
  «strs» := fun k x t v h => by
    rcases keyIs_shape h with ⟨i, u, rfl, e⟩ | ⟨y, u, rfl, e⟩
    · exact nomatch e
    · injection e with e1 _
      subst e1
      cases v <;> rfl
theorem mixKind_int (prog : Program) (w : World) (i : Int) (t : Tok) : (mixKind prog w).is (.inl i) (.int i t) = true := keyIs_int i t
theorem mixKind_str (prog : Program) (w : World) (x : Str) (t : Tok) : (mixKind prog w).is (.inr x) (.str x t) = true := keyIs_str x t
end L2
namespace L2
open PySem PySem.Spec PyProof.Rows
inductive V where
  | non | bl (b : Bool) | int (i : Int) | str (x : Str) | byt (b : Array UInt8) | flt (b : UInt64) | ref (a : Addr) | ty (n : String)
  deriving DecidableEq
def RelV : V → Value → Prop
  | .non, u => u = Value.none
  | .bl b, u => u = Value.bool b
  | .int i, u => ∃ t, u = Value.int i t
  | .str x, u => ∃ t, u = Value.str x t
  | .byt b, u => ∃ t, u = Value.bytes b t
  | .flt b, u => ∃ t, u = Value.float b t
  | .ref a, u => u = Value.ref a
  | .ty n, u => u = Value.type n
abbrev Vals : List V → List Value → Prop := Paired RelV
theorem Vals.length {xs : List V} {us : List Value} (r : Vals xs us) : xs.length = us.length := Paired.length r
theorem Vals.get : ∀ {xs : List V} {us : List Value} {i : Nat} {x : V}, Vals xs us → xs[i]? = some x → ∃ u, us[i]? = some u ∧ RelV x u
  | _, _, _, _, .nil, e => by simp at e
  | _, _, 0, _, .cons r _, e => by simp at e; subst e; exact ⟨_, rfl, r⟩
  | _, _, i + 1, x, .cons _ t, e => by
    obtain ⟨u, h1, h2⟩ := Vals.get (i := i) (x := x) t (by simpa using e)
    exact ⟨u, by simpa using h1, h2⟩
theorem Vals.set {x : V} {u : Value} (r : RelV x u) : ∀ {xs : List V} {us : List Value} (i : Nat), Vals xs us → Vals (xs.set i x) (us.set i u)
  | _, _, _, .nil => .nil
  | _, _, 0, .cons _ t => .cons r t
  | _, _, i + 1, .cons q t => .cons q (Vals.set r i t)
theorem Vals.append : ∀ {xs ys : List V} {us ws : List Value}, Vals xs us → Vals ys ws → Vals (xs ++ ys) (us ++ ws)
  | _, _, _, _, .nil, s => s
  | _, _, _, _, .cons r t, s => .cons r (Vals.append t s)
theorem Vals.take : ∀ {xs : List V} {us : List Value} (n : Nat), Vals xs us → Vals (xs.take n) (us.take n)
  | _, _, 0, _ => .nil
  | _, _, _ + 1, .nil => .nil
  | _, _, n + 1, .cons r t => .cons r (Vals.take n t)
theorem Vals.drop : ∀ {xs : List V} {us : List Value} (n : Nat), Vals xs us → Vals (xs.drop n) (us.drop n)
  | _, _, 0, r => r
  | _, _, _ + 1, .nil => .nil
  | _, _, n + 1, .cons _ t => Vals.drop n t
theorem Vals.none_of : ∀ {xs : List V} {us : List Value} {i : Nat}, Vals xs us → xs[i]? = none → us[i]? = none := fun {xs us i} r e => by
  have h1 := r.length
  have h2 : xs.length ≤ i := List.getElem?_eq_none_iff.mp e
  exact List.getElem?_eq_none_iff.mpr (by omega)
def RelO : Option V → Option Value → Prop
  | some v, some u => RelV v u
  | none, none => True
  | _, _ => False
def KV {κ : Type} : List (κ × V) → List (κ × Value) → Prop := Paired fun (p : κ × V) (q : κ × Value) => p.1 = q.1 ∧ RelV p.2 q.2
def kV : Key → V
  | .inl i => .int i
  | .inr x => .str x
inductive HO where
  | lst (xs : List V)
  | tup (xs : List V)
  | dK (kvs : List (Key × V)) | dT (kvs : List (List Key × V))
  | set (S : Int → Bool) (n : Nat)
  | ins (C dx : Addr) (fs : List (Str × V))
  | own (x : Addr)
  | xd (fs : List (Str × V))
  | met (f x : Addr)
  | rng (lo hi : Int)
  | frz (o : Obj) (u : HO)
  | tbl (ps : Array Value)
  | ext (φ : Heap → Prop)
abbrev Hp := Addr → Option HO
def upd (H : Hp) (a : Addr) (o : HO) : Hp := fun b => if b = a then some o else H b
theorem upd_same {H : Hp} {a : Addr} {o : HO} : upd H a o a = some o := by unfold upd; rw [if_pos rfl]
theorem upd_ne {H : Hp} {a b : Addr} {o : HO} (h : b ≠ a) : upd H a o b = H b := by unfold upd; rw [if_neg h]
theorem upd_upd {H : Hp} {a : Addr} {o u : HO} : upd (upd H a o) a u = upd H a u := by
  funext b; unfold upd; split <;> rfl
theorem ne_of {H : Hp} {a b : Addr} {o u : HO} (h : H a = some o) (h' : H b = some u) (d : o ≠ u) : a ≠ b := by
  intro e; subst e; rw [h] at h'; exact d (Option.some.inj h')
theorem ne_of_none {H : Hp} {a b : Addr} {o : HO} (h : H a = some o) (h' : H b = none) : a ≠ b := by
  intro e; subst e; rw [h] at h'; cases h'
section
variable (P : Program) (w : World)
def ObjOk (H : Hp) (h : Heap) (a : Addr) : HO → Prop
  | .lst xs => xs.length ≤ sizeLine ∧ ∃ (its : List Value) (n : Nat), Vals xs its ∧ h.get? a = some { cls := .type "list", data := .seq its.toArray n }
  | .tup xs => xs.length ≤ sizeLine ∧ ∃ its : List Value, Vals xs its ∧ IsTup h a its.toArray
  | .dK kvs => kvs.length ≤ sizeLine ∧ (a == sysModules) = false ∧ ∃ vs, KV kvs vs ∧ h.DictOf (mixKind P w) a vs
  | .dT kvs => kvs.length ≤ sizeLine ∧ (a == sysModules) = false ∧ ∃ xs : List (List Key × Addr × Value),
      Paired (fun (p : List Key × V) (q : List Key × Addr × Value) => p.1 = q.1 ∧ H q.2.1 = some (.tup (p.1.map kV)) ∧ RelV p.2 q.2.2) kvs xs ∧
      ∃ o es ep, h.get? a = some o ∧ o.ExactDict ∧ o.data = .dict es ep ∧ es.toList = xs.map (entryOfKey (tupleKind (mixKind P w))) ∧ (xs.map (·.1)).Nodup
  | .set S n => h.SetOf (intKind P w) a S n
  | .ins C dx fs => H dx = some (.own a) ∧ fs.length ≤ 1000 ∧ dx ≠ a ∧ h.get? a = some (PySem.W.instObj C dx) ∧
      ∃ mA, h.Ns1 dx mA ∧ (∀ f, RelO (fs.lookup f) (mA f)) ∧ PySem.Within mA (fs.map (·.1))
  | .own _ => ∃ o, h.get? a = some o
  | .xd fs => ∃ mA, h.Ns1 a mA ∧ ∀ f, RelO (fs.lookup f) (mA f)
  | .rng lo hi => ∃ t u v, h.get? a = some { cls := .type "range", data := .fields #[.int lo t, .int hi u, .int 1 v] }
  | .frz o u => h.get? a = some o ∧ ObjOk H h a u
  | .tbl ps => h.get? a = some { cls := .none, data := .fields ps }
  | .met f x => h.get? a = some (PySem.W.methodObj (.ref f) (.ref x))
  | .ext φ => φ h ∧ (∃ o, h.get? a = some o) ∧ ∀ h1 h2 : Heap, φ h1 → (∀ o, h1.get? a = some o → h2.get? a = some o) → φ h2
def HOk (H : Hp) (h : Heap) : Prop := ∀ a o, H a = some o → ObjOk P w H h a o
end
section
variable {P : Program} {w : World} {H H' : Hp} {h h' : Heap} {a : Addr} {o : HO}
theorem ObjOk.lt (x : ObjOk P w H h a o) : a < h.objs.size := by
  cases o with
  | lst xs => obtain ⟨_, _, _, _, e⟩ := x; exact Heap.lt_size e
  | tup xs => obtain ⟨_, _, _, p⟩ := x; exact p.lt
  | dK kvs => obtain ⟨_, _, _, _, o, _, _, e, _⟩ := x; exact Heap.lt_size e
  | dT kvs => obtain ⟨_, _, _, _, o, _, _, e, _⟩ := x; exact Heap.lt_size e
  | set S n => obtain ⟨o, _, _, _, e, _⟩ := x; exact Heap.lt_size e
  | ins C dx fs => obtain ⟨_, _, _, e, _⟩ := x; exact Heap.lt_size e
  | own y => obtain ⟨_, e⟩ := x; exact Heap.lt_size e
  | xd fs => obtain ⟨_, ⟨_, _, _, e, _⟩, _⟩ := x; exact Heap.lt_size e
  | rng lo hi => obtain ⟨_, _, _, e⟩ := x; exact Heap.lt_size e
  | frz ob u => obtain ⟨e, _⟩ := x; exact Heap.lt_size e
  | tbl ps => exact Heap.lt_size (show h.get? a = some _ from x)
  | met f y => exact Heap.lt_size (show h.get? a = some _ from x)
  | ext φ => obtain ⟨_, ⟨_, e⟩, _⟩ := x; exact Heap.lt_size e
theorem Paired.mapP {α β : Type} {F G : α → β → Prop} : ∀ {l₁ : List α} {l₂ : List β}, Paired F l₁ l₂ → (∀ a b, F a b → G a b) → Paired G l₁ l₂
  | _, _, .nil, _ => .nil
  | _, _, .cons r t, f => .cons (f _ _ r) (Paired.mapP t f)
theorem ObjOk.stay (x : ObjOk P w H h a o) (k : ∀ b u, (b = a ∨ H b = some (.own a)) → h.get? b = some u → h'.get? b = some u)
    (ho : ∀ b, H b = some (.own a) → H' b = some (.own a)) (ht : ∀ b xs, H b = some (.tup xs) → H' b = some (.tup xs)) : ObjOk P w H' h' a o := by
  induction o with
  | lst xs => obtain ⟨z, its, n, r, e⟩ := x; exact ⟨z, its, n, r, k _ _ (.inl rfl) e⟩
  | tup xs => obtain ⟨z, its, r, ob, e, c⟩ := x; exact ⟨z, its, r, ob, k _ _ (.inl rfl) e, c⟩
  | dK kvs => obtain ⟨z, y, vs, r, ob, es, ep, e, c⟩ := x; exact ⟨z, y, vs, r, ob, es, ep, k _ _ (.inl rfl) e, c⟩
  | dT kvs =>
    obtain ⟨z, y, xs, r, ob, es, ep, e, c⟩ := x
    exact ⟨z, y, xs, Paired.mapP r fun p q z => ⟨z.1, ht _ _ z.2.1, z.2.2⟩, ob, es, ep, k _ _ (.inl rfl) e, c⟩
  | set S n => obtain ⟨ob, es, ep, t, e, c⟩ := x; exact ⟨ob, es, ep, t, k _ _ (.inl rfl) e, c⟩
  | ins C dx fs =>
    obtain ⟨d, z, ne, e, mA, ⟨od, es, ep, e2, c⟩, r⟩ := x
    exact ⟨ho _ d, z, ne, k _ _ (.inl rfl) e, mA, ⟨od, es, ep, k _ _ (.inr d) e2, c⟩, r⟩
  | own y => obtain ⟨ob, e⟩ := x; exact ⟨ob, k _ _ (.inl rfl) e⟩
  | xd fs => obtain ⟨mA, ⟨od, es, ep, e, c⟩, r⟩ := x; exact ⟨mA, ⟨od, es, ep, k _ _ (.inl rfl) e, c⟩, r⟩
  | rng lo hi => obtain ⟨t, u, v, e⟩ := x; exact ⟨t, u, v, k _ _ (.inl rfl) e⟩
  | frz ob u ih => obtain ⟨e, q⟩ := x; exact ⟨k _ _ (.inl rfl) e, ih q⟩
  | tbl ps =>
    have e : h.get? a = some { cls := .none, data := .fields ps } := x
    show h'.get? a = some { cls := .none, data := .fields ps }
    exact k a _ (.inl rfl) e
  | met f y =>
    have e : h.get? a = some (PySem.W.methodObj (.ref f) (.ref y)) := x
    show h'.get? a = some (PySem.W.methodObj (.ref f) (.ref y))
    exact k a _ (.inl rfl) e
  | ext φ => obtain ⟨p, ⟨o, e⟩, st⟩ := x; exact ⟨st _ _ p fun o q => k _ _ (.inl rfl) q, ⟨o, k _ _ (.inl rfl) e⟩, st⟩
theorem HOk.lt (x : HOk P w H h) (e : H a = some o) : a < h.objs.size := (x a o e).lt
theorem HOk.fresh (x : HOk P w H h) (e : h.objs.size ≤ a) : H a = none := by
  cases q : H a with
  | none => rfl
  | some u => exact absurd (Nat.lt_of_lt_of_le (x.lt q) e) (Nat.lt_irrefl _)
theorem HOk.kept (x : HOk P w H h) (k : ∀ b u, h.get? b = some u → h'.get? b = some u) : HOk P w H h' := fun a o e =>
  (x a o e).stay (fun b u _ q => k b u q) (fun _ q => q) fun _ _ q => q
theorem HOk.laid (x : HOk P w H h) (k : ∀ b u, h.get? b = some u → h'.get? b = some u) (hp : h.objs.size ≤ a) (new : ObjOk P w (upd H a o) h' a o) : HOk P w (upd H a o) h' := fun b u e => by
  have hn := x.fresh hp
  by_cases hb : b = a
  · subst hb; rw [upd_same] at e; cases e; exact new
  · rw [upd_ne hb] at e
    exact (x b u e).stay (fun c v _ q => k c v q) (fun c q => by rw [upd_ne (ne_of_none q hn)]; exact q) fun c xs q => by rw [upd_ne (ne_of_none q hn)]; exact q
end
def Rd (H : Hp) (a : Addr) (u : HO) : Prop := H a = some u ∨ ∃ o, H a = some (.frz o u)
theorem Rd.of {H : Hp} {a : Addr} {u : HO} (h : H a = some u) : Rd H a u := .inl h
theorem Rd.ok {P : Program} {w : World} {H : Hp} {h : Heap} {a : Addr} {u : HO} (r : Rd H a u) (x : HOk P w H h) : ObjOk P w H h a u := by
  rcases r with r | ⟨o, r⟩
  · exact x a u r
  · obtain ⟨_, q⟩ := x a _ r
    exact q
def Mut : Option HO → Prop
  | some (.lst _) => True
  | some (.dK _) => True
  | some (.dT _) => True
  | some (.set _ _) => True
  | some (.ins _ _ _) => True
  | some (.ext _) => True
  | _ => False
section
variable {P : Program} {w : World} {H : Hp} {h h' : Heap} {x e : Addr} {o' : HO}
theorem HOk.write (ok : HOk P w H h) (mu : Mut (H x)) (he : e = x ∨ H e = some (.own x)) (k : ∀ b u, b ≠ e → h.get? b = some u → h'.get? b = some u) (heo : ∃ u, h'.get? e = some u)
    (new : ObjOk P w (upd H x o') h' x o') : HOk P w (upd H x o') h' := fun b u q => by
  have nown : ∀ c y, H c = some (.own y) → c ≠ x := fun c y r z => by subst z; rw [r] at mu; exact mu
  have ntup : ∀ c xs, H c = some (.tup xs) → c ≠ x := fun c xs r z => by subst z; rw [r] at mu; exact mu
  by_cases hb : b = x
  · subst hb; rw [upd_same] at q; cases q; exact new
  · rw [upd_ne hb] at q
    by_cases hbe : b = e
    · have q' : H b = some (.own x) := by
        rcases he with z | z
        · exact absurd (hbe.trans z) hb
        · rw [hbe]; exact z
      rw [q] at q'; cases q'
      obtain ⟨v, hv⟩ := heo
      exact ⟨v, by rw [hbe]; exact hv⟩
    · refine (ok b u q).stay (fun c v hc r => k c v ?_ r) (fun c r => by rw [upd_ne (nown c b r)]; exact r) fun c xs r => by rw [upd_ne (ntup c xs r)]; exact r
      rcases hc with rfl | hc
      · exact hbe
      · rintro rfl
        rcases he with z | z
        · exact nown c b hc z
        · rw [hc] at z; cases z; exact hb rfl
end
structure Un (fs ex : List Addr) (H H' : Hp) (h h' : Heap) : Prop where
  keep : ∀ b o, h.get? b = some o → H b = none → b ∉ fs → b ∉ ex → h'.get? b = some o
  slot : ∀ b o, h.get? b = some o → H b = none → b ∈ fs → b ∉ ex → ∃ sl, h'.get? b = some { o with slots := sl }
  free : ∀ b o, h.get? b = some o → H b = none → b ∉ ex → H' b = none
  there : ∀ b o, h.get? b = some o → b ∉ ex → ∃ o', h'.get? b = some o'
  tups : ∀ b xs, H b = some (.tup xs) → H' b = some (.tup xs)
  frzs : ∀ b o u, H b = some (.frz o u) → H' b = some (.frz o u)
  tbls : ∀ b ps, H b = some (.tbl ps) → ∃ more, H' b = some (.tbl (ps ++ more))
section
variable {fs fs' ex ex' : List Addr} {H H1 H2 : Hp} {h h1 h2 h' : Heap} {a x e : Addr} {o : HO}
theorem Un.any (u : Un fs ex H H1 h h1) {b : Addr} {ob : Obj} (q : h.get? b = some ob) (n : H b = none) (hx : b ∉ ex) : ∃ sl, h1.get? b = some { ob with slots := sl } := by
  by_cases hb : b ∈ fs
  · exact u.slot b ob q n hb hx
  · exact ⟨ob.slots, u.keep b ob q n hb hx⟩
theorem Un.trans (a : Un fs ex H H1 h h1) (b : Un fs ex H1 H2 h1 h2) : Un fs ex H H2 h h2 where
  keep := fun c ob q n hc hx => b.keep c ob (a.keep c ob q n hc hx) (a.free c ob q n hx) hc hx
  slot := fun c ob q n hc hx => by
    obtain ⟨sl, e1⟩ := a.slot c ob q n hc hx
    obtain ⟨sl', e2⟩ := b.slot c _ e1 (a.free c ob q n hx) hc hx
    exact ⟨sl', e2⟩
  free := fun c ob q n hx => by
    obtain ⟨o', e1⟩ := a.there c ob q hx
    exact b.free c o' e1 (a.free c ob q n hx) hx
  there := fun c ob q hx => by
    obtain ⟨o', e1⟩ := a.there c ob q hx
    exact b.there c o' e1 hx
  tups := fun c xs q => b.tups c xs (a.tups c xs q)
  frzs := fun c ob xs q => b.frzs c ob xs (a.frzs c ob xs q)
  tbls := fun c ps q => by
    obtain ⟨m1, e1⟩ := a.tbls c ps q
    obtain ⟨m2, e2⟩ := b.tbls c _ e1
    exact ⟨m1 ++ m2, by rw [e2, Array.append_assoc]⟩
theorem Un.kept (k : ∀ b u, h.get? b = some u → h'.get? b = some u) : Un fs ex H H h h' :=
  ⟨fun b ob q _ _ _ => k b ob q, fun b ob q _ _ _ => ⟨ob.slots, k b ob q⟩, fun _ _ _ n _ => n, fun b ob q _ => ⟨ob, k b ob q⟩, fun _ _ q => q, fun _ _ _ q => q, fun _ ps q => ⟨#[], by rw [q]; simp⟩⟩
theorem Un.refl : Un fs ex H H h h := Un.kept fun _ _ q => q
theorem Un.laid (k : ∀ b u, h.get? b = some u → h'.get? b = some u) (hp : h.objs.size ≤ a) (hn : H a = none) : Un fs ex H (upd H a o) h h' where
  keep := fun b u q _ _ _ => k b u q
  slot := fun b u q _ _ _ => ⟨u.slots, k b u q⟩
  free := fun b u q n _ => by rw [upd_ne (Nat.ne_of_lt (Nat.lt_of_lt_of_le (Heap.lt_size q) hp))]; exact n
  there := fun b u q _ => ⟨u, k b u q⟩
  tups := fun b xs q => by rw [upd_ne (ne_of_none q hn)]; exact q
  frzs := fun b u xs q => by rw [upd_ne (ne_of_none q hn)]; exact q
  tbls := fun b ps q => ⟨#[], by rw [upd_ne (ne_of_none q hn), q]; simp⟩
theorem Un.write (mu : Mut (H x)) (he : e = x ∨ H e = some (.own x)) (k : ∀ b u, b ≠ e → h.get? b = some u → h'.get? b = some u) (heo : ∃ u, h'.get? e = some u) : Un fs ex H (upd H x o) h h' := by
  have hx : ∀ b, H b = none → b ≠ x := fun b n z => by subst z; rw [n] at mu; exact mu
  have hb : ∀ b, H b = none → b ≠ e := fun b n z => by
    subst z
    rcases he with r | r
    · exact hx b n r
    · rw [n] at r; cases r
  have hm : ∀ b u, H b = some u → ¬ Mut (some u) → b ≠ x := fun b u q nm z => by subst z; rw [q] at mu; exact nm mu
  refine ⟨fun b u q n _ _ => k b u (hb b n) q, fun b u q n _ _ => ⟨u.slots, k b u (hb b n) q⟩, fun b u q n _ => by rw [upd_ne (hx b n)]; exact n, fun b u q _ => ?_,
    fun b xs q => by rw [upd_ne (hm b _ q fun z => z)]; exact q, fun b u xs q => by rw [upd_ne (hm b _ q fun z => z)]; exact q, fun b ps q => ⟨#[], by rw [upd_ne (hm b _ q fun z => z), q]; simp⟩⟩
  by_cases hbe : b = e
  · subst hbe; exact heo
  · exact ⟨u, k b u hbe q⟩
theorem Un.mono (u : Un fs ex H H1 h h1) (hs : ∀ b ∈ fs, b ∈ fs') (hx : ∀ b ∈ ex, b ∈ ex') : Un fs' ex' H H1 h h1 :=
  ⟨fun b ob q n hb he => u.keep b ob q n (fun z => hb (hs b z)) fun z => he (hx b z), fun _ _ q n _ he => u.any q n fun z => he (hx _ z), fun b ob q n he => u.free b ob q n fun z => he (hx b z), fun b ob q he => u.there b ob q fun z => he (hx b z), u.tups, u.frzs, u.tbls⟩
end
def trk (h : Heap) (H : Hp) : List Addr := (List.range h.objs.size).filter fun a => (H a).isSome
def hidT (h : Heap) (H : Hp) : Heap := PySem.W.hideAll h (trk h H)
theorem hidT_size (h : Heap) (H : Hp) : (hidT h H).objs.size = h.objs.size := PySem.W.hideAll_size _ _
theorem hidT_get {h : Heap} {H : Hp} {b : Addr} {o : Obj} (e : h.get? b = some o) (n : H b = none) : (hidT h H).get? b = some o :=
  PySem.W.hideAll_get _ e fun hm => by
    have q : (H b).isSome = true := (List.mem_filter.mp hm).2
    rw [n] at q; simp at q
theorem of_hidT {h : Heap} {H : Hp} {b : Addr} {o : Obj} (e : (hidT h H).get? b = some o) : h.get? b = some o ∧ H b = none := by
  have e' : h.get? b = some o := PySem.W.of_hideAll (trk h H) e
  refine ⟨e', ?_⟩
  cases q : H b with
  | none => rfl
  | some x =>
    have hm : b ∈ trk h H := List.mem_filter.mpr ⟨List.mem_range.mpr (Heap.lt_size e'), by simp [q]⟩
    have z : (hidT h H).get? b = none := PySem.W.hideAll_none (trk h H) hm
    rw [z] at e; cases e
def allNews (g h : Heap) (L : Addr) : List (Addr × Obj) := (List.range h.objs.size).filterMap fun a => if a = L ∨ (g.get? a).isSome = true then none else (h.get? a).map fun o => (a, o)
def rest (g h : Heap) (L d : Addr) : List (Addr × Obj) := (allNews g h L).filter fun p => decide (p.1 ≠ d)
end L2
namespace L2
open PySem PySem.Spec PyProof.Rows
structure Mod (K : PySem.W.Frag) (mg : Str → Option Value) (base : Heap) : Prop where
  kin : K.In base
  glob : base.Ns mainGlobals mg
  blt : ∃ mb, base.Ns builtinsNs mb ∧ ∀ x : Str, x ≠ "__name__" → mb x = bootBuiltins x
  nolimit : base.NoLimit
structure Cx where
  prog : Program
  w : World
  K : PySem.W.Frag
  mg : Str → Option Value
  base : Heap
  A : Around
  N : List Str
  s₀ : Shared
  H₀ : Hp
  env : Env
  outer : List Env
  stack : List Env
  ex : List Addr
  fn : Str → Bool
  calm : Bool
  pn : List (Addr × Obj)
  xe : Value → Shared → Prop
def frs (l : List Env) : List Addr := l.filterMap (·.frame)
abbrev Cx.fs (X : Cx) : List Addr := frs X.outer
def Vis (sc : Scope) (x : Str) : Prop := sc.names.lookup x = some .local ∨ sc.names.lookup x = some .cell ∨ sc.names.lookup x = some .free
def Loc (sc : Scope) (x : Str) : Prop := sc.names.lookup x = some .local ∨ sc.names.lookup x = some .cell
def Look (env : Env) (h : Heap) (m : Str → Option Value) (x : Str) (u : Value) : Prop :=
  (env.kindOf x = some .local ∧ m x = some u) ∨ ((env.kindOf x = some .cell ∨ env.kindOf x = some .free) ∧ ∃ c, env.cells.lookup x = some c ∧ h.IsCell c (some u))
structure Cx.Ok (X : Cx) : Prop where
  mod : Mod X.K X.mg X.base
  kind : X.env.scope.kind = .function
  glob : X.env.globals = mainGlobals
  blt : X.env.builtins = builtinsNs
  above : X.s₀.heap.objs.size ≤ X.env.locals
  inj : ∀ x y c, X.env.cells.lookup x = some c → X.env.cells.lookup y = some c → x = y
  has : ∀ x, (X.env.kindOf x = some .cell ∨ X.env.kindOf x = some .free) → ∃ c, X.env.cells.lookup x = some c
  cab : ∀ x c, X.fn x = true → X.env.cells.lookup x = some c → X.s₀.heap.objs.size ≤ c
  hd : X.calm = true → X.A.handled = none
  frames : X.A.frames = some X.stack
  stk : X.stack = X.outer ∨ (X.stack = X.env :: X.outer ∧ X.env.frame = some X.env.locals)
  exf : ∀ b ∈ X.ex, b ≠ X.env.locals ∧ ∀ x c, X.env.cells.lookup x = some c → c ≠ b
  bs : ∀ b o, X.base.get? b = some o → X.s₀.heap.get? b = some o ∧ X.H₀ b = none
  bsz : X.base.objs.size ≤ X.s₀.heap.objs.size
  noex : ∀ b o, X.base.get? b = some o → b ∉ X.ex
  exfs : ∀ b ∈ X.ex, b ∉ X.fs
  funs : X.s₀.heap.FunFrames X.base X.outer
  frf : ∀ b ∈ X.fs, X.H₀ b = none
structure Inv (X : Cx) (pins : List (Addr × Obj)) (σ : List (Option V)) (H : Hp) (s : Shared) : Prop where
  ok : X.Ok
  os : s.os = X.s₀.os
  bare : AllBare s.gens
  base : Un X.fs X.ex X.H₀ H X.s₀.heap s.heap
  loc : ∃ m, s.heap.Ns X.env.locals m ∧ ∀ (i : Nat) (x : Str) (v : V), X.N[i]? = some x → σ[i]? = some (some v) → Vis X.env.scope x → ∃ u, RelV v u ∧ Look X.env s.heap m x u
  cell : ∀ x c, X.env.cells.lookup x = some c → ∃ v, s.heap.IsCell c v
  free : H X.env.locals = none
  freeC : ∀ x c, X.env.cells.lookup x = some c → H c = none
  pin : ∀ p ∈ X.pn ++ pins, s.heap.get? p.1 = some p.2 ∧ H p.1 = none ∧ p.1 ≠ X.env.locals ∧ p.1 ∉ X.fs ∧ ∀ v, p.2.data ≠ .cell v
  hok : HOk X.prog X.w H s.heap
  len : σ.length = X.N.length
section
variable {X : Cx} {pins : List (Addr × Obj)} {σ : List (Option V)} {H H' : Hp} {s : Shared} {h' : Heap}
theorem Cx.Ok.nofr (ok : X.Ok) {b : Addr} {o : Obj} (e : X.base.get? b = some o) : b ∉ X.fs := fun hb => by
  have := (ok.funs.mem hb).1
  rw [e] at this; cases this
theorem Inv.bs (I : Inv X pins σ H s) : ∀ b o, X.base.get? b = some o → s.heap.get? b = some o ∧ H b = none := fun b o e =>
  ⟨I.base.keep b o (I.ok.bs b o e).1 (I.ok.bs b o e).2 (I.ok.nofr e) (I.ok.noex b o e), I.base.free b o (I.ok.bs b o e).1 (I.ok.bs b o e).2 (I.ok.noex b o e)⟩
theorem Inv.bk (I : Inv X pins σ H s) : ∀ b o, X.base.get? b = some o → s.heap.get? b = some o := fun b o e => (I.bs b o e).1
theorem Inv.mod (I : Inv X pins σ H s) : Mod X.K X.mg X.base := I.ok.mod
theorem Inv.kIn (I : Inv X pins σ H s) : X.K.In s.heap := I.ok.mod.kin.keeps I.bk
theorem Inv.nolimit (I : Inv X pins σ H s) : s.heap.NoLimit := I.ok.mod.nolimit.keeps I.bk
theorem Inv.fr (I : Inv X pins σ H s) : ∃ m, Fr X.base X.env.locals s.heap m :=
  let ⟨m, hn, _⟩ := I.loc
  ⟨m, hn, I.bk, Nat.le_trans I.ok.bsz I.ok.above⟩
theorem Inv.lt (I : Inv X pins σ H s) : X.env.locals < s.heap.objs.size := let ⟨_, hn, _⟩ := I.loc; hn.lt
theorem Inv.sz (I : Inv X pins σ H s) : X.s₀.heap.objs.size ≤ s.heap.objs.size := Nat.le_trans I.ok.above (Nat.le_of_lt I.lt)
theorem Inv.nofs (I : Inv X pins σ H s) {a : Addr} (h : s.heap.objs.size ≤ a) : a ∉ X.fs := fun hb => by
  obtain ⟨_, o, ho, _⟩ := I.ok.funs.mem hb
  exact absurd (Nat.lt_of_lt_of_le (Heap.lt_size ho) (Nat.le_trans I.sz h)) (Nat.lt_irrefl _)
theorem Inv.cne (I : Inv X pins σ H s) : ∀ x c, X.env.cells.lookup x = some c → c ≠ X.env.locals := fun x c e z => by
  obtain ⟨v, o, ho, hd⟩ := I.cell x c e
  obtain ⟨m, ⟨o', es, ep, ho', hd', _⟩, _⟩ := I.loc
  rw [z, ho'] at ho; cases ho; rw [hd'] at hd; cases hd
theorem Inv.funs (I : Inv X pins σ H s) : s.heap.FunFrames X.base X.outer := by
  have all : ∀ (l : List Env), (∀ b ∈ frs l, b ∈ X.fs) → X.s₀.heap.FunFrames X.base l → s.heap.FunFrames X.base l := by
    intro l
    induction l with
    | nil => intro _ _; trivial
    | cons env r ih =>
      intro hs hl
      obtain ⟨hk, ⟨L, o, hf, hn, ho, hd⟩, hr⟩ := hl
      have hL : L ∈ X.fs := hs L (by unfold frs; rw [List.filterMap_cons, hf]; exact List.mem_cons_self)
      obtain ⟨sl, e⟩ := I.base.slot L o ho (I.ok.frf L hL) hL fun z => I.ok.exfs L z hL
      exact ⟨hk, ⟨L, _, hf, hn, e, hd⟩, ih (fun b hb => hs b (by unfold frs; rw [List.filterMap_cons, hf]; exact List.mem_cons_of_mem _ hb)) hr⟩
  exact all X.outer (fun _ hb => hb) I.ok.funs
theorem Inv.stack (I : Inv X pins σ H s) : s.heap.FunFrames X.base X.stack := by
  rcases I.ok.stk with e | ⟨e, hf⟩
  · rw [e]; exact I.funs
  · rw [e]
    obtain ⟨m, hn, _⟩ := I.loc
    refine .cons (by rw [I.ok.kind]; decide) hf hn ?_ I.funs
    exact Heap.get?_none_of_le (Nat.le_trans I.ok.bsz I.ok.above)
theorem Inv.stkSub (I : Inv X pins σ H s) : ∀ b ∈ frs X.stack, b ∈ X.env.locals :: X.fs := fun b hb => by
  rcases I.ok.stk with e | ⟨e, hf⟩
  · rw [e] at hb; exact List.mem_cons_of_mem _ hb
  · rw [e] at hb
    unfold frs at hb
    rw [List.filterMap_cons, hf] at hb
    exact hb
theorem Inv.stkFree (I : Inv X pins σ H s) : ∀ b ∈ frs X.stack, H b = none := fun b hb => by
  rcases List.mem_cons.mp (I.stkSub b hb) with e | hb
  · rw [e]; exact I.free
  · obtain ⟨_, o, ho, _⟩ := I.ok.funs.mem hb
    exact I.base.free b o ho (I.ok.frf b hb) fun z => I.ok.exfs b z hb
theorem Inv.step {g' : Array GenState} {t' : Nat} {d' : Drawn} {ch : List Addr} (I : Inv X pins σ H s)
    (hch : ∀ b ∈ ch, (b ∈ X.ex ∨ X.s₀.heap.objs.size ≤ b) ∧ b ≠ X.env.locals ∧ (∀ x c, X.env.cells.lookup x = some c → c ≠ b) ∧ ∀ p ∈ X.pn ++ pins, p.1 ≠ b)
    (keep : ∀ b o, b ≠ X.env.locals → b ∉ X.fs → b ∉ ch → s.heap.get? b = some o → H b = none → h'.get? b = some o)
    (slot : ∀ b o, b ≠ X.env.locals → b ∈ X.fs → b ∉ ch → s.heap.get? b = some o → H b = none → ∃ sl, h'.get? b = some { o with slots := sl }) (free : ∀ b o, b ∉ ch → s.heap.get? b = some o → H b = none → H' b = none)
    (there : ∀ b o, b ∉ ch → s.heap.get? b = some o → ∃ o', h'.get? b = some o')
    (tups : ∀ b xs, H b = some (.tup xs) → H' b = some (.tup xs)) (frzs : ∀ b o u, H b = some (.frz o u) → H' b = some (.frz o u)) (tbls : ∀ b ps, H b = some (.tbl ps) → ∃ more, H' b = some (.tbl (ps ++ more)))
    (ns : ∀ m, s.heap.Ns X.env.locals m → h'.Ns X.env.locals m) (hok : HOk X.prog X.w H' h') (hg : AllBare g') :
    Inv X pins σ H' { s with heap := h', gens := g', drawn := d', toks := t' } := by
  have neL : ∀ b o, X.s₀.heap.get? b = some o → b ≠ X.env.locals := fun b o e => Nat.ne_of_lt (Nat.lt_of_lt_of_le (Heap.lt_size e) I.ok.above)
  have neC : ∀ b o, X.s₀.heap.get? b = some o → b ∉ X.ex → b ∉ ch := fun b o e hx hb => by
    rcases (hch b hb).1 with z | z
    · exact hx z
    · exact absurd (Nat.lt_of_lt_of_le (Heap.lt_size e) z) (Nat.lt_irrefl _)
  have cellK : ∀ x c, X.env.cells.lookup x = some c → ∀ v, s.heap.IsCell c v → h'.IsCell c v := fun x c e v ⟨o, ho, hd⟩ => by
    have nch : c ∉ ch := fun z => (hch c z).2.2.1 x c e rfl
    by_cases hc : c ∈ X.fs
    · obtain ⟨sl, q⟩ := slot c o (I.cne x c e) hc nch ho (I.freeC x c e)
      exact ⟨_, q, hd⟩
    · exact ⟨o, keep c o (I.cne x c e) hc nch ho (I.freeC x c e), hd⟩
  refine ⟨I.ok, I.os, hg, ⟨fun b o e n hb hx => ?_, fun b o e n hb hx => ?_, fun b o e n hx => ?_, fun b o e hx => ?_, fun b xs e => tups b xs (I.base.tups b xs e), fun b o xs e => frzs b o xs (I.base.frzs b o xs e), fun b ps e => ?_⟩, ?_, fun x c e => ?_, ?_, fun x c e => ?_, fun p hp => ?_, hok, I.len⟩
  · exact keep b o (neL b o e) hb (neC b o e hx) (I.base.keep b o e n hb hx) (I.base.free b o e n hx)
  · obtain ⟨sl, e1⟩ := I.base.slot b o e n hb hx
    obtain ⟨sl', e2⟩ := slot b _ (neL b o e) hb (neC b o e hx) e1 (I.base.free b o e n hx)
    exact ⟨sl', e2⟩
  · obtain ⟨o', e1⟩ := I.base.there b o e hx
    exact free b o' (neC b o e hx) e1 (I.base.free b o e n hx)
  · obtain ⟨o', e1⟩ := I.base.there b o e hx
    exact there b o' (neC b o e hx) e1
  · obtain ⟨m1, e1⟩ := I.base.tbls b ps e
    obtain ⟨m2, e2⟩ := tbls b _ e1
    exact ⟨m1 ++ m2, by rw [e2, Array.append_assoc]⟩
  · obtain ⟨m, hn, hl⟩ := I.loc
    refine ⟨m, ns m hn, fun i x v e1 e2 e3 => ?_⟩
    obtain ⟨u, r, l⟩ := hl i x v e1 e2 e3
    refine ⟨u, r, ?_⟩
    rcases l with l | ⟨k, c, e, z⟩
    · exact .inl l
    · exact .inr ⟨k, c, e, cellK x c e _ z⟩
  · obtain ⟨v, z⟩ := I.cell x c e
    exact ⟨v, cellK x c e v z⟩
  · obtain ⟨m, ⟨o, _, _, ho, _⟩, _⟩ := I.loc
    exact free _ o (fun z => (hch _ z).2.1 rfl) ho I.free
  · obtain ⟨v, o, ho, hd⟩ := I.cell x c e
    exact free c o (fun z => (hch c z).2.2.1 x c e rfl) ho (I.freeC x c e)
  · obtain ⟨e, n, ne, nf, d⟩ := I.pin p hp
    have nch : p.1 ∉ ch := fun z => (hch p.1 z).2.2.2 p hp rfl
    exact ⟨keep p.1 p.2 ne nf nch e n, free p.1 p.2 nch e n, ne, nf, d⟩
theorem Inv.un {t' : Nat} (I : Inv X pins σ H s) (u : Un X.fs [] H H' s.heap h') (hok : HOk X.prog X.w H' h') : Inv X pins σ H' { s with heap := h', toks := t' } := by
  obtain ⟨m, ⟨o, es, ep, ho, r⟩, _⟩ := id I.loc
  obtain ⟨sl, hL⟩ := u.any ho I.free (by simp)
  exact I.step (g' := s.gens) (d' := s.drawn) (ch := []) (fun _ z => nomatch z) (fun b o _ hb _ e n => u.keep b o e n hb (by simp)) (fun b o _ hb _ e n => u.slot b o e n hb (by simp)) (fun b o _ e n => u.free b o e n (by simp)) (fun b o _ e => u.there b o e (by simp)) u.tups u.frzs u.tbls (fun m' hm => by
    obtain ⟨o', es', ep', ho', r'⟩ := hm
    rw [ho] at ho'; cases ho'
    exact ⟨_, es', ep', hL, r'⟩) hok I.bare
theorem Inv.call {g' : Array GenState} {t' : Nat} {d' : Drawn} {ch : List Addr} (I : Inv X pins σ H s) (u : Un (frs X.stack) ch H H' s.heap h') (hok : HOk X.prog X.w H' h') (hg : AllBare g')
    (hch : ∀ b ∈ ch, (b ∈ X.ex ∨ X.s₀.heap.objs.size ≤ b) ∧ b ≠ X.env.locals ∧ (∀ x c, X.env.cells.lookup x = some c → c ≠ b) ∧ ∀ p ∈ X.pn ++ pins, p.1 ≠ b) :
    Inv X pins σ H' { s with heap := h', gens := g', drawn := d', toks := t' } := by
  obtain ⟨m, ⟨o, es, ep, ho, r⟩, _⟩ := id I.loc
  obtain ⟨sl, hL⟩ := u.any ho I.free fun z => (hch _ z).2.1 rfl
  exact I.step (ch := ch) hch (fun b o hL hb hc e n => u.keep b o e n (fun z => (List.mem_cons.mp (I.stkSub b z)).elim hL hb) hc) (fun b o _ _ hc e n => u.any e n hc) (fun b o hc e n => u.free b o e n hc) (fun b o hc e => u.there b o e hc) u.tups u.frzs u.tbls (fun m' hm => by
    obtain ⟨o', es', ep', ho', r'⟩ := hm
    rw [ho] at ho'; cases ho'
    exact ⟨_, es', ep', hL, r'⟩) hok hg
theorem Inv.turned {t' : Nat} {it : Addr} (I : Inv X pins σ H s) (k : ∀ b o, b ≠ it → s.heap.get? b = some o → h'.get? b = some o) (hn : H it = none) (hL : it ≠ X.env.locals)
    (h1 : it ∈ X.ex ∨ X.s₀.heap.objs.size ≤ it) (h2 : ∀ x c, X.env.cells.lookup x = some c → c ≠ it) (h3 : ∀ p ∈ X.pn ++ pins, p.1 ≠ it) : Inv X pins σ H { s with heap := h', toks := t' } := by
  have nit : ∀ b u, H b = some u → b ≠ it := fun b u e z => by rw [z, hn] at e; cases e
  refine I.step (g' := s.gens) (d' := s.drawn) (ch := [it]) (fun b hb => ?_) (fun b o _ _ hc e _ => k b o (fun z => hc (by simp [z])) e) (fun b o _ _ hc e _ => ⟨o.slots, k b o (fun z => hc (by simp [z])) e⟩) (fun _ _ _ _ n => n)
    (fun b o hc e => ⟨o, k b o (fun z => hc (by simp [z])) e⟩) (fun _ _ e => e) (fun _ _ _ e => e) (fun b ps e => ⟨#[], by rw [e]; simp⟩) (fun m hm => ?_) (fun b u e => ?_) I.bare
  · have e : b = it := by simpa using hb
    subst e
    exact ⟨h1, hL, h2, h3⟩
  · obtain ⟨o, es, ep, ho, r⟩ := hm
    exact ⟨o, es, ep, k _ o (Ne.symm hL) ho, r⟩
  · refine (I.hok b u e).stay (fun c v hc q => k c v ?_ q) (fun _ q => q) fun _ _ q => q
    rcases hc with z | z
    · rw [z]; exact nit b u e
    · exact nit c _ z
theorem Inv.tok (I : Inv X pins σ H s) (t : Nat) : Inv X pins σ H { s with toks := t } := I.un (h' := s.heap) (t' := t) Un.refl I.hok
theorem Inv.kept {t' : Nat} (I : Inv X pins σ H s) (k : ∀ b u, s.heap.get? b = some u → h'.get? b = some u) : Inv X pins σ H { s with heap := h', toks := t' } := I.un (Un.kept k) (I.hok.kept k)
theorem Inv.laid {a : Addr} {o : HO} {t' : Nat} (I : Inv X pins σ H s) (k : ∀ b u, s.heap.get? b = some u → h'.get? b = some u) (hp : s.heap.objs.size ≤ a) (new : ObjOk X.prog X.w (upd H a o) h' a o) :
    Inv X pins σ (upd H a o) { s with heap := h', toks := t' } := I.un (Un.laid k hp (I.hok.fresh hp)) (I.hok.laid k hp new)
theorem Inv.write {x e : Addr} {o : HO} {t' : Nat} (I : Inv X pins σ H s) (mu : Mut (H x)) (he : e = x ∨ H e = some (.own x)) (k : ∀ b u, b ≠ e → s.heap.get? b = some u → h'.get? b = some u) (heo : ∃ u, h'.get? e = some u)
    (new : ObjOk X.prog X.w (upd H x o) h' x o) : Inv X pins σ (upd H x o) { s with heap := h', toks := t' } := I.un (Un.write mu he k heo) (I.hok.write mu he k heo new)
theorem Inv.weak {σ' : List (Option V)} (I : Inv X pins σ H s) (hl : σ'.length = σ.length) (w : ∀ (i : Nat) v, σ'[i]? = some (some v) → σ[i]? = some (some v)) : Inv X pins σ' H s :=
  ⟨I.ok, I.os, I.bare, I.base, let ⟨m, hn, hl'⟩ := I.loc; ⟨m, hn, fun i x v e1 e2 e3 => hl' i x v e1 (w i v e2) e3⟩, I.cell, I.free, I.freeC, I.pin, I.hok, hl.trans I.len⟩
theorem Inv.pins_of {pins' : List (Addr × Obj)} (I : Inv X pins σ H s) (h : ∀ p ∈ pins', s.heap.get? p.1 = some p.2 ∧ H p.1 = none ∧ p.1 ≠ X.env.locals ∧ p.1 ∉ X.fs ∧ ∀ v, p.2.data ≠ .cell v) : Inv X pins' σ H s :=
  ⟨I.ok, I.os, I.bare, I.base, I.loc, I.cell, I.free, I.freeC, fun p hp => (List.mem_append.mp hp).elim (fun z => I.pin p (List.mem_append_left _ z)) (h p), I.hok, I.len⟩
theorem nodup_ix {N : List Str} (hN : N.Nodup) {i j : Nat} {x : Str} (a : N[i]? = some x) (b : N[j]? = some x) : i = j := by
  obtain ⟨h1, e1⟩ := List.getElem?_eq_some_iff.mp a
  obtain ⟨h2, e2⟩ := List.getElem?_eq_some_iff.mp b
  exact (List.getElem_inj hN).mp (e1.trans e2.symm)
theorem store_ok2 {M : Model} {A : Around} {E : Value → Shared → Prop} {i : Nat} {x : Str} {v : V} {u : Value} {Q : Unit → Shared → Prop} (I : Inv X pins σ H s) (hN : X.N.Nodup) (hi : X.N[i]? = some x) (hx : Loc X.env.scope x) (r : RelV v u)
    (h : ∀ s', Inv X pins (σ.set i (some v)) H s' → (∃ a, Heap.SameBut a s.heap s'.heap ∧ (a = X.env.locals ∨ X.env.cells.lookup x = some a)) → Q () s') (hf : X.fn x = true ∨ X.env.scope.names.lookup x = some .local := by first | exact .inl rfl | exact .inr rfl | assumption) : wpAny M A (storeName X.env x u) Q E s := by
  obtain ⟨m, hn, hl⟩ := id I.loc
  have hcls : (X.env.scope.kind == .class || (X.env.scope.kind == .module && X.env.locals != X.env.globals)) = false := by rw [I.ok.kind]; rfl
  have hiσ : i < σ.length := by rw [I.len]; exact (List.getElem?_eq_some_iff.mp hi).1
  have cne := I.cne
  have tracked : ∀ {a : Addr} {h' : Heap}, (∃ o, s.heap.get? a = some o ∧ H a = none) → Heap.SameBut a s.heap h' → HOk X.prog X.w H h' := fun {a h'} ha hs b ob e => by
    obtain ⟨_, _, hfree⟩ := ha
    refine (I.hok b ob e).stay (fun c w' hc q => (hs.2 c ?_).trans q) (fun _ q => q) fun _ _ q => q
    rintro rfl
    rcases hc with rfl | hc
    · rw [hfree] at e; cases e
    · rw [hfree] at hc; cases hc
  rcases hx with hk | hk
  · refine wpAny_storeName_local hk hn (fun h' hn' hs => ?_) hcls
    obtain ⟨oL, _, _, hoL, _⟩ := id hn
    refine h _ ⟨I.ok, I.os, I.bare, ⟨fun b o e n hb hx => ?_, fun b o e n hb hx => ?_, I.base.free, fun b o e hx => ?_, I.base.tups, I.base.frzs, I.base.tbls⟩, ⟨_, hn', fun j y v' e1 e2 e3 => ?_⟩, fun y c e => ?_, I.free, I.freeC, fun p hp => ?_, tracked ⟨oL, hoL, I.free⟩ hs, by simpa using I.len⟩ ⟨_, hs, .inl rfl⟩
    · exact (hs.2 b (Nat.ne_of_lt (Nat.lt_of_lt_of_le (Heap.lt_size e) I.ok.above))).trans (I.base.keep b o e n hb hx)
    · obtain ⟨sl, e1⟩ := I.base.slot b o e n hb hx
      exact ⟨sl, (hs.2 b (Nat.ne_of_lt (Nat.lt_of_lt_of_le (Heap.lt_size e) I.ok.above))).trans e1⟩
    · obtain ⟨o', e1⟩ := I.base.there b o e hx
      exact ⟨o', (hs.2 b (Nat.ne_of_lt (Nat.lt_of_lt_of_le (Heap.lt_size e) I.ok.above))).trans e1⟩
    · by_cases hj : j = i
      · subst hj
        rw [hi] at e1; cases e1
        rw [List.getElem?_set_self hiσ] at e2
        cases e2
        exact ⟨u, r, .inl ⟨hk, by simp⟩⟩
      · rw [List.getElem?_set_ne (Ne.symm hj)] at e2
        obtain ⟨u', r', q⟩ := hl j y v' e1 e2 e3
        refine ⟨u', r', ?_⟩
        rcases q with ⟨k, e⟩ | ⟨k, c, e, z⟩
        · refine .inl ⟨k, ?_⟩
          have : y ≠ x := fun e => hj (nodup_ix hN e1 (e ▸ hi))
          simp [this, e]
        · exact .inr ⟨k, c, e, z.sameBut hs (cne y c e)⟩
    · obtain ⟨w', z⟩ := I.cell y c e
      exact ⟨w', z.sameBut hs (cne y c e)⟩
    · obtain ⟨e, n, ne, nf, d⟩ := I.pin p hp
      exact ⟨(hs.2 p.1 ne).trans e, n, ne, nf, d⟩
  · have hfn : X.fn x = true := by
      rcases hf with z | z
      · exact z
      · rw [z] at hk; cases hk
    obtain ⟨c, hc⟩ := I.ok.has x (.inl hk)
    obtain ⟨w', z⟩ := I.cell x c hc
    refine wpAny_storeName_cell I.ok.kind hk hc z (fun h' hc' hs => ?_)
    obtain ⟨oc, hoc, hocd⟩ := id z
    refine h { s with heap := h' } ⟨I.ok, I.os, I.bare, ⟨fun b o e n hb hx => ?_, fun b o e n hb hx => ?_, I.base.free, fun b o e hx => ?_, I.base.tups, I.base.frzs, I.base.tbls⟩, ⟨m, hn.sameBut hs (Ne.symm (cne x c hc)), fun j y v' e1 e2 e3 => ?_⟩, fun y c' e => ?_, I.free, I.freeC, fun p hp => ?_, tracked ⟨oc, hoc, I.freeC x c hc⟩ hs, by simpa using I.len⟩ ⟨c, hs, .inr hc⟩
    · exact (hs.2 b (Nat.ne_of_lt (Nat.lt_of_lt_of_le (Heap.lt_size e) (I.ok.cab x c hfn hc)))).trans (I.base.keep b o e n hb hx)
    · obtain ⟨sl, e1⟩ := I.base.slot b o e n hb hx
      exact ⟨sl, (hs.2 b (Nat.ne_of_lt (Nat.lt_of_lt_of_le (Heap.lt_size e) (I.ok.cab x c hfn hc)))).trans e1⟩
    · obtain ⟨o', e1⟩ := I.base.there b o e hx
      exact ⟨o', (hs.2 b (Nat.ne_of_lt (Nat.lt_of_lt_of_le (Heap.lt_size e) (I.ok.cab x c hfn hc)))).trans e1⟩
    · by_cases hj : j = i
      · subst hj
        rw [hi] at e1; cases e1
        rw [List.getElem?_set_self hiσ] at e2
        cases e2
        exact ⟨u, r, .inr ⟨.inl hk, c, hc, hc'⟩⟩
      · rw [List.getElem?_set_ne (Ne.symm hj)] at e2
        obtain ⟨u', r', q⟩ := hl j y v' e1 e2 e3
        refine ⟨u', r', ?_⟩
        rcases q with q | ⟨k, c', e, z'⟩
        · exact .inl q
        · refine .inr ⟨k, c', e, z'.sameBut hs ?_⟩
          rintro rfl
          exact hj (nodup_ix hN e1 (I.ok.inj _ _ _ e hc ▸ hi))
    · by_cases hcc : c' = c
      · subst hcc; exact ⟨_, hc'⟩
      · obtain ⟨w2, z2⟩ := I.cell y c' e
        exact ⟨w2, z2.sameBut hs hcc⟩
    · obtain ⟨e, n, ne, nf, d⟩ := I.pin p hp
      refine ⟨(hs.2 p.1 ?_).trans e, n, ne, nf, d⟩
      intro q
      rw [q, hoc] at e
      have q' : oc = p.2 := Option.some.inj e
      exact d w' (by rw [← q']; exact hocd)
theorem store_ok {M : Model} {A : Around} {E : Value → Shared → Prop} {i : Nat} {x : Str} {v : V} {u : Value} {Q : Unit → Shared → Prop} (I : Inv X pins σ H s) (hN : X.N.Nodup) (hi : X.N[i]? = some x) (hx : Loc X.env.scope x) (r : RelV v u)
    (h : ∀ s', Inv X pins (σ.set i (some v)) H s' → Q () s') (hf : X.fn x = true ∨ X.env.scope.names.lookup x = some .local := by first | exact .inl rfl | exact .inr rfl | assumption) : wpAny M A (storeName X.env x u) Q E s :=
  store_ok2 I hN hi hx r (fun s' I' _ => h s' I') hf
theorem Inv.call' {s' : Shared} {ch : List Addr} (I : Inv X pins σ H s) (ho : s'.os = s.os) (u : Un (frs X.stack) ch H H' s.heap s'.heap) (hok : HOk X.prog X.w H' s'.heap) (hg : AllBare s'.gens)
    (hch : ∀ b ∈ ch, (b ∈ X.ex ∨ X.s₀.heap.objs.size ≤ b) ∧ b ≠ X.env.locals ∧ (∀ x c, X.env.cells.lookup x = some c → c ≠ b) ∧ ∀ p ∈ X.pn ++ pins, p.1 ≠ b) : Inv X pins σ H' s' := by
  obtain ⟨h', g', d', t', o'⟩ := s'
  have e : o' = s.os := ho
  subst e
  exact I.call (g' := g') (t' := t') (d' := d') u hok hg hch
end
abbrev XK := Value → Option Addr → Hp → Prop
abbrev St := List (Option V)
abbrev VK := V → Hp → Prop
abbrev TE := St → Hp → VK → Prop
abbrev TT := St → Hp → (Bool → Hp → Prop) → Prop
abbrev TA := St → Hp → (List V → Hp → Prop) → Prop
structure Ends where
  nx : St → Hp → Prop
  rt : VK
  bk : St → Hp → Prop := fun _ _ => False
  ct : St → Hp → Prop := fun _ _ => False
abbrev TS := Ends → St → Hp → Prop
def EP (X : Cx) (pins : List (Addr × Obj)) (σ : St) (Q : VK) (u : Value) (s' : Shared) : Prop := ∃ v H', Inv X pins σ H' s' ∧ RelV v u ∧ Q v H'
def TP (X : Cx) (pins : List (Addr × Obj)) (σ : St) (Q : Bool → Hp → Prop) (b : Bool) (s' : Shared) : Prop := ∃ H', Inv X pins σ H' s' ∧ Q b H'
def AP (X : Cx) (pins : List (Addr × Obj)) (σ : St) (Q : List V → Hp → Prop) (us : List Value) (s' : Shared) : Prop := ∃ vs H', Inv X pins σ H' s' ∧ Vals vs us ∧ Q vs H'
def SP (X : Cx) (pins : List (Addr × Obj)) (D : Ends) (f : Flow) (s' : Shared) : Prop :=
  match f with
  | .next => ∃ σ' H', Inv X pins σ' H' s' ∧ D.nx σ' H'
  | .brk => ∃ σ' H', Inv X pins σ' H' s' ∧ D.bk σ' H'
  | .cont => ∃ σ' H', Inv X pins σ' H' s' ∧ D.ct σ' H'
  | .ret u => ∃ v σ' H', Inv X pins σ' H' s' ∧ RelV v u ∧ D.rt v H'
def PE (X : Cx) (e : Expr) (t : TE) : Prop :=
  ∀ (pins : List (Addr × Obj)) (s : Shared) (σ : St) (H : Hp) (Q : VK), Inv X pins σ H s → t σ H Q → wpAny (model X.prog X.w) X.A (eval e X.env) (EP X pins σ Q) X.xe s
def PT (X : Cx) (e : Expr) (t : TT) : Prop :=
  ∀ (pins : List (Addr × Obj)) (s : Shared) (σ : St) (H : Hp) (Q : Bool → Hp → Prop), Inv X pins σ H s → t σ H Q → wpAny (model X.prog X.w) X.A (isTrue e X.env (eval e X.env)) (TP X pins σ Q) X.xe s
def PW (X : Cx) (e : Expr) (t : TT) : Prop :=
  ∀ (whole : Sem Value) (pins : List (Addr × Obj)) (s : Shared) (σ : St) (H : Hp) (Q : Bool → Hp → Prop), Inv X pins σ H s → t σ H Q → wpAny (model X.prog X.w) X.A (isTrue e X.env whole) (TP X pins σ Q) X.xe s
theorem PW.pt {X : Cx} {e : Expr} {t : TT} (h : PW X e t) : PT X e t := h _
def PA (X : Cx) (es : List Expr) (t : TA) : Prop :=
  ∀ (pos : Pos) (pins : List (Addr × Obj)) (s : Shared) (σ : St) (H : Hp) (Q : List V → Hp → Prop), Inv X pins σ H s → t σ H Q → wpAny (model X.prog X.w) X.A (spliced (backTo pos (starEach es X.env))) (AP X pins σ Q) X.xe s
def PS (X : Cx) (st : Stmt) (t : TS) : Prop :=
  ∀ (pins : List (Addr × Obj)) (s : Shared) (σ : St) (H : Hp) (D : Ends), Inv X pins σ H s → t D σ H → wpAny (model X.prog X.w) X.A (exec st X.env) (SP X pins D) X.xe s
def PSs (X : Cx) (st : List Stmt) (t : TS) : Prop :=
  ∀ (pins : List (Addr × Obj)) (s : Shared) (σ : St) (H : Hp) (D : Ends), Inv X pins σ H s → t D σ H → wpAny (model X.prog X.w) X.A (execs st X.env) (SP X pins D) X.xe s
theorem thn {α : Type} {t : Sem α} {Q Q' : α → Shared → Prop} {M : Model} {A : Around} {E : Value → Shared → Prop} {s : Shared} (h : wpAny M A t Q E s) (hQ : ∀ a s, Q a s → Q' a s) : wpAny M A t Q' E s := wpAny_mono h hQ fun _ _ x => x
end L2
namespace L2
open PySem PySem.Spec PyProof.Rows
section
variable {X : Cx}
def tVar (i : Nat) : TE := fun σ H Q => ∃ v, σ[i]? = some (some v) ∧ Q v H
def tC (v : V) : TE := fun _ H Q => Q v H
theorem pe_var {i : Nat} {x : Str} {pos : Pos} (hN : X.N[i]? = some x) (hv : Vis X.env.scope x) (hd : (x == ("__debug__" : Str)) = false := by decide) (hcd : (x == ("__classdict__" : Str)) = false := by decide) : PE X (.Name x pos) (tVar i) := by
  intro pins s σ H Q I h
  obtain ⟨v, e, h⟩ := h
  obtain ⟨m, hn, hl⟩ := I.loc
  obtain ⟨u, r, l⟩ := hl i x v hN e hv
  have fin : EP X pins σ Q u s := ⟨v, H, I, r, h⟩
  rcases l with ⟨hk, hm⟩ | ⟨hk, c, hc, hcell⟩
  · exact wpAny_Name (wpAny_loadName_local I.ok.kind hk hn hm fin) hd
  · rcases hk with hk | hk
    · exact wpAny_Name (wpAny_loadName_cell I.ok.kind hk hc hcell fin) hd
    · exact wpAny_Name (wpAny_loadName_free I.ok.kind hk hc hcell fin hcd) hd
theorem pe_int {i j pos} : PE X (.Constant (.int i) j pos) (tC (.int i)) := fun _ _ _ H _ I h => wpAny_Constant_int ⟨.int i, H, I.tok _, ⟨_, rfl⟩, h⟩
theorem pe_bl {b j pos} : PE X (.Constant (.bool b) j pos) (tC (.bl b)) := fun _ _ _ H _ I h => Constant_bool ⟨.bl b, H, I, rfl, h⟩
theorem pe_non {j pos} : PE X (.Constant .none j pos) (tC .non) := fun _ _ _ H _ I h => Constant_none ⟨.non, H, I, rfl, h⟩
theorem pe_str {x j pos} : PE X (.Constant (.str x) j pos) (tC (.str x)) := fun _ _ _ H _ I h => Calls.Constant_str ⟨.str x, H, I.tok _, ⟨_, rfl⟩, h⟩
def Gl (X : Cx) (x : Str) : Prop := X.env.kindOf x = some .globalImplicit
theorem ld_glob {E : Value → Shared → Prop} {pins : List (Addr × Obj)} {s : Shared} {σ : St} {H : Hp} {x : Str} {u : Value} {pos : Pos} {Q : Value → Shared → Prop} (I : Inv X pins σ H s) (hg : Gl X x) (hm : X.mg x = some u) (h : Q u s)
    (hd : (x == ("__debug__" : Str)) = false := by decide) : wpAny (model X.prog X.w) X.A (eval (.Name x pos) X.env) Q E s :=
  Calls.Name_function_global I.ok.kind hg (Calls.loadGlobal_global (by rw [I.ok.glob]; exact I.mod.glob.keeps I.bk) hm h) hd
theorem ld_blt {E : Value → Shared → Prop} {pins : List (Addr × Obj)} {s : Shared} {σ : St} {H : Hp} {x : Str} {u : Value} {pos : Pos} {Q : Value → Shared → Prop} (I : Inv X pins σ H s) (hg : Gl X x) (hm : X.mg x = none) (hv : bootBuiltins x = some u) (h : Q u s)
    (hn : x ≠ "__name__" := by decide) (hd : (x == ("__debug__" : Str)) = false := by decide) : wpAny (model X.prog X.w) X.A (eval (.Name x pos) X.env) Q E s := by
  obtain ⟨mb, h1, h2⟩ := I.mod.blt
  exact Calls.Name_function_global I.ok.kind hg (Calls.loadGlobal_builtin (by rw [I.ok.glob]; exact I.mod.glob.keeps I.bk) hm (by rw [I.ok.blt]; exact h1.keeps I.bk) ((h2 x hn).trans hv) h) hd
theorem pe_glob {x : Str} {v : V} {u : Value} {pos : Pos} (hg : Gl X x) (hm : X.mg x = some u) (r : RelV v u) (hd : (x == ("__debug__" : Str)) = false := by decide) : PE X (.Name x pos) (tC v) :=
  fun _ _ _ H _ I h => ld_glob I hg hm ⟨v, H, I, r, h⟩ hd
theorem pe_bltn {x : Str} {v : V} {u : Value} {pos : Pos} (hg : Gl X x) (hm : X.mg x = none) (hv : bootBuiltins x = some u) (r : RelV v u) (hn : x ≠ "__name__" := by decide) (hd : (x == ("__debug__" : Str)) = false := by decide) : PE X (.Name x pos) (tC v) :=
  fun _ _ _ H _ I h => ld_blt I hg hm hv ⟨v, H, I, r, h⟩ hn hd
variable {a b : Expr} {ta tb : TE} {pos : Pos}
def tB (t : TE) : TT := fun σ H Q => t σ H fun x H1 => ∃ c, x = .bl c ∧ Q c H1
theorem pt_val {e : Expr} {t : TE} (h : PE X e t) (he : ∀ whole, isTrue e X.env whole = (do let v ← whole; standAt e.pos; holding [v] (truthy v)) := by intro _; rfl) : PT X e (tB t) := by
  intro pins s σ H Q I hw
  refine isTrue_plain (thn (h pins s σ H _ I hw) fun v s1 ⟨x, H1, I1, r1, q1⟩ => ?_) (he _)
  obtain ⟨d, rfl, q⟩ := q1
  cases r1
  exact wpAny_truthy_bool ⟨H1, I1, q⟩
variable {tA tB' : TT} {rest : List Expr}
def tAnd (t u : TT) : TT := fun σ H Q => t σ H fun c H1 => if c = true then u σ H1 Q else Q false H1
def tOr (t u : TT) : TT := fun σ H Q => t σ H fun c H1 => if c = true then Q true H1 else u σ H1 Q
def tNot (t : TT) : TT := fun σ H Q => t σ H fun c H1 => Q (!c) H1
theorem pw_and1 (ha : PT X a tA) : PW X (.BoolOp .And [a] pos) tA := by
  intro wh pins s σ H Q I h
  refine isTrue_and (thn (ha pins s σ H Q I h) fun c s1 e => ?_)
  cases c with
  | true => exact isTrue_and_nil e
  | false => exact e
theorem pw_or1 (ha : PT X a tA) : PW X (.BoolOp .Or [a] pos) tA := by
  intro wh pins s σ H Q I h
  refine isTrue_or (thn (ha pins s σ H Q I h) fun c s1 e => ?_)
  cases c with
  | false => exact isTrue_or_nil e
  | true => exact e
theorem pw_and (ha : PT X a tA) (hb : PW X (.BoolOp .And (b :: rest) pos) tB') : PW X (.BoolOp .And (a :: b :: rest) pos) (tAnd tA tB') := by
  intro wh pins s σ H Q I h
  refine isTrue_and (thn (ha pins s σ H _ I h) fun c s1 ⟨H1, I1, q1⟩ => ?_)
  cases c with
  | true => exact hb wh pins s1 σ H1 Q I1 q1
  | false => exact ⟨H1, I1, q1⟩
theorem pw_or (ha : PT X a tA) (hb : PW X (.BoolOp .Or (b :: rest) pos) tB') : PW X (.BoolOp .Or (a :: b :: rest) pos) (tOr tA tB') := by
  intro wh pins s σ H Q I h
  refine isTrue_or (thn (ha pins s σ H _ I h) fun c s1 ⟨H1, I1, q1⟩ => ?_)
  cases c with
  | true => exact ⟨H1, I1, q1⟩
  | false => exact hb wh pins s1 σ H1 Q I1 q1
theorem pt_not (ha : PT X a tA) : PT X (.UnaryOp .Not a pos) (tNot tA) := by
  intro pins s σ H Q I h
  exact isTrue_not (ha pins s σ H (fun c H1 => Q (!c) H1) I h)
def tAndV (ta tb : TE) : TE := fun σ H Q => ta σ H fun x H1 => ∃ c, x = .bl c ∧ if c = true then tb σ H1 Q else Q (.bl false) H1
def tNotV (ta : TE) : TE := fun σ H Q => ta σ H fun x H1 => ∃ c, x = .bl c ∧ Q (.bl (!c)) H1
theorem pe_one {op} {t : TE} (h : PE X a t) : PE X (.BoolOp op [a] pos) t := fun pins s σ H Q I hw => BoolOp_one (h pins s σ H Q I hw)
theorem pe_and (ha : PE X a ta) (hb : PE X (.BoolOp .And (b :: rest) pos) tb) : PE X (.BoolOp .And (a :: b :: rest) pos) (tAndV ta tb) := by
  intro pins s σ H Q I h
  refine BoolOp_and (thn (ha pins s σ H _ I h) fun v s1 ⟨x, H1, I1, r1, q1⟩ => ?_)
  obtain ⟨c, rfl, q1⟩ := q1
  cases r1
  refine wpAny_truthy_bool ?_
  cases c with
  | true => exact hb pins s1 σ H1 Q I1 q1
  | false => exact ⟨.bl false, H1, I1, rfl, q1⟩
theorem pe_not (ha : PE X a ta) : PE X (.UnaryOp .Not a pos) (tNotV ta) := by
  intro pins s σ H Q I h
  refine UnaryOp_ (thn (ha pins s σ H _ I h) fun v s1 ⟨x, H1, I1, r1, q1⟩ => ?_)
  obtain ⟨c, rfl, q1⟩ := q1
  cases r1
  exact not_of (wpAny_truthy_bool ⟨.bl (!c), H1, I1, rfl, q1⟩)
def tIf (t : TT) (ta tb : TE) : TE := fun σ H Q => t σ H fun c H1 => if c = true then ta σ H1 Q else tb σ H1 Q
theorem pe_ifExp {c : Expr} (hc : PT X c tA) (ha : PE X a ta) (hb : PE X b tb) : PE X (.IfExp c a b pos) (tIf tA ta tb) := by
  intro pins s σ H Q I h
  refine wpAny_IfExp (thn (hc pins s σ H _ I h) fun d s1 ⟨H1, I1, q1⟩ => ?_)
  cases d with
  | true => exact ha pins s1 σ H1 Q I1 q1
  | false => exact hb pins s1 σ H1 Q I1 q1
end
end L2
namespace L2
open PySem PySem.Spec PyProof.Rows
def SqL (K : PySem.W.Frag) (H : Hp) (a : Addr) (xs : List V) : Prop :=
  Rd H a (.lst xs) ∨
    ∃ (o : Obj) (its : Array Value) (n : Nat), K.lookup a = some o ∧ o.cls = .type "list" ∧ o.dict = none ∧ o.data = .seq its n ∧ its.size ≤ sizeLine ∧ Vals xs its.toList
def SqT (K : PySem.W.Frag) (H : Hp) (a : Addr) (xs : List V) : Prop :=
  Rd H a (.tup xs) ∨
    ∃ (o : Obj) (its : Array Value) (n : Nat), K.lookup a = some o ∧ o.cls = .type "tuple" ∧ o.data = .seq its n ∧ its.size ≤ sizeLine ∧ Vals xs its.toList
def absV : Value → Option V
  | .none => some .non
  | .bool b => some (.bl b)
  | .int i _ => some (.int i)
  | .str x _ => some (.str x)
  | .bytes b _ => some (.byt b)
  | .float b _ => some (.flt b)
  | .ref a => some (.ref a)
  | .type n => some (.ty n)
  | _ => none
theorem RelV.abs {x : V} {u : Value} (r : RelV x u) : absV u = some x := by
  cases x with
  | non => cases r; rfl
  | bl _ => cases r; rfl
  | int _ => obtain ⟨t, rfl⟩ := r; rfl
  | str _ => obtain ⟨t, rfl⟩ := r; rfl
  | byt _ => obtain ⟨t, rfl⟩ := r; rfl
  | flt _ => obtain ⟨t, rfl⟩ := r; rfl
  | ref _ => cases r; rfl
  | ty _ => cases r; rfl
theorem RelV.inj {x y : V} {u : Value} (r : RelV x u) (q : RelV y u) : x = y := Option.some.inj (r.abs.symm.trans q.abs)
theorem Vals.inj : ∀ {xs ys : List V} {us : List Value}, Vals xs us → Vals ys us → xs = ys
  | _, _, _, .nil, .nil => rfl
  | _, _, _, .cons r t, .cons r' t' => by rw [r.inj r', Vals.inj t t']
section
variable {X : Cx} {pins : List (Addr × Obj)} {σ : St} {H : Hp} {s : Shared} {a : Addr} {xs ys : List V}
theorem SqL.of {K : PySem.W.Frag} (h : H a = some (.lst xs)) : SqL K H a xs := .inl (.inl h)
theorem SqT.of {K : PySem.W.Frag} (h : H a = some (.tup xs)) : SqT K H a xs := .inl (.inl h)
theorem Inv.list (I : Inv X pins σ H s) (h : SqL X.K H a xs) : ∃ its : List Value, Vals xs its ∧ PlainL s.heap a its.toArray ∧ xs.length ≤ sizeLine := by
  rcases h with h | ⟨o, its, n, hk, hc, hd, hs, hz, r⟩
  · obtain ⟨z, its, n, r, e⟩ := h.ok I.hok
    exact ⟨its, r, ⟨_, n, e, rfl, rfl, rfl⟩, z⟩
  · refine ⟨its.toList, r, ⟨o, n, I.kIn a o hk, hc, hd, by simpa using hs⟩, ?_⟩
    have e := r.length
    simp only [Array.length_toList] at e
    omega
theorem Inv.tuple (I : Inv X pins σ H s) (h : SqT X.K H a xs) : ∃ its : List Value, Vals xs its ∧ IsTup s.heap a its.toArray ∧ xs.length ≤ sizeLine := by
  rcases h with h | ⟨o, its, n, hk, hc, hs, hz, r⟩
  · obtain ⟨z, its, r, p⟩ := h.ok I.hok
    exact ⟨its, r, p, z⟩
  · refine ⟨its.toList, r, ⟨o, I.kIn a o hk, hc, n, by simpa using hs⟩, ?_⟩
    have e := r.length
    simp only [Array.length_toList] at e
    omega
theorem Inv.list_inj (I : Inv X pins σ H s) (h : SqL X.K H a xs) (h' : SqL X.K H a ys) : xs = ys := by
  obtain ⟨its, r, ⟨o, n, e, _, _, d⟩, _⟩ := I.list h
  obtain ⟨its', r', ⟨o', n', e', _, _, d'⟩, _⟩ := I.list h'
  rw [e] at e'; cases e'
  rw [d] at d'
  injection d' with d1 _
  have : its = its' := by simpa using congrArg Array.toList d1
  subst this
  exact r.inj r'
theorem Inv.tuple_inj (I : Inv X pins σ H s) (h : SqT X.K H a xs) (h' : SqT X.K H a ys) : xs = ys := by
  obtain ⟨its, r, ⟨o, e, _, n, d⟩, _⟩ := I.tuple h
  obtain ⟨its', r', ⟨o', e', _, n', d'⟩, _⟩ := I.tuple h'
  rw [e] at e'; cases e'
  rw [d] at d'
  injection d' with d1 _
  have : its = its' := by simpa using congrArg Array.toList d1
  subst this
  exact r.inj r'
end
abbrev Cx.wish (X : Cx) (E : Value → Shared → Prop) : Cx := { X with xe := E }
abbrev Cx.nox (X : Cx) : Cx := X.wish fun _ _ => False
theorem Cx.Ok.wish {X : Cx} (ok : X.Ok) (E : Value → Shared → Prop) : (X.wish E).Ok :=
  ⟨ok.mod, ok.kind, ok.glob, ok.blt, ok.above, ok.inj, ok.has, ok.cab, ok.hd, ok.frames, ok.stk, ok.exf, ok.bs, ok.bsz, ok.noex, ok.exfs, ok.funs, ok.frf⟩
theorem Cx.Ok.unwish {X : Cx} {E : Value → Shared → Prop} (ok : (X.wish E).Ok) : X.Ok :=
  ⟨ok.mod, ok.kind, ok.glob, ok.blt, ok.above, ok.inj, ok.has, ok.cab, ok.hd, ok.frames, ok.stk, ok.exf, ok.bs, ok.bsz, ok.noex, ok.exfs, ok.funs, ok.frf⟩
section
variable {X : Cx} {pins : List (Addr × Obj)} {σ : St} {H : Hp} {s : Shared} {E : Value → Shared → Prop}
theorem Inv.wish (I : Inv X pins σ H s) (E : Value → Shared → Prop) : Inv (X.wish E) pins σ H s := ⟨I.ok.wish E, I.os, I.bare, I.base, I.loc, I.cell, I.free, I.freeC, I.pin, I.hok, I.len⟩
theorem Inv.unwish (I : Inv (X.wish E) pins σ H s) : Inv X pins σ H s := ⟨I.ok.unwish, I.os, I.bare, I.base, I.loc, I.cell, I.free, I.freeC, I.pin, I.hok, I.len⟩
theorem SP.unwish {D : Ends} {f : Flow} {s' : Shared} (h : SP (X.wish E) pins D f s') : SP X pins D f s' := by
  cases f with
  | next => obtain ⟨σ', H', I, q⟩ := h; exact ⟨σ', H', I.unwish, q⟩
  | brk => obtain ⟨σ', H', I, q⟩ := h; exact ⟨σ', H', I.unwish, q⟩
  | cont => obtain ⟨σ', H', I, q⟩ := h; exact ⟨σ', H', I.unwish, q⟩
  | ret u => obtain ⟨v, σ', H', I, r, q⟩ := h; exact ⟨v, σ', H', I.unwish, r, q⟩
theorem PE.nox {e : Expr} {t : TE} (h : PE X.nox e t) : PE X e t := fun pins s σ H Q I hw =>
  wpAny_mono (h pins s σ H Q (I.wish _) hw) (fun _ _ ⟨v, H', I', r, q⟩ => ⟨v, H', I'.unwish, r, q⟩) fun _ _ z => False.elim z
theorem PT.nox {e : Expr} {t : TT} (h : PT X.nox e t) : PT X e t := fun pins s σ H Q I hw =>
  wpAny_mono (h pins s σ H Q (I.wish _) hw) (fun _ _ ⟨H', I', q⟩ => ⟨H', I'.unwish, q⟩) fun _ _ z => False.elim z
theorem PSs.nox {st : List Stmt} {t : TS} (h : PSs X.nox st t) : PSs X st t := fun pins s σ H D I hw =>
  wpAny_mono (h pins s σ H D (I.wish _) hw) (fun _ _ q => q.unwish) fun _ _ z => False.elim z
end
section
variable {X : Cx} {st : Stmt} {rest : List Stmt} {t u : TS} {e : Expr} {te : TE} {pos : Pos}
def tNext : TS := fun D σ H => D.nx σ H
def tSeq (t u : TS) : TS := fun D σ H => t { D with nx := u D } σ H
theorem pss_nil : PSs X [] tNext := fun _ _ σ H _ I h => wpAny_execs_nil ⟨σ, H, I, h⟩
theorem pss_cons (h1 : PS X st t) (h2 : PSs X rest u) : PSs X (st :: rest) (tSeq t u) := by
  intro pins s σ H D I h
  refine wpAny_execs_cons (thn (h1 pins s σ H { D with nx := u D } I h) fun f s1 q => ?_)
  cases f with
  | next =>
    obtain ⟨σ', H', I', q⟩ := q
    exact h2 pins s1 σ' H' D I' q
  | ret v => exact q
  | brk => exact q
  | cont => exact q
theorem pss_one (h1 : PS X st t) : PSs X [st] t := by
  intro pins s σ H D I h
  refine wpAny_execs_cons (thn (h1 pins s σ H D I h) fun f s1 q => ?_)
  cases f with
  | next => exact wpAny_execs_nil q
  | ret v => exact q
  | brk => exact q
  | cont => exact q
theorem Inv.quiet {pins : List (Addr × Obj)} {σ : St} {H : Hp} {s : Shared} (I : Inv X pins σ H s) : interactive X.env = false := by simp [interactive, I.ok.kind]
def tDrop (te : TE) : TS := fun D σ H => te σ H fun _ H1 => D.nx σ H1
theorem ps_expr (he : PE X e te) (hs : swapsWith e none pos.line X.env = pure false := by rfl) : PS X (.Expr e pos) (tDrop te) := by
  intro pins s σ H D I h
  exact wpAny_Expr_any (thn (he pins s σ H _ I h) fun v s1 ⟨x, H1, I1, r1, q1⟩ => ⟨σ, H1, I1, q1⟩) I.quiet hs
def tRet (te : TE) : TS := fun D σ H => te σ H D.rt
theorem ps_ret (he : PE X e te) : PS X (.Return (some e) pos) (tRet te) := by
  intro pins s σ H D I h
  exact wpAny_Return_some (thn (he pins s σ H _ I h) fun v s1 ⟨x, H1, I1, r1, q1⟩ => ⟨x, σ, H1, I1, r1, q1⟩)
def tIfS (c : TT) (t u : TS) : TS := fun D σ H => c σ H fun b H1 => if b = true then t D σ H1 else u D σ H1
theorem ps_if {c : Expr} {a b : List Stmt} {tc : TT} (hc : PT X c tc) (ha : PSs X a t) (hb : PSs X b u) : PS X (.If c a b pos) (tIfS tc t u) := by
  intro pins s σ H D I h
  refine wpAny_If (thn (hc pins s σ H _ I h) fun d s1 ⟨H1, I1, q1⟩ => ?_)
  cases d with
  | true => exact ha pins s1 σ H1 D I1 q1
  | false => exact hb pins s1 σ H1 D I1 q1
def tNever : TS := fun _ _ _ => False
theorem ps_never : PS X st tNever := fun _ _ _ _ _ _ h => h.elim
end
abbrev TG := V → St → Hp → (St → Hp → Prop) → Prop
def PG (X : Cx) (target : Expr) (t : TG) : Prop :=
  ∀ (pins : List (Addr × Obj)) (s : Shared) (σ : St) (H : Hp) (v : V) (u : Value) (Q : St → Hp → Prop), Inv X pins σ H s → RelV v u → t v σ H Q →
    wpAny (model X.prog X.w) X.A (assign target X.env u) (fun _ s' => ∃ σ' H', Inv X pins σ' H' s' ∧ Q σ' H') X.xe s
abbrev TSet := V → V → V → Hp → (Hp → Prop) → Prop
def PSet (X : Cx) (t : TSet) : Prop :=
  ∀ (pins : List (Addr × Obj)) (s : Shared) (σ : St) (H : Hp) (o i v : V) (ov iv u : Value) (Q : Hp → Prop), Inv X pins σ H s → RelV o ov → RelV i iv → RelV v u → t o i v H Q →
    wpAny (model X.prog X.w) X.A (setItem ov iv u) (fun _ s' => ∃ H', Inv X pins σ H' s' ∧ Q H') X.xe s
abbrev TIp := V → V → Hp → VK → Prop
def PIp (X : Cx) (op : Operator) (t : TIp) : Prop :=
  ∀ (pins : List (Addr × Obj)) (s : Shared) (σ : St) (H : Hp) (x y : V) (v u : Value) (Q : VK), Inv X pins σ H s → RelV x v → RelV y u → t x y H Q →
    wpAny (model X.prog X.w) X.A (inplaceOp op v u) (EP X pins σ Q) X.xe s
section
variable {X : Cx} {pos : Pos}
def gName (i : Nat) : TG := fun v σ H Q => Q (σ.set i (some v)) H
theorem pg_name {i : Nat} {x : Str} (hN : X.N.Nodup) (hi : X.N[i]? = some x) (hx : Loc X.env.scope x) (hf : X.fn x = true ∨ X.env.scope.names.lookup x = some .local := by first | exact .inl rfl | exact .inr rfl | assumption) : PG X (.Name x pos) (gName i) := by
  intro pins s σ H v u Q I r h
  exact wpAny_assign_Name (store_ok I hN hi hx r (fun s' I' => ⟨_, H, I', h⟩) hf)
def gSub (to ti : TE) (t : TSet) : TG := fun v σ H Q => to σ H fun o H1 => ti σ H1 fun i H2 => t o i v H2 fun H3 => Q σ H3
theorem pg_sub {o i : Expr} {to ti : TE} {t : TSet} (ho : PE X o to) (hi : PE X i ti) (hs : PSet X t)
    (ha : ∀ v, assign (.Subscript o i pos) X.env v = (do
      let ov ← holding [v] (eval o X.env)
      let iv ← holding [v, ov] (eval i X.env)
      standAt pos
      holding [v, ov, iv] (setItem ov iv v)
      release [v, ov, iv] []) := by intro _; rfl) : PG X (.Subscript o i pos) (gSub to ti t) := by
  intro pins s σ H v u Q I r h
  rw [ha]
  refine wpAny_bind (wpAny_holding (thn (ho pins s σ H _ I h) fun ov s1 ⟨x, H1, I1, r1, q1⟩ => ?_))
  refine wpAny_bind (wpAny_holding (thn (hi pins s1 σ H1 _ I1 q1) fun iv s2 ⟨y, H2, I2, r2, q2⟩ => ?_))
  refine wpAny_bind (wpAny_standAt (wpAny_bind (wpAny_holding (thn (hs pins s2 σ H2 x y v ov iv u _ I2 r1 r2 r q2) fun _ s3 ⟨H3, I3, q3⟩ => ?_))))
  exact wpAny_release ⟨σ, H3, I3, q3⟩
def tAsg (te : TE) (g : TG) : TS := fun D σ H => te σ H fun x H1 => g x σ H1 D.nx
theorem ps_asg {tg e : Expr} {te : TE} {g : TG} (he : PE X e te) (hg : PG X tg g) (hs : swapsWithSole [tg] e pos.line X.env = pure false := by rfl) (hw : swappedStores [tg] e X.env = pure none := by rfl)
    (h1 : (assignEach [tg] X.env).map (·.2) = [assign tg X.env] := by rfl) : PS X (.Assign [tg] e pos) (tAsg te g) := by
  intro pins s σ H D I h
  refine wpAny_Assign_stores (thn (he pins s σ H _ I h) fun v s1 ⟨x, H1, I1, r1, q1⟩ => ?_) hs hw
  rw [h1]
  exact thn (hg pins s1 σ H1 x v _ I1 r1 q1) fun _ s2 q => q
theorem ps_set {i : Nat} {x : Str} {e : Expr} {te : TE} {pos' : Pos} (hN : X.N.Nodup) (hi : X.N[i]? = some x) (hx : Loc X.env.scope x) (he : PE X e te) (hs : swapsWith e (some (.Name x pos')) pos.line X.env = pure false := by rfl) (hf : X.fn x = true ∨ X.env.scope.names.lookup x = some .local := by first | exact .inl rfl | exact .inr rfl | assumption) :
    PS X (.Assign [.Name x pos'] e pos) (tAsg te (gName i)) := by
  intro pins s σ H D I h
  refine wpAny_Assign_Name (thn (he pins s σ H _ I h) fun v s1 ⟨y, H1, I1, r1, q1⟩ => ?_) hs
  exact store_ok I1 hN hi hx r1 (fun s2 I2 => ⟨_, H1, I2, q1⟩) hf
def tAug (i : Nat) (te : TE) (ti : TIp) : TS := fun D σ H => ∃ x, σ[i]? = some (some x) ∧ te σ H fun y H1 => ti x y H1 fun z H2 => D.nx (σ.set i (some z)) H2
theorem ps_aug {i : Nat} {x : Str} {e : Expr} {te : TE} {op : Operator} {ti : TIp} {pos' : Pos} (hN : X.N.Nodup) (hi : X.N[i]? = some x) (hx : Loc X.env.scope x) (he : PE X e te) (ho : PIp X op ti) (hf : X.fn x = true ∨ X.env.scope.names.lookup x = some .local := by first | exact .inl rfl | exact .inr rfl | assumption) :
    PS X (.AugAssign (.Name x pos') op e pos) (tAug i te ti) := by
  intro pins s σ H D I h
  obtain ⟨v, e1, h⟩ := h
  obtain ⟨m, hn, hl⟩ := I.loc
  have vis : Vis X.env.scope x := by rcases hx with k | k; exact .inl k; exact .inr (.inl k)
  obtain ⟨u, r, l⟩ := hl i x v hi e1 vis
  refine wpAny_AugAssign_Name ?_
  have go : wpAny (model X.prog X.w) X.A (eval e X.env) (fun w s₂ => wpAny (model X.prog X.w) X.A (inplaceOp op u w) (fun r s₃ => wpAny (model X.prog X.w) X.A (storeName X.env x r) (fun _ => SP X pins D .next) X.xe s₃) X.xe s₂) X.xe s := by
    refine thn (he pins s σ H _ I h) fun w s1 ⟨y, H1, I1, r1, q1⟩ => ?_
    refine thn (ho pins s1 σ H1 v y u w _ I1 r r1 q1) fun z s2 ⟨zv, H2, I2, r2, q2⟩ => ?_
    exact store_ok I2 hN hi hx r2 (fun s3 I3 => ⟨_, H2, I3, q2⟩) hf
  rcases l with ⟨hk, hm⟩ | ⟨hk, c, hc, hcell⟩
  · exact wpAny_loadName_local I.ok.kind hk hn hm go
  · rcases hk with hk | hk
    · exact wpAny_loadName_cell I.ok.kind hk hc hcell go
    · rcases hx with k | k
      · have : X.env.scope.names.lookup x = some .free := hk
        rw [k] at this; cases this
      · have : X.env.scope.names.lookup x = some .free := hk
        rw [k] at this; cases this
def ipI (f : Int → Int → Int) : TIp := fun x y H Q => ∃ i j, x = .int i ∧ y = .int j ∧ Q (.int (f i j)) H
theorem ip_add : PIp X .Add (ipI fun i j => i + j) := by
  intro pins s σ H x y v u Q I r1 r2 h
  obtain ⟨i, j, e1, e2, q⟩ := h
  subst e1; subst e2
  obtain ⟨t, rfl⟩ := r1
  obtain ⟨t', rfl⟩ := r2
  exact iadd_int ⟨.int _, H, I.tok _, ⟨_, rfl⟩, q⟩
theorem ip_sub : PIp X .Sub (ipI fun i j => i - j) := by
  intro pins s σ H x y v u Q I r1 r2 h
  obtain ⟨i, j, e1, e2, q⟩ := h
  subst e1; subst e2
  obtain ⟨t, rfl⟩ := r1
  obtain ⟨t', rfl⟩ := r2
  exact isub_int ⟨.int _, H, I.tok _, ⟨_, rfl⟩, q⟩
end
section
variable {X : Cx} {pos : Pos}
def tWhile (c : TT) (tb : TS) : TS := fun D σ H => ∃ W : Nat → St → Hp → Prop, (∃ m, W m σ H) ∧ ∀ m σ H, W m σ H →
  c σ H fun b H1 => if b = true then ∃ N : St → Hp → Prop, (∀ σ' H', N σ' H' → ∃ m', m' < m ∧ W m' σ' H') ∧ tb { D with nx := N, ct := N, bk := D.nx } σ H1 else D.nx σ H1
theorem ps_while {c : Expr} {body : List Stmt} {tc : TT} {tb : TS} (hp : PassesOwn (model X.prog X.w) X.A X.env X.xe) (hc : PT X c tc) (hb : PSs X body tb) : PS X (.While c body [] pos) (tWhile tc tb) := by
  intro pins s σ H D I h
  obtain ⟨W, ⟨m0, w0⟩, turn⟩ := h
  refine wpAny_While (codeAny_whileLoop (fun n s' => ∃ σ' H', Inv X pins σ' H' s' ∧ W n σ' H') ?_ m0 ⟨σ, H, I, w0⟩)
  rintro n s1 ⟨σ1, H1, I1, w1⟩
  refine wpAny_passesOwn hp (thn (hc pins s1 σ1 H1 _ I1 (turn n σ1 H1 w1)) fun b s2 ⟨H2, I2, q2⟩ => ?_)
  cases b with
  | true =>
    obtain ⟨N, hN, q2⟩ := q2
    rw [if_pos rfl]
    refine wpAny_passesOwn hp (thn (hb pins s2 σ1 H2 _ I2 q2) fun f s3 q3 => ?_)
    cases f with
    | next =>
      obtain ⟨σ3, H3, I3, n3⟩ := q3
      obtain ⟨m', hm, w3⟩ := hN σ3 H3 n3
      exact ⟨m', hm, σ3, H3, I3, w3⟩
    | cont =>
      obtain ⟨σ3, H3, I3, n3⟩ := q3
      obtain ⟨m', hm, w3⟩ := hN σ3 H3 n3
      exact ⟨m', hm, σ3, H3, I3, w3⟩
    | brk => exact q3
    | ret v => exact q3
  | false =>
    rw [if_neg Bool.false_ne_true]
    exact wpAny_execs_nil ⟨σ1, H2, I2, q2⟩
end
structure It where
  go : Nat → Hp → Prop
  yld : Nat → Hp → V → Hp → Prop
  stop : Nat → Hp → Prop
def FpOk (X : Cx) (pins : List (Addr × Obj)) (H : Hp) (b : Addr) : Prop :=
  H b = none ∧ b ≠ X.env.locals ∧ b ∉ X.fs ∧ (b ∈ X.ex ∨ X.s₀.heap.objs.size ≤ b) ∧ (∀ x c, X.env.cells.lookup x = some c → c ≠ b) ∧ ∀ p ∈ X.pn ++ pins, p.1 ≠ b
theorem Inv.fpOk {X : Cx} {pins : List (Addr × Obj)} {σ : St} {H H' : Hp} {s : Shared} {b : Addr} (I : Inv X pins σ H s) (hb : s.heap.objs.size ≤ b) (hn : H' b = none) : FpOk X pins H' b := by
  refine ⟨hn, Nat.ne_of_gt (Nat.lt_of_lt_of_le I.lt hb), I.nofs hb, .inr (Nat.le_trans I.sz hb), fun x c e z => ?_, fun p hp z => ?_⟩
  · obtain ⟨v, q⟩ := I.cell x c e
    exact absurd (Nat.lt_of_lt_of_le q.lt (by rw [z]; exact hb)) (Nat.lt_irrefl _)
  · exact absurd (Nat.lt_of_lt_of_le (Heap.lt_size (I.pin p hp).1) (by rw [z]; exact hb)) (Nat.lt_irrefl _)
structure Turn (P : Program) (w : World) (K : PySem.W.Frag) (tg : Expr) (J : It) (fp : List Addr) (it : Addr) (tn : Nat → Heap → Prop) : Prop where
  mem : it ∈ fp
  obj : ∀ i h, tn i h → ∀ b ∈ fp, ∃ o, h.get? b = some o ∧ ∀ v, o.data ≠ .cell v
  keep : ∀ i h h', tn i h → (∀ b ∈ fp, ∀ o, h.get? b = some o → h'.get? b = some o) → tn i h'
  item : ∀ (X : Cx), X.prog = P → X.w = w → X.K = K → X.calm = true → ∀ (i : Nat) (pins : List (Addr × Obj)) (s : Shared) (σ : St) (H : Hp) (E : Value → Shared → Prop), Inv X pins σ H s → (∀ b ∈ fp, FpOk X pins H b) → tn i s.heap → J.go i H →
    wpAny (model P w) X.A (pyNext (.ref it)) (fun r s1 => ∃ u, r = some u ∧
      wpAny (model P w) X.A (letOwnedTupleGo tg (.ref it) u) (fun _ s2 => ∃ x H', Inv X pins σ H' s2 ∧ RelV x u ∧ J.yld i H x H' ∧ tn (i + 1) s2.heap ∧ ∀ b ∈ fp, H' b = none) E s1) E s
  done : ∀ (X : Cx), X.prog = P → X.w = w → X.K = K → X.calm = true → ∀ (i : Nat) (pins : List (Addr × Obj)) (s : Shared) (σ : St) (H : Hp) (E : Value → Shared → Prop), Inv X pins σ H s → (∀ b ∈ fp, FpOk X pins H b) → tn i s.heap → J.stop i H →
    wpAny (model P w) X.A (pyNext (.ref it)) (fun r s1 => r = none ∧ Inv X pins σ H s1) E s
  self : ∀ (A : Around) (i : Nat) (s : Shared) (Q : Value → Shared → Prop) (E : Value → Shared → Prop), tn i s.heap → Q (.ref it) s → wpAny (model P w) A (pyIter (.ref it)) Q E s
abbrev TI := St → Hp → (It → Hp → Prop) → Prop
def PIE (X : Cx) (pins : List (Addr × Obj)) (σ : St) (tg : Expr) (R : It → Hp → Prop) (itv : Value) (s2 : Shared) : Prop :=
  ∃ (it : Addr) (fp : List Addr) (tn : Nat → Heap → Prop) (J : It) (H' : Hp), itv = .ref it ∧ Inv X pins σ H' s2 ∧ Turn X.prog X.w X.K tg J fp it tn ∧ tn 0 s2.heap ∧ (∀ b ∈ fp, FpOk X pins H' b) ∧ R J H'
def PI (X : Cx) (tg iter : Expr) (wi : TI) : Prop :=
  ∀ (pins : List (Addr × Obj)) (s : Shared) (σ : St) (H : Hp) (R : It → Hp → Prop), Inv X pins σ H s → wi σ H R →
    wpAny (model X.prog X.w) X.A (eval iter X.env) (fun v s1 => wpAny (model X.prog X.w) X.A (pyIter v) (PIE X pins σ tg R) X.xe s1) X.xe s
theorem go_of {M : Model} {A : Around} {E : Value → Shared → Prop} {s : Shared} {tg : Expr} {it : Addr} {u : Value} {o : Obj} {n : String} {vs : Array Value} {Q : Unit → Shared → Prop} (ho : s.heap.get? it = some o) (hc : o.cls = .type n) (hd : o.data = .fields vs)
    (hn : ["enumerate", "zip", "dict_itemiterator", "dict_reverseitemiterator", "odict_iterator", "itertools.zip_longest", "itertools.pairwise"].contains n = false) (hQ : Q () s) : wpAny M A (letOwnedTupleGo tg (.ref it) u) Q E s := by
  unfold letOwnedTupleGo
  cases tg <;> first
    | exact wpAny_pure hQ
    | (cases u <;> first
        | exact wpAny_pure hQ
        | (refine wpAny_bind (wpAny_load ho ?_)
           rw [hc, hd]
           show wpAny M A (if (["enumerate", "zip", "dict_itemiterator", "dict_reverseitemiterator", "odict_iterator", "itertools.zip_longest", "itertools.pairwise"].contains n && vs[0]? == some (rawInt _)) = true then _ else _) Q E s
           rw [if_neg (by intro h; rw [hn, Bool.false_and] at h; cases h)]
           exact wpAny_pure hQ))
def Itl (K : PySem.W.Frag) (a : Addr) : It :=
  ⟨fun i H => ∃ xs x, SqL K H a xs ∧ xs[i]? = some x, fun i H x H' => H' = H ∧ ∀ xs, SqL K H a xs → xs[i]? = some x, fun i H => ∃ xs, SqL K H a xs ∧ xs.length ≤ i⟩
def Itr (lo : Int) (n : Nat) : It := ⟨fun i _ => i < n, fun i H x H' => H' = H ∧ x = .int (lo + i), fun i _ => n ≤ i⟩
theorem turn_list {P : Program} {w : World} {K : PySem.W.Frag} {tg : Expr} (a it : Addr) : Turn P w K tg (Itl K a) [it] it (fun i h => h.IsListIter it a i) where
  mem := by simp
  obj := fun i h st b hb => by
    have e : b = it := by simpa using hb
    subst e
    obtain ⟨o, e, c, d⟩ := st
    exact ⟨o, e, fun v z => by rw [d] at z; cases z⟩
  keep := fun i h h' st k => st.at fun o e => k it (by simp) o e
  item := by
    intro X hP hw hK hc i pins s σ H E I hf st hg
    subst hP hw hK
    obtain ⟨xs, x, hq, hx⟩ := hg
    obtain ⟨its, rv, p, hz⟩ := I.list hq
    obtain ⟨u, hu, ru⟩ := rv.get hx
    obtain ⟨f0, f1, f2, f3, f4, f5⟩ := hf it (by simp)
    refine wpAny_pyNext_list_item st p.isList (x := u) (by simpa using hu) fun h' st' sb => ?_
    have I1 : Inv X pins σ H { s with heap := h' } := I.turned (t' := s.toks) (fun b o hb e => (sb.2 b hb).trans e) f0 f1 f3 f4 f5
    obtain ⟨o, e, c, d⟩ := id st'
    exact ⟨u, rfl, go_of (s := { s with heap := h' }) e c d (by decide) ⟨x, H, I1, ru, ⟨rfl, fun ys hy => by rw [I.list_inj hy hq]; exact hx⟩, st', fun b hb => (hf b hb).1⟩⟩
  done := by
    intro X hP hw hK hc i pins s σ H E I hf st hg
    subst hP hw hK
    obtain ⟨xs, hq, hx⟩ := hg
    obtain ⟨its, rv, p, hz⟩ := I.list hq
    obtain ⟨f0, f1, f2, f3, f4, f5⟩ := hf it (by simp)
    have hl := rv.length
    exact wpAny_pyNext_list_end (I.ok.hd hc) st p.isList (by simp; omega) fun h' eb => ⟨rfl, I.turned (t' := s.toks) (fun b o hb e => eb b o hb e) f0 f1 f3 f4 f5⟩
  self := fun _ _ _ _ _ st h => wpAny_pyIter_listiter st h
theorem turn_range {P : Program} {w : World} {K : PySem.W.Frag} {tg : Expr} (it : Addr) (lo : Int) (n : Nat) : Turn P w K tg (Itr lo n) [it] it (fun i h => IsRangeIter h it (lo + (i : Nat) * 1) ((n : Int) - (i : Nat)) 1) where
  mem := by simp
  obj := fun i h st b hb => by
    have e : b = it := by simpa using hb
    subst e
    exact ⟨_, st, fun v z => by
      have z' : Data.fields _ = Data.cell v := z
      cases z'⟩
  keep := fun i h h' st k => k it (by simp) _ st
  item := by
    intro X hP hw hK hc i pins s σ H E I hf st hg
    subst hP hw hK
    obtain ⟨f0, f1, f2, f3, f4, f5⟩ := hf it (by simp)
    have W := Walks.range (prog := X.prog) (w := X.w) (I.ok.hd hc) it lo 1 n
    refine W.item i s _ _ hg st fun v h' tk hv st' kk => ?_
    obtain ⟨t, rfl⟩ := hv
    have I1 : Inv X pins σ H { s with heap := h', toks := tk } := I.turned (fun b o hb e => kk b o (by simpa using hb) e) f0 f1 f3 f4 f5
    refine ⟨_, rfl, go_of (s := { s with heap := h', toks := tk }) (n := "range_iterator") st' rfl rfl (by decide) ⟨.int (lo + i), H, I1, ⟨t, ?_⟩, ⟨rfl, rfl⟩, st', fun b hb => (hf b hb).1⟩⟩
    rw [Int.mul_one]
  done := by
    intro X hP hw hK hc i pins s σ H E I hf st hg
    subst hP hw hK
    obtain ⟨f0, f1, f2, f3, f4, f5⟩ := hf it (by simp)
    exact wpAny_pyNext_range_end (I.ok.hd hc) st (by have : n ≤ i := hg; omega) fun h' eb => ⟨rfl, I.turned (t' := s.toks) (fun b o hb e => eb b o hb e) f0 f1 f3 f4 f5⟩
  self := fun _ _ _ _ _ st h => wpAny_pyIter_rangeiter st h
end L2
namespace L2
open PySem PySem.Spec PyProof.Rows
section
variable {X : Cx} {tg : Expr}
def iList (K : PySem.W.Frag) (tl : TE) : TI := fun σ H R => tl σ H fun x H1 => ∃ a, x = .ref a ∧ (∃ xs, SqL K H1 a xs) ∧ R (Itl K a) H1
theorem pi_list {l : Expr} {tl : TE} (hl : PE X l tl) : PI X tg l (iList X.K tl) := by
  intro pins s σ H R I h
  refine thn (hl pins s σ H _ I h) fun v s1 ⟨x, H1, I1, r1, q1⟩ => ?_
  obtain ⟨a, e, ⟨xs, hq⟩, q⟩ := q1
  subst e
  cases r1
  obtain ⟨its, rv, p, hz⟩ := I1.list hq
  refine wpAny_pyIter_list p.isList ?_
  refine ⟨s1.heap.objs.size, [s1.heap.objs.size], _, _, H1, rfl, I1.kept (t' := s1.toks) fun b o e => Heap.get?_push_of_some _ e, turn_list a _, ⟨_, Heap.get?_push_size _ rfl, rfl, rfl⟩, fun b hb => ?_, q⟩
  have e : b = s1.heap.objs.size := by simpa using hb
  subst e
  exact I1.fpOk (Nat.le_refl _) (I1.hok.fresh (Nat.le_refl _))
theorem range_it {pins : List (Addr × Obj)} {σ : St} {H : Hp} {s : Shared} {R : It → Hp → Prop} {E : Value → Shared → Prop} {lo hi : Int} {t u v : Tok} {tk : Nat} (I : Inv X pins σ H s) (h1 : -(2 ^ 62) ≤ lo) (h2 : lo < 2 ^ 62) (h3 : -(2 ^ 62) ≤ hi) (h4 : hi < 2 ^ 62)
    (q : R (Itr lo (hi - lo).toNat) H) : wpAny (model X.prog X.w) X.A (pyIter (.ref s.heap.objs.size)) (PIE X pins σ tg R) E { s with heap := s.heap.push { cls := .type "range", data := .fields #[.int lo t, .int hi u, .int 1 v] }, toks := tk } := by
  refine wpAny_pyIter_range (IsRange.new ..) (small_one h1 h2 h3 h4) ?_
  have I1 : Inv X pins σ H { s with heap := s.heap.push { cls := .type "range", data := .fields #[.int lo t, .int hi u, .int 1 v] }, toks := tk } := I.kept fun b o e => Heap.get?_push_of_some _ e
  refine ⟨(s.heap.push { cls := .type "range", data := .fields #[.int lo t, .int hi u, .int 1 v] }).objs.size, [(s.heap.push { cls := .type "range", data := .fields #[.int lo t, .int hi u, .int 1 v] }).objs.size], _, _, H, rfl,
    I1.kept (t' := tk) fun b o e => Heap.get?_push_of_some _ e, turn_range _ lo (hi - lo).toNat, ?_, fun b hb => ?_, q⟩
  · have e1 : lo + ((0 : Nat) : Int) * 1 = lo := by simp
    have e2 : (((hi - lo).toNat : Nat) : Int) - ((0 : Nat) : Int) = Builtin.Range.rangeSize lo hi 1 := by rw [rangeSize_one]; split <;> omega
    show IsRangeIter _ _ (lo + ((0 : Nat) : Int) * 1) ((((hi - lo).toNat : Nat) : Int) - ((0 : Nat) : Int)) 1
    rw [e1, e2]
    exact Heap.get?_push_size _ rfl
  · have e : b = (s.heap.push { cls := .type "range", data := .fields #[.int lo t, .int hi u, .int 1 v] }).objs.size := by simpa using hb
    subst e
    exact I1.fpOk (Nat.le_refl _) (I1.hok.fresh (Nat.le_refl _))
def iRng1 (ta : TA) : TI := fun σ H R => ta σ H fun vs H1 => ∃ j : Int, vs = [.int j] ∧ -(2 ^ 62) ≤ j ∧ j < 2 ^ 62 ∧ R (Itr 0 j.toNat) H1
def iRng2 (ta : TA) : TI := fun σ H R => ta σ H fun vs H1 => ∃ i j : Int, vs = [.int i, .int j] ∧ (-(2 ^ 62) ≤ i ∧ i < 2 ^ 62 ∧ -(2 ^ 62) ≤ j ∧ j < 2 ^ 62) ∧ R (Itr i (j - i).toNat) H1
theorem pi_range1 {a : Expr} {ta : TA} {p pos : Pos} (hg : Gl X "range") (hm : X.mg "range" = none) (ha : PA X [a] ta) (hs : starEach [a] X.env = [(false, eval a X.env)] := by rfl) : PI X tg (.Call (.Name "range" p) [a] [] pos) (iRng1 ta) := by
  intro pins s σ H R I h
  refine Call_ (ld_blt I hg hm boot_range (PyProof.Rows.callWith_type1 (thn (ha pos pins s σ H _ I h) fun us s1 ⟨vs, H1, I1, r1, q1⟩ => ?_) hs rfl))
  obtain ⟨j, e, q1, q2, q⟩ := q1
  subst e
  cases r1 with
  | cons r rr =>
    cases rr
    obtain ⟨t, rfl⟩ := r
    exact call_range_1 (range_it I1 (by omega) (by omega) q1 q2 (by simpa using q))
theorem pi_range2 {a b : Expr} {ta : TA} {p pos : Pos} (hg : Gl X "range") (hm : X.mg "range" = none) (ha : PA X [a, b] ta) (hs : starEach [a, b] X.env = [(false, eval a X.env), (false, eval b X.env)] := by rfl) (hs2 : starEach [b] X.env = [(false, eval b X.env)] := by rfl) :
    PI X tg (.Call (.Name "range" p) [a, b] [] pos) (iRng2 ta) := by
  intro pins s σ H R I h
  refine Call_ (ld_blt I hg hm boot_range (PyProof.Rows.callWith_type1 (thn (ha pos pins s σ H _ I h) fun us s1 ⟨vs, H1, I1, r1, q1⟩ => ?_) (by rw [hs, hs2]) (by rw [hs2]; rfl)))
  obtain ⟨i, j, e, ⟨q1, q2, q3, q4⟩, q⟩ := q1
  subst e
  cases r1 with
  | cons r rr =>
    cases rr with
    | cons r' rr =>
      cases rr
      obtain ⟨t, rfl⟩ := r
      obtain ⟨t', rfl⟩ := r'
      exact call_range_2 (range_it I1 q1 q2 q3 q4 q)
def tFor (wi : TI) (g : TG) (tb : TS) : TS := fun D σ H => wi σ H fun J H1 => ∃ W : Nat → Nat → St → Hp → Prop, (∃ m, W 0 m σ H1) ∧ ∀ i m σ H, W i m σ H →
  (J.stop i H ∧ D.nx σ H) ∨ (J.go i H ∧ ∃ N : St → Hp → Prop, (∀ σ' H', N σ' H' → ∃ m', m' < m ∧ W (i + 1) m' σ' H') ∧ ∀ x H', J.yld i H x H' → g x σ H' fun σ2 H2 => tb { D with nx := N, ct := N, bk := D.nx } σ2 H2)
def pinsAt (fp : List Addr) (h : Heap) : List (Addr × Obj) := fp.filterMap fun b => (h.get? b).map fun o => (b, o)
theorem mem_pinsAt {fp : List Addr} {h : Heap} {b : Addr} {o : Obj} (hb : b ∈ fp) (e : h.get? b = some o) : (b, o) ∈ pinsAt fp h := List.mem_filterMap.mpr ⟨b, hb, by rw [e]; rfl⟩
theorem of_pinsAt {fp : List Addr} {h : Heap} {p : Addr × Obj} (hp : p ∈ pinsAt fp h) : p.1 ∈ fp ∧ h.get? p.1 = some p.2 := by
  obtain ⟨b, hb, e⟩ := List.mem_filterMap.mp hp
  cases q : h.get? b with
  | none => rw [q] at e; cases e
  | some o =>
    rw [q] at e
    have e' : (b, o) = p := Option.some.inj e
    subst e'
    exact ⟨hb, q⟩
theorem Inv.pinned {pins : List (Addr × Obj)} {σ : St} {H : Hp} {s : Shared} {fp : List Addr} (I : Inv X pins σ H s) (hf : ∀ b ∈ fp, FpOk X pins H b) (ho : ∀ b ∈ fp, ∃ o, s.heap.get? b = some o ∧ ∀ v, o.data ≠ .cell v) : Inv X (pins ++ pinsAt fp s.heap) σ H s :=
  I.pins_of fun p hp => (List.mem_append.mp hp).elim (fun z => I.pin p (List.mem_append_right _ z)) fun z => by
    obtain ⟨hb, e⟩ := of_pinsAt z
    obtain ⟨f0, f1, f2, _⟩ := hf p.1 hb
    obtain ⟨o, e', d⟩ := ho p.1 hb
    rw [e] at e'; cases e'
    exact ⟨e, f0, f1, f2, d⟩
theorem Inv.unpinned {pins pl : List (Addr × Obj)} {σ : St} {H : Hp} {s : Shared} (I : Inv X (pins ++ pl) σ H s) : Inv X pins σ H s := I.pins_of fun p hp => I.pin p (List.mem_append_right _ (List.mem_append_left _ hp))
theorem ps_for {iter : Expr} {body : List Stmt} {wi : TI} {g : TG} {tb : TS} {pos : Pos} (hp : PassesOwn (model X.prog X.w) X.A X.env X.xe) (hc : X.calm = true) (hi : PI X tg iter wi) (hg : PG X tg g) (hb : PSs X body tb)
    (hs : ∀ x, foldedSetIterable iter X.env x = pure x := by intro _; rfl) : PS X (.For tg iter body [] pos) (tFor wi g tb) := by
  intro pins s σ H D I h
  refine wpAny_For (thn (hi pins s σ H _ I h) fun v s1 h1 => thn h1 fun itv s2 h2 => ?_) hs
  obtain ⟨it, fp, tn, J, H2, e, I2, T, st2, f2, W, ⟨m0, w0⟩, turn⟩ := h2
  subst e
  have stat : ∀ {H' : Hp}, (∀ b ∈ fp, H' b = none) → ∀ b ∈ fp, FpOk X pins H' b := fun hn b hb => ⟨hn b hb, (f2 b hb).2⟩
  refine codeAny_forLoop_any (fun n s' => ∃ i σ' H', Inv X pins σ' H' s' ∧ tn i s'.heap ∧ (∀ b ∈ fp, H' b = none) ∧ W i n σ' H') ?_ m0 ⟨0, σ, H2, I2, st2, fun b hb => (f2 b hb).1, w0⟩
  rintro n s3 ⟨i, σ3, H3, I3, st3, fr3, w3⟩
  rcases turn i n σ3 H3 w3 with ⟨stop, qn⟩ | ⟨go, N, hN, step⟩
  · refine wpAny_passesOwn hp (thn (T.done X rfl rfl rfl hc i pins s3 σ3 H3 X.xe I3 (stat fr3) st3 stop) fun r s4 ⟨hr, I4⟩ => ?_)
    subst hr
    exact wpAny_execs_nil ⟨σ3, H3, I4, qn⟩
  · refine wpAny_passesOwn hp (thn (T.item X rfl rfl rfl hc i pins s3 σ3 H3 X.xe I3 (stat fr3) st3 go) fun r s4 ⟨u, hr, h4⟩ => ?_)
    subst hr
    refine wpAny_passesOwn hp (thn h4 fun _ s5 ⟨x, H5, I5, r5, y5, st5, fr5⟩ => ?_)
    have I5' := I5.pinned (stat fr5) (T.obj _ _ st5)
    refine wpAny_passesOwn hp (thn (hg _ s5 σ3 H5 x u _ I5' r5 (step x H5 y5)) fun _ s6 ⟨σ6, H6, I6, q6⟩ => ?_)
    refine wpAny_passesOwn hp (thn (hb _ s6 σ6 H6 _ I6 q6) fun f s7 q7 => ?_)
    have again : ∀ {σ7 : St} {H7 : Hp}, Inv X (pins ++ pinsAt fp s5.heap) σ7 H7 s7 → N σ7 H7 → ∃ m, m < n ∧ ∃ i σ' H', Inv X pins σ' H' s7 ∧ tn i s7.heap ∧ (∀ b ∈ fp, H' b = none) ∧ W i m σ' H' := fun {σ7 H7} I7 n7 => by
      obtain ⟨m', hm, w7⟩ := hN σ7 H7 n7
      refine ⟨m', hm, i + 1, σ7, H7, I7.unpinned, T.keep _ _ _ st5 fun b hb o e => (I7.pin (b, o) (List.mem_append_right _ (List.mem_append_right _ (mem_pinsAt hb e)))).1, fun b hb => ?_, w7⟩
      obtain ⟨o, e, d⟩ := T.obj _ _ st5 b hb
      exact (I7.pin (b, o) (List.mem_append_right _ (List.mem_append_right _ (mem_pinsAt hb e)))).2.1
    cases f with
    | next => obtain ⟨σ7, H7, I7, n7⟩ := q7; exact again I7 n7
    | cont => obtain ⟨σ7, H7, I7, n7⟩ := q7; exact again I7 n7
    | brk => obtain ⟨σ7, H7, I7, q7⟩ := q7; exact ⟨σ7, H7, I7.unpinned, q7⟩
    | ret v => obtain ⟨x7, σ7, H7, I7, r7, q7⟩ := q7; exact ⟨x7, σ7, H7, I7.unpinned, r7, q7⟩
end
theorem for_list {K : PySem.W.Frag} {a : Addr} {xs : List V} {g : TG} {tb : TS} {D : Ends} {σ : St} {H : Hp} (Pv : Nat → St → Hp → Prop) (h0 : Pv 0 σ H) (hl : ∀ i σ H, i ≤ xs.length → Pv i σ H → SqL K H a xs)
    (hs : ∀ i x σ H, xs[i]? = some x → Pv i σ H → g x σ H fun σ2 H2 => tb { D with nx := Pv (i + 1), ct := Pv (i + 1), bk := D.nx } σ2 H2) (hd : ∀ σ H, Pv xs.length σ H → D.nx σ H) :
    ∃ W : Nat → Nat → St → Hp → Prop, (∃ m, W 0 m σ H) ∧ ∀ i m σ H, W i m σ H →
      ((Itl K a).stop i H ∧ D.nx σ H) ∨ ((Itl K a).go i H ∧ ∃ N : St → Hp → Prop, (∀ σ' H', N σ' H' → ∃ m', m' < m ∧ W (i + 1) m' σ' H') ∧ ∀ x H', (Itl K a).yld i H x H' → g x σ H' fun σ2 H2 => tb { D with nx := N, ct := N, bk := D.nx } σ2 H2) := by
  refine ⟨fun i m σ H => m = xs.length - i ∧ i ≤ xs.length ∧ Pv i σ H, ⟨xs.length, by simp, Nat.zero_le _, h0⟩, ?_⟩
  rintro i m σ H ⟨rfl, hi, p⟩
  have q := hl i σ H hi p
  by_cases hlt : i < xs.length
  · refine .inr ⟨⟨xs, xs[i], q, by simp [hlt]⟩, Pv (i + 1), fun σ' H' p' => ⟨xs.length - (i + 1), by omega, rfl, hlt, p'⟩, fun x H' y => ?_⟩
    obtain ⟨e, y⟩ := y
    subst e
    exact hs i x σ _ (y xs q) p
  · have e : i = xs.length := by omega
    subst e
    exact .inl ⟨⟨xs, q, Nat.le_refl _⟩, hd σ H p⟩
theorem for_range {lo : Int} {n : Nat} {g : TG} {tb : TS} {D : Ends} {σ : St} {H : Hp} (Pv : Nat → St → Hp → Prop) (h0 : Pv 0 σ H)
    (hs : ∀ i σ H, i < n → Pv i σ H → g (.int (lo + i)) σ H fun σ2 H2 => tb { D with nx := Pv (i + 1), ct := Pv (i + 1), bk := D.nx } σ2 H2) (hd : ∀ σ H, Pv n σ H → D.nx σ H) :
    ∃ W : Nat → Nat → St → Hp → Prop, (∃ m, W 0 m σ H) ∧ ∀ i m σ H, W i m σ H →
      ((Itr lo n).stop i H ∧ D.nx σ H) ∨ ((Itr lo n).go i H ∧ ∃ N : St → Hp → Prop, (∀ σ' H', N σ' H' → ∃ m', m' < m ∧ W (i + 1) m' σ' H') ∧ ∀ x H', (Itr lo n).yld i H x H' → g x σ H' fun σ2 H2 => tb { D with nx := N, ct := N, bk := D.nx } σ2 H2) := by
  refine ⟨fun i m σ H => m = n - i ∧ i ≤ n ∧ Pv i σ H, ⟨n, by simp, Nat.zero_le _, h0⟩, ?_⟩
  rintro i m σ H ⟨rfl, hi, p⟩
  by_cases hlt : i < n
  · refine .inr ⟨hlt, Pv (i + 1), fun σ' H' p' => ⟨n - (i + 1), by omega, rfl, hlt, p'⟩, fun x H' y => ?_⟩
    obtain ⟨e, y⟩ := y
    subst e y
    exact hs i σ _ hlt p
  · have e : i = n := by omega
    subst e
    exact .inl ⟨Nat.le_refl _, hd σ H p⟩
theorem while_by {c : TT} {tb : TS} {D : Ends} {σ : St} {H : Hp} (Pv : St → Hp → Prop) (μ : St → Hp → Nat) (h0 : Pv σ H)
    (hs : ∀ σ H, Pv σ H → c σ H fun b H1 => if b = true then tb { D with nx := fun σ' H' => Pv σ' H' ∧ μ σ' H' < μ σ H, ct := fun σ' H' => Pv σ' H' ∧ μ σ' H' < μ σ H, bk := D.nx } σ H1 else D.nx σ H1)
    (mono : ∀ σ H Q Q', (∀ b H1, Q b H1 → Q' b H1) → c σ H Q → c σ H Q') : tWhile c tb D σ H := by
  refine ⟨fun m σ H => m = μ σ H ∧ Pv σ H, ⟨_, rfl, h0⟩, ?_⟩
  rintro m σ H ⟨rfl, p⟩
  refine mono σ H _ _ (fun b H1 q => ?_) (hs σ H p)
  cases b with
  | true => exact ⟨_, fun σ' H' ⟨p', l⟩ => ⟨_, l, rfl, p'⟩, q⟩
  | false => exact q
end L2
namespace L2
open PySem PySem.Spec PyProof.Rows
abbrev R2 := V → V → Hp → VK → Prop
def OpR (X : Cx) (f : Value → Value → Sem Value) (r : R2) : Prop :=
  ∀ (pins : List (Addr × Obj)) (s : Shared) (σ : St) (H : Hp) (x y : V) (v u : Value) (Q : VK), Inv X pins σ H s → RelV x v → RelV y u → r x y H Q →
    wpAny (model X.prog X.w) X.A (f v u) (EP X pins σ Q) X.xe s
def UnR (X : Cx) (f : Value → Sem Value) (r : V → Hp → VK → Prop) : Prop :=
  ∀ (pins : List (Addr × Obj)) (s : Shared) (σ : St) (H : Hp) (x : V) (v : Value) (Q : VK), Inv X pins σ H s → RelV x v → r x H Q →
    wpAny (model X.prog X.w) X.A (f v) (EP X pins σ Q) X.xe s
def CallR (X : Cx) (f : Value) (r : List V → Hp → VK → Prop) : Prop :=
  ∀ (pins : List (Addr × Obj)) (s : Shared) (σ : St) (H : Hp) (xs : List V) (us : List Value) (Q : VK), Inv X pins σ H s → Vals xs us → r xs H Q →
    wpAny (model X.prog X.w) X.A (call f us) (EP X pins σ Q) X.xe s
def tOp (r : R2) (ta tb : TE) : TE := fun σ H Q => ta σ H fun x H1 => tb σ H1 fun y H2 => r x y H2 Q
def tUn (r : V → Hp → VK → Prop) (ta : TE) : TE := fun σ H Q => ta σ H fun x H1 => r x H1 Q
def rI (C : Int → Int → Prop) (g : Int → Int → V) : R2 := fun x y H Q => ∃ i j, x = .int i ∧ y = .int j ∧ C i j ∧ Q (g i j) H
def rI0 (g : Int → Int → V) : R2 := fun x y H Q => ∃ i j, x = .int i ∧ y = .int j ∧ Q (g i j) H
def rU (g : Int → V) : V → Hp → VK → Prop := fun x H Q => ∃ i, x = .int i ∧ Q (g i) H
section
variable {X : Cx} {a b c : Expr} {ta tb tc : TE} {pos : Pos}
theorem binT (ha : PE X a ta) (hb : PE X b tb) {pins : List (Addr × Obj)} {s : Shared} {σ : St} {H : Hp} {R : V → V → Hp → Prop} (I : Inv X pins σ H s)
    (h : ta σ H fun x H1 => tb σ H1 fun y H2 => R x y H2) {Q : Value → Shared → Prop} {f : Value → Value → Sem Value}
    (hf : ∀ v u s2 x y H2, Inv X pins σ H2 s2 → RelV x v → RelV y u → R x y H2 → wpAny (model X.prog X.w) X.A (f v u) Q X.xe s2) :
    wpAny (model X.prog X.w) X.A (eval a X.env) (fun v s₁ => wpAny (model X.prog X.w) X.A (eval b X.env) (fun u s₂ => wpAny (model X.prog X.w) X.A (f v u) Q X.xe s₂) X.xe s₁) X.xe s := by
  refine thn (ha pins s σ H _ I h) fun v s1 ⟨x, H1, I1, r1, q1⟩ => ?_
  refine thn (hb pins s1 σ H1 _ I1 q1) fun u s2 ⟨y, H2, I2, r2, q2⟩ => ?_
  exact hf v u s2 x y H2 I2 r1 r2 q2
theorem pe_op {op : Operator} {r : R2} (ho : OpR X (binaryOp op) r) (ha : PE X a ta) (hb : PE X b tb) : PE X (.BinOp a op b pos) (tOp r ta tb) := by
  intro pins s σ H Q I h
  exact wpAny_BinOp (binT ha hb I h fun v u s2 x y H2 I2 rx ry q => ho pins s2 σ H2 x y v u Q I2 rx ry q)
theorem pe_un {op : UnaryOp} {r : V → Hp → VK → Prop} (ho : UnR X (unaryOp op) r) (ha : PE X a ta) : PE X (.UnaryOp op a pos) (tUn r ta) := by
  intro pins s σ H Q I h
  exact UnaryOp_ (thn (ha pins s σ H _ I h) fun v s1 ⟨x, H1, I1, r1, q1⟩ => ho pins s1 σ H1 x v Q I1 r1 q1)
theorem opI {f : Value → Value → Sem Value} {C : Int → Int → Prop} {g : Int → Int → Int}
    (rule : ∀ (i j : Int) (t u : Tok) (s : Shared) (Q : Value → Shared → Prop) (E : Value → Shared → Prop), C i j → Q (.int (g i j) s.toks) { s with toks := s.toks + 1 } → wpAny (model X.prog X.w) X.A (f (.int i t) (.int j u)) Q E s) :
    OpR X f (rI C fun i j => .int (g i j)) := by
  intro pins s σ H x y v u Q I rx ry h
  obtain ⟨i, j, rfl, rfl, hc, q⟩ := h
  obtain ⟨t, rfl⟩ := rx
  obtain ⟨t', rfl⟩ := ry
  exact rule i j t t' s _ _ hc ⟨.int (g i j), H, I.tok _, ⟨_, rfl⟩, q⟩
theorem opI0 {f : Value → Value → Sem Value} {g : Int → Int → Int}
    (rule : ∀ (i j : Int) (t u : Tok) (s : Shared) (Q : Value → Shared → Prop) (E : Value → Shared → Prop), Q (.int (g i j) s.toks) { s with toks := s.toks + 1 } → wpAny (model X.prog X.w) X.A (f (.int i t) (.int j u)) Q E s) :
    OpR X f (rI0 fun i j => .int (g i j)) := by
  intro pins s σ H x y v u Q I rx ry h
  obtain ⟨i, j, rfl, rfl, q⟩ := h
  obtain ⟨t, rfl⟩ := rx
  obtain ⟨t', rfl⟩ := ry
  exact rule i j t t' s _ _ ⟨.int (g i j), H, I.tok _, ⟨_, rfl⟩, q⟩
theorem opB0 {f : Value → Value → Sem Value} {g : Int → Int → Bool}
    (rule : ∀ (i j : Int) (t u : Tok) (s : Shared) (Q : Value → Shared → Prop) (E : Value → Shared → Prop), Q (.bool (g i j)) s → wpAny (model X.prog X.w) X.A (f (.int i t) (.int j u)) Q E s) :
    OpR X f (rI0 fun i j => .bl (g i j)) := by
  intro pins s σ H x y v u Q I rx ry h
  obtain ⟨i, j, rfl, rfl, q⟩ := h
  obtain ⟨t, rfl⟩ := rx
  obtain ⟨t', rfl⟩ := ry
  exact rule i j t t' s _ _ ⟨.bl (g i j), H, I, rfl, q⟩
def CPow (i j : Int) : Prop := 0 ≤ j ∧ j ≤ 1000000 ∧ i.natAbs < 2 ^ 64
def CMul (i j : Int) : Prop := (-(2 ^ 64) < i ∧ i < 2 ^ 64) ∨ (-(2 ^ 64) < j ∧ j < 2 ^ 64)
theorem CMul.ok {i j : Int} (h : CMul i j) : IntMulOk i j := by
  rcases h with ⟨h1, h2⟩ | ⟨h1, h2⟩
  · exact .of_left (intBits_le_64 h1 h2)
  · exact .of_right (intBits_le_64 h1 h2)
theorem op_add : OpR X (binaryOp .Add) (rI0 fun i j => .int (i + j)) := opI0 fun _ _ _ _ _ _ _ q => add_int q
theorem op_sub : OpR X (binaryOp .Sub) (rI0 fun i j => .int (i - j)) := opI0 fun _ _ _ _ _ _ _ q => sub_int q
theorem op_mul : OpR X (binaryOp .Mult) (rI CMul fun i j => .int (i * j)) := opI fun _ _ _ _ _ _ _ hc q => mul_int q hc.ok
theorem op_mod : OpR X (binaryOp .Mod) (rI (fun _ j => 0 < j) fun i j => .int (i % j)) := opI fun i j _ _ _ _ _ hc q => by
  have h1 : (0 : Int) < j := hc
  exact mod_int' (by omega) (by rw [Int.fmod_eq_emod_of_nonneg i (by omega)]; exact q)
theorem op_pow : OpR X (binaryOp .Pow) (rI CPow fun i j => .int (i ^ j.toNat)) := opI fun _ _ _ _ _ _ _ hc q => pow_int_small hc.1 hc.2.1 hc.2.2 q
theorem unI {f : Value → Sem Value} {g : Int → Int}
    (rule : ∀ (i : Int) (t : Tok) (s : Shared) (Q : Value → Shared → Prop) (E : Value → Shared → Prop), Q (.int (g i) s.toks) { s with toks := s.toks + 1 } → wpAny (model X.prog X.w) X.A (f (.int i t)) Q E s) :
    UnR X f (rU fun i => .int (g i)) := by
  intro pins s σ H x v Q I rx h
  obtain ⟨i, rfl, q⟩ := h
  obtain ⟨t, rfl⟩ := rx
  exact rule i t s _ _ ⟨.int (g i), H, I.tok _, ⟨_, rfl⟩, q⟩
theorem un_neg : UnR X (unaryOp .USub) (rU fun i => .int (-i)) := unI fun _ _ _ _ _ q => neg_int q
end
def scal : V → V → Bool
  | .non, .non => true | .non, .int _ => true | .int _, .non => true | .non, .bl _ => true | .bl _, .non => true | .non, .str _ => true | .str _, .non => true
  | .int _, .int _ => true | .bl _, .bl _ => true | .str _, .str _ => true | .byt _, .byt _ => true
  | .int _, .str _ => true | .str _, .int _ => true | .bl _, .str _ => true | .str _, .bl _ => true
  | _, _ => false
def rEq : R2 := fun x y H Q => scal x y = true ∧ Q (.bl (decide (x = y))) H
def rNe : R2 := fun x y H Q => scal x y = true ∧ Q (.bl (!decide (x = y))) H
theorem dec_int {i j : Int} : decide (V.int i = V.int j) = (i == j) := by
  rw [Bool.eq_iff_iff]
  simp
theorem dec_bl {i j : Bool} : decide (V.bl i = V.bl j) = (i == j) := by
  rw [Bool.eq_iff_iff]
  simp
theorem dec_str {i j : Str} : decide (V.str i = V.str j) = (i == j) := by
  rw [Bool.eq_iff_iff]
  simp
theorem dec_byt {i j : Array UInt8} : decide (V.byt i = V.byt j) = (i.toList == j.toList) := by
  rw [Bool.eq_iff_iff]
  cases i
  cases j
  simp
section
variable {X : Cx} {a b c : Expr} {ta tb tc : TE} {pos : Pos}
theorem fin_bl {pins : List (Addr × Obj)} {σ : St} {H : Hp} {s : Shared} {Q : VK} {k k' : Bool} (I : Inv X pins σ H s) (q : Q (.bl k) H) (e : k = k') : EP X pins σ Q (.bool k') s := by
  subst e
  exact ⟨.bl k, H, I, rfl, q⟩
theorem op_eq : OpR X (compareOp .Eq) rEq := by
  intro pins s σ H x y v u Q I rx ry h
  obtain ⟨hs, q⟩ := h
  cases x with
  | non =>
    cases rx
    cases y with
    | non => cases ry; exact PySem.EqNone.eq_none_none (fin_bl I q (by simp))
    | bl j => cases ry; exact PySem.EqNone.eq_none_bool (fin_bl I q (by simp))
    | int j => obtain ⟨t', rfl⟩ := ry; exact PySem.EqNone.eq_none_int (fin_bl I q (by simp))
    | str j => obtain ⟨t', rfl⟩ := ry; exact PySem.EqNone.eq_none_str (fin_bl I q (by simp))
    | _ => exact absurd (show false = true from hs) Bool.false_ne_true
  | bl i =>
    cases rx
    cases y with
    | non => cases ry; exact PySem.EqNone.eq_bool_none (fin_bl I q (by simp))
    | bl j => cases ry; exact eq_bool (fin_bl I q dec_bl)
    | str j => obtain ⟨t', rfl⟩ := ry; exact PySem.EqMixed.eq_bool_str (fin_bl I q (by simp))
    | _ => exact absurd (show false = true from hs) Bool.false_ne_true
  | int i =>
    obtain ⟨t, rfl⟩ := rx
    cases y with
    | non => cases ry; exact PySem.EqNone.eq_int_none (fin_bl I q (by simp))
    | int j => obtain ⟨t', rfl⟩ := ry; exact eq_int (fin_bl I q dec_int)
    | str j => obtain ⟨t', rfl⟩ := ry; exact PySem.EqMixed.eq_int_str (fin_bl I q (by simp))
    | _ => exact absurd (show false = true from hs) Bool.false_ne_true
  | str i =>
    obtain ⟨t, rfl⟩ := rx
    cases y with
    | non => cases ry; exact PySem.EqNone.eq_str_none (fin_bl I q (by simp))
    | bl j => cases ry; exact PySem.EqMixed.eq_str_bool (fin_bl I q (by simp))
    | int j => obtain ⟨t', rfl⟩ := ry; exact PySem.EqMixed.eq_str_int (fin_bl I q (by simp))
    | str j => obtain ⟨t', rfl⟩ := ry; exact eq_str (fin_bl I q dec_str)
    | _ => exact absurd (show false = true from hs) Bool.false_ne_true
  | byt i =>
    obtain ⟨t, rfl⟩ := rx
    cases y with
    | byt j => obtain ⟨t', rfl⟩ := ry; exact PySem.W.eq_bytes (fin_bl I q dec_byt)
    | _ => exact absurd (show false = true from hs) Bool.false_ne_true
  | _ => cases y <;> exact absurd (show false = true from hs) Bool.false_ne_true
theorem op_ne : OpR X (compareOp .NotEq) rNe := by
  intro pins s σ H x y v u Q I rx ry h
  obtain ⟨hs, q⟩ := h
  cases x with
  | non =>
    cases rx
    cases y with
    | non => cases ry; exact PySem.EqNone.ne_none_none (fin_bl I q (by simp))
    | bl j => cases ry; exact PySem.EqNone.ne_none_bool (fin_bl I q (by simp))
    | int j => obtain ⟨t', rfl⟩ := ry; exact PySem.EqNone.ne_none_int (fin_bl I q (by simp))
    | str j => obtain ⟨t', rfl⟩ := ry; exact PySem.EqNone.ne_none_str (fin_bl I q (by simp))
    | _ => exact absurd (show false = true from hs) Bool.false_ne_true
  | bl i =>
    cases rx
    cases y with
    | non => cases ry; exact PySem.EqNone.ne_bool_none (fin_bl I q (by simp))
    | bl j => cases ry; exact ne_bool (fin_bl I q (congrArg not dec_bl))
    | str j => obtain ⟨t', rfl⟩ := ry; exact PySem.EqMixed.ne_bool_str (fin_bl I q (by simp))
    | _ => exact absurd (show false = true from hs) Bool.false_ne_true
  | int i =>
    obtain ⟨t, rfl⟩ := rx
    cases y with
    | non => cases ry; exact PySem.EqNone.ne_int_none (fin_bl I q (by simp))
    | int j => obtain ⟨t', rfl⟩ := ry; exact ne_int (fin_bl I q (congrArg not dec_int))
    | str j => obtain ⟨t', rfl⟩ := ry; exact PySem.EqMixed.ne_int_str (fin_bl I q (by simp))
    | _ => exact absurd (show false = true from hs) Bool.false_ne_true
  | str i =>
    obtain ⟨t, rfl⟩ := rx
    cases y with
    | non => cases ry; exact PySem.EqNone.ne_str_none (fin_bl I q (by simp))
    | bl j => cases ry; exact PySem.EqMixed.ne_str_bool (fin_bl I q (by simp))
    | int j => obtain ⟨t', rfl⟩ := ry; exact PySem.EqMixed.ne_str_int (fin_bl I q (by simp))
    | str j => obtain ⟨t', rfl⟩ := ry; exact ne_str (fin_bl I q (congrArg not dec_str))
    | _ => exact absurd (show false = true from hs) Bool.false_ne_true
  | byt i =>
    obtain ⟨t, rfl⟩ := rx
    cases y with
    | byt j => obtain ⟨t', rfl⟩ := ry; exact PySem.W.ne_bytes (fin_bl I q (congrArg not dec_byt))
    | _ => exact absurd (show false = true from hs) Bool.false_ne_true
  | _ => cases y <;> exact absurd (show false = true from hs) Bool.false_ne_true
theorem op_lt : OpR X (compareOp .Lt) (rI0 fun i j => .bl (decide (i < j))) := opB0 fun _ _ _ _ _ _ _ q => lt_int q
theorem op_le : OpR X (compareOp .LtE) (rI0 fun i j => .bl (decide (i ≤ j))) := opB0 fun _ _ _ _ _ _ _ q => le_int q
theorem op_gt : OpR X (compareOp .Gt) (rI0 fun i j => .bl (decide (j < i))) := opB0 fun _ _ _ _ _ _ _ q => gt_int q
theorem op_ge : OpR X (compareOp .GtE) (rI0 fun i j => .bl (decide (j ≤ i))) := opB0 fun _ _ _ _ _ _ _ q => ge_int q
theorem op_isN : OpR X (compareOp .Is) (fun x y H Q => y = .non ∧ Q (.bl (decide (x = .non))) H) := by
  intro pins s σ H x y v u Q I rx ry h
  obtain ⟨rfl, q⟩ := h
  cases ry
  refine is_none_gen (fin_bl I q ?_)
  cases x <;> first
    | (cases rx; rfl)
    | (obtain ⟨t, rfl⟩ := rx; rfl)
theorem op_notN : OpR X (compareOp .IsNot) (fun x y H Q => y = .non ∧ Q (.bl (!decide (x = .non))) H) := by
  intro pins s σ H x y v u Q I rx ry h
  obtain ⟨rfl, q⟩ := h
  cases ry
  refine isnot_none_gen (fin_bl I q ?_)
  cases x <;> first
    | (cases rx; rfl)
    | (obtain ⟨t, rfl⟩ := rx; rfl)
theorem nomark (b : Expr) {op : CmpOp} (h : op ≠ .In := by decide) (h2 : op ≠ .NotIn := by decide) : behindInMarks op b = false := by
  have e1 : (op == CmpOp.In) = false := by cases op <;> first | rfl | exact absurd rfl h
  have e2 : (op == CmpOp.NotIn) = false := by cases op <;> first | rfl | exact absurd rfl h2
  cases b <;> simp [behindInMarks, e1, e2]
theorem pe_cmpR {op : CmpOp} {r : R2} (ho : OpR X (compareOp op) r) (ha : PE X a ta) (hb : PE X b tb) (hm : behindInMarks op b = false) : PE X (.Compare a [op] [b] pos) (tOp r ta tb) := by
  intro pins s σ H Q I h
  exact wpAny_Compare1 (binT ha hb I h fun v u s2 x y H2 I2 rx ry q => ho pins s2 σ H2 x y v u Q I2 rx ry q) hm
def tTest (t : TE) : TT := fun σ H Q => t σ H fun x H' => ∃ k, x = .bl k ∧ Q k H'
theorem pt_cmpR {op : CmpOp} {r : R2} (ho : OpR X (compareOp op) r) (ha : PE X a ta) (hb : PE X b tb) (hm : behindInMarks op b = false) : PT X (.Compare a [op] [b] pos) (tTest (tOp r ta tb)) := by
  intro pins s σ H Q I h
  refine wpAny_isTrue_Compare1 (thn (ha pins s σ H _ I h) fun v s1 ⟨x, H1, I1, r1, q1⟩ => thn (hb pins s1 σ H1 _ I1 q1) fun u s2 ⟨y, H2, I2, r2, q2⟩ =>
    thn (ho pins s2 σ H2 x y v u _ I2 r1 r2 q2) fun c s3 ⟨z, H3, I3, r3, k, e, q3⟩ => ?_) hm
  subst e
  cases r3
  exact wpAny_truthy_bool ⟨H3, I3, q3⟩
def tChain (r r' : R2) (ta tb tc : TE) : TE := fun σ H Q => ta σ H fun x H1 => tb σ H1 fun y H2 => r x y H2 fun z H3 => ∃ k, z = .bl k ∧
  (if k = true then tc σ H3 fun w' H4 => r' y w' H4 Q else Q (.bl false) H3)
theorem pe_chain {op op' : CmpOp} {r r' : R2} (ho : OpR X (compareOp op) r) (ho' : OpR X (compareOp op') r') (ha : PE X a ta) (hb : PE X b tb) (hc : PE X c tc)
    (hm : lastMarks [op, op'] [b, c] = false := by with_unfolding_all rfl) : PE X (.Compare a [op, op'] [b, c] pos) (tChain r r' ta tb tc) := by
  intro pins s σ H Q I h
  refine Compare_chain (thn (ha pins s σ H _ I h) fun v s1 ⟨x, H1, I1, r1, q1⟩ => chain_link (thn (hb pins s1 σ H1 _ I1 q1) fun u s2 ⟨y, H2, I2, r2, q2⟩ =>
    thn (ho pins s2 σ H2 x y v u _ I2 r1 r2 q2) fun d s3 ⟨z, H3, I3, r3, k, e, q3⟩ => ?_)) hm
  subst e
  cases r3
  refine wpAny_truthy_bool ?_
  cases k with
  | false => exact ite_ff ⟨.bl false, H3, I3, rfl, q3⟩
  | true => exact ite_tt (chain_last (thn (hc pins s3 σ H3 _ I3 q3) fun w' s4 ⟨z', H4, I4, r4, q4⟩ => ho' pins s4 σ H4 y z' u w' Q I4 r2 r4 q4))
theorem pt_chain {op op' : CmpOp} {r r' : R2} (ho : OpR X (compareOp op) r) (ho' : OpR X (compareOp op') r') (ha : PE X a ta) (hb : PE X b tb) (hc : PE X c tc)
    (hm : lastMarks [op, op'] [b, c] = false := by with_unfolding_all rfl) : PT X (.Compare a [op, op'] [b, c] pos) (tTest (tChain r r' ta tb tc)) := by
  intro pins s σ H Q I h
  refine isTrue_chain (thn (ha pins s σ H _ I h) fun v s1 ⟨x, H1, I1, r1, q1⟩ => test_link (thn (hb pins s1 σ H1 _ I1 q1) fun u s2 ⟨y, H2, I2, r2, q2⟩ =>
    thn (ho pins s2 σ H2 x y v u _ I2 r1 r2 q2) fun d s3 ⟨z, H3, I3, r3, k, e, q3⟩ => ?_)) hm
  subst e
  cases r3
  refine wpAny_truthy_bool ?_
  cases k with
  | false =>
    obtain ⟨k', e', q'⟩ := q3
    cases e'
    exact ite_ff ⟨H3, I3, q'⟩
  | true =>
    refine ite_tt (test_last (thn (hc pins s3 σ H3 _ I3 q3) fun w' s4 ⟨z', H4, I4, r4, q4⟩ => thn (ho' pins s4 σ H4 y z' u w' _ I4 r2 r4 q4) fun d' s5 ⟨z2, H5, I5, r5, k2, e2, q5⟩ => ?_))
    subst e2
    cases r5
    exact wpAny_truthy_bool ⟨H5, I5, q5⟩
theorem line63 : (sizeLine : Nat) < 2 ^ 63 := by rw [sizeLine_eq]; decide
theorem vals1 {x : V} {us : List Value} (r : Vals [x] us) : ∃ u, us = [u] ∧ RelV x u := by
  cases r with
  | cons r1 r2 => cases r2; exact ⟨_, rfl, r1⟩
theorem vals2 {x y : V} {us : List Value} (r : Vals [x, y] us) : ∃ u w', us = [u, w'] ∧ RelV x u ∧ RelV y w' := by
  cases r with
  | cons r1 r2 =>
    cases r2 with
    | cons r3 r4 => cases r4; exact ⟨_, _, rfl, r1, r3⟩
theorem call_max2 (hc : X.calm = true) : CallR X (.builtin "max") (fun xs H Q => ∃ i j, xs = [.int i, .int j] ∧ Q (.int (if j > i then j else i)) H) := by
  intro pins s σ H xs us Q I r h
  obtain ⟨i, j, rfl, q⟩ := h
  obtain ⟨u, w', rfl, ⟨t, rfl⟩, ⟨t', rfl⟩⟩ := vals2 r
  refine max_two_ints (I.ok.hd hc) fun h' tk k => ⟨_, H, I.kept k, ?_, q⟩
  by_cases hj : j > i
  · rw [if_pos hj, if_pos hj]; exact ⟨_, rfl⟩
  · rw [if_neg hj, if_neg hj]; exact ⟨_, rfl⟩
theorem call_min2 (hc : X.calm = true) : CallR X (.builtin "min") (fun xs H Q => ∃ i j, xs = [.int i, .int j] ∧ Q (.int (if j < i then j else i)) H) := by
  intro pins s σ H xs us Q I r h
  obtain ⟨i, j, rfl, q⟩ := h
  obtain ⟨u, w', rfl, ⟨t, rfl⟩, ⟨t', rfl⟩⟩ := vals2 r
  refine min_two_ints (I.ok.hd hc) fun h' tk k => ⟨_, H, I.kept k, ?_, q⟩
  by_cases hj : j < i
  · rw [if_pos hj, if_pos hj]; exact ⟨_, rfl⟩
  · rw [if_neg hj, if_neg hj]; exact ⟨_, rfl⟩
theorem call_int1 : CallR X (.type "int") (fun xs H Q => (∃ i, xs = [.int i] ∧ Q (.int i) H) ∨ ∃ k, xs = [.bl k] ∧ Q (.int (if k then 1 else 0)) H) := by
  intro pins s σ H xs us Q I r h
  rcases h with ⟨i, rfl, q⟩ | ⟨k, rfl, q⟩
  · obtain ⟨u, rfl, t, rfl⟩ := vals1 r
    exact call_int_int ⟨.int i, H, I, ⟨_, rfl⟩, q⟩
  · obtain ⟨u, rfl, r1⟩ := vals1 r
    cases r1
    exact call_int_bool ⟨.int (if k then 1 else 0), H, I.tok _, ⟨_, rfl⟩, q⟩
end
end L2
namespace L2
open PySem PySem.Spec PyProof.Rows
structure ObjM (h : Heap) (x dx C : Addr) (mA : Str → Option Value) : Prop where
  obj : h.get? x = some (PySem.W.instObj C dx)
  ns : h.Ns1 dx mA
  ne : dx ≠ x
theorem lookIn_ns {h : Heap} {dx : Addr} {mA : Str → Option Value} (n : h.Ns1 dx mA) : ∃ od, h.get? dx = some od ∧ ∀ name, PySem.W.lookIn name od = some (mA name) := by
  obtain ⟨o, es, ep, ho, hd, hk, _, hm⟩ := n
  refine ⟨o, ho, fun name => ?_⟩
  have e := hm name
  unfold nsFind findBy at e
  rw [← Array.find?_toList] at e
  unfold PySem.W.lookIn
  rw [hd]
  dsimp only
  split
  · rename_i y q
    rw [q] at e
    exact congrArg some e
  · rename_i q
    rw [q] at e
    have a : es.toList.any (·.refKey) = false := by
      rw [List.any_eq_false]
      intro y hy
      obtain ⟨z, t, hkey⟩ := hk y (Array.mem_toList_iff.mp hy)
      simp [DictEntry.refKey, hkey]
    have a' : ¬ es.toList.any (·.refKey) = true := by rw [a]; exact Bool.false_ne_true
    rw [if_neg a']
    exact congrArg some e
theorem ObjM.look {h : Heap} {x dx C : Addr} {mA : Str → Option Value} (I : ObjM h x dx C mA) : ∃ od, PySem.W.InstAt h x (PySem.W.instObj C dx) C (some od) ∧ ∀ name, PySem.W.lookIn name od = some (mA name) :=
  let ⟨od, ho, hl⟩ := lookIn_ns I.ns
  ⟨od, ⟨I.obj, rfl, rfl, ho⟩, hl⟩
section
variable {prog : Program} {w : World} {A : Around} {E : Value → Shared → Prop} {s : Shared} {K : PySem.W.Frag} {x dx C f : Addr} {mA : Str → Option Value} {name : Str} {v : Value}
theorem get_map {expr : Bool} {Q : Value → Shared → Prop} (X : K.In s.heap) (I : ObjM s.heap x dx C mA) (hg : PySem.W.plainGet K C name = true) (hh : PySem.W.hasDictIn K C = true)
    (ha : PySem.W.findIn K (.ref C) name = some none) (hv : mA name = some v) (hv' : PySem.W.handedIn v = true) (h : Q v { s with toks := s.toks + 1 }) :
    wpAny (model prog w) A (getAttr (.ref x) name expr) Q E s := by
  obtain ⟨od, J, hl⟩ := I.look
  exact PySem.W.get_value X J (PySem.W.plainGet_of hg).1 (PySem.W.findObj_own hh ha rfl (by rw [hl, hv])) hv' h
theorem get_meth {pl : Sem Bool} {Q : Value × List Value → Shared → Prop} (X : K.In s.heap) (I : ObjM s.heap x dx C mA) (hg : PySem.W.plainGet K C name = true)
    (hf : PySem.W.findIn K (.ref C) name = some (some (.ref f))) (ht : PySem.W.isFn K (.ref f) = true) (hv : mA name = none) (h : Q (.ref f, [.ref x]) s) :
    wpAny (model prog w) A (getMethod (.ref x) name pl) Q E s := by
  obtain ⟨od, J, hl⟩ := I.look
  exact PySem.W.method_fn X J (PySem.W.plainGet_of hg).1 (PySem.W.plainGet_of hg).2 hf (beq_iff_eq.mp ht) (by show (PySem.W.lookIn name od).map (·.isSome) = some false; rw [hl, hv]; rfl) h
theorem set_map {ns : List Str} {Q : Unit → Shared → Prop} (X : K.In s.heap) (I : ObjM s.heap x dx C mA)
    (hs : PySem.W.findIn K (.ref C) "__setattr__" = some (some (.builtin "object.__setattr__"))) (hp : PySem.W.plainOver K C = true) (ht : PySem.W.takerIn K C name = some none) (hh : PySem.W.hasDictIn K C = true)
    (hw : PySem.Within mA ns) (hsz : ns.length ≤ sizeLine)
    (h : ∀ h', ObjM h' x dx C (fun y => if y = name then some v else mA y) → Heap.SameBut dx s.heap h' → Q () { s with heap := h', toks := s.toks + 2 }) :
    wpAny (model prog w) A (setAttr (.ref x) name v) Q E s := by
  obtain ⟨od, J, hl⟩ := I.look
  refine PySem.W.set_plain X J hs (PySem.W.osa_open (s := { s with toks := s.toks + 1 }) (r := none) X J hp ht fun b => ?_)
  obtain ⟨cd, hc, hd'⟩ := PySem.W.any_some hh
  have hx : s.heap.get? x = some ⟨.ref C, some dx, .plain, #[]⟩ := I.obj
  refine wpAny_bind (wpAny_pure (wpAny_bind (wpAny_bind (wpAny_loadPart hx (wpAny_bind (PySem.W.Looks.here (s := { s with toks := s.toks + 1 }) (PySem.W.looks_clsIn X hc) ?_))))))
  rw [hd']
  refine wpAny_pure (a := some dx) (wpAny_bind (wpAny_pure (wpAny_bind ?_)))
  refine wpAny_nsSet1 (s := { s with toks := s.toks + 1 }) I.ns fun h' hn2 hs2 => ?_
  obtain ⟨oD, esD, epD, hoD, hdD, hcD⟩ := hn2.count (PySem.Within.cons name v hw)
  refine wpAny_bind (wpAny_lookBehind hoD (by rw [hdD]; exact pastItsLine_dict (Nat.le_trans hcD (by rw [List.length_cons]; omega))) ?_)
  exact wpAny_pure (h _ ⟨(hs2.2 _ (Ne.symm I.ne)).trans I.obj, hn2, I.ne⟩ hs2)
theorem make_map {R : Result → Shared → Prop} {vs : List Value} {kw : List (Str × Value)} (X : K.In s.heap) (hm : PySem.W.makesIn K C = true)
    (hi : PySem.W.findIn K (.ref C) "__init__" = some (some (.ref f))) (hf : PySem.W.typeIn K (.ref f) = some (.type "function"))
    (h : codeAny (model prog w) (A.under (.builtin "type.__call__" ⟨.ref C :: vs, kw⟩)) (.call (.ref f) ⟨.ref (s.heap.objs.size + 1) :: vs, kw⟩) (PySem.W.InitBack (s.heap.objs.size + 1) R)
      { s with heap := (s.heap.push PySem.W.emptyDict).push (PySem.W.instObj C s.heap.objs.size) }) :
    codeAny (model prog w) A (.call (.ref C) ⟨vs, kw⟩) R s := by
  obtain ⟨hh, g, d, t, os⟩ := s
  exact PySem.W.make_core (PySem.W.makes_of X hm) (PySem.W.looks_findIn X hi) (fun self => PySem.W.bind_fn X self hf) (.inl rfl) h
end
def putF (f : Str) (v : V) : List (Str × V) → List (Str × V)
  | [] => [(f, v)]
  | (g, x) :: r => if g = f then (g, v) :: r else (g, x) :: putF f v r
theorem lookup_putF (f g : Str) (v : V) : ∀ fs : List (Str × V), (putF f v fs).lookup g = if g = f then some v else fs.lookup g
  | [] => by
    show List.lookup g [(f, v)] = _
    by_cases h : g = f
    · have hb : (g == f) = true := beq_iff_eq.mpr h
      simp only [List.lookup, hb, if_pos h]
    · have hb : (g == f) = false := beq_eq_false_iff_ne.mpr h
      simp only [List.lookup, hb, if_neg h]
  | (k, x) :: r => by
    have ih := lookup_putF f g v r
    rw [show putF f v ((k, x) :: r) = (if k = f then (k, v) :: r else (k, x) :: putF f v r) from rfl]
    by_cases hk : k = f
    · rw [if_pos hk]
      by_cases h : g = k
      · have hb : (g == k) = true := beq_iff_eq.mpr h
        simp only [List.lookup, hb, if_pos (h.trans hk)]
      · have hb : (g == k) = false := beq_eq_false_iff_ne.mpr h
        simp only [List.lookup, hb, if_neg (fun e : g = f => h (e.trans hk.symm))]
    · rw [if_neg hk]
      by_cases h : g = k
      · have hb : (g == k) = true := beq_iff_eq.mpr h
        simp only [List.lookup, hb, if_neg (fun e : g = f => hk (h.symm.trans e))]
      · have hb : (g == k) = false := beq_eq_false_iff_ne.mpr h
        simp only [List.lookup, hb]
        exact ih
theorem keys_putF (f : Str) (v : V) : ∀ fs : List (Str × V), f ∈ (putF f v fs).map (·.1) ∧ ∀ g, g ∈ fs.map (·.1) → g ∈ (putF f v fs).map (·.1)
  | [] => ⟨by simp [putF], fun g h => by simp at h⟩
  | (k, x) :: r => by
    obtain ⟨i1, i2⟩ := keys_putF f v r
    rw [show putF f v ((k, x) :: r) = (if k = f then (k, v) :: r else (k, x) :: putF f v r) from rfl]
    by_cases hk : k = f
    · rw [if_pos hk]
      subst hk
      exact ⟨by simp, fun g h => by simpa using h⟩
    · rw [if_neg hk]
      refine ⟨?_, fun g h => ?_⟩
      · rw [List.map_cons]
        exact List.mem_cons_of_mem _ i1
      · rw [List.map_cons] at h ⊢
        rcases List.mem_cons.mp h with e | e
        · exact List.mem_cons.mpr (.inl e)
        · exact List.mem_cons_of_mem _ (i2 g e)
theorem length_putF (f : Str) (v : V) : ∀ fs : List (Str × V), (putF f v fs).length ≤ fs.length + 1
  | [] => by simp [putF]
  | (k, x) :: r => by
    have ih := length_putF f v r
    rw [show putF f v ((k, x) :: r) = (if k = f then (k, v) :: r else (k, x) :: putF f v r) from rfl]
    by_cases hk : k = f
    · rw [if_pos hk, List.length_cons, List.length_cons]; omega
    · rw [if_neg hk, List.length_cons, List.length_cons]; omega
theorem RelO.some_of {v : V} {o : Option Value} (r : RelO (some v) o) : ∃ u, o = some u ∧ RelV v u := by
  cases o with
  | none => exact (show False from r).elim
  | some u => exact ⟨u, rfl, r⟩
theorem RelO.none_of {o : Option Value} (r : RelO none o) : o = none := by
  cases o with
  | none => rfl
  | some u => exact (show False from r).elim
theorem handed_of {v : V} {u : Value} (r : RelV v u) : PySem.W.handedIn u = true := by
  cases v with
  | non => cases (show u = Value.none from r); rfl
  | bl b => cases (show u = Value.bool b from r); rfl
  | int i => obtain ⟨t, e⟩ := (show ∃ t, u = Value.int i t from r); cases e; rfl
  | str x => obtain ⟨t, e⟩ := (show ∃ t, u = Value.str x t from r); cases e; rfl
  | byt b => obtain ⟨t, e⟩ := (show ∃ t, u = Value.bytes b t from r); cases e; rfl
  | flt b => obtain ⟨t, e⟩ := (show ∃ t, u = Value.float b t from r); cases e; rfl
  | ref a => cases (show u = Value.ref a from r); rfl
  | ty n => cases (show u = Value.type n from r); rfl
section
variable {P : Program} {w : World} {H H' : Hp} {h h' : Heap} {a C dx : Addr} {fs fs' : List (Str × V)}
theorem ins_get (hok : HOk P w H h) (e : H a = some (.ins C dx fs)) : ∃ mA, ObjM h a dx C mA ∧ (∀ f, RelO (fs.lookup f) (mA f)) ∧ PySem.Within mA (fs.map (·.1)) ∧ fs.length ≤ 1000 ∧ H dx = some (.own a) := by
  obtain ⟨d, z, ne, ob, mA, n, r, q⟩ := (show ObjOk P w H h a (.ins C dx fs) from hok a _ e)
  exact ⟨mA, ⟨ob, n, ne⟩, r, q, z, d⟩
end
structure Cls (K : PySem.W.Frag) (C : Addr) : Prop where
  pg : PySem.W.plainGet K C Str.empty = true
  hd : PySem.W.hasDictIn K C = true
  po : PySem.W.plainOver K C = true
  sa : PySem.W.findIn K (.ref C) "__setattr__" = some (some (.builtin "object.__setattr__"))
theorem Cls.get {K : PySem.W.Frag} {C : Addr} (c : Cls K C) (f : Str) : PySem.W.plainGet K C f = true := c.pg
def NoAttr (K : PySem.W.Frag) (C : Addr) (f : Str) : Prop := PySem.W.findIn K (.ref C) f = some none
theorem NoAttr.taker {K : PySem.W.Frag} {C : Addr} {f : Str} (n : NoAttr K C f) : PySem.W.takerIn K C f = some none := by
  unfold PySem.W.takerIn
  rw [show PySem.W.findIn K (.ref C) f = some none from n]
  rfl
structure Con (K : PySem.W.Frag) (C : Addr) (f : Str) (v : V) (u : Value) : Prop where
  at_ : PySem.W.findIn K (.ref C) f = some (some u)
  rel : RelV v u
  get : PySem.W.specialIn K u "__get__" = some none
  cp : PySem.W.copiedNames.contains f = false
structure Meth (K : PySem.W.Frag) (C : Addr) (m : Str) (f : Addr) : Prop where
  at_ : PySem.W.findIn K (.ref C) m = some (some (.ref f))
  fn : PySem.W.isFn K (.ref f) = true
  kp : PySem.W.keepIn K (.ref f) = true
section
variable {X : Cx} {pins : List (Addr × Obj)} {σ : St} {H : Hp} {s : Shared} {a C dx : Addr} {fs : List (Str × V)} {f : Str} {v : V} {A : Around} {E : Value → Shared → Prop}
theorem getattr_ok {b : Bool} {Q : Value → Shared → Prop} (I : Inv X pins σ H s) (e : H a = some (.ins C dx fs)) (c : Cls X.K C) (n : NoAttr X.K C f) (l : fs.lookup f = some v)
    (h : ∀ u s', Inv X pins σ H s' → RelV v u → Q u s') : wpAny (model X.prog X.w) A (getAttr (.ref a) f b) Q E s := by
  obtain ⟨mA, O, r, _, _, _⟩ := ins_get I.hok e
  obtain ⟨u, hu, ru⟩ := RelO.some_of (v := v) (o := mA f) (by rw [← l]; exact r f)
  exact get_map I.kIn O (c.get f) c.hd n hu (handed_of ru) (h u _ (I.tok _) ru)
theorem getmeth_ok {m : Str} {g : Addr} {pl : Sem Bool} {Q : Value × List Value → Shared → Prop} (I : Inv X pins σ H s) (e : H a = some (.ins C dx fs)) (c : Cls X.K C) (k : Meth X.K C m g) (l : fs.lookup m = none)
    (h : Q (.ref g, [.ref a]) s) : wpAny (model X.prog X.w) A (getMethod (.ref a) m pl) Q E s := by
  obtain ⟨mA, O, r, _, _, _⟩ := ins_get I.hok e
  have hn : mA m = none := RelO.none_of (by rw [← l]; exact r m)
  exact get_meth I.kIn O (c.get m) k.at_ k.fn hn h
theorem setattr_ok {y : V} {u : Value} {Q : Unit → Shared → Prop} (I : Inv X pins σ H s) (e : H a = some (.ins C dx fs)) (c : Cls X.K C) (n : NoAttr X.K C f) (hl : fs.length < 1000) (ry : RelV y u)
    (h : ∀ s', Inv X pins σ (upd H a (.ins C dx (putF f y fs))) s' → Q () s') : wpAny (model X.prog X.w) A (setAttr (.ref a) f u) Q E s := by
  obtain ⟨mA, O, r, wi, _, ho⟩ := ins_get I.hok e
  have hz : (fs.map (·.1)).length ≤ sizeLine := by rw [List.length_map, sizeLine_eq]; omega
  refine set_map I.kIn O c.sa c.po n.taker c.hd wi hz fun h' O' sb => h _ ?_
  have hd : ∃ o, h'.get? dx = some o := let ⟨o, _, _, e', _⟩ := O'.ns; ⟨o, e'⟩
  refine I.write (x := a) (e := dx) (by rw [e]; exact True.intro) (.inr ho) (fun b q hb z => (sb.2 b hb).trans z) hd ?_
  refine ⟨by rw [upd_ne O.ne]; exact ho, ?_, O.ne, O'.obj, _, O'.ns, fun g => ?_, fun g hg => ?_⟩
  · have := length_putF f y fs; omega
  · show RelO ((putF f y fs).lookup g) (if g = f then some u else mA g)
    rw [lookup_putF]
    by_cases q : g = f
    · rw [if_pos q, if_pos q]; exact ry
    · rw [if_neg q, if_neg q]; exact r g
  · by_cases q : g = f
    · rw [q]; exact (keys_putF f y fs).1
    · refine (keys_putF f y fs).2 g (wi g fun z => hg ?_)
      show (if g = f then some u else mA g) = none
      rw [if_neg q]; exact z
theorem Inv.made (I : Inv X pins σ H s) : Inv X pins σ (upd (upd H s.heap.objs.size (.own (s.heap.objs.size + 1))) (s.heap.objs.size + 1) (.ins C s.heap.objs.size []))
    { s with heap := (s.heap.push PySem.W.emptyDict).push (PySem.W.instObj C s.heap.objs.size) } := by
  have e1 : (s.heap.push PySem.W.emptyDict).get? s.heap.objs.size = some PySem.W.emptyDict := Heap.get?_push_size s.heap rfl
  have e2 : ((s.heap.push PySem.W.emptyDict).push (PySem.W.instObj C s.heap.objs.size)).get? (s.heap.objs.size + 1) = some (PySem.W.instObj C s.heap.objs.size) := by
    have := Heap.get?_push_size (s.heap.push PySem.W.emptyDict) (o := PySem.W.instObj C s.heap.objs.size) rfl
    rwa [Heap.size_push] at this
  have e3 : (s.heap.push PySem.W.emptyDict).Ns s.heap.objs.size (fun _ => none) := ⟨PySem.W.emptyDict, #[], _, e1, rfl, (fun e he => absurd he (by simp)), fun _ => rfl⟩
  have I1 := I.laid (a := s.heap.objs.size) (o := .own (s.heap.objs.size + 1)) (h' := s.heap.push PySem.W.emptyDict) (t' := s.toks) (fun b u q => Heap.get?_push_of_some _ q) (Nat.le_refl _) ⟨_, e1⟩
  refine I1.laid (a := s.heap.objs.size + 1) (o := .ins C s.heap.objs.size []) (t' := s.toks) (fun b u q => Heap.get?_push_of_some _ q) (Nat.le_of_eq (Heap.size_push _ _)) ?_
  have ne : s.heap.objs.size ≠ s.heap.objs.size + 1 := Nat.ne_of_lt (Nat.lt_succ_self _)
  refine ⟨by rw [upd_ne ne, upd_same], Nat.zero_le _, ne, e2, fun _ => none, (Heap.Ns1.of_empty e3).at fun o q => Heap.get?_push_of_some _ q, fun _ => True.intro, fun y hy => absurd rfl hy⟩
theorem attr_of {prog : Program} {w : World} {env : Env} {e : Expr} {f : Str} {pos : Pos} {s : Shared} {Q : Value → Shared → Prop} (hb : attributeBase e f env (eval e env) = eval e env)
    (h : wpAny (model prog w) A (eval e env) (fun o s₁ => wpAny (model prog w) A (getAttr o f true) Q E s₁) E s) : wpAny (model prog w) A (eval (.Attribute e f pos) env) Q E s :=
  Attribute_any_ h (by rw [arm_eval_Attribute, hb])
end
def tFld (K : PySem.W.Frag) (ta : TE) (f : Str) : TE := fun σ H Q => ta σ H fun x H1 => ∃ a C dx fs v, x = .ref a ∧ H1 a = some (.ins C dx fs) ∧ Cls K C ∧ NoAttr K C f ∧ fs.lookup f = some v ∧ Q v H1
def sFld (K : PySem.W.Frag) (ta tv : TE) (f : Str) : TS := fun D σ H => tv σ H fun y H1 => ta σ H1 fun x H2 => ∃ a C dx fs, x = .ref a ∧ H2 a = some (.ins C dx fs) ∧ Cls K C ∧ NoAttr K C f ∧ fs.length < 1000 ∧
  D.nx σ (upd H2 a (.ins C dx (putF f y fs)))
section
variable {X : Cx} {o e value : Expr} {f : Str} {pos pos' tpos : Pos} {ta tv : TE}
theorem pe_fld (he : PE X e ta) (hb : attributeBase e f X.env (eval e X.env) = eval e X.env) : PE X (.Attribute e f pos) (tFld X.K ta f) := by
  intro pins s σ H Q I h
  refine attr_of hb (thn (he pins s σ H _ I h) fun u s1 ⟨x, H1, I1, rx, a, C, dx, fs, v, ex, ea, c, n, l, q⟩ => ?_)
  subst ex
  obtain rfl : u = Value.ref a := rx
  exact getattr_ok I1 ea c n l fun u' s2 I2 ru => ⟨v, H1, I2, ru, q⟩
theorem ps_fld (ha : PE X o ta) (hv : PE X value tv) (hs : swapsWith value (some (.Attribute o f pos')) pos.line X.env = pure false) : PS X (.Assign [.Attribute o f pos'] value pos) (sFld X.K ta tv f) := by
  intro pins s σ H D I h
  refine plainObj_wpAny_Assign_Attribute (thn (hv pins s σ H _ I h) fun u s1 ⟨y, H1, I1, ry, q⟩ => thn (ha pins s1 σ H1 _ I1 q) fun ov s2 ⟨x, H2, I2, rx, a, C, dx, fs, ex, ea, c, n, l, q2⟩ => ?_) hs
  subst ex
  obtain rfl : ov = Value.ref a := rx
  exact setattr_ok I2 ea c n l ry fun s3 I3 => ⟨σ, _, I3, q2⟩
end
section
variable {X : Cx} {pins : List (Addr × Obj)} {σ : St} {H : Hp} {s : Shared} {A : Around} {E : Value → Shared → Prop} {Q : Value → Shared → Prop} {c : Value} {b : Bool}
inductive TyOf (K : PySem.W.Frag) (H : Hp) : V → Value → Prop where
  | non : TyOf K H .non (.type "NoneType")
  | bl (x : Bool) : TyOf K H (.bl x) (.type "bool")
  | int (i : Int) : TyOf K H (.int i) (.type "int")
  | str (x : Str) : TyOf K H (.str x) (.type "str")
  | flt (x : UInt64) : TyOf K H (.flt x) (.type "float")
  | lst {a : Addr} {xs : List V} (e : H a = some (.lst xs)) : TyOf K H (.ref a) (.type "list")
  | frz {a : Addr} {o : Obj} {xs : List V} (e : H a = some (.frz o (.lst xs))) : TyOf K H (.ref a) (.type "list")
  | tup {a : Addr} {xs : List V} (e : H a = some (.tup xs)) : TyOf K H (.ref a) (.type "tuple")
  | dK {a : Addr} {kvs : List (Key × V)} (e : H a = some (.dK kvs)) : TyOf K H (.ref a) (.type "dict")
  | dT {a : Addr} {kvs : List (List Key × V)} (e : H a = some (.dT kvs)) : TyOf K H (.ref a) (.type "dict")
  | ins {a C dx : Addr} {fs : List (Str × V)} (e : H a = some (.ins C dx fs)) (cl : Cls K C) (ha : PySem.W.findIn K (.ref C) "__class__" = some (some (.builtin "object.__class__")))
      (hn : PySem.W.specialIn K (.builtin "object.__class__") "__get__" = some (some (.builtin "getset_descriptor.__get__"))) (htk : PySem.W.takesIn K (.builtin "object.__class__") = some true)
      (hm : PySem.W.mroIn K C (.type "object") = some true) : TyOf K H (.ref a) (.ref C)
theorem isinst_ok {x : V} {u t : Value} (I : Inv X pins σ H s) (rx : RelV x u) (ty : TyOf X.K H x t) (e : PySem.W.kitOne X.K t c = some b) (h : ∀ tk, Q (.bool b) { s with toks := tk }) :
    wpAny (model X.prog X.w) A (call (.builtin "isinstance") [u, c]) Q E s := by
  cases ty with
  | non => cases (show u = Value.none from rx); exact PySem.W.kia_one PySem.W.kitx_none I.kIn True.intro e (fun z => nomatch z) h
  | bl y => cases (show u = Value.bool y from rx); exact PySem.W.kia_one PySem.W.kitx_bool I.kIn True.intro e (fun z => nomatch z) h
  | int i => obtain ⟨t, q⟩ := (show ∃ t, u = Value.int i t from rx); cases q; exact PySem.W.kia_one PySem.W.kitx_int I.kIn True.intro e (fun z => nomatch z) h
  | str y => obtain ⟨t, q⟩ := (show ∃ t, u = Value.str y t from rx); cases q; exact PySem.W.kia_one PySem.W.kitx_str I.kIn True.intro e (fun z => nomatch z) h
  | flt y => obtain ⟨t, q⟩ := (show ∃ t, u = Value.float y t from rx); cases q; exact PySem.W.kia_one PySem.W.kitx_float I.kIn True.intro e (fun z => nomatch z) h
  | @lst a xs ea =>
    cases (show u = Value.ref a from rx)
    obtain ⟨_, _, n, _, h1⟩ := (show ObjOk X.prog X.w H s.heap a (.lst xs) from I.hok a _ ea)
    exact PySem.W.kia_one PySem.W.kitx_list I.kIn ⟨_, h1, rfl⟩ e (fun z => nomatch z) h
  | @frz a ob xs ea =>
    cases (show u = Value.ref a from rx)
    obtain ⟨_, _, _, n, _, h1⟩ := (show ObjOk X.prog X.w H s.heap a (.frz ob (.lst xs)) from I.hok a _ ea)
    exact PySem.W.kia_one PySem.W.kitx_list I.kIn ⟨_, h1, rfl⟩ e (fun z => nomatch z) h
  | @tup a xs ea =>
    cases (show u = Value.ref a from rx)
    obtain ⟨_, _, _, p⟩ := (show ObjOk X.prog X.w H s.heap a (.tup xs) from I.hok a _ ea)
    obtain ⟨o, h1, h2, _⟩ := p
    exact PySem.W.kia_one PySem.W.kitx_tuple I.kIn ⟨o, h1, h2⟩ e (fun z => nomatch z) h
  | @dK a kvs ea =>
    cases (show u = Value.ref a from rx)
    obtain ⟨_, _, vs, _, p⟩ := (show ObjOk X.prog X.w H s.heap a (.dK kvs) from I.hok a _ ea)
    obtain ⟨o, es, ep, h1, h2, _⟩ := p
    exact PySem.W.kia_one PySem.W.kitx_dict I.kIn ⟨o, h1, h2.1⟩ e (fun z => nomatch z) h
  | @dT a kvs ea =>
    cases (show u = Value.ref a from rx)
    obtain ⟨_, _, xs, _, o, es, ep, h1, h2, _⟩ := (show ObjOk X.prog X.w H s.heap a (.dT kvs) from I.hok a _ ea)
    exact PySem.W.kia_one PySem.W.kitx_dict I.kIn ⟨o, h1, h2.1⟩ e (fun z => nomatch z) h
  | @ins a C dx fs ea cl ha hn htk hm =>
    cases (show u = Value.ref a from rx)
    obtain ⟨mA, O, _⟩ := ins_get I.hok ea
    obtain ⟨od, J, _⟩ := O.look
    exact PySem.W.kia_one (PySem.W.kitx_own (cl.get _) cl.hd ha hn htk hm) I.kIn J e (fun z => nomatch z) h
end
end L2
namespace L2
open PySem PySem.Spec PyProof.Rows
structure Room (k : Nat) (A : Around) : Prop where
  hd : A.handled = none
  dp : A.depth + 3 * k + 5 < recursionLimit
  un : A.units + 16 * k + 200 < cLine
theorem Room.mono {j k : Nat} {A : Around} (r : Room k A) (h : j ≤ k) : Room j A := ⟨r.hd, by have := r.dp; omega, by have := r.un; omega⟩
theorem Room.deeper {k : Nat} {A : Around} (r : Room (k + 1) A) (env : Env) : Room k (A.deeper env) :=
  ⟨r.hd, by have := r.dp; show A.depth + 1 + 3 * k + 5 < _; omega, by have := r.un; show A.units + 3 + 16 * k + 200 < _; omega⟩
theorem Room.in1 {k : Nat} {A : Around} (r : Room (k + 1) A) : Room k A.in1 :=
  ⟨r.hd, by have := r.dp; show A.depth + 3 * k + 5 < _; omega, by have := r.un; show A.units + 1 + 16 * k + 200 < _; omega⟩
theorem make_depth {A : Around} {C : Addr} {us : List Value} {kw : List (Str × Value)} : (A.under (.builtin "type.__call__" ⟨.ref C :: us, kw⟩)).depth = A.depth + 1 := by
  first | rfl | simp [Around.under, Code.weight, Code.isCreation, Code.isGuard, Code.isCaller, Code.frames, Code.isFrame, guardIds]
theorem make_units {A : Around} {C : Addr} {us : List Value} {kw : List (Str × Value)} : (A.under (.builtin "type.__call__" ⟨.ref C :: us, kw⟩)).units = A.units + 1 := by
  first | rfl | simp [Around.under, Code.cUnits, Code.frames, Code.isFrame]
theorem Room.make {k : Nat} {A : Around} (r : Room (k + 1) A) (C : Addr) (us : List Value) (kw : List (Str × Value)) : Room k (A.under (.builtin "type.__call__" ⟨.ref C :: us, kw⟩)) :=
  ⟨r.hd, by have := r.dp; rw [make_depth]; omega, by have := r.un; rw [make_units]; omega⟩
theorem Room.depth {k : Nat} {A : Around} (r : Room k A) : A.depth < recursionLimit := by have := r.dp; omega
theorem Room.units {k : Nat} {A : Around} (r : Room k A) : A.units + 64 < cLine := by have := r.un; omega
def tNil : TA := fun _ H Q => Q [] H
def tCons (ta : TE) (tr : TA) : TA := fun σ H Q => ta σ H fun x H1 => tr σ H1 fun xs H2 => Q (x :: xs) H2
section
variable {X : Cx} {e : Expr} {es : List Expr} {te : TE} {t : TA} {pos : Pos}
theorem pa_nil : PA X [] tNil := fun _ _ _ _ H Q I h => Calls.spliced_nil ⟨[], H, I, .nil, h⟩
theorem pa_cons (ha : PE X e te) (hr : PA X es t) (hs : starEach (e :: es) X.env = (false, eval e X.env) :: starEach es X.env := by rfl) : PA X (e :: es) (tCons te t) := by
  intro pos pins s σ H Q I h
  rw [hs]
  show wpAny _ _ (spliced ((false, eval e X.env) :: backTo pos (starEach es X.env))) _ _ s
  refine Calls.spliced_cons (thn (ha pins s σ H _ I h) fun u s1 ⟨x, H1, I1, r1, q1⟩ => ?_)
  exact thn (hr pos pins s1 σ H1 _ I1 q1) fun us s2 ⟨xs, H2, I2, r2, q2⟩ => ⟨x :: xs, H2, I2, .cons r1 r2, q2⟩
def tTup (t : TA) : TE := fun σ H Q => t σ H fun xs H1 => xs.length ≤ sizeLine ∧ ∀ p, H1 p = none → Q (.ref p) (upd H1 p (.tup xs))
def tLst (t : TA) : TE := fun σ H Q => t σ H fun xs H1 => xs.length ≤ sizeLine ∧ ∀ p, H1 p = none → Q (.ref p) (upd H1 p (.lst xs))
theorem pe_tup {x1} (h : PA X es t) : PE X (.Tuple es x1 pos) (tTup t) := by
  intro pins s σ H Q I hq
  refine wpAny_Tuple_spliced (thn (h pos pins s σ H _ I hq) fun us s1 ⟨xs, H1, I1, r, z, q⟩ => ⟨by rw [← r.length]; exact z, ?_⟩)
  have hf : H1 s1.heap.objs.size = none := I1.hok.fresh (Nat.le_refl _)
  refine ⟨.ref s1.heap.objs.size, upd H1 s1.heap.objs.size (.tup xs), I1.laid (t' := s1.toks) (fun b u e => Heap.get?_push_of_some _ e) (Nat.le_refl _) ?_, rfl, q _ hf⟩
  exact ⟨z, us, r, ⟨_, Heap.get?_push_size _ rfl, rfl, _, rfl⟩⟩
theorem pe_lst (h : PA X es t) : PE X (.List es pos) (tLst t) := by
  intro pins s σ H Q I hq
  refine wpAny_List_spliced (thn (h pos pins s σ H _ I hq) fun us s1 ⟨xs, H1, I1, r, z, q⟩ => ⟨by rw [← r.length]; exact z, ?_⟩)
  have hf : H1 s1.heap.objs.size = none := I1.hok.fresh (Nat.le_refl _)
  refine ⟨.ref s1.heap.objs.size, upd H1 s1.heap.objs.size (.lst xs), I1.laid (t' := s1.toks) (fun b u e => Heap.get?_push_of_some _ e) (Nat.le_refl _) ?_, rfl, q _ hf⟩
  exact ⟨z, us, 0, r, Heap.get?_push_size _ rfl⟩
end
abbrev Sp := List V → Hp → VK → XK → Prop
abbrev CXT := List Env → Hp → Shared → XK → Value → Shared → Prop
structure Env0 (P : Program) (w : World) (K : PySem.W.Frag) (mg : Str → Option Value) (base : Heap) (A : Around) (outer : List Env) (s : Shared) (H : Hp) : Prop where
  frames : A.frames = some outer
  mod : Mod K mg base
  bs : ∀ b o, base.get? b = some o → s.heap.get? b = some o ∧ H b = none
  bsz : base.objs.size ≤ s.heap.objs.size
  funs : s.heap.FunFrames base outer
  frf : ∀ b ∈ frs outer, H b = none
  hok : HOk P w H s.heap
  bare : AllBare s.gens
def CE (outer : List Env) (P : Program) (w : World) (H : Hp) (s : Shared) (Q : VK) (u : Value) (s' : Shared) : Prop :=
  ∃ v H', s'.os = s.os ∧ AllBare s'.gens ∧ Un (frs outer) [] H H' s.heap s'.heap ∧ HOk P w H' s'.heap ∧ RelV v u ∧ Q v H'
def CR (CX : CXT) (outer : List Env) (P : Program) (w : World) (H : Hp) (s : Shared) (Q : VK) (E : XK) (r : Result) (s' : Shared) : Prop :=
  match r with
  | .ok (.ret u) => CE outer P w H s Q u s'
  | .ok _ => False
  | .error e => CX outer H s E e s'
structure FnOk (P : Program) (w : World) (K : PySem.W.Frag) (mg : Str → Option Value) (base : Heap) (CX : CXT) (k : Nat) (f : Addr) (fd : FuncData) (ps : List Str) (sp : Sp) : Prop where
  len : ∀ vs H Q E, sp vs H Q E → vs.length = ps.length
  run : ∀ (A : Around) (outer : List Env) (s : Shared) (H : Hp) (args : Args) (us : List Value) (vs : List V) (Q : VK) (E : XK), Room k A → Env0 P w K mg base A outer s H → BindsTo s fd args (ps.zip us) → Vals vs us → sp vs H Q E →
    codeAny (model P w) A (.call (.ref f) args) (CR CX outer P w H s Q E) s
theorem FnOk.mono {P : Program} {w : World} {K : PySem.W.Frag} {mg : Str → Option Value} {base : Heap} {CX : CXT} {j k : Nat} {f : Addr} {fd : FuncData} {ps : List Str} {sp : Sp} (F : FnOk P w K mg base CX j f fd ps sp) (h : j ≤ k) :
    FnOk P w K mg base CX k f fd ps sp := ⟨F.len, fun A outer s H args us vs Q E hr => F.run A outer s H args us vs Q E (hr.mono h)⟩
theorem FnOk.imp {P : Program} {w : World} {K : PySem.W.Frag} {mg : Str → Option Value} {base : Heap} {CX : CXT} {k : Nat} {f : Addr} {fd : FuncData} {ps : List Str} {sp sp' : Sp} (F : FnOk P w K mg base CX k f fd ps sp)
    (h : ∀ vs H Q E, sp' vs H Q E → sp vs H Q E) : FnOk P w K mg base CX k f fd ps sp' :=
  ⟨fun vs H Q E q => F.len vs H Q E (h _ _ _ _ q), fun A outer s H args us vs Q E hr he hb hv hs => F.run A outer s H args us vs Q E hr he hb hv (h _ _ _ _ hs)⟩
theorem Env0.make {P : Program} {w : World} {K : PySem.W.Frag} {mg : Str → Option Value} {base : Heap} {A : Around} {outer : List Env} {s : Shared} {H : Hp} (e : Env0 P w K mg base A outer s H) (C : Addr) (us : List Value) (kw : List (Str × Value)) :
    Env0 P w K mg base (A.under (.builtin "type.__call__" ⟨.ref C :: us, kw⟩)) outer s H := ⟨by first | exact e.frames | (simpa [Around.under, Code.envs, Code.isFrame, pushEnvs] using e.frames), e.mod, e.bs, e.bsz, e.funs, e.frf, e.hok, e.bare⟩
theorem Env0.in1 {P : Program} {w : World} {K : PySem.W.Frag} {mg : Str → Option Value} {base : Heap} {A : Around} {outer : List Env} {s : Shared} {H : Hp} (e : Env0 P w K mg base A outer s H) :
    Env0 P w K mg base A.in1 outer s H := ⟨e.frames, e.mod, e.bs, e.bsz, e.funs, e.frf, e.hok, e.bare⟩
section
variable {X : Cx} {pins : List (Addr × Obj)} {σ : St} {H : Hp} {s s' : Shared}
theorem Inv.env0 (I : Inv X pins σ H s) : Env0 X.prog X.w X.K X.mg X.base X.A X.stack s H :=
  ⟨I.ok.frames, I.ok.mod, I.bs, Nat.le_trans I.ok.bsz I.sz, I.stack, I.stkFree, I.hok, I.bare⟩
theorem Inv.after {Q : VK} {u : Value} (I : Inv X pins σ H s) (h : CE X.stack X.prog X.w H s Q u s') : EP X pins σ Q u s' := by
  obtain ⟨v, H', os, bare, un, hok, r, q⟩ := h
  obtain ⟨hh, g, d, t, os'⟩ := s'
  obtain rfl : os' = s.os := os
  exact ⟨v, H', I.call (h' := hh) (g' := g) (d' := d) (t' := t) (ch := []) un hok bare (fun b z => absurd z (by simp)), r, q⟩
end
def tCall (sp : Sp) (dvs : List V) (E : XK) (t : TA) : TE := fun σ H Q => t σ H fun vs H1 => sp (vs ++ dvs) H1 Q E
def tMeth (C : Addr) (m : Str) (sp : Sp) (dvs : List V) (E : XK) (ta : TE) (t : TA) : TE := fun σ H Q => ta σ H fun x H1 => ∃ a dx fs, x = .ref a ∧ H1 a = some (.ins C dx fs) ∧ fs.lookup m = none ∧
  t σ H1 fun vs H2 => sp (x :: (vs ++ dvs)) H2 Q E
def tMake (C : Addr) (sp : Sp) (dvs : List V) (E : XK) (t : TA) : TE := fun σ H Q => t σ H fun vs H1 => ∀ x dx, H1 x = none → H1 dx = none → dx ≠ x →
  sp (.ref x :: (vs ++ dvs)) (upd (upd H1 dx (.own x)) x (.ins C dx [])) (fun v H2 => v = .non ∧ Q (.ref x) H2) E
def Binds (K : PySem.W.Frag) (fd : FuncData) (ps : List Str) (ds : List Value) : Prop :=
  ∀ (s : Shared) (us : List Value), K.In s.heap → (us ++ ds).length = ps.length → BindsTo s fd ⟨us, []⟩ (ps.zip (us ++ ds))
theorem Binds.all {K : PySem.W.Frag} {fd : FuncData} {ps : List Str} (h : ∀ us : List Value, us.length = ps.length → bindArgs fd ⟨us, []⟩ = pure (ps.zip us)) : Binds K fd ps [] := fun s us _ hl => by
  rw [List.append_nil] at hl ⊢
  exact .of_eq (h us hl)
def Passes (CX : CXT) (X : Cx) (E : XK) : Prop := ∀ (pins : List (Addr × Obj)) (σ : St) (H : Hp) (s : Shared) (e : Value) (s' : Shared), Inv X pins σ H s → CX X.stack H s E e s' → X.xe e s'
section
variable {X : Cx} {CX : CXT} {k : Nat} {f C : Addr} {fd : FuncData} {ps : List Str} {sp : Sp} {dvs : List V} {ds : List Value} {E : XK} {x m : Str} {p pos apos : Pos} {e o : Expr} {es : List Expr} {ta : TE} {t : TA}
theorem run_fn {pins : List (Addr × Obj)} {σ : St} {H : Hp} {s : Shared} {Q : VK} {us : List Value} {vs : List V} (F : FnOk X.prog X.w X.K X.mg X.base CX k f fd ps sp) (hr : Room k X.A) (hb : Binds X.K fd ps ds) (hd : Vals dvs ds) (hx : Passes CX X E)
    (I : Inv X pins σ H s) (r : Vals vs us) (h : sp (vs ++ dvs) H Q E) : wpAny (model X.prog X.w) X.A (call (.ref f) us) (EP X pins σ Q) X.xe s := by
  have r2 : Vals (vs ++ dvs) (us ++ ds) := r.append hd
  have hl : (us ++ ds).length = ps.length := by rw [← r2.length]; exact F.len _ _ _ _ h
  refine wpAny_call (codeAny_mono (F.run X.A X.stack s H ⟨us, []⟩ (us ++ ds) (vs ++ dvs) Q E hr I.env0 (hb s us I.kIn hl) r2 h) fun r s' hq => ?_)
  cases r with
  | error e => exact hx pins σ H s e s' I hq
  | ok fl =>
    cases fl with
    | ret u => exact I.after hq
    | next => exact False.elim hq
    | brk => exact False.elim hq
    | cont => exact False.elim hq
theorem pe_call (F : FnOk X.prog X.w X.K X.mg X.base CX k f fd ps sp) (hr : Room k X.A) (hg : Gl X x) (hm : X.mg x = some (.ref f)) (hk : PySem.W.keepIn X.K (.ref f) = true) (hb : Binds X.K fd ps ds) (hd : Vals dvs ds) (hx : Passes CX X E)
    (ha : PA X (e :: es) t) (hdb : (x == ("__debug__" : Str)) = false := by decide) (he : starEach (e :: es) X.env = (false, eval e X.env) :: starEach es X.env := by rfl) (hpl : (backTo pos (starEach es X.env)).any (·.1) = false := by rfl) :
    PE X (.Call (.Name x p) (e :: es) [] pos) (tCall sp dvs E t) := by
  intro pins s σ H Q I h
  refine wpAny_Call_Name_kw (ld_glob I hg hm ?_ hdb)
  refine PySem.W.callWith_K (h₀ := X.base) I.ok.mod.kin hk (thn (ha pos pins s σ H _ I h) fun us s1 ⟨vs, H1, I1, r, q⟩ => ⟨I1.kIn, ?_⟩) he hpl
  exact run_fn F hr hb hd hx I1 r q
theorem pe_meth {pl : Sem Bool} (he : PE X o ta) (c : Cls X.K C) (hm : Meth X.K C m f) (F : FnOk X.prog X.w X.K X.mg X.base CX k f fd ps sp) (hr : Room k X.A) (hb : Binds X.K fd ps ds) (hd : Vals dvs ds) (hx : Passes CX X E) (ha : PA X (e :: es) t)
    (hst : starEach (e :: es) X.env = (false, eval e X.env) :: starEach es X.env := by rfl) (hpl : (backTo pos (starEach es X.env)).any (·.1) = false := by rfl)
    (ht : eval (.Call (.Attribute o m apos) (e :: es) [] pos) X.env = (do
      let ov ← eval o X.env
      standAt apos.atName
      let (f, first) ← holding [ov] (getMethod ov m pl)
      callWith pos f first (backTo pos (starEach (e :: es) X.env)) (backToKw pos (keywordEach [] X.env))) := by rfl) :
    PE X (.Call (.Attribute o m apos) (e :: es) [] pos) (tMeth C m sp dvs E ta t) := by
  intro pins s σ H Q I h
  refine PySem.W.methodCall_KW (pl := pl) (thn (he pins s σ H _ I h) fun u s1 ⟨x, H1, I1, rx, a, dx, fs, ex, ea, l, q⟩ => ?_) ht
  subst ex
  obtain rfl : u = Value.ref a := rx
  refine getmeth_ok I1 ea c hm l ?_
  refine PySem.W.callWith_K (first := [.ref a]) (h₀ := X.base) I.ok.mod.kin hm.kp (thn (ha pos pins s1 σ H1 _ I1 q) fun us s2 ⟨vs, H2, I2, r, q2⟩ => ⟨I2.kIn, ?_⟩) hst hpl
  exact run_fn (us := .ref a :: us) (vs := .ref a :: vs) F hr hb hd hx I2 (.cons rfl r) q2
structure Mk (K : PySem.W.Frag) (C f : Addr) : Prop where
  makes : PySem.W.makesIn K C = true
  init : PySem.W.findIn K (.ref C) "__init__" = some (some (.ref f))
  fn : PySem.W.isFn K (.ref f) = true
  kp : PySem.W.keepIn K (.ref C) = true
theorem run_make {pins : List (Addr × Obj)} {σ : St} {H : Hp} {s : Shared} {Q : VK} {us : List Value} {vs : List V} (M : Mk X.K C f) (F : FnOk X.prog X.w X.K X.mg X.base CX k f fd ps sp) (hr : Room (k + 1) X.A) (hb : Binds X.K fd ps ds) (hd : Vals dvs ds)
    (hx : Passes CX X E) (I : Inv X pins σ H s) (r : Vals vs us)
    (h : ∀ x dx, H x = none → H dx = none → dx ≠ x → sp (.ref x :: (vs ++ dvs)) (upd (upd H dx (.own x)) x (.ins C dx [])) (fun v H2 => v = .non ∧ Q (.ref x) H2) E) :
    wpAny (model X.prog X.w) X.A (call (.ref C) us) (EP X pins σ Q) X.xe s := by
  have hq := h (s.heap.objs.size + 1) s.heap.objs.size (I.hok.fresh (Nat.le_succ _)) (I.hok.fresh (Nat.le_refl _)) (Nat.ne_of_lt (Nat.lt_succ_self _))
  have I2 := Inv.made (C := C) I
  have r2 : Vals (V.ref (s.heap.objs.size + 1) :: (vs ++ dvs)) (Value.ref (s.heap.objs.size + 1) :: (us ++ ds)) := .cons rfl (r.append hd)
  have hl : (Value.ref (s.heap.objs.size + 1) :: us ++ ds).length = ps.length := by
    have e := r2.length
    rw [F.len _ _ _ _ hq] at e
    exact e.symm
  refine wpAny_call (make_map (f := f) I.kIn M.makes M.init (beq_iff_eq.mp M.fn) (codeAny_mono (F.run _ X.stack _ _ ⟨Value.ref (s.heap.objs.size + 1) :: us, []⟩ (Value.ref (s.heap.objs.size + 1) :: (us ++ ds)) _ _ E (hr.make C us [])
    (I2.env0.make C us []) (hb _ (Value.ref (s.heap.objs.size + 1) :: us) I2.kIn hl) r2 hq) fun r s' hq' => ?_))
  cases r with
  | error e => exact hx pins σ _ _ e s' I2 hq'
  | ok fl =>
    cases fl with
    | ret u =>
      obtain ⟨v, H', I3, rv, ev, q3⟩ := I2.after hq'
      subst ev
      exact ⟨rv, ⟨V.ref (s.heap.objs.size + 1), H', I3, rfl, q3⟩⟩
    | next => exact False.elim hq'
    | brk => exact False.elim hq'
    | cont => exact False.elim hq'
theorem pe_make (M : Mk X.K C f) (F : FnOk X.prog X.w X.K X.mg X.base CX k f fd ps sp) (hr : Room (k + 1) X.A) (hg : Gl X x) (hm : X.mg x = some (.ref C)) (hb : Binds X.K fd ps ds) (hd : Vals dvs ds) (hx : Passes CX X E)
    (ha : PA X (e :: es) t) (hdb : (x == ("__debug__" : Str)) = false := by decide) (he : starEach (e :: es) X.env = (false, eval e X.env) :: starEach es X.env := by rfl) (hpl : (backTo pos (starEach es X.env)).any (·.1) = false := by rfl) :
    PE X (.Call (.Name x p) (e :: es) [] pos) (tMake C sp dvs E t) := by
  intro pins s σ H Q I h
  refine wpAny_Call_Name_kw (ld_glob I hg hm ?_ hdb)
  refine PySem.W.callWith_K (h₀ := X.base) I.ok.mod.kin M.kp (thn (ha pos pins s σ H _ I h) fun us s1 ⟨vs, H1, I1, r, q⟩ => ⟨I1.kIn, ?_⟩) he hpl
  exact run_make M F hr hb hd hx I1 r q
end
section
variable {X : Cx} {CX : CXT} {k : Nat} {f C : Addr} {fd : FuncData} {ps ks : List Str} {sp : Sp} {E : XK} {x m : Str} {p pos apos kpos : Pos} {e o : Expr} {es : List Expr} {kws : List Keyword} {te ta : TE} {t tk : TA} {nm : Option Str}
structure KBinds (K : PySem.W.Frag) (fd : FuncData) (ps ks : List Str) (g : List Value → List Value → List Value) (gV : List V → List V → List V) : Prop where
  to : ∀ (s : Shared) (us ws : List Value), K.In s.heap → (g us ws).length = ps.length → BindsTo s fd ⟨us, ks.zip ws⟩ (ps.zip (g us ws))
  rel : ∀ {vs : List V} {us : List Value} {zs : List V} {ws : List Value}, Vals vs us → Vals zs ws → Vals (gV vs zs) (g us ws)
variable {g : List Value → List Value → List Value} {gV : List V → List V → List V}
end
structure FnScope (N P : List Str) (sc : Scope) : Prop where
  kind : sc.kind = .function
  co : sc.isCoroutine = false
  gen : sc.isGenerator = false
  nd : N.Nodup
  pre : N.take P.length = P
  par : ∀ x ∈ P, sc.names.lookup x = some .local ∨ sc.names.lookup x = some .cell
  nofree : ∀ y ∈ sc.names, y.2 ≠ .free
theorem bindL_out {kindOf : Str → Option NameKind} {x : Str} : ∀ {binds : List (Str × Value)} {m : Str → Option Value}, (∀ v, (x, v) ∉ binds) → bindL kindOf binds m x = m x
  | [], _, _ => rfl
  | (n, v) :: r, m, h => by
    unfold bindL
    rw [bindL_out fun w hw => h w (List.mem_cons_of_mem _ hw)]
    split
    · have : x ≠ n := by rintro rfl; exact h v List.mem_cons_self
      simp [this]
    · rfl
theorem bindC_out {kindOf : Str → Option NameKind} {x : Str} : ∀ {binds : List (Str × Value)} {m : Str → Option Value}, (∀ v, (x, v) ∉ binds) → bindC kindOf binds m x = m x
  | [], _, _ => rfl
  | (n, v) :: r, m, h => by
    unfold bindC
    rw [bindC_out fun w hw => h w (List.mem_cons_of_mem _ hw)]
    split
    · rfl
    · have : x ≠ n := by rintro rfl; exact h v List.mem_cons_self
      simp [this]
theorem bindL_get {kindOf : Str → Option NameKind} {x : Str} {v : Value} : ∀ {P : List Str} {vs : List Value} {i : Nat} {m : Str → Option Value}, P.Nodup → P[i]? = some x → vs[i]? = some v → kindOf x = some .local →
    bindL kindOf (P.zip vs) m x = some v
  | [], _, _, _, _, h, _, _ => by simp at h
  | _ :: _, [], _, _, _, _, h, _ => by simp at h
  | p :: P, w :: vs, 0, m, nd, h1, h2, hk => by
    simp at h1 h2; subst h1; subst h2
    show bindL kindOf ((p, w) :: P.zip vs) m p = _
    unfold bindL
    rw [bindL_out fun v hv => (List.nodup_cons.mp nd).1 (List.of_mem_zip hv).1, if_pos hk]
    simp
  | p :: P, w :: vs, i + 1, m, nd, h1, h2, hk => by
    show bindL kindOf ((p, w) :: P.zip vs) m x = _
    unfold bindL
    exact bindL_get (i := i) (List.nodup_cons.mp nd).2 (by simpa using h1) (by simpa using h2) hk
theorem bindC_get {kindOf : Str → Option NameKind} {x : Str} {v : Value} : ∀ {P : List Str} {vs : List Value} {i : Nat} {m : Str → Option Value}, P.Nodup → P[i]? = some x → vs[i]? = some v → kindOf x ≠ some .local →
    bindC kindOf (P.zip vs) m x = some v
  | [], _, _, _, _, h, _, _ => by simp at h
  | _ :: _, [], _, _, _, _, h, _ => by simp at h
  | p :: P, w :: vs, 0, m, nd, h1, h2, hk => by
    simp at h1 h2; subst h1; subst h2
    show bindC kindOf ((p, w) :: P.zip vs) m p = _
    unfold bindC
    rw [bindC_out fun v hv => (List.nodup_cons.mp nd).1 (List.of_mem_zip hv).1, if_neg hk]
    simp
  | p :: P, w :: vs, i + 1, m, nd, h1, h2, hk => by
    show bindC kindOf ((p, w) :: P.zip vs) m x = _
    unfold bindC
    exact bindC_get (i := i) (List.nodup_cons.mp nd).2 (by simpa using h1) (by simpa using h2) hk
def start (N : List Str) (vs : List V) : St := vs.map some ++ List.replicate (N.length - vs.length) none
def cxOf (CX : CXT) (P : Program) (w : World) (K : PySem.W.Frag) (mg : Str → Option Value) (base : Heap) (N : List Str) (qual : Str) (scope : Scope) (f : Addr) (cd : Value) (A : Around) (outer : List Env) (s : Shared) (H : Hp) (E : XK) : Cx where
  prog := P
  w := w
  K := K
  mg := mg
  base := base
  A := A.deeper (envOfC qual scope s.heap.objs.size f cd)
  N := N
  s₀ := s
  H₀ := H
  env := envOfC qual scope s.heap.objs.size f cd
  outer := outer
  stack := envOfC qual scope s.heap.objs.size f cd :: outer
  ex := []
  calm := true
  fn := fun _ => true
  pn := []
  xe := fun e s' => wpAny (model P w) (A.deeper (envOfC qual scope s.heap.objs.size f cd)) (leaving (envOfC qual scope s.heap.objs.size f cd) e) (fun _ s'' => CX outer H s E e s'') (fun e' s'' => CX outer H s E e' s'') s'
theorem cell_has {sc : Scope} {n : Nat} {x : Str} (h : sc.names.lookup x = some .cell) : ∃ c, (cellsFrom n sc.names []).lookup x = some c := by
  have q := PySem.W.cellsFrom_some sc.names n [] (.inl h)
  exact Option.isSome_iff_exists.mp q
theorem inv_start {CX : CXT} {P : Program} {w : World} {K : PySem.W.Frag} {mg : Str → Option Value} {base : Heap} {N ps : List Str} {qual : Str} {scope : Scope} {f : Addr} {cd : Value} {A : Around} {outer : List Env} {s s1 : Shared} {H : Hp} {E : XK} {us : List Value} {vs : List V}
    (S : FnScope N ps scope) (hd : A.handled = none) (e0 : Env0 P w K mg base A outer s H) (hl : vs.length = ps.length) (r : Vals vs us)
    (x : InCallC s s.heap.objs.size (bindL (envOfC qual scope s.heap.objs.size f cd).kindOf (ps.zip us) fun _ => none) (cellsFrom (s.heap.objs.size + 1) scope.names []) (bindC (envOfC qual scope s.heap.objs.size f cd).kindOf (ps.zip us) fun _ => none) s1) :
    Inv (cxOf CX P w K mg base N qual scope f cd A outer s H E) [] (start N vs) H s1 := by
  have hpl : ps.length ≤ N.length := by have := congrArg List.length S.pre; rw [List.length_take] at this; omega
  obtain ⟨h1, tk, rfl, hk⟩ := x.done
  have noA : ∀ b : Addr, b ∉ (cxOf CX P w K mg base N qual scope f cd A outer s H E).ex := fun b z => absurd (show b ∈ ([] : List Addr) from z) (by simp)
  refine ⟨⟨e0.mod, S.kind, rfl, rfl, Nat.le_refl _, fun y z c h1 h2 => ?_, fun y hy => ?_, fun y c _ h => ?_, fun _ => hd, Around.frames_deeper e0.frames, .inr ⟨rfl, rfl⟩, fun b z => absurd z (noA b), e0.bs, e0.bsz, fun b _ _ => noA b, fun b z => absurd z (noA b), e0.funs, e0.frf⟩,
    rfl, e0.bare, Un.kept hk, ⟨_, x.toInCall.ns, fun i y v h1 h2 h3 => ?_⟩, fun y c h => ⟨_, x.cell y c h⟩, e0.hok.fresh (Nat.le_refl _), fun y c h => ?_, fun p hp => absurd (show p ∈ ([] : List (Addr × Obj)) from hp) (by simp), e0.hok.kept hk, ?_⟩
  · exact name_of_addr x.apart (PySem.mem_of_lookup h1) (PySem.mem_of_lookup h2)
  · have hy : scope.names.lookup y = some .cell ∨ scope.names.lookup y = some .free := hy
    rcases hy with hy | hy
    · exact cell_has hy
    · exact absurd rfl (S.nofree _ (PySem.mem_of_lookup hy))
  · exact Nat.le_of_lt (x.above y c (PySem.mem_of_lookup h))
  · have hi : i < vs.length := by
      unfold start at h2
      by_cases hi : i < vs.length
      · exact hi
      · rw [List.getElem?_append_right (by simpa using hi)] at h2
        rw [List.getElem?_replicate] at h2
        split at h2 <;> cases h2
    have ha : vs[i]? = some v := by
      unfold start at h2
      rw [List.getElem?_append_left (by simpa using hi), List.getElem?_map] at h2
      cases e : vs[i]? with
      | none => rw [e] at h2; cases h2
      | some a => rw [e] at h2; cases h2; rfl
    obtain ⟨u, hu, rv⟩ := r.get ha
    have hp : ps[i]? = some y := by
      rw [← S.pre, List.getElem?_take_of_lt (by omega)]; exact h1
    have ndP : ps.Nodup := by rw [← S.pre]; exact S.nd.sublist (List.take_sublist _ _)
    refine ⟨u, rv, ?_⟩
    rcases S.par y (List.mem_of_getElem? hp) with k | k
    · exact .inl ⟨k, bindL_get ndP hp hu k⟩
    · obtain ⟨c, e⟩ := cell_has (n := s.heap.objs.size + 1) k
      refine .inr ⟨.inl k, c, e, ?_⟩
      have q := x.cell y c e
      rw [bindC_get ndP hp hu (by show scope.names.lookup y ≠ _; rw [k]; decide)] at q
      exact q
  · exact e0.hok.fresh (Nat.le_of_lt (x.above y c (PySem.mem_of_lookup h)))
  · unfold start
    show _ = N.length
    rw [List.length_append, List.length_map, List.length_replicate]
    omega
theorem fn_of {CX : CXT} {P : Program} {w : World} {K : PySem.W.Frag} {mg : Str → Option Value} {base : Heap} {k : Nat} {f : Addr} {name qual : Str} {params : Arguments} {body : List Stmt} {scope : Scope} {dV kV doc pm cdv ct oc : Value} {an od : Option Addr}
    {osl : Array (Option Value)} {N ps : List Str} {sp : Sp} (lk : K.lookup f = some ⟨oc, od, .func (PySem.W.fnOf name qual params body scope dV kV doc pm an cdv ct), osl⟩) (hcd : PySem.W.codeIn K cdv qual = true) (S : FnScope N ps scope)
    (len : ∀ vs H Q E, sp vs H Q E → vs.length = ps.length)
    (hbody : ∀ (A : Around) (outer : List Env) (s : Shared) (H : Hp) (vs : List V) (Q : VK) (E : XK), Room k (A.deeper (envOfC qual scope s.heap.objs.size f cdv)) → sp vs H Q E →
      ∃ t, PSs (cxOf CX P w K mg base N qual scope f cdv A outer s H E) body t ∧ t { nx := fun _ H' => Q .non H', rt := Q } (start N vs) H) :
    FnOk P w K mg base CX (k + 1) f (PySem.W.fnOf name qual params body scope dV kV doc pm an cdv ct) ps sp := by
  refine ⟨len, fun A outer s H args us vs Q E hr e0 hb r hsp => ?_⟩
  have hl := len _ _ _ _ hsp
  have KX : K.In s.heap := e0.mod.kin.keeps fun b o e => (e0.bs b o e).1
  have lim : s.heap.NoLimit := e0.mod.nolimit.keeps fun b o e => (e0.bs b o e).1
  have hkind : ∀ y ∈ ps.zip us, scope.names.lookup y.1 = some .local ∨ (scope.names.lookup y.1 = some .cell ∧ ((cellsFrom (s.heap.objs.size + 1) scope.names []).lookup y.1).isSome = true) := fun ⟨n, v⟩ hy => by
    rcases S.par n (List.of_mem_zip hy).1 with q | q
    · exact .inl q
    · exact .inr ⟨q, PySem.W.cellsFrom_some _ _ _ (.inl q)⟩
  refine codeAny_call_function hr.depth (KX _ _ lk) rfl S.co S.gen rfl (PySem.W.codeRec_of KX hcd) (hb _ _ _ _ ?_)
  refine wpAny_newFunctionEnv_cells S.kind hkind fun env he s1 x => ?_
  subst he
  refine ⟨lim.keeps x.toInCall.keep, codeAny_func ?_⟩
  obtain ⟨t, ht, hq⟩ := hbody A outer s H vs Q E (hr.deeper _) hsp
  have I : Inv (cxOf CX P w K mg base N qual scope f cdv A outer s H E) [] (start N vs) H s1 := inv_start S hr.hd e0 hl r x
  refine wpAny_mono (ht [] s1 (start N vs) H _ I hq) (fun fl s' hs => ?_) fun e s' hs => hs
  have fin : ∀ {σ' : St} {H' : Hp} {v : V} {u : Value}, Inv (cxOf CX P w K mg base N qual scope f cdv A outer s H E) [] σ' H' s' → RelV v u → Q v H' → CE outer P w H s Q u s' :=
    fun {σ' H' v u} J rv q => ⟨v, H', J.os, J.bare, J.base, J.hok, rv, q⟩
  cases fl with
  | ret u =>
    obtain ⟨v, σ', H', J, rv, q⟩ := hs
    exact fin J rv q
  | next =>
    obtain ⟨σ', H', J, q⟩ := hs
    exact fin (v := V.non) (u := Value.none) J rfl q
  | brk =>
    obtain ⟨_, _, _, q⟩ := hs
    exact False.elim q
  | cont =>
    obtain ⟨_, _, _, q⟩ := hs
    exact False.elim q
end L2
namespace L2
open PySem PySem.Spec PyProof.Rows
section
variable {X : Cx} {x : Str} {p pos : Pos} {e : Expr} {es : List Expr} {t : TA} {id T : String} {r : List V → Hp → VK → Prop}
def tCB (r : List V → Hp → VK → Prop) (t : TA) : TE := fun σ H Q => t σ H fun vs H1 => r vs H1 Q
theorem pe_callB (hc : CallR X (.builtin id) r) (hg : Gl X x) (hm : X.mg x = none) (hv : bootBuiltins x = some (.builtin id)) (ha : PA X (e :: es) t) (hn : x ≠ "__name__" := by decide) (hdb : (x == ("__debug__" : Str)) = false := by decide)
    (he : starEach (e :: es) X.env = (false, eval e X.env) :: starEach es X.env := by rfl) (hpl : (backTo pos (starEach es X.env)).any (·.1) = false := by rfl) : PE X (.Call (.Name x p) (e :: es) [] pos) (tCB r t) := by
  intro pins s σ H Q I h
  refine wpAny_Call_Name_kw (ld_blt I hg hm hv ?_ hn hdb)
  exact PyProof.Rows.callWith_builtin1 (thn (ha pos pins s σ H _ I h) fun us s1 ⟨vs, H1, I1, r1, q1⟩ => hc pins s1 σ H1 vs us Q I1 r1 q1) he hpl
theorem pe_callTy (hc : CallR X (.type T) r) (hg : Gl X x) (hm : X.mg x = none) (hv : bootBuiltins x = some (.type T)) (ha : PA X (e :: es) t) (hn : x ≠ "__name__" := by decide) (hdb : (x == ("__debug__" : Str)) = false := by decide)
    (he : starEach (e :: es) X.env = (false, eval e X.env) :: starEach es X.env := by rfl) (hpl : (backTo pos (starEach es X.env)).any (·.1) = false := by rfl) : PE X (.Call (.Name x p) (e :: es) [] pos) (tCB r t) := by
  intro pins s σ H Q I h
  refine wpAny_Call_Name_kw (ld_blt I hg hm hv ?_ hn hdb)
  exact PyProof.Rows.callWith_type1 (thn (ha pos pins s σ H _ I h) fun us s1 ⟨vs, H1, I1, r1, q1⟩ => hc pins s1 σ H1 vs us Q I1 r1 q1) he hpl
end
end L2
namespace HT
open PySem PyProof.Rows
def lexLt : List Int → List Int → Bool
  | [], [] => false
  | [], _ :: _ => true
  | _ :: _, [] => false
  | x :: xs, y :: ys => if x = y then lexLt xs ys else decide (x < y)
theorem lexLt_cons (x y : Int) (xs ys : List Int) : lexLt (x :: xs) (y :: ys) = if x = y then lexLt xs ys else decide (x < y) := rfl
theorem lexLt_nil_nil : lexLt [] [] = false := rfl
theorem lexLt_nil_cons (y : Int) (ys : List Int) : lexLt [] (y :: ys) = true := rfl
theorem lexLt_cons_nil (x : Int) (xs : List Int) : lexLt (x :: xs) [] = false := rfl
theorem eqAt_int (A : Around) (s : Shared) (a : Int) (t : Tok) (c : Int) (u : Tok) : ∃ e, SeqAt.EqAt A s (.int a t) (.int c u) e ∧ (e = true ↔ a = c) :=
  ⟨(a == c), SeqAt.EqAt.int_int a t c u, by simp⟩
theorem rcLt_int (A : Around) (s : Shared) (a : Int) (t : Tok) (c : Int) (u : Tok) (prog : Program) (w : World) (E : Value → Shared → Prop) (Q : Value → Shared → Prop) (h : Q (.bool (decide (a < c))) s) :
    wpAny (model prog w) A (richCompare .Lt (.int a t) (.int c u)) Q E s :=
  (PyProof.Rows.lt_int h : wpAny (model prog w) A (compareOp .Lt (.int a t) (.int c u)) Q E s)
section
open PySem.SeqAt
open PySem.AutoSeq1 (wpAny_loadPart')
open PySem.MeetsSeq PySem.MeetsSeq2 PySem.MeetsSeq3
end
section
variable {prog : Program} {w : World} {A : Around} {E : Value → Shared → Prop} {s : Shared}
def sIx (n d : Nat) : Option Int → Nat
  | none => d
  | some v => if v < 0 then (v + (n : Int)).toNat else min v.toNat n
theorem sIx_none (n d : Nat) : sIx n d none = d := rfl
theorem sIx_nat (n d k : Nat) : sIx n d (some (k : Int)) = min k n := by
  show (if (k : Int) < 0 then ((k : Int) + (n : Int)).toNat else min (k : Int).toNat n) = min k n
  rw [if_neg (by omega), Int.toNat_natCast]
end
end HT
namespace L2
open PySem PySem.Spec PyProof.Rows
abbrev TO := St → Hp → (Option Int → Hp → Prop) → Prop
def PO (X : Cx) (e : Option Expr) (t : TO) : Prop :=
  ∀ (pins : List (Addr × Obj)) (s : Shared) (σ : St) (H : Hp) (Q : Option Int → Hp → Prop), Inv X pins σ H s → t σ H Q →
    wpAny (model X.prog X.w) X.A (evalPart e X.env) (fun u s' => ∃ o H', Inv X pins σ H' s' ∧ IsPart u o ∧ Q o H') X.xe s
def tNoPart : TO := fun _ H Q => Q none H
def tPart (t : TE) : TO := fun σ H Q => t σ H fun x H1 => ∃ i, x = .int i ∧ Q (some i) H1
theorem intsAre_of {ns : List Int} : ∀ {us : List Value}, Vals (ns.map V.int) us → IntsAre us ns := by
  induction ns with
  | nil => intro us r; rw [List.map_nil] at r; cases r; exact .nil
  | cons n ns ih =>
    intro us r
    rw [List.map_cons] at r
    cases r with
    | cons r1 r2 =>
      obtain ⟨t, e⟩ := r1
      subst e
      exact .cons n t (ih r2)
section
variable {X : Cx} {e : Expr} {te : TE} {lo hi : Option Expr} {tl th : TO} {pos p2 : Pos}
theorem po_none : PO X none tNoPart := by
  intro pins s σ H Q I h
  rw [evalPart_none]
  exact wpAny_pure ⟨none, H, I, .none, h⟩
theorem po_some (h : PE X e te) : PO X (some e) (tPart te) := by
  intro pins s σ H Q I hw
  rw [evalPart_some]
  refine thn (h pins s σ H _ I hw) fun u s1 ⟨x, H1, I1, r1, q1⟩ => ?_
  obtain ⟨i, rfl, q⟩ := q1
  obtain ⟨t, rfl⟩ := r1
  exact ⟨some i, H1, I1, .int i t, q⟩
def SlR (X : Cx) (r : V → Option Int → Option Int → Hp → VK → Prop) : Prop :=
  ∀ (pins : List (Addr × Obj)) (s : Shared) (σ : St) (H : Hp) (x : V) (v vl vu : Value) (lo hi : Option Int) (sl : Addr) (Q : VK), Inv X pins σ H s → RelV x v → s.heap.IsSliceOf sl vl vu .none → IsPart vl lo → IsPart vu hi → r x lo hi H Q →
    ∃ T id, typeLookup (.type T) "__getitem__" = pure (some (.builtin id)) ∧ s.TypeIs v T ∧ wpAny (model X.prog X.w) X.A (getItem v (.ref sl)) (EP X pins σ Q) X.xe s
def tSl (r : V → Option Int → Option Int → Hp → VK → Prop) (te : TE) (tl th : TO) : TE := fun σ H Q => te σ H fun x H1 => tl σ H1 fun l H2 => th σ H2 fun u H3 => r x l u H3 Q
theorem pe_slice {r : V → Option Int → Option Int → Hp → VK → Prop} (hr : SlR X r) (he : PE X e te) (hl : PO X lo tl) (hu : PO X hi th) : PE X (.Subscript e (.Slice lo hi none p2) pos) (tSl r te tl th) := by
  intro pins s σ H Q I h
  refine Subscript_ (thn (he pins s σ H _ I h) fun v s1 ⟨x, H1, I1, r1, q1⟩ => ?_)
  refine wpAny_Slice (thn (hl pins s1 σ H1 _ I1 q1) fun vl s2 ⟨l, H2, I2, pl, q2⟩ => thn (hu pins s2 σ H2 _ I2 q2) fun vu s3 ⟨u, H3, I3, pu, q3⟩ => ?_)
  rw [evalPart_none]
  refine wpAny_pure ?_
  have I4 : Inv X pins σ H3 { s3 with heap := s3.heap.push { cls := .type "slice", data := .fields #[vl, vu, .none] } } := I3.kept (t' := s3.toks) fun b ob q => Heap.get?_push_of_some _ q
  obtain ⟨T, id, hT, ht, hg⟩ := hr pins { s3 with heap := s3.heap.push { cls := .type "slice", data := .fields #[vl, vu, .none] } } σ H3 x v vl vu l u s3.heap.objs.size Q I4 r1 (Heap.IsSliceOf.new ..) pl pu q3
  show wpAny (model X.prog X.w) X.A (subscriptTail e (.Slice lo hi none p2) v (.ref s3.heap.objs.size)) (EP X pins σ Q) X.xe { s3 with heap := s3.heap.push { cls := .type "slice", data := .fields #[vl, vu, .none] } }
  exact tail_any (ops := [.ref s3.heap.objs.size, v]) ht hT hg (by with_unfolding_all rfl)
def cutV (xs : List V) (lo hi : Option Int) : List V := (xs.drop (HT.sIx xs.length 0 lo)).take (HT.sIx xs.length xs.length hi - HT.sIx xs.length 0 lo)
theorem cutV_length (xs : List V) (lo hi : Option Int) : (cutV xs lo hi).length ≤ xs.length := by
  unfold cutV
  rw [List.length_take, List.length_drop]
  omega
end
end L2
namespace L2
open PySem PySem.Spec PyProof.Rows
def ixN (n : Nat) (i : Int) : Option Nat := if 0 ≤ i then (if i < n then some i.toNat else none) else if -(n : Int) ≤ i then some (i + n).toNat else none
def atI {α : Type} (xs : List α) (i : Int) : Option α := (ixN xs.length i).bind fun j => xs[j]?
theorem ixN_seq {n : Nat} {i : Int} {j : Nat} (h : ixN n i = some j) : seqIndex? i n = some j ∧ j < n ∧ -(n : Int) ≤ i ∧ i < n := by
  unfold ixN at h
  by_cases h0 : 0 ≤ i
  · rw [if_pos h0] at h
    by_cases h1 : i < n
    · rw [if_pos h1] at h
      have e : i.toNat = j := Option.some.inj h
      exact ⟨by rw [seqIndex_of h0 h1, e], by omega, by omega, h1⟩
    · rw [if_neg h1] at h; cases h
  · rw [if_neg h0] at h
    by_cases h1 : -(n : Int) ≤ i
    · rw [if_pos h1] at h
      have e : (i + n).toNat = j := Option.some.inj h
      exact ⟨by rw [seqIndex_neg (by omega) h1, e], by omega, h1, by omega⟩
    · rw [if_neg h1] at h; cases h
theorem atI_get {α : Type} {xs : List α} {i : Int} {v : α} (h : atI xs i = some v) : ∃ j, seqIndex? i xs.length = some j ∧ xs[j]? = some v ∧ j < xs.length ∧ -(xs.length : Int) ≤ i ∧ i < xs.length := by
  unfold atI at h
  cases e : ixN xs.length i with
  | none => rw [e] at h; cases h
  | some j =>
    rw [e] at h
    obtain ⟨h1, h2, h3, h4⟩ := ixN_seq e
    exact ⟨j, h1, h, h2, h3, h4⟩
theorem atI_nat {α : Type} {xs : List α} {j : Nat} {v : α} (h : xs[j]? = some v) : atI xs (j : Int) = some v := by
  have hj : j < xs.length := (List.getElem?_eq_some_iff.mp h).1
  have e : ixN xs.length (j : Int) = some j := by
    unfold ixN
    rw [if_pos (by omega), if_pos (by omega)]; simp
  unfold atI; rw [e]; exact h
theorem atI_last {α : Type} (xs : List α) (v : α) : atI (xs ++ [v]) (-1) = some v := by
  have hl : (xs ++ [v]).length = xs.length + 1 := by simp
  have e : ixN (xs ++ [v]).length (-1) = some xs.length := by
    unfold ixN
    rw [hl, if_neg (by decide), if_pos (by omega)]
    congr 1
    omega
  unfold atI
  rw [e]
  show (xs ++ [v])[xs.length]? = some v
  simp
def PlainIx (b : Expr) : Prop := ∀ o i, subscripted b false o i = operate [o, i] (getItem o i)
def IxR (X : Cx) (r : R2) : Prop :=
  ∀ (value slice : Expr) (pins : List (Addr × Obj)) (s : Shared) (σ : St) (H : Hp) (x y : V) (v u : Value) (Q : VK), Inv X pins σ H s → RelV x v → RelV y u → r x y H Q →
    subscripted slice false v u = operate [v, u] (getItem v u) → wpAny (model X.prog X.w) X.A (subscriptTail value slice v u) (EP X pins σ Q) X.xe s
def MtR (X : Cx) (id : String) (r : V → List V → Hp → VK → Prop) : Prop :=
  ∀ (pins : List (Addr × Obj)) (s : Shared) (σ : St) (H : Hp) (x : V) (xs : List V) (v : Value) (us : List Value) (Q : VK), Inv X pins σ H s → RelV x v → Vals xs us → r x xs H Q →
    wpAny (model X.prog X.w) X.A (call (.builtin id) (v :: us)) (EP X pins σ Q) X.xe s
section
variable {X : Cx} {a b : Expr} {ta tb : TE} {pos : Pos}
theorem pe_ix {r : R2} (hr : IxR X r) (ha : PE X a ta) (hb : PE X b tb) (hs : PlainIx b) : PE X (.Subscript a b pos) (tOp r ta tb) := by
  intro pins s σ H Q I h
  exact Subscript_ (binT ha hb I h fun v u s2 x y H2 I2 rx ry q => hr a b pins s2 σ H2 x y v u Q I2 rx ry q (hs _ _))
def rIxL (K : PySem.W.Frag) : R2 := fun x y H Q => ∃ p xs i v, x = .ref p ∧ y = .int i ∧ SqL K H p xs ∧ atI xs i = some v ∧ Q v H
def rIxT (K : PySem.W.Frag) : R2 := fun x y H Q => ∃ p xs i v, x = .ref p ∧ y = .int i ∧ SqT K H p xs ∧ atI xs i = some v ∧ Q v H
theorem ix_list : IxR X (rIxL X.K) := by
  intro value slice pins s σ H x y v u Q I rx ry h hs
  obtain ⟨p, xs, i, z, rfl, rfl, hq, he, q⟩ := h
  cases rx
  obtain ⟨t, rfl⟩ := ry
  obtain ⟨its, r, pl, hz⟩ := I.list hq
  obtain ⟨j, h1, h2, h3, h4, h5⟩ := atI_get he
  obtain ⟨w, ew, rw'⟩ := r.get h2
  have hl := r.length
  have hn := line63
  have fin : EP X pins σ Q w s := ⟨z, H, I, rw', q⟩
  by_cases h0 : 0 ≤ i
  · have hj : i.toNat = j := by
      rw [seqIndex_of h0 h5] at h1
      exact Option.some.inj h1
    exact item_listR pl.isList h0 (by omega) (by rw [hj]; simpa using ew) fin hs
  · have hj : (i + (its.toArray.size : Int)).toNat = j := by
      rw [seqIndex_neg (by omega) h4] at h1
      rw [List.size_toArray, ← hl]
      exact Option.some.inj h1
    exact subscriptTail_builtinR (x := w) pl.isList.typeIs slot_list_getitem.lookup
      (wpAny_getItem_list_neg (Q := fun r s' => r = w ∧ EP X pins σ Q r s') pl.isList (by omega) (by rw [List.size_toArray] <;> omega) (by omega) (by rw [hj]; simpa using ew) ⟨rfl, fin⟩) hs
theorem ix_tup : IxR X (rIxT X.K) := by
  intro value slice pins s σ H x y v u Q I rx ry h hs
  obtain ⟨p, xs, i, z, rfl, rfl, hq, he, q⟩ := h
  cases rx
  obtain ⟨t, rfl⟩ := ry
  obtain ⟨its, r, pl, hz⟩ := I.tuple hq
  obtain ⟨j, h1, h2, h3, h4, h5⟩ := atI_get he
  obtain ⟨w, ew, rw'⟩ := r.get h2
  have hl := r.length
  have hn := line63
  have fin : EP X pins σ Q w s := ⟨z, H, I, rw', q⟩
  exact subscriptTail_builtinR (x := w) pl.typeIs slot_tuple_getitem.lookup
    (getItem_tuple (j := j) (Q := fun r s' => r = w ∧ EP X pins σ Q r s') pl (by omega) (by omega) (by rw [List.size_toArray, ← hl]; exact h1) (by simpa using ew) ⟨rfl, fin⟩) hs
theorem mapSeq_set (its : List Value) (n j : Nat) (u : Value) : Obj.mapSeq (·.setIfInBounds j u) { cls := .type "list", data := .seq its.toArray n } = { cls := .type "list", data := .seq (its.set j u).toArray n } := by
  simp [Obj.mapSeq]
theorem Inv.lst {pins : List (Addr × Obj)} {σ : St} {H : Hp} {s : Shared} {p : Addr} {xs : List V} (I : Inv X pins σ H s) (h : H p = some (.lst xs)) :
    ∃ (its : List Value) (n : Nat), Vals xs its ∧ s.heap.get? p = some { cls := .type "list", data := .seq its.toArray n } ∧ xs.length ≤ sizeLine := by
  obtain ⟨z, its, n, r, e⟩ := I.hok p _ h
  exact ⟨its, n, r, e, z⟩
theorem Inv.lstUpd {pins : List (Addr × Obj)} {σ : St} {H : Hp} {s : Shared} {p : Addr} {xs ys : List V} {its its' : List Value} {n n' : Nat} {f : Obj → Obj} (I : Inv X pins σ H s) (h : H p = some (.lst xs))
    (ho : s.heap.get? p = some { cls := .type "list", data := .seq its.toArray n }) (hf : f { cls := .type "list", data := .seq its.toArray n } = { cls := .type "list", data := .seq its'.toArray n' }) (r : Vals ys its') (hz : ys.length ≤ sizeLine) (t : Nat) :
    Inv X pins σ (upd H p (.lst ys)) { s with heap := s.heap.update p f, toks := t } := by
  have e : (s.heap.update p f).get? p = some { cls := .type "list", data := .seq its'.toArray n' } := by
    rw [Heap.get?_update_self f ho (by rw [hf] <;> rfl), hf]
  refine I.write (x := p) (e := p) (by rw [h]; trivial) (.inl rfl) (fun b u hb q => (Heap.get?_update_other _ _ (Ne.symm hb)).trans q) ⟨_, e⟩ ?_
  exact ⟨hz, its', n', r, e⟩
def rSetL : V → V → V → Hp → (Hp → Prop) → Prop := fun o i v H Q => ∃ p xs k j, o = .ref p ∧ i = .int k ∧ H p = some (.lst xs) ∧ ixN xs.length k = some j ∧ Q (upd H p (.lst (xs.set j v)))
theorem set_list : PSet X rSetL := by
  intro pins s σ H o i v ov iv u Q I ro ri rv h
  obtain ⟨p, xs, k, j, rfl, rfl, hp, hj, q⟩ := h
  cases ro
  obtain ⟨t, rfl⟩ := ri
  obtain ⟨its, n, r, ho, hz⟩ := I.lst hp
  obtain ⟨h1, h2, h3, h4⟩ := ixN_seq hj
  have hl := r.length
  have hn := line63
  have I' : Inv X pins σ (upd H p (.lst (xs.set j v))) { s with heap := s.heap.update p (Obj.mapSeq (·.setIfInBounds j u)) } :=
    I.lstUpd hp ho (mapSeq_set its n j u) (r.set rv j) (by rw [List.length_set]; exact hz) s.toks
  by_cases h0 : 0 ≤ k
  · have hk : k.toNat = j := by
      rw [seqIndex_of h0 h4] at h1
      exact Option.some.inj h1
    exact PySem.W.ki_setAt ho h0 (by omega) (by rw [List.size_toArray, ← hl]; exact h4) (by rw [hk]; exact ⟨_, I', q⟩)
  · have hk : (k + (its.toArray.size : Int)).toNat = j := by
      rw [seqIndex_neg (by omega) h3] at h1
      rw [List.size_toArray, ← hl]
      exact Option.some.inj h1
    exact PySem.W.ki_setBack ho (by omega) (by rw [List.size_toArray, ← hl]; exact h3) (by omega) (by rw [hk]; exact ⟨_, I', q⟩)
theorem slice_bounds (lo hi : Option Int) (n : Nat) : (sliceBounds lo hi none n).1 = ((HT.sIx n 0 lo : Nat) : Int) ∧ (sliceBounds lo hi none n).2.1 = ((HT.sIx n n hi : Nat) : Int) ∧ (sliceBounds lo hi none n).2.2 = 1 := by
  refine ⟨?_, ?_, rfl⟩
  · cases lo with
    | none => simp [sliceBounds, HT.sIx]
    | some i =>
      simp only [sliceBounds, HT.sIx, Option.getD_none, show (1 : Int) > 0 by decide, if_true]
      by_cases h : i < 0
      · simp only [h, if_true] <;> omega
      · simp only [h, if_false] <;> omega
  · cases hi with
    | none => simp [sliceBounds, HT.sIx]
    | some i =>
      simp only [sliceBounds, HT.sIx, Option.getD_none, show (1 : Int) > 0 by decide, if_true]
      by_cases h : i < 0
      · simp only [h, if_true] <;> omega
      · simp only [h, if_false] <;> omega
theorem slicePick_cut (its : List Value) (lo hi : Option Int) : slicePick its.toArray lo hi none = ((its.drop (HT.sIx its.length 0 lo)).take (HT.sIx its.length its.length hi - HT.sIx its.length 0 lo)).toArray := by
  obtain ⟨h1, h2, h3⟩ := slice_bounds lo hi its.toArray.size
  unfold slicePick
  rw [h1, h2, h3]
  simp only [sliceRange_one, pick_run, List.size_toArray] <;> rfl
def rSlL (K : PySem.W.Frag) : V → Option Int → Option Int → Hp → VK → Prop := fun x lo hi H Q => ∃ a xs, x = .ref a ∧ SqL K H a xs ∧ ∀ p, H p = none → Q (.ref p) (upd H p (.lst (cutV xs lo hi)))
theorem sl_list : SlR X (rSlL X.K) := by
  intro pins s σ H x v vl vu lo hi sl Q I rx hs pl pu h
  obtain ⟨a, xs, rfl, hx, q⟩ := h
  cases rx
  obtain ⟨its, r, ht, hz⟩ := I.list hx
  have hlen := r.length
  refine ⟨"list", _, slot_list_getitem.lookup, ht.isList.typeIs, ?_⟩
  refine wpAny_getItem_list_slice ht.isList hs pl pu .none (by simp) ?_ (by rw [List.size_toArray] <;> omega)
  rw [slicePick_cut, ← hlen]
  refine ⟨.ref s.heap.objs.size, _, I.laid (t' := s.toks) (o := .lst (cutV xs lo hi)) (fun b ob q => Heap.get?_push_of_some _ q) (Nat.le_refl _) ?_, rfl, q _ (I.hok.fresh (Nat.le_refl _))⟩
  exact ⟨Nat.le_trans (cutV_length xs lo hi) hz, _, 0, (r.drop (HT.sIx xs.length 0 lo)).take (HT.sIx xs.length xs.length hi - HT.sIx xs.length 0 lo), Heap.get?_push_size _ rfl⟩
theorem call_len_seq : CallR X (.builtin "len") (fun xs H Q => ∃ p ys, xs = [.ref p] ∧ (SqL X.K H p ys ∨ SqT X.K H p ys) ∧ Q (.int ys.length) H) := by
  intro pins s σ H xs us Q I r h
  obtain ⟨p, ys, rfl, hq, q⟩ := h
  obtain ⟨u, rfl, rx⟩ := vals1 r
  cases rx
  have hn := line63
  rcases hq with hq | hq
  · obtain ⟨its, r', pl, hz⟩ := I.list hq
    have hlen := r'.length
    exact Calls.call_len_list pl.isList (by simp only [List.size_toArray] <;> omega) ⟨.int ys.length, H, I.tok _, ⟨s.toks + 1, by rw [List.size_toArray, hlen]⟩, q⟩
  · obtain ⟨its, r', pl, hz⟩ := I.tuple hq
    have hlen := r'.length
    exact len_tuple pl (by simp only [List.size_toArray] <;> omega) ⟨.int ys.length, H, I.tok _, ⟨s.toks + 1, by rw [List.size_toArray, hlen]⟩, q⟩
theorem call_list_of : CallR X (.type "list") (fun xs H Q => ∃ p ys, xs = [.ref p] ∧ (SqL X.K H p ys ∨ SqT X.K H p ys) ∧ ∀ l, H l = none → Q (.ref l) (upd H l (.lst ys))) := by
  intro pins s σ H xs us Q I r h
  obtain ⟨p, ys, rfl, hq, q⟩ := h
  obtain ⟨u, rfl, rx⟩ := vals1 r
  cases rx
  have fin : ∀ (its : List Value), Vals ys its → ys.length ≤ sizeLine → ∀ (h' : Heap) (c' : Nat), (∀ b o', s.heap.get? b = some o' → h'.get? b = some o') →
      h'.get? s.heap.objs.size = some { cls := .type "list", dict := none, data := .seq its.toArray c', slots := #[] } → EP X pins σ Q (.ref s.heap.objs.size) { s with heap := h' } := fun its r' hz h' c' kp e =>
    ⟨.ref s.heap.objs.size, _, I.laid (t' := s.toks) kp (Nat.le_refl _) (show ObjOk X.prog X.w _ h' _ (.lst ys) from ⟨hz, its, c', r', e⟩), rfl, q _ (I.hok.fresh (Nat.le_refl _))⟩
  rcases hq with hq | hq
  · obtain ⟨its, r', pl, hz⟩ := I.list hq
    have hlen := r'.length
    obtain ⟨o, ho, hc, n, hd⟩ := pl.isList
    exact call_list_seq p (.inl rfl) ho hc hd (fun h' c' kp e => fin its r' hz h' c' kp e) (by simp only [List.size_toArray] <;> omega)
  · obtain ⟨its, r', pl, hz⟩ := I.tuple hq
    have hlen := r'.length
    obtain ⟨o, ho, hc, n, hd⟩ := pl
    exact call_list_seq p (.inr rfl) ho hc hd (fun h' c' kp e => fin its r' hz h' c' kp e) (by simp only [List.size_toArray] <;> omega)
theorem call_tuple_of : CallR X (.type "tuple") (fun xs H Q => ∃ p ys, xs = [.ref p] ∧ ((SqL X.K H p ys ∧ ∀ l, H l = none → Q (.ref l) (upd H l (.tup ys))) ∨ (SqT X.K H p ys ∧ Q (.ref p) H))) := by
  intro pins s σ H xs us Q I r h
  obtain ⟨p, ys, rfl, h⟩ := h
  obtain ⟨u, rfl, rx⟩ := vals1 r
  cases rx
  rcases h with ⟨hq, q⟩ | ⟨hq, q⟩
  · obtain ⟨its, r', pl, hz⟩ := I.list hq
    have hlen := r'.length
    refine call_tuple_list pl.isList (fun h' kp => ?_) (by simp only [List.size_toArray] <;> omega)
    have I1 : Inv X pins σ H { s with heap := h' } := I.kept (t' := s.toks) kp
    have I2 : Inv X pins σ (upd H h'.objs.size (.tup ys)) { s with heap := h'.push { cls := .type "tuple", data := .seq its.toArray } } :=
      I1.laid (t' := s.toks) (fun b o e => Heap.get?_push_of_some _ e) (Nat.le_refl _) (show ObjOk X.prog X.w _ _ _ (.tup ys) from ⟨hz, its, r', IsTup.new _ _⟩)
    exact ⟨.ref h'.objs.size, _, I2, rfl, q _ (I1.hok.fresh (Nat.le_refl _))⟩
  · obtain ⟨its, r', pl, hz⟩ := I.tuple hq
    exact call_tuple_same pl ⟨.ref p, H, I, rfl, q⟩
def tyV (K : PySem.W.Frag) (T : String) (x : V) (H : Hp) : Prop := match x with
  | .str _ => T = "str"
  | .int _ => T = "int"
  | .ref p => (T = "list" ∧ ∃ xs, SqL K H p xs) ∨ (T = "tuple" ∧ ∃ o, K.lookup p = some o ∧ o.cls = .type "tuple" ∧ o.dict = none) ∨
      (T = "dict" ∧ ((∃ kvs, H p = some (.dK kvs)) ∨ ∃ kvs, H p = some (.dT kvs))) ∨ (T = "set" ∧ ∃ S n, H p = some (.set S n))
  | _ => False
theorem tyV_is {pins : List (Addr × Obj)} {σ : St} {H : Hp} {s : Shared} {T : String} {x : V} {v : Value} (I : Inv X pins σ H s) (r : RelV x v) (ty : tyV X.K T x H) :
    s.TypeIs v T ∧ ∀ a, v = .ref a → ∃ ob, s.heap.get? a = some ob ∧ ob.dict = none := by
  cases x with
  | str z =>
    obtain ⟨t, rfl⟩ := r
    cases (show T = "str" from ty)
    exact ⟨typeIs_str s z t, fun _ e => nomatch e⟩
  | int i =>
    obtain ⟨t, rfl⟩ := r
    cases (show T = "int" from ty)
    exact ⟨typeIs_int s i t, fun _ e => nomatch e⟩
  | ref p =>
    cases r
    rcases ty with ⟨rfl, xs, hq⟩ | ⟨rfl, o, hk, hc, hd⟩ | ⟨rfl, hk⟩ | ⟨rfl, S, n, hk⟩
    · obtain ⟨its, _, pl, _⟩ := I.list hq
      refine ⟨pl.isList.typeIs, fun a e => ?_⟩
      cases e
      obtain ⟨o, n, e, c, hd, _⟩ := pl
      exact ⟨o, e, hd⟩
    · refine ⟨⟨o, I.kIn p o hk, hc⟩, fun a e => ?_⟩
      cases e
      exact ⟨o, I.kIn _ o hk, hd⟩
    · have z : ∃ o, s.heap.get? p = some o ∧ o.ExactDict := by
        rcases hk with ⟨kvs, hk⟩ | ⟨kvs, hk⟩
        · obtain ⟨_, _, _, _, o, _, _, e, ex, _⟩ := I.hok p _ hk
          exact ⟨o, e, ex⟩
        · obtain ⟨_, _, _, _, o, _, _, e, ex, _⟩ := I.hok p _ hk
          exact ⟨o, e, ex⟩
      obtain ⟨o, e, ex⟩ := z
      refine ⟨⟨o, e, ex.1⟩, fun a e2 => ?_⟩
      cases e2
      exact ⟨o, e, ex.2.1⟩
    · obtain ⟨o, _, _, _, e, ex, _⟩ := I.hok p _ hk
      refine ⟨⟨o, e, ex.1⟩, fun a e2 => ?_⟩
      cases e2
      exact ⟨o, e, ex.2.1⟩
  | _ => exact False.elim ty
def tBM (K : PySem.W.Frag) (T : String) (r : V → List V → Hp → VK → Prop) (to : TE) (t : TA) : TE := fun σ H Q => to σ H fun x H1 => tyV K T x H1 ∧ t σ H1 fun xs H2 => r x xs H2 Q
variable {o e : Expr} {es : List Expr} {to : TE} {t : TA} {name : Str} {apos cpos : Pos} {T id : String} {r : V → List V → Hp → VK → Prop}
theorem pe_bm (pa : PlainAttrs T) (slot : Slot T name id) (hty : typeOf (.builtin id) = pure (.type "method_descriptor")) (hm : MtR X id r) (ho : PE X o to) (ha : PA X (e :: es) t)
    (hbase : attributeBase o name X.env (eval o X.env) = eval o X.env := by rfl)
    (hfew : ((backTo cpos (starEach (e :: es) X.env)).all (fun x => !x.1) && (backToKw cpos (keywordEach [] X.env)).all (fun x => x.1.isSome)
      && decide ((e :: es).length + ([] : List Keyword).length + (if ([] : List Keyword).isEmpty then 0 else 1) < 30)) = true := by rfl)
    (hline : (apos.endLine == cpos.line) = true := by rfl) (hs : starEach (e :: es) X.env = (false, eval e X.env) :: starEach es X.env := by rfl) (hplain : (backTo cpos (starEach es X.env)).any (·.1) = false := by rfl) :
    PE X (.Call (.Attribute o name apos) (e :: es) [] cpos) (tBM X.K T r to t) := by
  intro pins s σ H Q I h
  refine wpAny_Call_method_late hbase hfew hline rfl (thn (ho pins s σ H _ I h) fun v s1 ⟨x, H1, I1, r1, ty, q1⟩ => ?_)
  obtain ⟨h1, h2⟩ := tyV_is I1 r1 ty
  refine ⟨T, id, pa, slot, hty, h1, h2, ?_⟩
  have hA := ha cpos pins s1 σ H1 _ I1 q1
  rw [hs] at hA ⊢
  refine Calls.callWith_builtin (by show (false || (backTo cpos (starEach es X.env)).any (·.1)) = false; rw [hplain] <;> rfl) (Calls.evalArgs_plain ?_)
  exact thn hA fun us s2 ⟨vs, H2, I2, r2, q2⟩ => hm pins s2 σ H2 x vs v us Q I2 r1 r2 q2
end
end L2
namespace L2
open PySem PySem.Spec PyProof.Rows
def MtM (X : Cx) (id : String) (r : V → List V → Hp → VK → Prop) : Prop :=
  ∀ (pins : List (Addr × Obj)) (s : Shared) (σ : St) (H : Hp) (x : V) (xs : List V) (v : Value) (us : List Value) (Q : VK), Inv X pins σ H s → RelV x v → Vals xs us → r x xs H Q →
    wpAny (model X.prog X.w) X.A (call (.builtin id) (v :: us)) (EP X pins σ Q) X.xe s
theorem Vals.one : ∀ {x : V} {us : List Value}, Vals [x] us → ∃ u, us = [u] ∧ RelV x u
  | _, _, .cons r .nil => ⟨_, rfl, r⟩
theorem Vals.zero : ∀ {us : List Value}, Vals [] us → us = []
  | _, .nil => rfl
theorem Vals.reverse {xs : List V} {us : List Value} (h : Vals xs us) : Vals xs.reverse us.reverse := by
  induction h with
  | nil => exact .nil
  | cons r t ih => rw [List.reverse_cons, List.reverse_cons]; exact Vals.append ih (.cons r .nil)
theorem Vals.rep {xs : List V} {us : List Value} (h : Vals xs us) : ∀ k : Nat, Vals (List.replicate k xs).flatten (List.replicate k us).flatten
  | 0 => .nil
  | k + 1 => by
    rw [List.replicate_succ, List.replicate_succ, List.flatten_cons, List.flatten_cons]
    exact Vals.append h (Vals.rep h k)
theorem foldl_rep (its : List Value) : ∀ (k : Nat) (acc : List Value),
    List.foldl (fun x1 x2 => x1 ++ x2) acc.toArray (List.replicate k its.toArray) = (acc ++ (List.replicate k its).flatten).toArray
  | 0, acc => by simp
  | k + 1, acc => by
    have e : acc.toArray ++ its.toArray = (acc ++ its).toArray := by simp
    have e2 : (acc ++ its) ++ (List.replicate k its).flatten = acc ++ (List.replicate (k + 1) its).flatten := by
      rw [List.replicate_succ, List.flatten_cons, List.append_assoc]
    rw [← e2, ← foldl_rep its k (acc ++ its), ← e, List.replicate_succ, List.foldl_cons]
section
variable {X : Cx} {pins : List (Addr × Obj)} {σ : St} {H : Hp} {s : Shared} {l b : Addr} {xs ys zs : List V}
theorem Inv.lset {its its' : List Value} {n : Nat} {f : Array Value → Array Value} {t' : Nat} (I : Inv X pins σ H s) (hH : H l = some (.lst xs))
    (e : s.heap.get? l = some { cls := .type "list", data := .seq its.toArray n }) (hf : f its.toArray = its'.toArray) (hv : Vals ys its') (hz : ys.length ≤ sizeLine) :
    Inv X pins σ (upd H l (.lst ys)) { s with heap := s.heap.update l (Obj.mapSeq f), toks := t' } := by
  have q := PySem.IsL.update e f
  rw [hf] at q
  refine I.write (x := l) (e := l) (by rw [hH]; exact trivial) (.inl rfl) (fun b' u hb hu => (Heap.get?_update_other s.heap (Obj.mapSeq f) (Ne.symm hb)).trans hu) ⟨_, q⟩ ?_
  exact ⟨hz, its', _, hv, q⟩
theorem Inv.lnew {its : List Value} {t' : Nat} (I : Inv X pins σ H s) (hv : Vals ys its) (hz : ys.length ≤ sizeLine) :
    Inv X pins σ (upd H s.heap.objs.size (.lst ys)) { s with heap := s.heap.push { cls := .type "list", data := .seq its.toArray }, toks := t' } :=
  I.laid (fun _ _ q => Heap.get?_push_of_some _ q) (Nat.le_refl _) ⟨hz, its, 0, hv, Heap.get?_push_size _ rfl⟩
theorem Inv.fresh (I : Inv X pins σ H s) : H s.heap.objs.size = none := I.hok.fresh (Nat.le_refl _)
theorem Inv.lstM (I : Inv X pins σ H s) (hH : H l = some (.lst xs)) : xs.length ≤ sizeLine ∧ ∃ (its : List Value) (n : Nat), Vals xs its ∧ xs.length = its.length ∧ s.heap.get? l = some { cls := .type "list", data := .seq its.toArray n } := by
  obtain ⟨z, its, n, r, e⟩ := I.hok l _ hH
  exact ⟨z, its, n, r, r.length, e⟩
theorem notLongL {n : Nat} (h : n ≤ sizeLine) : Builtin.List.listTooLong n = false := by
  unfold Builtin.List.listTooLong
  exact decide_eq_false (by omega)
end
section
variable {X : Cx}
def rAppend : V → List V → Hp → VK → Prop := fun x vs H Q => ∃ l xs y, x = .ref l ∧ vs = [y] ∧ H l = some (.lst xs) ∧ xs.length < sizeLine ∧ Q .non (upd H l (.lst (xs ++ [y])))
theorem mt_append : MtM X "list.append" rAppend := by
  intro pins s σ H x vs v us Q I rx rv h
  obtain ⟨l, xs, y, rfl, rfl, hH, hz, q⟩ := h
  cases rx
  obtain ⟨u, rfl, ru⟩ := rv.one
  obtain ⟨z, its, n, r, hl, e⟩ := I.lstM hH
  refine call_meets F.slot_list_append ⟨_, e, rfl⟩ F.entry_list_append (F.args_list_append_2 _ _) (PySem.list_append l its.toArray n u (by rw [List.size_toArray]; omega)) ⟨e, ?_⟩
  refine ⟨.non, _, I.lset (its' := its ++ [u]) hH e (by simp) (r.append (.cons ru .nil)) ?_, rfl, q⟩
  rw [List.length_append, List.length_singleton]
  omega
def rCat : R2 := fun x y H Q => ∃ l b xs zs, x = .ref l ∧ y = .ref b ∧ H l = some (.lst xs) ∧ H b = some (.lst zs) ∧ xs.length + zs.length ≤ sizeLine ∧ ∀ p, H p = none → Q (.ref p) (upd H p (.lst (xs ++ zs)))
theorem op_cat : OpR X (binaryOp .Add) rCat := by
  intro pins s σ H x y v u Q I rx ry h
  obtain ⟨l, b, xs, zs, rfl, rfl, hH, hB, hz, q⟩ := h
  cases rx
  cases ry
  obtain ⟨z, its, n, r, hl, e⟩ := I.lstM hH
  obtain ⟨z2, its2, n2, r2, hl2, e2⟩ := I.lstM hB
  refine PySem.P.add_list e e2 ?_ (by rw [List.size_toArray, List.size_toArray]; omega)
  have ea : its.toArray ++ its2.toArray = (its ++ its2).toArray := by simp
  rw [ea]
  exact ⟨.ref _, _, I.lnew (t' := s.toks) (r.append r2) (by rw [List.length_append]; omega), rfl, q _ I.fresh⟩
def rRep : R2 := fun x y H Q => ∃ l k xs, x = .ref l ∧ y = .int k ∧ H l = some (.lst xs) ∧ -(2 ^ 63) ≤ k ∧ k < 2 ^ 63 ∧ xs.length * k.toNat ≤ sizeLine ∧
  ∀ p, H p = none → Q (.ref p) (upd H p (.lst (List.replicate k.toNat xs).flatten))
theorem len_rep {α : Type} (xs : List α) (k : Nat) : (List.replicate k xs).flatten.length = k * xs.length := by
  induction k with
  | zero => simp
  | succ k ih => rw [List.replicate_succ, List.flatten_cons, List.length_append, ih, Nat.succ_mul, Nat.add_comm]
theorem op_rep : OpR X (binaryOp .Mult) rRep := by
  intro pins s σ H x y v u Q I rx ry h
  obtain ⟨l, k, xs, rfl, rfl, hH, h1, h2, hz, q⟩ := h
  cases rx
  obtain ⟨t, rfl⟩ := ry
  obtain ⟨z, its, n, r, hl, e⟩ := I.lstM hH
  have hlen : its.toArray.size * k.toNat ≤ sizeLine := by rw [List.size_toArray, ← hl]; exact hz
  have hcap : ¬ its.toArray.size * k.toNat > (2 ^ 63 - 1) / 8 := by
    have : (sizeLine : Nat) ≤ (2 ^ 63 - 1) / 8 := by decide
    omega
  have hfit : ¬ (!Builtin.List.listFitsIndex k) = true := by
    rw [fitsIndex_both h1 h2]
    exact Bool.false_ne_true
  have hlong : ¬ Builtin.List.listTooLong (its.toArray.size * k.toNat) = true := by
    rw [notLongL hlen]
    exact Bool.false_ne_true
  have hnew : List.foldl (fun x1 x2 => x1 ++ x2) #[] (List.replicate (if its.toArray.isEmpty = true then 0 else k.toNat) its.toArray) = (List.replicate k.toNat its).flatten.toArray := by
    have f0 : ∀ m : Nat, List.foldl (fun x1 x2 => x1 ++ x2) #[] (List.replicate m its.toArray) = (List.replicate m its).flatten.toArray := fun m => by
      have := foldl_rep its m []
      rw [List.nil_append] at this
      exact this
    rw [f0]
    cases its with
    | nil => simp
    | cons a r' => rw [if_neg (by simp)]
  refine wpAny_binaryOp_repeat_ref (T := "list") (U := "int") (by decide) ⟨_, e, rfl⟩ (fun s' => typeIs_int s' k t) noFill_list_mul F.fills_int_mul F.slot_int_rmul repeat_list F.slot_int_index.lookup
    (call_meets F.slot_int_rmul (typeIs_int s k t) F.entry_int_rmul (F.args_int_rmul_2 _ _) (int___rmul___int_list k t l its.toArray n)
      ⟨e, rfl, ⟨_, e, rfl⟩, call_meets F.slot_list_mul ⟨_, e, rfl⟩ F.entry_list_mul (F.args_list_mul_2 _ _) (AutoListH.list___mul___list_int_3 l its.toArray n k t hfit hcap hlong) ⟨e, ?_⟩⟩)
  rw [hnew]
  exact ⟨.ref _, _, I.lnew (t' := s.toks) (r.rep k.toNat) (by rw [len_rep, Nat.mul_comm]; exact hz), rfl, q _ I.fresh⟩
end
section
variable {prog : Program} {w : World} {A : Around} {E : Value → Shared → Prop} {s : Shared}
end
section
variable {X : Cx}
end
end L2
namespace Att
open PySem PySem.W PySem.Calls PyProof.Rows
theorem ints_of_wellAll {P : Params} {h : Heap} : ∀ (ns : List Int) (vs : List Value), WellAll P h vs (ns.map WData.int) → IntsAre vs ns := by
  intro ns
  induction ns with
  | nil =>
    intro vs w
    rw [List.map_nil] at w
    cases w
    exact .nil
  | cons n ns ih =>
    intro vs w
    rw [List.map_cons] at w
    cases w with
    | cons a b =>
      cases a
      exact .cons _ _ (ih _ b)
theorem script_of {l : OpenLaw} {n : Nat} (hn : l.most = some n) {P : Params} {h : Heap} {args : List WData} {vals : List Value}
    (hpre : l.row.toRowW.claim.pre args = true) (hwl : WellAll P h vals args) :
    ∃ a vs ns, vals = [Value.ref a] ∧ args = [WData.list (ns.map WData.int)] ∧ h.get? a = some { cls := .type "list", data := .seq vs.toArray } ∧ IntsAre vs ns ∧ ns.length ≤ n := by
  have hsh : WShape.hasAll [] args [.list .int] = true := (pre_splitW hpre).1
  have hc : l.pre.holds [] { args := args } = true := (pre_splitW hpre).2
  obtain ⟨d, r, rfl, h1, h2⟩ := hasAllW_cons hsh
  obtain rfl := hasAllW_nil h2
  obtain ⟨xs, rfl, h3⟩ := hasW_list h1
  obtain ⟨ns, rfl⟩ := items_int h3
  have hlen : ns.length ≤ n := by
    unfold OpenLaw.pre at hc
    have h4 : (WTm.not (.lt (.lit (.int (n : Int))) (.len (.arg 0)))).holds [] { args := [.list (ns.map .int)] } = true := by
      have h4 := (holds_andW hc).1
      rw [hn] at h4
      exact h4
    have h5 := condW_of h4 (w_not (w_lt w_lit (w_len_list (w_arg rfl))))
    rw [List.length_map] at h5
    refine Nat.le_of_not_lt fun q => ?_
    have q' : (n : Int) < ((ns.length : Nat) : Int) := by omega
    first
      | (rw [decide_eq_true q'] at h5; exact absurd h5 (by decide))
      | (simp at h5; omega)
  cases hwl with
  | cons w1 w2 =>
    cases w2
    cases w1 with
    | list ho hall => exact ⟨_, _, ns, rfl, rfl, ho, ints_of_wellAll ns _ hall, hlen⟩
theorem post_true (l : OpenLaw) (args : List WData) : l.row.toRowW.claim.post args (.bool true) args = true :=
  postW_of (r := l.row.toRowW) (X := (true == true))
    (show WShape.has [] (.bool true) .bool = true by first | rfl | decide | simp [WShape.has, WShape.arms, WShape.armsAll])
    (show (WTm.eq .res (.lit (.bool true))).value [] { args := args, res := some (.bool true), after := args } = some (.bool (true == true)) from w_eq_bool (w_res rfl) w_lit) rfl
theorem attach_call {l : OpenLaw} {n : Nat} {q : Program} {loose : List Str} {XP : (Str → Option Value) → Heap → Prop} {YP : World → Heap → Prop} {d : DefRec}
    (hn : l.most = some n) (hdf : d.params.defaults = [])
    (call : ∀ (w : World) (s₀ s₁ : Shared) (mg mb : Str → Option Value) (fa : Addr) (o : Obj) (pm cd doc : Value) (a : Addr) (vs : List Value) (ns : List Int),
      Ground q loose [] XP w s₀ mg mb s₁.heap → YP w s₁.heap →
      s₁.heap.get? fa = some o → o.data = .func (docDef d.name d.params d.body d.scope pm cd doc) → s₁.heap.CodeRec cd d.name → mg d.name = some (.ref fa) →
      s₁.heap.get? a = some { cls := .type "list", data := .seq vs.toArray } → IntsAre vs ns → ns.length ≤ n → s₁.gens = #[] →
      codeAny (model l.prog w) callerA (.call (.ref fa) ⟨[.ref a], []⟩) (fun r s' => r = .ok (.ret (.bool true)) ∧ OldK s₁.heap s'.heap ∧ s'.os = s₁.os ∧ AllBare s'.gens) s₁) :
    WalkO q loose XP YP l.row.toRowW d [] (fun f vs => PySem.call f vs) := by
  intro w s₀ s₁ mg mb G Y fa o pm cd doc dV kV ho hd hcd hD hmg hg args vals as hpre hlay hrd hwl hlo
  obtain rfl : dV = .none := Dflts.none hD hdf
  obtain rfl : kV = .none := Dflts.noKw hD
  obtain ⟨a, vs, ns, rfl, rfl, hobj, hints, hlen⟩ := script_of hn hpre hwl
  refine enter_call (codeAny_mono (call w s₀ s₁ mg mb fa o pm cd doc a vs ns G Y ho (fd_plain hd) hcd hmg hobj hints hlen hg) fun r s' hq => ?_)
  obtain ⟨rfl, h2, h3, h4⟩ := hq
  exact ⟨.inl ⟨.bool true, .bool true, [], rfl, fun _ => rfl, .bool true, post_true l _, fun _ => ⟨List.Pairwise.nil, fun _ hm => (nomatch hm)⟩⟩, h2, h3, h4⟩
section
variable {prog : Program} {w : World} {A : Around} {E : Value → Shared → Prop} {s : Shared} {K : Frag}
end
end Att
namespace L2
open PySem PySem.Spec PyProof.Rows
theorem vals_ints : ∀ {vs : List Value} {ns : List Int}, IntsAre vs ns → Vals (ns.map V.int) vs
  | _, _, .nil => .nil
  | _, _, .cons n t h => .cons ⟨t, rfl⟩ (vals_ints h)
end L2
namespace L2
open PySem PySem.Spec PyProof.Rows
end L2
namespace L2
open PySem PySem.Spec PyProof.Rows
def inClass (s : Stmt) (j : Nat) : Stmt := match s with
  | .ClassDef _ _ _ body _ _ _ _ _ _ _ => body.getD j (.Pass ⟨0, 0, 0, 0⟩)
  | _ => .Pass ⟨0, 0, 0, 0⟩
def defArgs (s : Stmt) : Arguments := match s with
  | .FunctionDef _ a _ _ _ _ _ _ _ _ => a
  | _ => { posonlyargs := [], args := [], vararg := none, kwonlyargs := [], kw_defaults := [], kwarg := none, defaults := [] }
def defBody (s : Stmt) : List Stmt := match s with
  | .FunctionDef _ _ b _ _ _ _ _ _ _ => b
  | _ => []
def defScope (s : Stmt) : Scope := match s with
  | .FunctionDef _ _ _ _ _ _ sc _ _ _ => sc
  | _ => { kind := .function, names := [], isGenerator := false, isCoroutine := false }
abbrev CX0 : CXT := fun _ _ _ _ _ _ => False
abbrev E0 : XK := fun _ _ _ => False
theorem pass0 {X : Cx} : Passes CX0 X E0 := fun _ _ _ _ _ _ _ h => h.elim
structure Fun (K : PySem.W.Frag) (x qual : Str) (st : Stmt) (f : Addr) (fd : FuncData) : Prop where
  ex : ∃ (oc : Value) (od : Option Addr) (kV doc pm : Value) (an : Option Addr) (cdv ct : Value) (osl : Array (Option Value)),
    fd = PySem.W.fnOf x qual (defArgs st) (defBody st) (defScope st) .none kV doc pm an cdv ct ∧ K.lookup f = some ⟨oc, od, .func fd, osl⟩ ∧ PySem.W.codeIn K cdv qual = true
  kp : PySem.W.keepIn K (.ref f) = true
section
variable {P : Program} {w : World} {K : PySem.W.Frag} {mg : Str → Option Value} {base : Heap}
theorem Fun.ok {x qual : Str} {st : Stmt} {f : Addr} {fd : FuncData} {N ps : List Str} {k : Nat} {sp : Sp} (F : Fun K x qual st f fd) (S : FnScope N ps (defScope st)) (len : ∀ vs H Q E, sp vs H Q E → vs.length = ps.length)
    (hbody : ∀ (cdv : Value) (A : Around) (outer : List Env) (s : Shared) (H : Hp) (vs : List V) (Q : VK) (E : XK), Room k (A.deeper (envOfC qual (defScope st) s.heap.objs.size f cdv)) → sp vs H Q E →
      ∃ t, PSs (cxOf CX0 P w K mg base N qual (defScope st) f cdv A outer s H E).nox (defBody st) t ∧ t { nx := fun _ H' => Q .non H', rt := Q } (start N vs) H) : FnOk P w K mg base CX0 (k + 1) f fd ps sp := by
  obtain ⟨oc, od, kV, doc, pm, an, cdv, ct, osl, rfl, lk, hcd⟩ := F.ex
  refine fn_of lk hcd S len fun A outer s H vs Q E hr hsp => ?_
  obtain ⟨t, h, q⟩ := hbody cdv A outer s H vs Q E hr hsp
  exact ⟨t, h.nox, q⟩
theorem Fun.binds {x qual : Str} {st : Stmt} {f : Addr} {fd : FuncData} {ps : List Str} (F : Fun K x qual st f fd)
    (h : ∀ (kV doc pm : Value) (an : Option Addr) (cdv ct : Value) (us : List Value), us.length = ps.length → bindArgs (PySem.W.fnOf x qual (defArgs st) (defBody st) (defScope st) .none kV doc pm an cdv ct) ⟨us, []⟩ = pure (ps.zip us)) : Binds K fd ps [] := by
  obtain ⟨oc, od, kV, doc, pm, an, cdv, ct, osl, rfl, lk, hcd⟩ := F.ex
  exact .all (h kV doc pm an cdv ct)
theorem fun_mk {x qual : Str} {st : Stmt} {f : Addr} {oc : Value} {od an : Option Addr} {osl : Array (Option Value)} {kV doc pm cdv ct : Value} (l : K.lookup f = some ⟨oc, od, .func (PySem.W.fnOf x qual (defArgs st) (defBody st) (defScope st) .none kV doc pm an cdv ct), osl⟩)
    (c : PySem.W.codeIn K cdv qual = true) (k : PySem.W.keepIn K (.ref f) = true) : Fun K x qual st f (PySem.W.fnOf x qual (defArgs st) (defBody st) (defScope st) .none kV doc pm an cdv ct) := ⟨⟨oc, od, kV, doc, pm, an, cdv, ct, osl, rfl, l, c⟩, k⟩
end
theorem hu_of {A : Around} {k : Nat} (hr : Room k A) : A.units + 1 < cLine := Nat.lt_of_le_of_lt (Nat.add_le_add_left (by decide : 1 ≤ 64) _) hr.units
section
variable {X : Cx}
theorem pv (i : Nat) {x : Str} {pos : Pos} (hN : X.N[i]? = some x := by rfl) (hv : Vis X.env.scope x := by first | exact Or.inl rfl | exact Or.inr (Or.inl rfl) | exact Or.inr (Or.inr rfl)) (hd : (x == ("__debug__" : Str)) = false := by decide)
    (hcd : (x == ("__classdict__" : Str)) = false := by decide) : PE X (.Name x pos) (tVar i) := pe_var hN hv hd hcd
end
theorem iteF {A B : Prop} (h : B) : if false = true then A else B := by
  rw [if_neg Bool.false_ne_true]
  exact h
theorem iteT {A B : Prop} (h : A) : if true = true then A else B := by
  rw [if_pos rfl]
  exact h
theorem ite2 {c A B : Prop} [Decidable c] (h1 : c → A) (h2 : ¬ c → B) : if c then A else B := by
  by_cases h : c
  · rw [if_pos h]
    exact h1 h
  · rw [if_neg h]
    exact h2 h
def Same (H H' : Hp) : Prop := ∀ b o, H b = some o → H' b = some o
theorem Same.refl (H : Hp) : Same H H := fun _ _ h => h
theorem Same.trans {H H1 H2 : Hp} (a : Same H H1) (b : Same H1 H2) : Same H H2 := fun c o h => b c o (a c o h)
theorem Same.free {H H' : Hp} (e : Same H H') {l : Addr} (h : H' l = Option.none) : H l = Option.none := by
  cases q : H l with
  | none => rfl
  | some o =>
    rw [e l o q] at h
    cases h
theorem Same.seq {K : PySem.W.Frag} {H H' : Hp} {a : Addr} {xs : List V} (e : Same H H') (h : SqL K H a xs) : SqL K H' a xs := by
  rcases h with (h | ⟨o, h⟩) | h
  · exact .inl (.inl (e _ _ h))
  · exact .inl (.inr ⟨o, e _ _ h⟩)
  · exact .inr h
end L2
set_option Elab.async false
set_option linter.all false
set_option maxRecDepth 100000
namespace L2
open PySem PySem.Spec PyProof.Rows
def closOf (cells : List (Str × Addr)) : List (Str × NameKind) → List (Str × Addr) → List (Str × Addr)
  | [], cs => cs
  | (n, k) :: r, cs => closOf cells r (if k = .free then (match cells.lookup n with | some c => (n, c) :: cs | none => cs) else cs)
theorem closureFor_loop {env : Env} : ∀ (names : List (Str × NameKind)) (cs : List (Str × Addr)), (∀ x ∈ names, x.2 = .free → ∃ c, env.cells.lookup x.1 = some c) →
    (forIn names cs fun (x : Str × NameKind) (r : List (Str × Addr)) => if (x.2 == .free) = true then (do let c ← cellOf env x.1; pure (ForInStep.yield ((x.1, c) :: r)) : Sem _) else pure (ForInStep.yield r)) = pure (closOf env.cells names cs)
  | [], cs, _ => rfl
  | (n, k) :: r, cs, h => by
    have ih := fun cs' => closureFor_loop (env := env) r cs' fun x hx => h x (List.mem_cons_of_mem _ hx)
    rw [List.forIn_cons]
    by_cases hk : k = .free
    · subst hk
      obtain ⟨c, hc⟩ := h (n, .free) List.mem_cons_self rfl
      have e : cellOf env n = pure c := by unfold cellOf; rw [hc]
      simp only [beq_self_eq_true, if_true, e, pure_bind, closOf, hc]
      exact ih _
    · have hb : (k == NameKind.free) = false := by simpa using hk
      simp only [hb, Bool.false_eq_true, if_false, pure_bind, closOf, hk]
      exact ih _
theorem closureFor_eq {scope : Scope} {env : Env} (h : ∀ x ∈ scope.names, x.2 = .free → ∃ c, env.cells.lookup x.1 = some c) : closureFor scope env = pure (closOf env.cells scope.names []) := by
  have e := closureFor_loop scope.names [] h
  unfold closureFor
  first
    | (simp only [bind_pure]; exact e)
    | (show (forIn scope.names [] _ >>= fun r => pure r) = _
       rw [show (forIn scope.names ([] : List (Str × Addr)) _ : Sem _) = _ from e]
       rfl)
theorem closOf_sub {cells : List (Str × Addr)} {y : Str} {c : Addr} : ∀ {names : List (Str × NameKind)} {cs : List (Str × Addr)}, (∀ y c, cs.lookup y = some c → cells.lookup y = some c) → (closOf cells names cs).lookup y = some c → cells.lookup y = some c
  | [], cs, h, e => h y c e
  | (n, k) :: r, cs, h, e => by
    refine closOf_sub (names := r) ?_ e
    intro y' c' e'
    by_cases hk : k = .free
    · rw [if_pos hk] at e'
      cases q : cells.lookup n with
      | none => rw [q] at e'; exact h _ _ e'
      | some d =>
        rw [q] at e'
        simp only [List.lookup_cons] at e'
        cases hb : y' == n with
        | true =>
          rw [hb] at e'
          cases e'
          have : y' = n := by simpa using hb
          rw [this]; exact q
        | false => rw [hb] at e'; exact h _ _ e'
    · rw [if_neg hk] at e'; exact h _ _ e'
theorem closOf_has {cells : List (Str × Addr)} {y : Str} : ∀ {names : List (Str × NameKind)} {cs : List (Str × Addr)}, ((∃ c, cs.lookup y = some c) ∨ ((y, NameKind.free) ∈ names ∧ ∃ c, cells.lookup y = some c)) → ∃ c, (closOf cells names cs).lookup y = some c
  | [], cs, h => by
    rcases h with h | ⟨h, _⟩
    · exact h
    · cases h
  | (n, k) :: r, cs, h => by
    refine closOf_has (names := r) ?_
    rcases h with ⟨c, h⟩ | ⟨h, c, hc⟩
    · left
      by_cases hk : k = .free
      · rw [if_pos hk]
        cases q : cells.lookup n with
        | none => exact ⟨c, h⟩
        | some d =>
          simp only [List.lookup_cons]
          cases hb : y == n with
          | true => exact ⟨d, rfl⟩
          | false => exact ⟨c, h⟩
      · rw [if_neg hk]; exact ⟨c, h⟩
    · rcases List.mem_cons.mp h with e | h
      · cases e
        left
        rw [if_pos rfl, hc]
        exact ⟨c, by simp⟩
      · exact .inr ⟨h, c, hc⟩
theorem lookup_relabel {env : Env} : ∀ {names : List (Str × NameKind)} {x : Str} {k : NameKind},
    (names.map fun (n, k) => if (k == NameKind.free && env.scope.kind == .function && env.kindOf n == some .cell) then (n, NameKind.cell) else (n, k)).lookup x = some k → names.lookup x = some k ∨ (k = .cell ∧ names.lookup x = some .free)
  | [], _, _, h => by simp at h
  | (n, k0) :: r, x, k, h => by
    have ih := @lookup_relabel env r x k
    rw [List.map_cons] at h
    by_cases hc : (k0 == NameKind.free && env.scope.kind == .function && env.kindOf n == some .cell) = true
    · simp only [hc, if_true, List.lookup_cons] at h
      have hk0 : k0 = .free := by
        simp only [Bool.and_eq_true] at hc
        simpa using hc.1.1
      cases hx : x == n with
      | true => rw [hx] at h; cases h; right; simp [List.lookup_cons, hx, hk0]
      | false => rw [hx] at h; simp only [List.lookup_cons, hx]; exact ih h
    · have hc' : (k0 == NameKind.free && env.scope.kind == .function && env.kindOf n == some .cell) = false := by simpa using hc
      simp only [hc', Bool.false_eq_true, if_false, List.lookup_cons] at h
      cases hx : x == n with
      | true => rw [hx] at h; cases h; left; simp [List.lookup_cons, hx]
      | false => rw [hx] at h; simp only [List.lookup_cons, hx]; exact ih h
def cxC (X : Cx) (N : List Str) (scope : Scope) (C : Addr) (s₀ : Shared) (H₀ : Hp) (ex : List Addr) : Cx where
  prog := X.prog
  w := X.w
  K := X.K
  mg := X.mg
  base := X.base
  A := X.A
  N := N
  s₀ := s₀
  H₀ := H₀
  env := compEnvC scope (closOf X.env.cells scope.names []) C X.env
  outer := X.stack
  stack := X.stack
  ex := ex
  fn := fun _ => false
  calm := X.calm
  pn := []
  xe := fun _ _ => False
def capt (js : List Nat) (σ : St) : St := js.map fun j => (σ[j]?).join
theorem capt_get {js : List Nat} {σ : St} {i : Nat} {v : V} (h : (capt js σ)[i]? = some (some v)) : ∃ j, js[i]? = some j ∧ σ[j]? = some (some v) := by
  unfold capt at h
  rw [List.getElem?_map] at h
  cases e : js[i]? with
  | none => rw [e] at h; cases h
  | some j =>
    rw [e] at h
    have h' : (σ[j]?).join = some v := Option.some.inj h
    refine ⟨j, rfl, ?_⟩
    cases q : σ[j]? with
    | none => rw [q] at h'; cases h'
    | some z => rw [q] at h'; exact congrArg some h'
structure CScope (sc : Scope) (scope : Scope) (x : Str) (M : List Str) (ys : List Str) (js : List Nat) : Prop where
  kind : scope.kind = .function
  cell : ∀ y ∈ scope.names, y.2 ≠ .cell
  loc : ∀ y ∈ scope.names, y.2 = .local → scope.names.lookup y.1 = some .local
  var : scope.names.lookup x = some .local
  free : ∀ y ∈ scope.names, y.2 = .free → sc.names.lookup y.1 = some .cell ∨ sc.names.lookup y.1 = some .free
  caps : js.map (M[·]?) = ys.map some
  fr : ∀ y ∈ ys, scope.names.lookup y = some .free
  nd : (x :: ys).Nodup
section
variable {X : Cx} {pins : List (Addr × Obj)} {σ : St} {H : Hp} {s : Shared}
theorem inv_comp {scope : Scope} {x : Str} {ys : List Str} {js : List Nat} {fp : List Addr} {h₁ : Heap} {tk : Nat} {C : Addr} (I : Inv X pins σ H s) (S : CScope X.env.scope scope x X.N ys js) (hf : ∀ b ∈ fp, FpOk X pins H b) (ho : ∀ b ∈ fp, ∃ o, s.heap.get? b = some o)
    (hC : s.heap.objs.size ≤ C) (hk : ∀ b o, s.heap.get? b = some o → h₁.get? b = some o) (hn : h₁.Ns C fun _ => none) :
    Inv (cxC X (x :: ys) scope C s H fp) [] (none :: capt js σ) H { s with heap := h₁, toks := tk } := by
  have sub : ∀ y c, (closOf X.env.cells scope.names []).lookup y = some c → X.env.cells.lookup y = some c := fun y c e => closOf_sub (fun _ _ z => by simp at z) e
  have has : ∀ y, scope.names.lookup y = some .free → ∃ c, (closOf X.env.cells scope.names []).lookup y = some c := fun y e => by
    have m : (y, NameKind.free) ∈ scope.names := PySem.mem_of_lookup e
    exact closOf_has (.inr ⟨m, I.ok.has y (S.free _ m rfl)⟩)
  have lt : ∀ b ∈ fp, b < s.heap.objs.size := fun b hb => by obtain ⟨o, e⟩ := ho b hb; exact Heap.lt_size e
  have ok : (cxC X (x :: ys) scope C s H fp).Ok := by
    refine ⟨I.ok.mod, S.kind, I.ok.glob, I.ok.blt, hC, fun y z c e1 e2 => I.ok.inj y z c (sub _ _ e1) (sub _ _ e2), fun y hy => ?_, fun y c z => ?_, I.ok.hd, I.ok.frames, .inl rfl, fun b hb => ?_, I.bs, Nat.le_trans I.ok.bsz I.sz, fun b o e hb => ?_, fun b hb z => ?_, I.stack, I.stkFree⟩
    · have hy' : (relabel scope X.env).names.lookup y = some .cell ∨ (relabel scope X.env).names.lookup y = some .free := hy
      have nocell : scope.names.lookup y ≠ some .cell := fun z => S.cell _ (PySem.mem_of_lookup z) rfl
      rcases hy' with e | e
      · rcases lookup_relabel e with z | ⟨_, z⟩
        · exact absurd z nocell
        · exact has y z
      · rcases lookup_relabel e with z | ⟨z, _⟩
        · exact has y z
        · cases z
    · exact absurd (show false = true from z) Bool.false_ne_true
    · refine ⟨Nat.ne_of_lt (Nat.lt_of_lt_of_le (lt b hb) hC), fun y c e => (hf b hb).2.2.2.2.1 y c (sub y c e)⟩
    · rcases (hf b hb).2.2.2.1 with z | z
      · exact I.ok.noex b o e z
      · exact absurd (Nat.lt_of_lt_of_le (Heap.lt_size e) (Nat.le_trans I.ok.bsz z)) (Nat.lt_irrefl _)
    · rcases List.mem_cons.mp (I.stkSub b z) with e | e
      · exact (hf b hb).2.1 e
      · exact (hf b hb).2.2.1 e
  refine ⟨ok, rfl, I.bare, Un.kept hk, ⟨_, hn, fun i y v e1 e2 e3 => ?_⟩, fun y c e => ?_, I.hok.fresh hC, fun y c e => I.freeC y c (sub y c e), fun p hp => absurd (show p ∈ ([] : List (Addr × Obj)) from hp) (by simp), I.hok.kept hk, ?_⟩
  · cases i with
    | zero => simp at e2
    | succ i =>
      have e1' : ys[i]? = some y := by simpa [cxC] using e1
      have e2' : (capt js σ)[i]? = some (some v) := by simpa using e2
      obtain ⟨j, hj, hσ⟩ := capt_get e2'
      have hN : X.N[j]? = some y := by
        have z := congrArg (fun l => l[i]?) S.caps
        simp only [List.getElem?_map, hj, e1', Option.map_some] at z
        exact Option.some.inj z
      have hfr := S.fr y (List.mem_of_getElem? e1')
      have m : (y, NameKind.free) ∈ scope.names := PySem.mem_of_lookup hfr
      have hkind := S.free _ m rfl
      obtain ⟨m', hns, hl⟩ := I.loc
      obtain ⟨u, r, lk⟩ := hl j y v hN hσ (by rcases hkind with z | z; exact .inr (.inl z); exact .inr (.inr z))
      refine ⟨u, r, .inr ⟨?_, ?_⟩⟩
      · have e3' : (relabel scope X.env).names.lookup y = some .local ∨ (relabel scope X.env).names.lookup y = some .cell ∨ (relabel scope X.env).names.lookup y = some .free := e3
        rcases e3' with z | z | z
        · rcases lookup_relabel z with q | ⟨q, _⟩
          · rw [hfr] at q; cases q
          · cases q
        · exact .inl z
        · exact .inr z
      · obtain ⟨c, hc⟩ := has y hfr
        refine ⟨c, hc, ?_⟩
        rcases lk with ⟨z, _⟩ | ⟨_, c', hc', cell⟩
        · rcases hkind with q | q
          · have q' : X.env.kindOf y = some .cell := q
            rw [show X.env.kindOf y = some .local from z] at q'; cases q'
          · have q' : X.env.kindOf y = some .free := q
            rw [show X.env.kindOf y = some .local from z] at q'; cases q'
        · rw [sub y c hc] at hc'
          cases hc'
          obtain ⟨o, e, d⟩ := cell
          exact ⟨o, hk _ _ e, d⟩
  · obtain ⟨v, o, e', d⟩ := I.cell y c (sub y c e)
    exact ⟨v, o, hk _ _ e', d⟩
  · have z := congrArg List.length S.caps
    simp only [List.length_map] at z
    show (none :: capt js σ).length = (x :: ys).length
    simp [capt, z]
end
end L2
set_option Elab.async false
set_option linter.all false
set_option maxRecDepth 100000
namespace L2
open PySem PySem.Spec PyProof.Rows
theorem from_pure {α β : Type} {M : Model} {A : Around} {a : α} {Q : α → Shared → Prop} {E E' : Value → Shared → Prop} {s : Shared} {t : Sem β} {Q' : β → Shared → Prop} (h : wpAny M A (pure a) Q E s) (k : Q a s → wpAny M A t Q' E' s) : wpAny M A t Q' E' s :=
  fun Γ p hΓ => k (h Γ p hΓ) Γ p hΓ
def PTs (X : Cx) (ifs : List Expr) (t : TT) : Prop :=
  ∀ (pins : List (Addr × Obj)) (s : Shared) (σ : St) (H : Hp) (Q : Bool → Hp → Prop), Inv X pins σ H s → t σ H Q →
    wpAny (model X.prog X.w) X.A (forIn ifs true fun c r => if r = true then do let ok ← isTrue c X.env (eval c X.env); pure (ForInStep.yield ok) else pure (ForInStep.yield r)) (TP X pins σ Q) X.xe s
def tYes : TT := fun _ H Q => Q true H
theorem pts_nil {X : Cx} : PTs X [] tYes := fun pins s σ H Q I h => wpAny_tests_nil ⟨H, I, h⟩
theorem pts_one {X : Cx} {c : Expr} {t : TT} (h : PT X c t) : PTs X [c] t := fun pins s σ H Q I hw => wpAny_tests_one (h pins s σ H Q I hw)
def CompLoop (J : It) (js : List Nat) (tt : TT) (te : TE) (σ : St) (Q : VK) (H : Hp) : Prop := ∃ W : Nat → Nat → List V → Hp → Prop, (∃ m, W 0 m [] H) ∧ ∀ i m ys H, W i m ys H →
  (J.stop i H ∧ ∀ D, H D = none → Q (.ref D) (upd H D (.lst ys))) ∨
  (J.go i H ∧ ys.length < sizeLine ∧ ∃ N : List V → Hp → Prop, (∀ ys' H', N ys' H' → ∃ m', m' < m ∧ W (i + 1) m' ys' H') ∧ ∀ x H', J.yld i H x H' → tt (some x :: capt js σ) H' fun b H2 => if b = true then te (some x :: capt js σ) H2 fun v H3 => N (ys ++ [v]) H3 else N ys H2)
def tComp (wi : TI) (js : List Nat) (tt : TT) (te : TE) : TE := fun σ H Q => wi σ H fun J H1 => CompLoop J js tt te σ Q H1
theorem HOk.track {P : Program} {w : World} {H : Hp} {h : Heap} {a : Addr} {o : HO} (x : HOk P w H h) (hn : H a = none) (new : ObjOk P w (upd H a o) h a o) : HOk P w (upd H a o) h := fun b u e => by
  by_cases hb : b = a
  · subst hb; rw [upd_same] at e; cases e; exact new
  · rw [upd_ne hb] at e
    exact (x b u e).stay (fun _ _ _ q => q) (fun c q => by rw [upd_ne (ne_of_none q hn)]; exact q) fun c xs q => by rw [upd_ne (ne_of_none q hn)]; exact q
section
variable {X : Cx} {elt iter : Expr} {ifs : List Expr} {x : Str} {px pos : Pos} {scope : Scope} {ys : List Str} {js : List Nat} {wi : TI} {tt : TT} {te : TE}
theorem comp_block {pins : List (Addr × Obj)} {σ : St} {H : Hp} {s : Shared} {J : It} {fp : List Addr} {it : Addr} {tn : Nat → Heap → Prop} {Q : VK} {E : Value → Shared → Prop} {R : Value → Addr → Result → Shared → Prop}
    (S : CScope X.env.scope scope x X.N ys js) (hc : X.calm = true) (ht : ∀ C s₀ H₀ ex, PTs (cxC X (x :: ys) scope C s₀ H₀ ex) ifs tt) (he : ∀ C s₀ H₀ ex, PE (cxC X (x :: ys) scope C s₀ H₀ ex) elt te)
    (I : Inv X pins σ H s) (T : Turn X.prog X.w X.K (.Name x px) J fp it tn) (st : tn 0 s.heap) (hf : ∀ b ∈ fp, FpOk X pins H b)
    (hw : ∃ W : Nat → Nat → List V → Hp → Prop, (∃ m, W 0 m [] H) ∧ ∀ i m zs H, W i m zs H →
      (J.stop i H ∧ ∀ D, H D = none → Q (.ref D) (upd H D (.lst zs))) ∨
      (J.go i H ∧ zs.length < sizeLine ∧ ∃ N : List V → Hp → Prop, (∀ ys' H', N ys' H' → ∃ m', m' < m ∧ W (i + 1) m' ys' H') ∧ ∀ x H', J.yld i H x H' → tt (some x :: capt js σ) H' fun b H2 => if b = true then te (some x :: capt js σ) H2 fun v H3 => N (zs ++ [v]) H3 else N zs H2))
    (hR : ∀ D C s' H' m', Inv X pins σ H' s' → Q (.ref D) H' → s.heap.objs.size ≤ C → H' C = none → s'.heap.Ns C m' → R (.ref D) C (.ok .next) s') :
    wpAny (model X.prog X.w) X.A (newList []) (fun acc s₃ => wpAny (model X.prog X.w) X.A (newFunctionEnv scope X.env.globals (closOf X.env.cells scope.names []) [] X.env.qual none .none (some X.env)) (fun cenv s₄ =>
      codeAny (model X.prog X.w) X.A (.compStart (.ListComp elt [⟨.Name x px, iter, ifs, 0⟩] scope pos) 0 (.ref it) acc { cenv with scope := relabel scope X.env }) (R acc cenv.locals) s₄) E s₃) E s := by
  obtain ⟨W, ⟨m0, w0⟩, turn⟩ := hw
  refine wpAny_newObj_type (wpAny_newFunctionEnv S.cell (by intro y hy; simp at hy) (fun h₁ hns₁ hsb₁ => ?_) S.kind)
  dsimp only at hns₁ hsb₁ ⊢
  generalize hH2 : s.heap.push { cls := .type "list", dict := none, data := .seq ([] : List Value).toArray } = G at hns₁ hsb₁ ⊢
  generalize hD : s.heap.objs.size = D at *
  generalize hCe : G.objs.size = C at *
  have hC : C = D + 1 := by rw [← hCe, ← hH2, Heap.size_push, hD]
  have hDlt : D < C := by rw [hC]; exact Nat.lt_succ_self D
  have hDC : D ≠ C := Nat.ne_of_lt hDlt
  have old : ∀ b o, s.heap.get? b = some o → h₁.get? b = some o := fun b o e => by
    have hb : b < D := hD ▸ Heap.lt_size e
    exact (hsb₁.2 b (Nat.ne_of_lt (Nat.lt_trans hb hDlt))).trans (Heap.get?_push_of_some _ (hH2 ▸ Heap.get?_push_of_some _ e))
  have hacc : h₁.get? D = some { cls := .type "list", data := .seq ([] : List Value).toArray 0 } := by
    refine (hsb₁.2 D hDC).trans (Heap.get?_push_of_some _ ?_)
    rw [← hH2, ← hD]
    exact Heap.get?_push_size _ rfl
  have obj0 := T.obj 0 _ st
  have fplt : ∀ b ∈ fp, b < D := fun b hb => by obtain ⟨o, e, _⟩ := obj0 b hb; exact hD ▸ Heap.lt_size e
  generalize hX : cxC X (x :: ys) scope C s H fp = X'
  have I1 : Inv X' [] (none :: capt js σ) H { s with heap := h₁, toks := s.toks + ([] : List (Str × Value)).length } := by
    subst hX
    exact inv_comp I S hf (fun b hb => by obtain ⟨o, e, _⟩ := obj0 b hb; exact ⟨o, e⟩) (by omega) old (by simpa using hns₁)
  have eP : X'.prog = X.prog := by subst hX; rfl
  have eW : X'.w = X.w := by subst hX; rfl
  have eK : X'.K = X.K := by subst hX; rfl
  have eA : X'.A = X.A := by subst hX; rfl
  have eC : X'.calm = true := by subst hX; exact hc
  have eL : X'.env.locals = C := by subst hX; rfl
  have eS : X'.s₀ = s := by subst hX; rfl
  have eN : X'.N = x :: ys := by subst hX; rfl
  have eE : X'.env = compEnvC scope (closOf X.env.cells scope.names []) C X.env := by subst hX; rfl
  have eXe : X'.xe = fun _ _ => False := by subst hX; rfl
  have eX : X'.ex = fp := by subst hX; rfl
  have ePn : X'.pn = [] := by subst hX; rfl
  have efs : ∀ b, b ∈ X'.fs → b ∈ frs X.stack := fun b z => by subst hX; exact z
  have cellLt : ∀ y c, X'.env.cells.lookup y = some c → c < D := fun y c e => by
    have e' : (closOf X.env.cells scope.names []).lookup y = some c := by rw [eE] at e; exact e
    obtain ⟨v, o, e2, _⟩ := I.cell y c (closOf_sub (fun _ _ z => by simp at z) e')
    exact hD ▸ Heap.lt_size e2
  have frLt : ∀ b, b ∈ X'.fs → b < D := fun b z => by
    rcases List.mem_cons.mp (I.stkSub b (efs b z)) with e | e
    · rw [e]; exact hD ▸ I.lt
    · exact Nat.lt_of_not_le fun h => I.nofs (hD ▸ h) e
  have fpOk : ∀ (p : List (Addr × Obj)) (H' : Hp), (∀ b ∈ fp, H' b = none) → (∀ q ∈ p, q.1 = D) → ∀ b ∈ fp, FpOk X' p H' b := fun p H' hn hp b hb => by
    refine ⟨hn b hb, ?_, fun z => ?_, .inl (eX ▸ hb), fun y c e => ?_, fun q hq => ?_⟩
    · rw [eL]; exact Nat.ne_of_lt (Nat.lt_trans (fplt b hb) hDlt)
    · rcases List.mem_cons.mp (I.stkSub b (efs b z)) with e | e
      · exact (hf b hb).2.1 e
      · exact (hf b hb).2.2.1 e
    · have e' : (closOf X.env.cells scope.names []).lookup y = some c := by rw [eE] at e; exact e
      exact (hf b hb).2.2.2.2.1 y c (closOf_sub (fun _ _ z => by simp at z) e')
    · rw [ePn, List.nil_append] at hq
      rw [hp q hq]; exact Nat.ne_of_gt (fplt b hb)
  have noCell : ∀ (its : List Value) (k : Nat) v, ({ cls := .type "list", data := .seq its.toArray k } : Obj).data ≠ .cell v := fun its k v z => by cases z
  have done : ∀ {zs : List V} {its : List Value} {k : Nat} {H' : Hp} {s' : Shared}, Inv X' [] (none :: capt js σ) H' s' → s'.heap.get? D = some { cls := .type "list", data := .seq its.toArray k } → Vals zs its → H' D = none → zs.length ≤ sizeLine →
      (∀ D, H' D = none → Q (.ref D) (upd H' D (.lst zs))) → R (.ref D) C (.ok .next) s' := fun {zs its k H' s'} I' hd hv hn hz q => by
    have un := I'.base
    obtain ⟨m', hns, _⟩ := I'.loc
    rw [eL] at hns
    have hCn : H' C = none := by have := I'.free; rw [eL] at this; exact this
    have hH0 : X'.H₀ = H := by subst hX; rfl
    rw [hH0, eS, eX] at un
    have un2 : Un (frs X.stack) fp H (upd H' D (.lst zs)) s.heap s'.heap := by
      have ne : ∀ b o, s.heap.get? b = some o → b ≠ D := fun b o e => Nat.ne_of_lt (hD ▸ Heap.lt_size e)
      have un' : Un (frs X.stack) fp H H' s.heap s'.heap := by subst hX; exact un
      exact ⟨un'.keep, un'.slot, fun b o e n hx => by rw [upd_ne (ne b o e)]; exact un'.free b o e n hx, un'.there, fun b xs e => by rw [upd_ne (ne_of_none (un'.tups b xs e) hn)]; exact un'.tups b xs e,
        fun b o u e => by rw [upd_ne (ne_of_none (un'.frzs b o u e) hn)]; exact un'.frzs b o u e, fun b ps e => by
          obtain ⟨more, z⟩ := un'.tbls b ps e
          exact ⟨more, by rw [upd_ne (ne_of_none z hn)]; exact z⟩⟩
    have hok : HOk X.prog X.w (upd H' D (.lst zs)) s'.heap := by
      have h0 := I'.hok
      rw [eP, eW] at h0
      exact h0.track hn ⟨hz, its, k, hv, hd⟩
    have I2 : Inv X pins σ (upd H' D (.lst zs)) s' := I.call' (by have := I'.os; rw [eS] at this; exact this) un2 hok I'.bare fun b hb => ⟨(hf b hb).2.2.2.1, (hf b hb).2.1, (hf b hb).2.2.2.2.1, (hf b hb).2.2.2.2.2⟩
    exact hR D C s' _ m' I2 (q D hn) (by omega) (by rw [upd_ne (Ne.symm hDC)]; exact hCn) hns
  have loop : codeAny (model X.prog X.w) X.A (.compLoop (.ListComp elt [⟨.Name x px, iter, ifs, 0⟩] scope pos) 0 (.ref it) (.ref D) X'.env) (R (.ref D) C) { s with heap := h₁, toks := s.toks + ([] : List (Str × Value)).length } := by
    refine codeAny_compLoop_tests (fun n s' => ∃ i zs its k H', Inv X' [] (none :: capt js σ) H' s' ∧ tn i s'.heap ∧ (∀ b ∈ fp, H' b = none) ∧ s'.heap.get? D = some { cls := .type "list", data := .seq its.toArray k } ∧ Vals zs its ∧ H' D = none ∧ zs.length ≤ sizeLine ∧ W i n zs H')
      ?_ m0 ⟨0, [], [], 0, H, I1, T.keep _ _ _ st (fun b hb o e => old b o e), fun b hb => (hf b hb).1, hacc, .nil, I.hok.fresh (by omega), Nat.zero_le _, w0⟩ (fun _ => rfl)
    rintro n s3 ⟨i, zs, its, k, H3, I3, st3, fr3, d3, v3, n3, z3, w3⟩
    have pinD : Inv X' [(D, { cls := .type "list", data := .seq its.toArray k })] (none :: capt js σ) H3 s3 := I3.pins_of fun p hp => by
      have e : p = (D, { cls := .type "list", data := .seq its.toArray k }) := by simpa using hp
      subst e
      exact ⟨d3, n3, by rw [eL]; exact hDC, fun z => Nat.lt_irrefl _ (frLt D z), noCell its k⟩
    have hpD : ∀ q ∈ [(D, ({ cls := .type "list", data := .seq its.toArray k } : Obj))], q.1 = D := fun q hq => by
      have e : q = (D, { cls := .type "list", data := .seq its.toArray k }) := by simpa using hq
      rw [e]
    rcases turn i n zs H3 w3 with ⟨stop, qn⟩ | ⟨go, hzl, NN, hNN, step⟩
    · refine thn (eA ▸ T.done X' eP eW eK eC i _ s3 _ H3 _ pinD (fpOk _ _ fr3 hpD) st3 stop) fun r s4 ⟨hr, I4⟩ => ?_
      subst hr
      exact done (I4.pins_of fun p hp => absurd hp (by simp)) (I4.pin (D, { cls := .type "list", data := .seq its.toArray k }) (List.mem_append_right _ (by simp))).1 v3 n3 z3 qn
    · refine thn (eA ▸ T.item X' eP eW eK eC i _ s3 _ H3 _ pinD (fpOk _ _ fr3 hpD) st3 go) fun r s4 ⟨u, hr, h4⟩ => ?_
      subst hr
      refine from_pure (a := ()) h4 fun ⟨v, H5, I5, r5, y5, st5, fr5⟩ => ?_
      have I5' := I5.pinned (fpOk _ _ fr5 hpD) (T.obj _ _ st5)
      have ev : ∀ {α : Type} {t : Sem α} {Q' : α → Shared → Prop} {E' : Value → Shared → Prop} {s' : Shared}, wpAny (model X'.prog X'.w) X'.A t Q' X'.xe s' → wpAny (model X.prog X.w) X.A t Q' E' s' := fun {α t Q' E' s'} hh => by
        rw [eP, eW, eA, eXe] at hh
        exact wpAny_mono hh (fun _ _ q => q) fun _ _ z => z.elim
      refine ev (thn (pg_name (X := X') (i := 0) (by rw [eN]; exact S.nd) (by rw [eN]; rfl) (.inl (by rw [eE]; exact lookup_relabel_local S.var)) (.inr (by rw [eE]; exact lookup_relabel_local S.var)) _ s4 _ H5 v u (fun σ' H' => σ' = some v :: capt js σ ∧ H' = H5) I5' r5 ⟨rfl, rfl⟩) fun _ s6 ⟨σ6, H6, I6, e6, e6'⟩ => ?_)
      subst e6 e6'
      have back : ∀ {σ' : St} {H7 : Hp} {s7 : Shared}, Inv X' ([(D, { cls := .type "list", data := .seq its.toArray k })] ++ pinsAt fp s4.heap) (some v :: capt js σ) H7 s7 → Inv X' [] (none :: capt js σ) H7 s7 := fun {_ H7 s7} I7 => by
        refine (I7.pins_of fun p hp => absurd hp (by simp)).weak rfl fun i v' e => ?_
        cases i with
        | zero => simp at e
        | succ i => simpa using e
      have fps : ∀ {σ' : St} {H7 : Hp} {s7 : Shared}, Inv X' ([(D, { cls := .type "list", data := .seq its.toArray k })] ++ pinsAt fp s4.heap) σ' H7 s7 → (∀ b ∈ fp, H7 b = none) ∧ (∀ b ∈ fp, ∀ o, s4.heap.get? b = some o → s7.heap.get? b = some o) ∧ s7.heap.get? D = some { cls := .type "list", data := .seq its.toArray k } ∧ H7 D = none := fun {σ' H7 s7} I7 => by
        have g : ∀ b ∈ fp, ∀ o, s4.heap.get? b = some o → s7.heap.get? b = some o ∧ H7 b = none := fun b hb o e => by
          have z := I7.pin (b, o) (List.mem_append_right _ (List.mem_append_right _ (mem_pinsAt hb e)))
          exact ⟨z.1, z.2.1⟩
        refine ⟨fun b hb => ?_, fun b hb o e => (g b hb o e).1, (I7.pin (D, { cls := .type "list", data := .seq its.toArray k }) (List.mem_append_right _ (by simp))).1, (I7.pin (D, { cls := .type "list", data := .seq its.toArray k }) (List.mem_append_right _ (by simp))).2.1⟩
        obtain ⟨o, e, _⟩ := T.obj _ _ st5 b hb
        exact (g b hb o e).2
      have hte : PTs X' ifs tt := hX ▸ ht C s H fp
      have hee : PE X' elt te := hX ▸ he C s H fp
      refine ev (thn (hte _ s6 _ H6 _ I6 (step v H6 y5)) fun b s7 ⟨H7, I7, q7⟩ => ?_)
      cases b with
      | false =>
        rw [if_neg Bool.false_ne_true]
        rw [if_neg Bool.false_ne_true] at q7
        obtain ⟨m', hm, w7⟩ := hNN _ _ q7
        obtain ⟨g1, g2, g3, g4⟩ := fps I7
        exact ⟨m', hm, i + 1, zs, its, k, H7, back (σ' := []) I7, T.keep _ _ _ st5 g2, g1, g3, v3, g4, z3, w7⟩
      | true =>
        rw [if_pos rfl]
        rw [if_pos rfl] at q7
        refine ev (thn (hee _ s7 _ H7 _ I7 q7) fun u8 s8 ⟨v8, H8, I8, r8, q8⟩ => ?_)
        obtain ⟨m', hm, w8⟩ := hNN _ _ q8
        obtain ⟨g1, g2, g3, g4⟩ := fps I8
        have hil := v3.length
        refine call_meets F.slot_list_append ⟨_, g3, rfl⟩ F.entry_list_append (F.args_list_append_2 _ _) (PySem.list_append D its.toArray k u8 (by rw [List.size_toArray]; omega)) ⟨g3, ?_⟩
        have q := PySem.IsL.update g3 (fun a => a.push u8)
        have ea : its.toArray.push u8 = (its ++ [u8]).toArray := by simp
        rw [ea] at q
        have kk : ∀ b o, b ≠ D → s8.heap.get? b = some o → (s8.heap.update D (Obj.mapSeq fun a => a.push u8)).get? b = some o := fun b o hb e => (Heap.get?_update_other _ _ (Ne.symm hb)).trans e
        have I9 : Inv X' [] (none :: capt js σ) H8 { s8 with heap := s8.heap.update D (Obj.mapSeq fun a => a.push u8), toks := s8.toks } := by
          refine (back (σ' := []) I8).turned kk g4 (by rw [eL]; exact hDC) (.inr (by rw [eS]; omega)) (fun y c e => Nat.ne_of_lt (cellLt y c e)) fun p hp => ?_
          rw [ePn] at hp
          exact absurd hp (by simp)
        refine ⟨m', hm, i + 1, zs ++ [v8], its ++ [u8], _, H8, I9, T.keep _ _ _ st5 (fun b hb o e => kk b o (Nat.ne_of_lt (fplt b hb)) (g2 b hb o e)), g1, q, v3.append (.cons r8 .nil), g4, ?_, w8⟩
        rw [List.length_append, List.length_singleton]
        omega
  rw [eE] at loop
  exact codeAny_compStart_list loop (T.self _ 0 _ _ _ (T.keep _ _ _ st (fun b hb o e => old b o e)) loop)
theorem pe_comp (S : CScope X.env.scope scope x X.N ys js) (hc : X.calm = true) (hi : PI X (.Name x px) iter wi) (ht : ∀ C s₀ H₀ ex, PTs (cxC X (x :: ys) scope C s₀ H₀ ex) ifs tt) (he : ∀ C s₀ H₀ ex, PE (cxC X (x :: ys) scope C s₀ H₀ ex) elt te)
    (hs : ∀ x, foldedSetIterable iter X.env x = pure x := by intro _; rfl) : PE X (.ListComp elt [⟨.Name x px, iter, ifs, 0⟩] scope pos) (tComp wi js tt te) := by
  intro pins s σ H Q I h
  rw [eval_ListComp]
  refine wpAny_comprehension_free (use := none) rfl hs (closureFor_eq fun y hy e => I.ok.has _ (S.free y hy e)) S.kind S.loc (thn (hi pins s σ H _ I h) fun v s1 h1 => thn h1 fun itv s2 h2 => ?_)
  obtain ⟨it, fp, tn, J, H2, e, I2, T, st2, f2, hw⟩ := h2
  subst e
  refine comp_block (Q := Q) (R := fun acc C => compPost (model X.prog X.w) X.A X.xe none (EP X pins σ Q) acc C) S hc ht he I2 T st2 f2 hw ?_
  intro D C s' H' m' I' q hC hn hns
  refine ⟨m', hns, fun h' hs' => ⟨.ref D, H', ?_, rfl, q⟩⟩
  have e := I2.fpOk hC hn
  exact I'.turned (t' := s'.toks) (fun b o hb e => (hs'.2 b hb).trans e) hn e.2.1 e.2.2.2.1 e.2.2.2.2.1 e.2.2.2.2.2
theorem ps_setComp {i : Nat} {y : Str} {py spos : Pos} (S : CScope X.env.scope scope x X.N ys js) (hc : X.calm = true) (hN : X.N.Nodup) (hy : X.N[i]? = some y) (hl : Loc X.env.scope y) (hi : PI X (.Name x px) iter wi) (ht : ∀ C s₀ H₀ ex, PTs (cxC X (x :: ys) scope C s₀ H₀ ex) ifs tt) (he : ∀ C s₀ H₀ ex, PE (cxC X (x :: ys) scope C s₀ H₀ ex) elt te)
    (hf : X.fn y = true ∨ X.env.scope.names.lookup y = some .local := by first | exact .inl rfl | exact .inr rfl | assumption)
    (hsw : swapsWith (.ListComp elt [⟨.Name x px, iter, ifs, 0⟩] scope pos) (some (.Name y py)) spos.line X.env = pure true := by rfl)
    (hs : ∀ x, foldedSetIterable iter X.env x = pure x := by intro _; rfl) : PS X (.Assign [.Name y py] (.ListComp elt [⟨.Name x px, iter, ifs, 0⟩] scope pos) spos) (tAsg (tComp wi js tt te) (gName i)) := by
  intro pins s σ H D I h
  rw [exec_Assign_Name_used _ _ _ _ hsw]
  refine wpAny_bind (wpAny_standAt (wpAny_bind ?_))
  show wpAny _ X.A (do let _ ← comprehension (.ListComp elt [⟨.Name x px, iter, ifs, 0⟩] scope pos) scope X.env _ (newList []) false (eval iter X.env) (some (assign (.Name y py) X.env))) _ _ s
  refine wpAny_bind (wpAny_mono (wpAny_comprehension_free (use := some (assign (.Name y py) X.env)) (Q := fun _ s' => SP X pins D .next s') rfl hs (closureFor_eq fun y hy e => I.ok.has _ (S.free y hy e)) S.kind S.loc
    (thn (hi pins s σ H _ I h) fun v s1 h1 => thn h1 fun itv s2 h2 => ?_)) (fun _ s' hq => wpAny_pure (wpAny_pure hq)) fun _ _ e => e)
  obtain ⟨it, fp, tn, J, H2, e, I2, T, st2, f2, hw⟩ := h2
  subst e
  refine comp_block (Q := fun v H' => gName i v σ H' D.nx) (R := fun acc C => compPost (model X.prog X.w) X.A X.xe (some (assign (.Name y py) X.env)) (fun _ s' => SP X pins D .next s') acc C) S hc ht he I2 T st2 f2 hw ?_
  intro Da C s' H' m' I' q hC hn hns
  have e := I2.fpOk hC hn
  show wpAny _ X.A (assign (.Name y py) X.env (.ref Da)) _ _ _
  refine wpAny_assign_Name (store_ok2 I' hN hy hl (show RelV (.ref Da) (.ref Da) from rfl) (fun s2' I3 ⟨a, sb, ha⟩ => ?_) hf)
  have hCa : C ≠ a := by
    rcases ha with z | z
    · rw [z]; exact e.2.1
    · intro w; exact e.2.2.2.2.1 _ _ z w.symm
  refine ⟨m', hns.sameBut sb hCa, fun h' hs' => ⟨_, H', ?_, q⟩⟩
  exact I3.turned (t' := s2'.toks) (fun b o hb e => (hs'.2 b hb).trans e) hn e.2.1 e.2.2.2.1 e.2.2.2.2.1 e.2.2.2.2.2
end
theorem comp_list {K : PySem.W.Frag} {a : Addr} {xs : List V} {js : List Nat} {tt : TT} {te : TE} {σ : St} {H : Hp} {Q : VK} (Pv : Nat → List V → Hp → Prop) (h0 : Pv 0 [] H) (hl : ∀ i ys H, i ≤ xs.length → Pv i ys H → SqL K H a xs)
    (hs : ∀ i x ys H, xs[i]? = some x → Pv i ys H → ys.length < sizeLine ∧ tt (some x :: capt js σ) H fun b H2 => if b = true then te (some x :: capt js σ) H2 fun v H3 => Pv (i + 1) (ys ++ [v]) H3 else Pv (i + 1) ys H2)
    (hd : ∀ ys H, Pv xs.length ys H → ∀ D, H D = none → Q (.ref D) (upd H D (.lst ys))) :
    CompLoop (Itl K a) js tt te σ Q H := by
  refine ⟨fun i m ys H => m = xs.length - i ∧ i ≤ xs.length ∧ Pv i ys H, ⟨xs.length, by simp, Nat.zero_le _, h0⟩, ?_⟩
  rintro i m ys H ⟨rfl, hi, p⟩
  have q := hl i ys H hi p
  by_cases hlt : i < xs.length
  · have hx : xs[i]? = some xs[i] := List.getElem?_eq_getElem hlt
    obtain ⟨hz, hst⟩ := hs i xs[i] ys H hx p
    refine .inr ⟨⟨xs, xs[i], q, hx⟩, hz, Pv (i + 1), fun ys' H' p' => ⟨xs.length - (i + 1), by omega, rfl, hlt, p'⟩, fun x H' y => ?_⟩
    obtain ⟨e, y⟩ := y
    subst e
    have e2 := y xs q
    rw [hx] at e2
    cases e2
    exact hst
  · have e : i = xs.length := by omega
    subst e
    exact .inl ⟨⟨xs, q, Nat.le_refl _⟩, hd ys H p⟩
theorem comp_range {lo : Int} {n : Nat} {js : List Nat} {tt : TT} {te : TE} {σ : St} {H : Hp} {Q : VK} (Pv : Nat → List V → Hp → Prop) (h0 : Pv 0 [] H)
    (hs : ∀ i ys H, i < n → Pv i ys H → ys.length < sizeLine ∧ tt (some (.int (lo + i)) :: capt js σ) H fun b H2 => if b = true then te (some (.int (lo + i)) :: capt js σ) H2 fun v H3 => Pv (i + 1) (ys ++ [v]) H3 else Pv (i + 1) ys H2)
    (hd : ∀ ys H, Pv n ys H → ∀ D, H D = none → Q (.ref D) (upd H D (.lst ys))) :
    CompLoop (Itr lo n) js tt te σ Q H := by
  refine ⟨fun i m ys H => m = n - i ∧ i ≤ n ∧ Pv i ys H, ⟨n, by simp, Nat.zero_le _, h0⟩, ?_⟩
  rintro i m ys H ⟨rfl, hi, p⟩
  by_cases hlt : i < n
  · obtain ⟨hz, hst⟩ := hs i ys H hlt p
    refine .inr ⟨hlt, hz, Pv (i + 1), fun ys' H' p' => ⟨n - (i + 1), by omega, rfl, hlt, p'⟩, fun x H' y => ?_⟩
    obtain ⟨e, y⟩ := y
    subst e y
    exact hst
  · have e : i = n := by omega
    subst e
    exact .inl ⟨Nat.le_refl _, hd ys H p⟩
end L2
set_option Elab.async false
set_option linter.all false
set_option maxRecDepth 100000
namespace L2
open PySem PySem.Spec PyProof.Rows PySem.SeqAt
inductive Tr where
  | non | bl (b : Bool) | int (i : Int) | str (x : Str) | lst (ts : List Tr) | tup (ts : List Tr)
mutual
def TrAt (K : PySem.W.Frag) (H : Hp) : Tr → V → Prop
  | .non, v => v = .non
  | .bl b, v => v = .bl b
  | .int i, v => v = .int i
  | .str x, v => v = .str x
  | .lst ts, v => ∃ a xs, v = .ref a ∧ SqL K H a xs ∧ TrsAt K H ts xs
  | .tup ts, v => ∃ a xs, v = .ref a ∧ SqT K H a xs ∧ TrsAt K H ts xs
def TrsAt (K : PySem.W.Frag) (H : Hp) : List Tr → List V → Prop
  | [], xs => xs = []
  | t :: ts, xs => ∃ y ys, xs = y :: ys ∧ TrAt K H t y ∧ TrsAt K H ts ys
end
mutual
def teq : Tr → Tr → Bool
  | .non, .non => true
  | .bl a, .bl b => a == b
  | .bl a, .int b => (if a then 1 else 0) == b
  | .int a, .bl b => a == (if b then 1 else 0)
  | .int a, .int b => a == b
  | .str a, .str b => a == b
  | .lst a, .lst b => teqs a b
  | .tup a, .tup b => teqs a b
  | _, _ => false
def teqs : List Tr → List Tr → Bool
  | [], [] => true
  | t :: ts, u :: us => teq t u && teqs ts us
  | _, _ => false
end
mutual
def tdep : Tr → Nat
  | .lst ts => tdeps ts + 1
  | .tup ts => tdeps ts + 1
  | _ => 0
def tdeps : List Tr → Nat
  | [] => 0
  | t :: ts => max (tdep t) (tdeps ts)
end
theorem tdep_mem {t : Tr} : ∀ {ts : List Tr}, t ∈ ts → tdep t ≤ tdeps ts
  | u :: ts, h => by
    rw [tdeps]
    rcases List.mem_cons.mp h with e | h
    · rw [e]; exact Nat.le_max_left _ _
    · exact Nat.le_trans (tdep_mem h) (Nat.le_max_right _ _)
section
variable {K : PySem.W.Frag} {H : Hp}
theorem TrsAt.length : ∀ {ts : List Tr} {xs : List V}, TrsAt K H ts xs → ts.length = xs.length
  | [], xs, h => by rw [TrsAt] at h; subst h; rfl
  | t :: ts, xs, h => by
    rw [TrsAt] at h
    obtain ⟨y, ys, rfl, _, h⟩ := h
    rw [List.length_cons, List.length_cons, TrsAt.length h]
theorem TrsAt.get : ∀ {ts : List Tr} {xs : List V} {j : Nat} {t : Tr}, TrsAt K H ts xs → ts[j]? = some t → ∃ x, xs[j]? = some x ∧ TrAt K H t x
  | [], xs, j, t, h, e => by simp at e
  | u :: ts, xs, 0, t, h, e => by
    rw [TrsAt] at h
    obtain ⟨y, ys, rfl, hy, h⟩ := h
    simp at e
    subst e
    exact ⟨y, rfl, hy⟩
  | u :: ts, xs, j + 1, t, h, e => by
    rw [TrsAt] at h
    obtain ⟨y, ys, rfl, hy, h⟩ := h
    obtain ⟨x, e1, e2⟩ := TrsAt.get (j := j) h (by simpa using e)
    exact ⟨x, by simpa using e1, e2⟩
theorem TrsAt.mk : ∀ {ts : List Tr} {xs : List V}, ts.length = xs.length → (∀ (j : Nat) (t : Tr) (x : V), ts[j]? = some t → xs[j]? = some x → TrAt K H t x) → TrsAt K H ts xs
  | [], [], _, _ => by rw [TrsAt]
  | [], _ :: _, h, _ => by simp at h
  | _ :: _, [], h, _ => by simp at h
  | t :: ts, x :: xs, h, f => by
    rw [TrsAt]
    exact ⟨x, xs, rfl, f 0 t x rfl rfl, TrsAt.mk (by simpa using h) fun j t x e1 e2 => f (j + 1) t x (by simpa using e1) (by simpa using e2)⟩
theorem TrsAt.ints : ∀ {ns : List Int}, TrsAt K H (ns.map Tr.int) (ns.map V.int)
  | [] => by rw [List.map_nil, TrsAt]; rfl
  | n :: ns => by rw [List.map_cons, TrsAt]; exact ⟨_, _, rfl, by rw [TrAt], TrsAt.ints⟩
def tInts (ns : List Int) : Tr := .lst (ns.map Tr.int)
theorem TrAt.ints {a : Addr} {ns : List Int} (h : SqL K H a (ns.map V.int)) : TrAt K H (tInts ns) (.ref a) := by
  unfold tInts; rw [TrAt]; exact ⟨a, _, rfl, h, TrsAt.ints⟩
end
mutual
theorem teq_refl : ∀ t : Tr, teq t t = true
  | .non => by rw [teq]
  | .bl b => by rw [teq]; simp
  | .int i => by rw [teq]; simp
  | .str x => by rw [teq]; simp
  | .lst ts => by rw [teq]; exact teqs_refl ts
  | .tup ts => by rw [teq]; exact teqs_refl ts
theorem teqs_refl : ∀ ts : List Tr, teqs ts ts = true
  | [] => by rw [teqs]
  | t :: ts => by rw [teqs, teq_refl t, teqs_refl ts]; rfl
end
theorem teqs_map {α : Type} [DecidableEq α] {f : α → Tr} (h : ∀ a b, teq (f a) (f b) = decide (a = b)) : ∀ (xs ys : List α), teqs (xs.map f) (ys.map f) = decide (xs = ys)
  | [], [] => by simp [teqs]
  | [], _ :: _ => by simp [teqs]
  | _ :: _, [] => by simp [teqs]
  | x :: xs, y :: ys => by
    rw [List.map_cons, List.map_cons, teqs, h, teqs_map h xs ys, Bool.eq_iff_iff]
    simp
theorem teq_int (a b : Int) : teq (.int a) (.int b) = decide (a = b) := by rw [teq, Bool.eq_iff_iff]; simp
theorem teq_ints (a b : List Int) : teq (tInts a) (tInts b) = decide (a = b) := by unfold tInts; rw [teq]; exact teqs_map teq_int a b
theorem tdeps_ints : ∀ ns : List Int, tdeps (ns.map Tr.int) = 0
  | [] => by simp [tdeps]
  | n :: ns => by rw [List.map_cons, tdeps, tdeps_ints ns, tdep] <;> simp
theorem tdep_tInts (ns : List Int) : tdep (tInts ns) = 1 := by unfold tInts; rw [tdep, tdeps_ints]
theorem teqs_length : ∀ {ts us : List Tr}, ts.length ≠ us.length → teqs ts us = false
  | [], [], h => absurd rfl h
  | [], _ :: _, _ => by simp [teqs]
  | _ :: _, [], _ => by simp [teqs]
  | t :: ts, u :: us, h => by rw [teqs, teqs_length (by simpa using h), Bool.and_false]
def eAt (ts us : List Tr) (j : Nat) : Bool := match ts[j]?, us[j]? with
  | some t, some u => teq t u
  | _, _ => true
theorem all_eAt : ∀ {ts us : List Tr}, ts.length = us.length → (List.range ts.length).all (eAt ts us) = teqs ts us
  | [], [], _ => by simp [teqs]
  | [], _ :: _, h => by simp at h
  | _ :: _, [], h => by simp at h
  | t :: ts, u :: us, h => by
    rw [List.length_cons, List.range_succ_eq_map, List.all_cons, List.all_map, teqs, ← all_eAt (ts := ts) (us := us) (by simpa using h)]
    rfl
section
variable {X : Cx} {pins : List (Addr × Obj)} {σ : St} {H : Hp} {s : Shared}
theorem tr_inj (I : Inv X pins σ H s) : ∀ (n : Nat) {t u : Tr} {v : V}, tdep t ≤ n → TrAt X.K H t v → TrAt X.K H u v → t = u := by
  intro n
  induction n with
  | zero =>
    intro t u v hd ht hu
    cases t with
    | lst ts => rw [tdep] at hd; omega
    | tup ts => rw [tdep] at hd; omega
    | _ => (rw [TrAt] at ht; subst ht; cases u <;> (rw [TrAt] at hu) <;> first | rfl | (obtain ⟨_, _, z, _⟩ := hu; cases z) | (cases hu; rfl) | cases hu)
  | succ n ih =>
    intro t u v hd ht hu
    have lists : ∀ {ts us : List Tr} {xs : List V}, tdeps ts ≤ n → TrsAt X.K H ts xs → TrsAt X.K H us xs → ts = us := by
      intro ts us xs hd h1 h2
      apply List.ext_getElem?
      intro j
      have l1 := h1.length
      have l2 := h2.length
      by_cases hj : j < ts.length
      · obtain ⟨t, e⟩ : ∃ t, ts[j]? = some t := ⟨_, List.getElem?_eq_getElem hj⟩
        obtain ⟨u, e'⟩ : ∃ u, us[j]? = some u := ⟨_, List.getElem?_eq_getElem (by omega)⟩
        obtain ⟨x, ex, hx⟩ := h1.get e
        obtain ⟨y, ey, hy⟩ := h2.get e'
        rw [ex] at ey
        cases ey
        rw [e, e', ih (Nat.le_trans (tdep_mem (List.mem_of_getElem? e)) hd) hx hy]
      · rw [List.getElem?_eq_none (by omega), List.getElem?_eq_none (by omega)]
    cases t with
    | lst ts =>
      rw [TrAt] at ht
      obtain ⟨a, xs, rfl, q, h1⟩ := ht
      cases u with
      | lst us =>
        rw [TrAt] at hu
        obtain ⟨b, ys, e, q', h2⟩ := hu
        cases e
        rw [I.list_inj q' q] at h2
        rw [lists (by rw [tdep] at hd; omega) h1 h2]
      | tup us =>
        rw [TrAt] at hu
        obtain ⟨b, ys, e, q', h2⟩ := hu
        cases e
        obtain ⟨_, _, pl, _⟩ := I.list q
        obtain ⟨_, _, pt, _⟩ := I.tuple q'
        exact absurd rfl (ne_of_list_tuple pl.isList pt)
      | _ => rw [TrAt] at hu; cases hu
    | tup ts =>
      rw [TrAt] at ht
      obtain ⟨a, xs, rfl, q, h1⟩ := ht
      cases u with
      | tup us =>
        rw [TrAt] at hu
        obtain ⟨b, ys, e, q', h2⟩ := hu
        cases e
        rw [I.tuple_inj q' q] at h2
        rw [lists (by rw [tdep] at hd; omega) h1 h2]
      | lst us =>
        rw [TrAt] at hu
        obtain ⟨b, ys, e, q', h2⟩ := hu
        cases e
        obtain ⟨_, _, pl, _⟩ := I.list q'
        obtain ⟨_, _, pt, _⟩ := I.tuple q
        exact absurd rfl (ne_of_list_tuple pl.isList pt)
      | _ => rw [TrAt] at hu; cases hu
    | _ => (rw [TrAt] at ht; subst ht; cases u <;> (rw [TrAt] at hu) <;> first | rfl | (obtain ⟨_, _, z, _⟩ := hu; cases z) | (cases hu; rfl) | cases hu)
structure Cmps (A : Around) (s : Shared) (a b : Value) (r : Bool) : Prop where
  rc : RcAt A s a b r
  ne : RcNeAt A s a b (!r)
  eq : EqAt A s a b r
theorem units_in1 (A : Around) : A.in1.units = A.units + 1 := rfl
theorem tr_cmps (I : Inv X pins σ H s) : ∀ (n : Nat) {t u : Tr} {v w : V} {a b : Value} {A : Around}, tdep t ≤ n → TrAt X.K H t v → TrAt X.K H u w → RelV v a → RelV w b → A.units + n < cLine → Cmps A s a b (teq t u) := by
  intro n
  induction n with
  | zero =>
    intro t u v w a b A hd ht hu ra rb hA
    have hA' : A.units < cLine := by omega
    cases t with
    | lst ts => rw [tdep] at hd; omega
    | tup ts => rw [tdep] at hd; omega
    | non =>
      rw [TrAt] at ht; subst ht; cases ra
      cases u with
      | non => rw [TrAt] at hu; subst hu; cases rb; rw [teq]; exact ⟨.none_none, .none_none, .same _⟩
      | bl b => rw [TrAt] at hu; subst hu; cases rb; simp only [teq]; exact ⟨.none_bool _, .none_bool _, .none_bool _⟩
      | int b => rw [TrAt] at hu; subst hu; obtain ⟨_, rfl⟩ := rb; simp only [teq]; exact ⟨.none_int _ _, .none_int _ _, .none_int _ _⟩
      | str b => rw [TrAt] at hu; subst hu; obtain ⟨_, rfl⟩ := rb; simp only [teq]; exact ⟨.none_str _ _, .none_str _ _, .none_str _ _⟩
      | lst us => rw [TrAt] at hu; obtain ⟨p, ys, rfl, q, _⟩ := hu; cases rb; obtain ⟨_, _, pl, _⟩ := I.list q; simp only [teq]; exact ⟨.none_list pl.isList hA', .none_list pl.isList hA', .none_list pl.isList hA'⟩
      | tup us => rw [TrAt] at hu; obtain ⟨p, ys, rfl, q, _⟩ := hu; cases rb; obtain ⟨_, _, pl, _⟩ := I.tuple q; simp only [teq]; exact ⟨.none_tuple pl hA', .none_tuple pl hA', .none_tuple pl hA'⟩
    | bl c =>
      rw [TrAt] at ht; subst ht; cases ra
      cases u with
      | non => rw [TrAt] at hu; subst hu; cases rb; simp only [teq]; exact ⟨.bool_none _, .bool_none _, .bool_none _⟩
      | bl b => rw [TrAt] at hu; subst hu; cases rb; rw [teq]; exact ⟨.bool_bool _ _, .bool_bool _ _, .bool_bool _ _⟩
      | int b => rw [TrAt] at hu; subst hu; obtain ⟨_, rfl⟩ := rb; rw [teq]; exact ⟨.bool_int _ _ _, .bool_int _ _ _, .bool_int _ _ _⟩
      | str b => rw [TrAt] at hu; subst hu; obtain ⟨_, rfl⟩ := rb; simp only [teq]; exact ⟨.bool_str _ _ _, .bool_str _ _ _, .bool_str _ _ _⟩
      | lst us => rw [TrAt] at hu; obtain ⟨p, ys, rfl, q, _⟩ := hu; cases rb; obtain ⟨_, _, pl, _⟩ := I.list q; simp only [teq]; exact ⟨.bool_list _ pl.isList hA', .bool_list _ pl.isList hA', .bool_list _ pl.isList hA'⟩
      | tup us => rw [TrAt] at hu; obtain ⟨p, ys, rfl, q, _⟩ := hu; cases rb; obtain ⟨_, _, pl, _⟩ := I.tuple q; simp only [teq]; exact ⟨.bool_tuple _ pl hA', .bool_tuple _ pl hA', .bool_tuple _ pl hA'⟩
    | int c =>
      rw [TrAt] at ht; subst ht; obtain ⟨_, rfl⟩ := ra
      cases u with
      | non => rw [TrAt] at hu; subst hu; cases rb; simp only [teq]; exact ⟨.int_none _ _, .int_none _ _, .int_none _ _⟩
      | bl b => rw [TrAt] at hu; subst hu; cases rb; rw [teq]; exact ⟨.int_bool _ _ _, .int_bool _ _ _, .int_bool _ _ _⟩
      | int b => rw [TrAt] at hu; subst hu; obtain ⟨_, rfl⟩ := rb; rw [teq]; exact ⟨.int_int _ _ _ _, .int_int _ _ _ _, .int_int _ _ _ _⟩
      | str b => rw [TrAt] at hu; subst hu; obtain ⟨_, rfl⟩ := rb; simp only [teq]; exact ⟨.int_str _ _ _ _, .int_str _ _ _ _, .int_str _ _ _ _⟩
      | lst us => rw [TrAt] at hu; obtain ⟨p, ys, rfl, q, _⟩ := hu; cases rb; obtain ⟨_, _, pl, _⟩ := I.list q; simp only [teq]; exact ⟨.int_list _ _ pl.isList hA', .int_list _ _ pl.isList hA', .int_list _ _ pl.isList hA'⟩
      | tup us => rw [TrAt] at hu; obtain ⟨p, ys, rfl, q, _⟩ := hu; cases rb; obtain ⟨_, _, pl, _⟩ := I.tuple q; simp only [teq]; exact ⟨.int_tuple _ _ pl hA', .int_tuple _ _ pl hA', .int_tuple _ _ pl hA'⟩
    | str c =>
      rw [TrAt] at ht; subst ht; obtain ⟨_, rfl⟩ := ra
      cases u with
      | non => rw [TrAt] at hu; subst hu; cases rb; simp only [teq]; exact ⟨.str_none _ _, .str_none _ _, .str_none _ _⟩
      | bl b => rw [TrAt] at hu; subst hu; cases rb; simp only [teq]; exact ⟨.str_bool _ _ _, .str_bool _ _ _, .str_bool _ _ _⟩
      | int b => rw [TrAt] at hu; subst hu; obtain ⟨_, rfl⟩ := rb; simp only [teq]; exact ⟨.str_int _ _ _ _, .str_int _ _ _ _, .str_int _ _ _ _⟩
      | str b => rw [TrAt] at hu; subst hu; obtain ⟨_, rfl⟩ := rb; rw [teq]; exact ⟨.str_str _ _ _ _, .str_str _ _ _ _, .str_str _ _ _ _⟩
      | lst us => rw [TrAt] at hu; obtain ⟨p, ys, rfl, q, _⟩ := hu; cases rb; obtain ⟨_, _, pl, _⟩ := I.list q; simp only [teq]; exact ⟨.str_list _ _ pl.isList hA', .str_list _ _ pl.isList hA', .str_list _ _ pl.isList hA'⟩
      | tup us => rw [TrAt] at hu; obtain ⟨p, ys, rfl, q, _⟩ := hu; cases rb; obtain ⟨_, _, pl, _⟩ := I.tuple q; simp only [teq]; exact ⟨.str_tuple _ _ pl hA', .str_tuple _ _ pl hA', .str_tuple _ _ pl hA'⟩
  | succ n ih =>
    intro t u v w a b A hd ht hu ra rb hA
    have hA' : A.units < cLine := by omega
    have items : ∀ {ts us : List Tr} {xs ys : List V} {its its2 : List Value}, tdeps ts ≤ n → TrsAt X.K H ts xs → TrsAt X.K H us ys → Vals xs its → Vals ys its2 →
        ∀ j (h1 : j < its.toArray.size) (h2 : j < its2.toArray.size), EqAt A.in1 s its.toArray[j] its2.toArray[j] (eAt ts us j) := by
      intro ts us xs ys its its2 hdn h1 h2 r1 r2 j hj1 hj2
      have l1 := h1.length
      have l2 := h2.length
      have m1 := r1.length
      have m2 := r2.length
      rw [List.size_toArray] at hj1 hj2
      obtain ⟨t, e⟩ : ∃ t, ts[j]? = some t := ⟨_, List.getElem?_eq_getElem (by omega)⟩
      obtain ⟨u, e'⟩ : ∃ u, us[j]? = some u := ⟨_, List.getElem?_eq_getElem (by omega)⟩
      obtain ⟨x, ex, hx⟩ := h1.get e
      obtain ⟨y, ey, hy⟩ := h2.get e'
      obtain ⟨vx, fx, rx⟩ := r1.get ex
      obtain ⟨vy, fy, ry⟩ := r2.get ey
      have g1 : its.toArray[j]'(by simpa using hj1) = vx := by
        have z : its[j] = vx := Option.some.inj ((List.getElem?_eq_getElem hj1).symm.trans fx)
        simpa using z
      have g2 : its2.toArray[j]'(by simpa using hj2) = vy := by
        have z : its2[j] = vy := Option.some.inj ((List.getElem?_eq_getElem hj2).symm.trans fy)
        simpa using z
      rw [g1, g2]
      have q := (ih (A := A.in1) (Nat.le_trans (tdep_mem (List.mem_of_getElem? e)) hdn) hx hy rx ry (by rw [units_in1]; omega)).eq
      unfold eAt
      rw [e, e']
      exact q
    by_cases hz : tdep t ≤ n
    · exact ih hz ht hu ra rb (by omega)
    cases t with
    | lst ts =>
      rw [TrAt] at ht; obtain ⟨p, xs, rfl, q, h1⟩ := ht; cases ra
      obtain ⟨its, r1, pl, _⟩ := I.list q
      cases u with
      | non => rw [TrAt] at hu; subst hu; cases rb; simp only [teq]; exact ⟨.list_none pl.isList hA', .list_none pl.isList hA', .list_none pl.isList hA'⟩
      | bl b => rw [TrAt] at hu; subst hu; cases rb; simp only [teq]; exact ⟨.list_bool _ pl.isList hA', .list_bool _ pl.isList hA', .list_bool _ pl.isList hA'⟩
      | int b => rw [TrAt] at hu; subst hu; obtain ⟨_, rfl⟩ := rb; simp only [teq]; exact ⟨.list_int _ _ pl.isList hA', .list_int _ _ pl.isList hA', .list_int _ _ pl.isList hA'⟩
      | str b => rw [TrAt] at hu; subst hu; obtain ⟨_, rfl⟩ := rb; simp only [teq]; exact ⟨.list_str _ _ pl.isList hA', .list_str _ _ pl.isList hA', .list_str _ _ pl.isList hA'⟩
      | tup us => rw [TrAt] at hu; obtain ⟨p', ys, rfl, q', _⟩ := hu; cases rb; obtain ⟨_, _, pl', _⟩ := I.tuple q'; simp only [teq]; exact ⟨.list_tuple pl.isList pl' hA', .list_tuple pl.isList pl' hA', .list_tuple pl.isList pl' hA'⟩
      | lst us =>
        have hu0 := hu
        rw [TrAt] at hu; obtain ⟨p', ys, rfl, q', h2⟩ := hu; cases rb
        obtain ⟨its2, r2, pl', _⟩ := I.list q'
        have l1 := h1.length
        have l2 := h2.length
        have m1 := r1.length
        have m2 := r2.length
        have hdn : tdeps ts ≤ n := by rw [tdep] at hd; omega
        have both : RcAt A s (.ref p) (.ref p') (teqs ts us) ∧ RcNeAt A s (.ref p) (.ref p') (!teqs ts us) := by
          by_cases hsz : ts.length = us.length
          · have hs : its.toArray.size = its2.toArray.size := by rw [List.size_toArray, List.size_toArray]; omega
            have it := items hdn h1 h2 r1 r2
            have e1 : (List.range its.toArray.size).all (eAt ts us) = teqs ts us := by
              rw [List.size_toArray, ← m1, ← l1]; exact all_eAt hsz
            have a1 := RcAt.lists pl.isList pl'.isList hs hA' it
            have a2 := RcNeAt.lists pl.isList pl'.isList hs hA' it
            rw [e1] at a1 a2
            exact ⟨a1, a2⟩
          · have hs : (its.toArray.size != its2.toArray.size) = true := by
              rw [List.size_toArray, List.size_toArray, bne_iff_ne]; omega
            rw [teqs_length hsz]
            exact ⟨.lists_lengths pl.isList pl'.isList hs hA', .lists_lengths pl.isList pl'.isList hs hA'⟩
        rw [teq]
        refine ⟨both.1, both.2, ?_⟩
        by_cases hpp : p = p'
        · subst hpp
          have e : Tr.lst ts = Tr.lst us := tr_inj I (n + 1) hd (show TrAt X.K H (.lst ts) (.ref p) by rw [TrAt]; exact ⟨p, xs, rfl, q, h1⟩) hu0
          cases e
          rw [teqs_refl]
          exact .same _
        · exact .of_refs hpp both.1
    | tup ts =>
      rw [TrAt] at ht; obtain ⟨p, xs, rfl, q, h1⟩ := ht; cases ra
      obtain ⟨its, r1, pl, _⟩ := I.tuple q
      cases u with
      | non => rw [TrAt] at hu; subst hu; cases rb; simp only [teq]; exact ⟨.tuple_none pl hA', .tuple_none pl hA', .tuple_none pl hA'⟩
      | bl b => rw [TrAt] at hu; subst hu; cases rb; simp only [teq]; exact ⟨.tuple_bool _ pl hA', .tuple_bool _ pl hA', .tuple_bool _ pl hA'⟩
      | int b => rw [TrAt] at hu; subst hu; obtain ⟨_, rfl⟩ := rb; simp only [teq]; exact ⟨.tuple_int _ _ pl hA', .tuple_int _ _ pl hA', .tuple_int _ _ pl hA'⟩
      | str b => rw [TrAt] at hu; subst hu; obtain ⟨_, rfl⟩ := rb; simp only [teq]; exact ⟨.tuple_str _ _ pl hA', .tuple_str _ _ pl hA', .tuple_str _ _ pl hA'⟩
      | lst us => rw [TrAt] at hu; obtain ⟨p', ys, rfl, q', _⟩ := hu; cases rb; obtain ⟨_, _, pl', _⟩ := I.list q'; simp only [teq]; exact ⟨.tuple_list pl pl'.isList hA', .tuple_list pl pl'.isList hA', .tuple_list pl pl'.isList hA'⟩
      | tup us =>
        have hu0 := hu
        rw [TrAt] at hu; obtain ⟨p', ys, rfl, q', h2⟩ := hu; cases rb
        obtain ⟨its2, r2, pl', _⟩ := I.tuple q'
        have l1 := h1.length
        have l2 := h2.length
        have m1 := r1.length
        have m2 := r2.length
        have hdn : tdeps ts ≤ n := by rw [tdep] at hd; omega
        have e1 : ((List.range (min its.toArray.size its2.toArray.size)).all (eAt ts us) && its.toArray.size == its2.toArray.size) = teqs ts us := by
          rw [List.size_toArray, List.size_toArray, ← m1, ← l1, ← m2, ← l2]
          by_cases hsz : ts.length = us.length
          · rw [← hsz, Nat.min_self, beq_self_eq_true, Bool.and_true]; exact all_eAt hsz
          · rw [teqs_length hsz, beq_eq_false_iff_ne.mpr hsz, Bool.and_false]
        have it := items hdn h1 h2 r1 r2
        have a1 := RcAt.tuples pl pl' hA' it
        have a2 := RcNeAt.tuples pl pl' hA' it
        rw [e1] at a1 a2
        rw [teq]
        refine ⟨a1, a2, ?_⟩
        by_cases hpp : p = p'
        · subst hpp
          have e : Tr.tup ts = Tr.tup us := tr_inj I (n + 1) hd (show TrAt X.K H (.tup ts) (.ref p) by rw [TrAt]; exact ⟨p, xs, rfl, q, h1⟩) hu0
          cases e
          rw [teqs_refl]
          exact .same _
        · exact .of_refs hpp a1
    | non => exact absurd (Nat.zero_le _) hz
    | bl b => exact absurd (Nat.zero_le _) hz
    | int b => exact absurd (Nat.zero_le _) hz
    | str b => exact absurd (Nat.zero_le _) hz
end
section
variable {X : Cx}
def rEqT (K : PySem.W.Frag) (neg : Bool) : R2 := fun x y H Q => ∃ t u, TrAt K H t x ∧ TrAt K H u y ∧ tdep t ≤ 8 ∧ Q (.bl (if neg then !teq t u else teq t u)) H
theorem op_eqT (hu : X.A.units + 64 < cLine) : OpR X (compareOp .Eq) (rEqT X.K false) := by
  intro pins s σ H x y v u Q I rx ry h
  obtain ⟨t, t', h1, h2, hd, q⟩ := h
  exact (tr_cmps I 8 hd h1 h2 rx ry (by omega)).rc _ _ _ _ ⟨.bl _, H, I, rfl, q⟩
theorem op_neT (hu : X.A.units + 64 < cLine) : OpR X (compareOp .NotEq) (rEqT X.K true) := by
  intro pins s σ H x y v u Q I rx ry h
  obtain ⟨t, t', h1, h2, hd, q⟩ := h
  exact (tr_cmps I 8 hd h1 h2 rx ry (by omega)).ne _ _ _ _ ⟨.bl _, H, I, rfl, q⟩
open Classical in
def rInT (K : PySem.W.Frag) (neg : Bool) : R2 := fun x y H Q => ∃ p xs ts u, y = .ref p ∧ SqL K H p xs ∧ TrsAt K H ts xs ∧ TrAt K H u x ∧ tdeps ts ≤ 8 ∧ Q (.bl (if neg then !(ts.any fun t => teq t u) else ts.any fun t => teq t u)) H
open Classical in
theorem in_any {pins : List (Addr × Obj)} {σ : St} {H : Hp} {s : Shared} (I : Inv X pins σ H s) {u : Tr} : ∀ {ts : List Tr} {xs : List V} {its : List Value}, tdeps ts ≤ 8 → TrsAt X.K H ts xs → Vals xs its →
    its.any (fun y => decide (∃ t x, RelV x y ∧ TrAt X.K H t x ∧ teq t u = true)) = ts.any fun t => teq t u
  | [], xs, its, _, h, r => by rw [TrsAt] at h; subst h; cases r; rfl
  | t :: ts, xs, its, hd, h, r => by
    rw [TrsAt] at h
    obtain ⟨y, ys, rfl, hy, h⟩ := h
    cases r with
    | cons r1 r2 =>
      rw [tdeps] at hd
      rw [List.any_cons, List.any_cons, in_any I (by omega) h r2]
      congr 1
      rw [Bool.eq_iff_iff, decide_eq_true_iff]
      constructor
      · rintro ⟨t', x', r', h', e⟩
        rw [r1.inj r'] at hy
        rw [tr_inj I 8 (by omega) hy h']; exact e
      · intro e
        exact ⟨t, y, r1, hy, e⟩
open Classical in
theorem in_core {pins : List (Addr × Obj)} {σ : St} {H : Hp} {s : Shared} (I : Inv X pins σ H s) (hu : X.A.units + 64 < cLine) {u : Tr} {x : V} {v : Value} (hx : TrAt X.K H u x) (rx : RelV x v) {ts : List Tr} {xs : List V} {its : List Value} (hd : tdeps ts ≤ 8) (h : TrsAt X.K H ts xs) (r : Vals xs its) :
    ∀ y, y ∈ its.toArray → SeqAt.EqAt X.A.in1 s y v (decide (∃ t x, RelV x y ∧ TrAt X.K H t x ∧ teq t u = true)) := by
  intro y hy
  have hy' : y ∈ its := by simpa using hy
  obtain ⟨j, hj, e⟩ := List.getElem_of_mem hy'
  have l1 := h.length
  have m1 := r.length
  obtain ⟨t, et⟩ : ∃ t, ts[j]? = some t := ⟨_, List.getElem?_eq_getElem (by omega)⟩
  obtain ⟨z, ez, hz⟩ := h.get et
  obtain ⟨w, ew, rw'⟩ := r.get ez
  have e' : y = w := by
    rw [List.getElem?_eq_getElem hj] at ew
    exact e.symm.trans (Option.some.inj ew)
  subst e'
  have hd' : tdep t ≤ 8 := Nat.le_trans (tdep_mem (List.mem_of_getElem? et)) hd
  have q := (tr_cmps I 8 (A := X.A.in1) hd' hz hx rw' rx (by rw [units_in1]; omega)).eq
  have e2 : decide (∃ t x, RelV x y ∧ TrAt X.K H t x ∧ teq t u = true) = teq t u := by
    rw [Bool.eq_iff_iff, decide_eq_true_iff]
    constructor
    · rintro ⟨t', x', r', h', e3⟩
      rw [rw'.inj r'] at hz
      rw [tr_inj I 8 hd' hz h']; exact e3
    · intro e3
      exact ⟨t, z, rw', hz, e3⟩
  rw [e2]
  exact q
open Classical in
theorem op_notInT (hu : X.A.units + 64 < cLine) : OpR X (compareOp .NotIn) (rInT X.K true) := by
  intro pins s σ H x y v u Q I rx ry h
  obtain ⟨p, xs, ts, t, rfl, hq, hts, ht, hd, q⟩ := h
  cases ry
  obtain ⟨its, r, pl, hz⟩ := I.list hq
  refine SeqAt.notIn_listAt _ pl.isList (in_core I hu ht rx hd hts r) ⟨.bl _, H, I, rfl, ?_⟩
  simp only [List.any_toArray]
  rw [in_any I hd hts r]
  exact q
end
end L2
set_option Elab.async false
set_option linter.all false
set_option maxRecDepth 100000
namespace L2
open PySem PySem.Spec PyProof.Rows
theorem kit_ty {K : PySem.W.Frag} {T U : String} {b : Bool} (h1 : PySem.W.kitMeta U = true) (h2 : (fastBuiltinMro T).map (·.contains (Value.type U)) = some b) (hb : T = U → b = true) : PySem.W.kitOne K (.type T) (.type U) = some b := by
  unfold PySem.W.kitOne
  by_cases e : T = U
  · subst e
    rw [if_pos (by simp), hb rfl]
  · rw [if_neg (by simpa using e)]
    show (if PySem.W.kitMeta U = true then PySem.W.subIn K (.type T) (.type U) else none) = some b
    rw [if_pos h1]
    exact h2
section
variable {K : PySem.W.Frag}
theorem kit_int_int : PySem.W.kitOne K (.type "int") (.type "int") = some true := kit_ty (by decide +kernel) (by decide +kernel) (fun _ => rfl)
theorem kit_int_bool : PySem.W.kitOne K (.type "int") (.type "bool") = some false := kit_ty (by decide +kernel) (by decide +kernel) (fun e => absurd e (by decide))
theorem kit_list_list : PySem.W.kitOne K (.type "list") (.type "list") = some true := kit_ty (by decide +kernel) (by decide +kernel) (fun _ => rfl)
theorem kit_tuple_tuple : PySem.W.kitOne K (.type "tuple") (.type "tuple") = some true := kit_ty (by decide +kernel) (by decide +kernel) (fun _ => rfl)
end
section
variable {X : Cx}
def rIsi (K : PySem.W.Frag) : List V → Hp → VK → Prop := fun xs H Q => ∃ x T t b, xs = [x, .ty T] ∧ TyOf K H x t ∧ PySem.W.kitOne K t (.type T) = some b ∧ Q (.bl b) H
theorem call_isi : CallR X (.builtin "isinstance") (rIsi X.K) := by
  intro pins s σ H xs us Q I r h
  obtain ⟨x, T, t, b, rfl, ty, e, q⟩ := h
  obtain ⟨u, v, rfl, rx, rt⟩ := vals2 r
  cases rt
  exact isinst_ok I rx ty e fun tk => ⟨.bl b, H, I.tok tk, rfl, q⟩
def CDivB (i j : Int) : Prop := 0 < j ∧ j < 2 ^ 200
theorem op_fdivB : OpR X (binaryOp .FloorDiv) (rI CDivB fun i j => .int (i / j)) := opI fun i j _ _ _ _ _ hc q => by
  have h1 : (0 : Int) < j := hc.1
  have h2 : j < 2 ^ 200 := hc.2
  refine floordiv_int (by omega) (by rw [Int.fdiv_eq_ediv_of_nonneg i (by omega)]; exact q) (.inl (PyProof.noPylong_of_log2 ?_))
  have h3 : j.natAbs < 2 ^ 200 := by omega
  have h4 : j.natAbs.log2 < 200 := (Nat.log2_lt (by omega)).mpr h3
  omega
def rIsB (neg : Bool) : R2 := fun x y H Q => ∃ a b, x = .bl a ∧ y = .bl b ∧ Q (.bl (if neg then !decide (a = b) else decide (a = b))) H
theorem truth_bools {P : Program} {w : World} {A : Around} {its : List Value} {bs : List Bool} (r : Vals (bs.map V.bl) its) : TruthOf P w A (fun i v => its.toArray[i]? = some v) (fun i => bs.getD i false) := by
  intro i v s Q E hP hQ
  have hl := r.length
  rw [List.length_map] at hl
  have e : its[i]? = some v := by simpa using hP
  have hi : i < its.length := (List.getElem?_eq_some_iff.mp e).1
  have e2 : (bs.map V.bl)[i]? = some (.bl (bs[i]'(by omega))) := by rw [List.getElem?_map, List.getElem?_eq_getElem (by omega)]; rfl
  obtain ⟨u, e3, r3⟩ := r.get e2
  rw [e] at e3
  cases e3
  cases r3
  have e4 : bs.getD i false = bs[i] := by rw [List.getD_eq_getElem?_getD, List.getElem?_eq_getElem (by omega)]; rfl
  exact wpAny_truthy_bool (e4 ▸ hQ)
theorem all_getD : ∀ bs : List Bool, (List.range bs.length).all (fun i => bs.getD i false) = bs.all id
  | [] => rfl
  | b :: bs => by
    rw [List.length_cons, List.range_succ_eq_map, List.all_cons, List.all_map, List.all_cons, ← all_getD bs]
    rfl
theorem any_getD : ∀ bs : List Bool, (List.range bs.length).any (fun i => bs.getD i false) = bs.any id
  | [] => rfl
  | b :: bs => by
    rw [List.length_cons, List.range_succ_eq_map, List.any_cons, List.any_map, List.any_cons, ← any_getD bs]
    rfl
def rAll (K : PySem.W.Frag) : List V → Hp → VK → Prop := fun xs H Q => ∃ (a : Addr) (bs : List Bool), xs = [.ref a] ∧ SqL K H a (bs.map V.bl) ∧ Q (.bl (bs.all id)) H
def rAny (K : PySem.W.Frag) : List V → Hp → VK → Prop := fun xs H Q => ∃ (a : Addr) (bs : List Bool), xs = [.ref a] ∧ SqL K H a (bs.map V.bl) ∧ Q (.bl (bs.any id)) H
theorem call_all (hc : X.calm = true) : CallR X (.builtin "all") (rAll X.K) := by
  intro pins s σ H xs us Q I r h
  obtain ⟨a, bs, rfl, hq, q⟩ := h
  obtain ⟨u, rfl, rx⟩ := vals1 r
  cases rx
  obtain ⟨its, rv, pl, hz⟩ := I.list hq
  have hl := rv.length
  rw [List.length_map] at hl
  obtain ⟨o, n, eo, _⟩ := id pl
  have hne : a ≠ s.heap.objs.size := Nat.ne_of_lt (Heap.lt_size eo)
  refine call_all_walk (wpAny_pyIter_list pl.isList ?_)
  refine ⟨_, _, _, _, _, _, _, rfl, Walks.list (A := X.A.in1) (show X.A.in1.handled = none from I.ok.hd hc) s.heap.objs.size a hne its.toArray, ⟨⟨_, Heap.get?_push_size _ rfl, rfl, rfl⟩, pl.isList.at fun o e => Heap.get?_push_of_some _ e⟩, truth_bools rv, fun h' tk hk => ?_⟩
  have I1 : Inv X pins σ H { s with heap := h', toks := tk } := I.kept fun b o e => hk b o (by have := Heap.lt_size e; simp; exact Nat.ne_of_lt this) (Heap.get?_push_of_some _ e)
  refine ⟨.bl _, H, I1, rfl, ?_⟩
  rw [List.size_toArray, ← hl, all_getD]
  exact q
theorem call_any (hc : X.calm = true) : CallR X (.builtin "any") (rAny X.K) := by
  intro pins s σ H xs us Q I r h
  obtain ⟨a, bs, rfl, hq, q⟩ := h
  obtain ⟨u, rfl, rx⟩ := vals1 r
  cases rx
  obtain ⟨its, rv, pl, hz⟩ := I.list hq
  have hl := rv.length
  rw [List.length_map] at hl
  obtain ⟨o, n, eo, _⟩ := id pl
  have hne : a ≠ s.heap.objs.size := Nat.ne_of_lt (Heap.lt_size eo)
  refine call_any_walk (wpAny_pyIter_list pl.isList ?_)
  refine ⟨_, _, _, _, _, _, _, rfl, Walks.list (A := X.A.in1) (show X.A.in1.handled = none from I.ok.hd hc) s.heap.objs.size a hne its.toArray, ⟨⟨_, Heap.get?_push_size _ rfl, rfl, rfl⟩, pl.isList.at fun o e => Heap.get?_push_of_some _ e⟩, truth_bools rv, fun h' tk hk => ?_⟩
  have I1 : Inv X pins σ H { s with heap := h', toks := tk } := I.kept fun b o e => hk b o (by have := Heap.lt_size e; simp; exact Nat.ne_of_lt this) (Heap.get?_push_of_some _ e)
  refine ⟨.bl _, H, I1, rfl, ?_⟩
  rw [List.size_toArray, ← hl, any_getD]
  exact q
def rRevS (K : PySem.W.Frag) (te : TE) : TE := fun σ H Q => te σ H fun x H1 => ∃ a xs, x = .ref a ∧ SqL K H1 a xs ∧ ∀ p, H1 p = none → Q (.ref p) (upd H1 p (.lst xs.reverse))
theorem pe_revSlice {e : Expr} {te : TE} {j : Nat} {p1 p2 p3 pos : Pos} (he : PE X e te) : PE X (.Subscript e (.Slice none none (some (.UnaryOp .USub (.Constant (.int 1) j p1) p2)) p3) pos) (rRevS X.K te) := by
  intro pins s σ H Q I h
  refine Subscript_ (thn (he pins s σ H _ I h) fun v s1 ⟨x, H1, I1, r1, q1⟩ => ?_)
  obtain ⟨a, xs, rfl, hx, q⟩ := q1
  cases r1
  refine wpAny_Slice ?_
  rw [evalPart_none]
  refine wpAny_pure (wpAny_pure ?_)
  rw [evalPart_some]
  refine thn (pe_un un_neg (pe_int (X := X)) pins s1 σ H1 (fun v H2 => v = .int (-1) ∧ H2 = H1) I1 ⟨1, rfl, rfl, rfl⟩) fun u s2 ⟨y, H2, I2, r2, e1, e2⟩ => ?_
  subst e1 e2
  obtain ⟨t, rfl⟩ := r2
  obtain ⟨its, r, ht, hz⟩ := I2.list hx
  have hlen := r.length
  have I3 : Inv X pins σ H2 { s2 with heap := s2.heap.push { cls := .type "slice", data := .fields #[.none, .none, .int (-1) t] } } := I2.kept (t' := s2.toks) fun b ob q => Heap.get?_push_of_some _ q
  obtain ⟨its', r', ht', hz'⟩ := I3.list hx
  have hlen' := r'.length
  show wpAny (model X.prog X.w) X.A (subscriptTail e (.Slice none none (some _) p3) (.ref a) (.ref s2.heap.objs.size)) (EP X pins σ Q) X.xe { s2 with heap := s2.heap.push { cls := .type "slice", data := .fields #[.none, .none, .int (-1) t] } }
  refine tail_any (ops := [.ref a, .ref s2.heap.objs.size]) ht'.isList.typeIs slot_list_getitem.lookup ?_ (by with_unfolding_all rfl)
  refine wpAny_getItem_list_slice ht'.isList (Heap.IsSliceOf.new ..) .none .none (.int (-1) t) (by simp) ?_ (by rw [List.size_toArray] <;> omega)
  rw [PySem.W.krv_pick]
  refine ⟨.ref _, _, I3.laid (t' := s2.toks) (o := .lst xs.reverse) (fun b ob q => Heap.get?_push_of_some _ q) (Nat.le_refl _) ?_, rfl, q _ (I3.hok.fresh (Nat.le_refl _))⟩
  exact ⟨by rw [List.length_reverse]; exact hz, _, 0, r'.reverse, Heap.get?_push_size _ rfl⟩
theorem nolen_ri : typeLookup (.type "list_reverseiterator") "__len__" = pure none := by rw [typeLookup_type, builtinLookup_eq_fast]; kernel_rfl
theorem hint_ri : typeLookup (.type "list_reverseiterator") "__length_hint__" = pure (some (.builtin "list_reverseiterator.__length_hint__")) := by rw [typeLookup_type, builtinLookup_eq_fast]; kernel_rfl
section
variable {prog : Program} {w : World} {A : Around} {E : Value → Shared → Prop} {s : Shared}
theorem extend_rev {R : Result → Shared → Prop} (hh : A.handled = none) {I l : Addr} {items : Array Value} (hit : s.heap.IsRevIter I l ((items.size : Int) - 1)) (hL : s.heap.IsList l items) (S : Addr) (res : Value) (c₀ : Nat) (hS : s.heap.get? S = some { cls := .type "list", data := .seq #[] c₀ })
    (hSl : S ≠ l) (hR : ∀ s' acc' c', Moved [S, I] (fun a b => b = a) s s' → s'.heap.get? S = some { cls := .type "list", dict := none, data := .seq acc' c', slots := #[] } →
      ItemsOf (fun i v => items[items.size - 1 - i]? = some v) acc' items.size → R (.ok (.ret res)) s') (hn : items.size ≤ sizeLine) :
    wpAny (model prog w) A.in1 (Builtin.List.listExtendWith (.ref S) (.ref I) res)
      (fun fin s' => match fin with | .done f => R (.ok f) s' | .again c' => c'.quiet = true ∧ codeAny (model prog w) A c' R s') (fun e s' => R (.error e) s') s := by
  obtain ⟨oi, hoi, hci, hdi⟩ := id hit
  obtain ⟨ol, hol, hcl, nl, hdl⟩ := id hL
  have hSI : S ≠ I := by
    rintro rfl
    rw [hS] at hoi; cases hoi; exact absurd (show Value.type "list" = Value.type "list_reverseiterator" from hci) (by decide)
  have hne : l ≠ I := by
    rintro rfl
    rw [hol] at hoi; cases hoi; rw [hcl] at hci; exact absurd hci (by decide)
  have hSf : S ∉ [I, l] := fun hm => by
    rcases List.mem_cons.mp hm with e | hm
    · exact hSI e
    · exact hSl (List.mem_singleton.mp hm)
  unfold Builtin.List.listExtendWith
  refine wpAny_bind (wpAny_typeOf (T := "list_reverseiterator") hit.typeIs ?_)
  have h1 : Builtin.List.listSameRef (.ref S) (.ref I) = false := by simp [Builtin.List.listSameRef, hSI]
  have h2 : (Value.type "list_reverseiterator" == Value.type "list") = false := by decide
  have h3 : (Value.type "list_reverseiterator" == Value.type "tuple") = false := by decide
  simp only [h1, h2, h3, Bool.or_false, Bool.false_eq_true, if_false]
  refine wpAny_bind (wpAny_pyIter_revIter hit ?_)
  refine wpAny_bind (wpAny_holding ?_)
  unfold Builtin.List.listLengthHint
  refine wpAny_bind (wpAny_specialOf hit.typeIs nolen_ri ?_)
  show wpAny _ A.in1 (specialOf (Value.ref I) (Str.ofString "__length_hint__") >>= _) _ _ _
  refine wpAny_bind (wpAny_specialOf hit.typeIs hint_ri ?_)
  generalize hid : ("list_reverseiterator.__length_hint__" : String) = id0
  wp_delta
  rw [show splitId id0 = some ("list_reverseiterator", "__length_hint__") from by subst hid; decide +kernel]
  subst hid
  refine wpAny_bind (wpAny_isInstance (b := true) hit.typeIs (by rw [isSubtype_type]; kernel_rfl) ?_)
  refine wpAny_pure ?_
  rw [if_neg (by decide)]
  have W := Walks.listRev (prog := prog) (w := w) (A := A.in1) hh I l hne items
  refine wpAny_pure ⟨plainId_quiet F.plain_extend_loop _, codeAny_extend_loopS W.toS hn _ hSf _ items.size 0 _ _ _ rfl (Nat.zero_le _) ⟨Nat.zero_le _, by simpa using hit, hL⟩ hS (ItemsOf.nil _) fun s' acc' c' hm hS' hacc => ?_⟩
  exact hR s' acc' c' hm hS' hacc
theorem init_rev {R : Result → Shared → Prop} (hh : A.handled = none) {I l : Addr} {items : Array Value} (hit : s.heap.IsRevIter I l ((items.size : Int) - 1)) (hL : s.heap.IsList l items) (S : Addr) (hS : s.heap.get? S = some { cls := .type "list", data := .seq #[] }) (hSl : S ≠ l) (hSI : S ≠ I)
    (hR : ∀ s' acc' c', s'.gens = s.gens → s'.os = s.os → (∀ b o, b ≠ S → b ≠ I → s.heap.get? b = some o → s'.heap.get? b = some o) → s'.heap.get? S = some { cls := .type "list", dict := none, data := .seq acc' c', slots := #[] } →
      ItemsOf (fun i v => items[items.size - 1 - i]? = some v) acc' items.size → R (.ok (.ret .none)) s') (hn : items.size ≤ sizeLine) :
    wpAny (model prog w) A.in1 (Builtin.«list.__init__» ⟨[.ref S, .ref I], []⟩)
      (fun fin s' => match fin with | .done f => R (.ok f) s' | .again c' => c'.quiet = true ∧ codeAny (model prog w) A c' R s') (fun e s' => R (.error e) s') s := by
  show wpAny _ _ (do let old ← Builtin.List.listItems (.ref S); Builtin.List.listUpdate (.ref S) (fun _ => #[]); letGo old.toList.reverse; Builtin.List.listExtendWith (.ref S) (.ref I) .none) _ _ s
  refine wpAny_bind ?_
  unfold Builtin.List.listItems
  refine wpAny_bind (wpAny_seqItems hS rfl (wpAny_pure ?_))
  show wpAny _ _ (updateSeq S (fun _ => #[]) >>= fun _ => letGo (#[] : Array Value).toList.reverse >>= fun _ => Builtin.List.listExtendWith (.ref S) (.ref I) .none) _ _ s
  refine wpAny_bind (wpAny_updateSeq hS rfl ?_)
  have hS₂ := Heap.get?_update_self (Obj.mapSeq (fun _ => (#[] : Array Value))) hS rfl
  have oth : ∀ b o, b ≠ S → s.heap.get? b = some o → (s.heap.update S (Obj.mapSeq (fun _ => (#[] : Array Value)))).get? b = some o :=
    fun b o hb e => (Heap.get?_update_other _ _ (Ne.symm hb)).trans e
  refine wpAny_bind (wpAny_letGo ?_)
  refine extend_rev (hn := hn) hh (hit.at fun o e => oth I o (Ne.symm hSI) e) (hL.at fun o e => oth l o (Ne.symm hSl) e) S .none _ hS₂ hSl fun s' acc' c' hm hS' hacc => ?_
  refine hR s' acc' c' hm.gens hm.os (fun b o hb hi e => hm.heap b o (fun z => ?_) (oth b o hb e)) hS' hacc
  rcases List.mem_cons.mp z with e' | z
  · exact hb e'
  · exact hi (List.mem_singleton.mp z)
theorem call_list_revIter {Q : Value → Shared → Prop} (hh : A.handled = none) {I l : Addr} {items : Array Value} (hit : s.heap.IsRevIter I l ((items.size : Int) - 1)) (hL : s.heap.IsList l items)
    (hQ : ∀ s' acc' c', s'.gens = s.gens → s'.os = s.os → (∀ b o, b ≠ I → s.heap.get? b = some o → s'.heap.get? b = some o) →
      s'.heap.get? s.heap.objs.size = some { cls := .type "list", dict := none, data := .seq acc' c', slots := #[] } → ItemsOf (fun i v => items[items.size - 1 - i]? = some v) acc' items.size → Q (.ref s.heap.objs.size) s') (hn : items.size ≤ sizeLine) :
    wpAny (model prog w) A (call (.type "list") [.ref I]) Q E s := by
  refine callType_codes (Q₁ := fun obj s₁ => obj = .ref s.heap.objs.size ∧ s₁ = { s with heap := s.heap.push { cls := .type "list", data := .seq #[] } }) F.called_list (F.typeCall_list_1 _) F.entry_list_init
    (code_list_new _ ⟨rfl, rfl⟩) fun obj s₁ h₁ => ?_
  obtain ⟨rfl, rfl⟩ := h₁
  have hS : (s.heap.push { cls := .type "list", data := .seq #[] }).get? s.heap.objs.size = some { cls := .type "list", data := .seq #[] } := Heap.get?_push_size _ rfl
  obtain ⟨oi, hoi, _⟩ := id hit
  obtain ⟨ol, hol, _⟩ := id hL
  refine ⟨⟨_, hS, rfl⟩, F.args_list_init_2 _ _, init_rev (A := A.in1) (hn := hn) hh (hit.at fun o e => Heap.get?_push_of_some _ e) (hL.at fun o e => Heap.get?_push_of_some _ e) _ hS (Nat.ne_of_gt (Heap.lt_size hol)) (Nat.ne_of_gt (Heap.lt_size hoi)) fun s' acc' c' hg ho hk hS' hacc => ?_⟩
  exact ⟨rfl, hQ s' acc' c' hg ho (fun b o hI e => hk b o (Nat.ne_of_lt (Heap.lt_size e)) hI (Heap.get?_push_of_some _ e)) hS' hacc⟩
end
theorem rev_items {items acc : Array Value} (h : ItemsOf (fun i v => items[items.size - 1 - i]? = some v) acc items.size) : acc = items.toList.reverse.toArray := by
  apply Array.ext_getElem?
  intro i
  by_cases hi : i < items.size
  · have e : acc[i]? = some (acc[i]'(by rw [h.1]; exact hi)) := Array.getElem?_eq_getElem _
    have q := h.2 i _ e
    rw [e, ← q]
    simp [List.getElem?_reverse, hi]
  · rw [Array.getElem?_eq_none (by rw [h.1]; omega), Array.getElem?_eq_none (by simp; omega)]
def tListRev (K : PySem.W.Frag) (te : TE) : TE := fun σ H Q => te σ H fun x H1 => ∃ (l : Addr) (ys : List V), x = .ref l ∧ SqL K H1 l ys ∧ ∀ q, H1 q = none → Q (.ref q) (upd H1 q (.lst ys.reverse))
theorem pe_listRev {e : Expr} {te : TE} {p1 p2 pos1 pos2 : Pos} (hc : X.calm = true) (hg1 : Gl X "list") (hm1 : X.mg "list" = none) (hg2 : Gl X "reversed") (hm2 : X.mg "reversed" = none) (he : PE X e te)
    (hs : starEach [e] X.env = [(false, eval e X.env)] := by rfl) (hs2 : starEach [.Call (.Name "reversed" p2) [e] [] pos2] X.env = [(false, eval (.Call (.Name "reversed" p2) [e] [] pos2) X.env)] := by rfl) :
    PE X (.Call (.Name "list" p1) [.Call (.Name "reversed" p2) [e] [] pos2] [] pos1) (tListRev X.K te) := by
  intro pins s σ H Q I h
  refine wpAny_Call_Name_kw (ld_blt I hg1 hm1 boot_list ?_)
  refine PyProof.Rows.callWith_type1 ?_ hs2 rfl
  rw [hs2]
  show wpAny _ _ (spliced ((false, eval (.Call (.Name "reversed" p2) [e] [] pos2) X.env) :: backTo pos1 [])) _ _ s
  refine Calls.spliced_cons ?_
  refine wpAny_Call_Name_kw (ld_blt I hg2 hm2 boot_reversed ?_)
  refine PyProof.Rows.callWith_type1 ?_ hs rfl
  rw [hs]
  show wpAny _ _ (spliced ((false, eval e X.env) :: backTo pos2 [])) _ _ s
  refine Calls.spliced_cons (thn (he pins s σ H _ I h) fun v s1 ⟨x, H1, I1, r1, q1⟩ => Calls.spliced_nil ?_)
  obtain ⟨l, ys, rfl, hq, q⟩ := q1
  cases r1
  obtain ⟨its, rv, pl, hz⟩ := I1.list hq
  have hl := rv.length
  refine call_reversed_list pl.isList (Calls.spliced_nil ?_)
  have hsz : (its.toArray.size : Int) = (ys.length : Int) := by rw [List.size_toArray, hl]
  refine call_list_revIter (s := { s1 with heap := s1.heap.push (revObj l ((its.toArray.size : Int) - 1)) }) (I1.ok.hd hc) (I := s1.heap.objs.size) (l := l) (items := its.toArray) ⟨_, Heap.get?_push_size _ rfl, rfl, rfl⟩ (pl.isList.at fun o e => Heap.get?_push_of_some _ e) (fun s' acc c hgn ho hk hS hacc => ?_) (by rw [List.size_toArray, ← hl]; exact hz)
  have e1 : (s1.heap.push (revObj l ((its.toArray.size : Int) - 1))).objs.size = s1.heap.objs.size + 1 := Heap.size_push _ _
  rw [show ({ s1 with heap := s1.heap.push (revObj l ((its.toArray.size : Int) - 1)) } : Shared).heap.objs.size = s1.heap.objs.size + 1 from e1] at hS ⊢
  have kept : ∀ b o, s1.heap.get? b = some o → s'.heap.get? b = some o := fun b o e => hk b o (Nat.ne_of_lt (Heap.lt_size e)) (Heap.get?_push_of_some _ e)
  have hokL := I1.laid (a := s1.heap.objs.size + 1) (o := .lst ys.reverse) (h' := s'.heap) (t' := s'.toks) kept (Nat.le_succ _) ⟨by rw [List.length_reverse]; exact hz, its.reverse, c, rv.reverse, by rw [hS, rev_items hacc]⟩
  have I2 : Inv X pins σ (upd H1 (s1.heap.objs.size + 1) (.lst ys.reverse)) s' := by
    refine I1.call' (ch := []) (by rw [ho]) ?_ hokL.hok (by rw [hgn]; exact I1.bare) fun b z => absurd z (by simp)
    exact Un.laid kept (Nat.le_succ _) (I1.hok.fresh (Nat.le_succ _))
  exact ⟨.ref _, _, I2, rfl, q _ (I1.hok.fresh (Nat.le_succ _))⟩
end
section
variable {X : Cx} (K : PySem.W.Frag)
theorem k_isi (e : X.K = K := by rfl) : CallR X (.builtin "isinstance") (rIsi K) := by subst e; exact call_isi
theorem k_len (e : X.K = K := by rfl) : CallR X (.builtin "len") (fun xs H Q => ∃ p ys, xs = [.ref p] ∧ (SqL K H p ys ∨ SqT K H p ys) ∧ Q (.int ys.length) H) := by subst e; exact call_len_seq
theorem k_ixL (e : X.K = K := by rfl) : IxR X (rIxL K) := by subst e; exact ix_list
theorem k_ixT (e : X.K = K := by rfl) : IxR X (rIxT K) := by subst e; exact ix_tup
theorem k_slL (e : X.K = K := by rfl) : SlR X (rSlL K) := by subst e; exact sl_list
theorem k_all (hc : X.calm = true) (e : X.K = K := by rfl) : CallR X (.builtin "all") (rAll K) := by subst e; exact call_all hc
theorem k_any (hc : X.calm = true) (e : X.K = K := by rfl) : CallR X (.builtin "any") (rAny K) := by subst e; exact call_any hc
theorem k_listOf (e : X.K = K := by rfl) : CallR X (.type "list") (fun xs H Q => ∃ p ys, xs = [.ref p] ∧ (SqL K H p ys ∨ SqT K H p ys) ∧ ∀ l, H l = none → Q (.ref l) (upd H l (.lst ys))) := by subst e; exact call_list_of
theorem k_eqT (hu : X.A.units + 64 < cLine) (e : X.K = K := by rfl) : OpR X (compareOp .Eq) (rEqT K false) := by subst e; exact op_eqT hu
theorem k_neT (hu : X.A.units + 64 < cLine) (e : X.K = K := by rfl) : OpR X (compareOp .NotEq) (rEqT K true) := by subst e; exact op_neT hu
theorem k_notInT (hu : X.A.units + 64 < cLine) (e : X.K = K := by rfl) : OpR X (compareOp .NotIn) (rInT K true) := by subst e; exact op_notInT hu
theorem k_pi {tg l : Expr} {tl : TE} (hl : PE X l tl) (e : X.K = K := by rfl) : PI X tg l (iList K tl) := by subst e; exact pi_list hl
end
structure Df (K : PySem.W.Frag) (mg : Str → Option Value) (x : Str) (st : Stmt) (ps : List Str) (f : Addr) (fd : FuncData) : Prop where
  fn : Fun K x x st f fd
  b : Binds K fd ps []
  g : mg x = some (.ref f)
theorem pcall {X : Cx} {x : Str} {st : Stmt} {ps : List Str} {f : Addr} {fd : FuncData} {k : Nat} {sp : Sp} {e : Expr} {es : List Expr} {t : TA} {p pos : Pos} (D : Df X.K X.mg x st ps f fd) (G : FnOk X.prog X.w X.K X.mg X.base CX0 k f fd ps sp) (hr : Room k X.A) (ha : PA X (e :: es) t) (hg : Gl X x := by rfl)
    (hdb : (x == ("__debug__" : Str)) = false := by decide) (he : starEach (e :: es) X.env = (false, eval e X.env) :: starEach es X.env := by rfl) (hpl : (backTo pos (starEach es X.env)).any (·.1) = false := by rfl) : PE X (.Call (.Name x p) (e :: es) [] pos) (tCall sp [] E0 t) :=
  pe_call G hr hg D.g D.fn.kp D.b .nil pass0 ha hdb he hpl
theorem df_mk {K : PySem.W.Frag} {h : Heap} {mg : Str → Option Value} {x : Str} {st : Stmt} {ps : List Str} {f : Addr} {oc : Value} {od an : Option Addr} {osl : Array (Option Value)} {kV doc pm cdv ct : Value} (X : K.In h) (G : h.Ns mainGlobals mg)
    (a : PySem.W.nsIn K mainGlobals x = some (some (.ref f))) (l : K.lookup f = some ⟨oc, od, .func (PySem.W.fnOf x x (defArgs st) (defBody st) (defScope st) .none kV doc pm an cdv ct), osl⟩) (c : PySem.W.codeIn K cdv x = true) (k : PySem.W.keepIn K (.ref f) = true)
    (hb : ∀ (kV doc pm : Value) (an : Option Addr) (cdv ct : Value) (us : List Value), us.length = ps.length → bindArgs (PySem.W.fnOf x x (defArgs st) (defBody st) (defScope st) .none kV doc pm an cdv ct) ⟨us, []⟩ = pure (ps.zip us)) :
    Df K mg x st ps f (PySem.W.fnOf x x (defArgs st) (defBody st) (defScope st) .none kV doc pm an cdv ct) :=
  ⟨fun_mk l c k, (fun_mk (st := st) l c k).binds hb, PySem.W.mg_of X G a⟩
structure Blt (mg : Str → Option Value) : Prop where
  n_isinstance : mg "isinstance" = none
  n_int : mg "int" = none
  n_bool : mg "bool" = none
  n_list : mg "list" = none
  n_tuple : mg "tuple" = none
  n_reversed : mg "reversed" = none
  n_len : mg "len" = none
  n_max : mg "max" = none
  n_min : mg "min" = none
  n_range : mg "range" = none
  n_all : mg "all" = none
  n_any : mg "any" = none
  n_sorted : mg "sorted" = none
  n_enumerate : mg "enumerate" = none
  n_repr : mg "repr" = none
theorem HUof {A : Around} {k : Nat} (hr : Room k A) : A.units + 64 < cLine := hr.units
def aw (fp : List Addr) (H : Hp) : Hp := fun b => if b ∈ fp then none else H b
theorem aw_in {fp : List Addr} {H : Hp} {b : Addr} (h : b ∈ fp) : aw fp H b = none := by unfold aw; rw [if_pos h]
theorem aw_out {fp : List Addr} {H : Hp} {b : Addr} (h : b ∉ fp) : aw fp H b = H b := by unfold aw; rw [if_neg h]
theorem aw_same (fp : List Addr) (H : Hp) : Same (aw fp H) H := fun b o e => by
  by_cases h : b ∈ fp
  · rw [aw_in h] at e; cases e
  · rw [aw_out h] at e; exact e
theorem Same.aw {H H' : Hp} (h : Same H H') (fp : List Addr) : Same (aw fp H) (aw fp H') := fun b o e => by
  by_cases hb : b ∈ fp
  · rw [aw_in hb] at e; cases e
  · rw [aw_out hb] at e ⊢; exact h b o e
theorem same_upd {H : Hp} {p : Addr} {o : HO} (h : H p = none) : Same H (upd H p o) := fun b u e => by rw [upd_ne (ne_of_none e h)]; exact e
end L2
set_option Elab.async false
set_option linter.all false
set_option maxRecDepth 100000
namespace HT
open PySem PyProof.Rows
section
open PySem.SeqAt
open PySem.AutoSeq1 (wpAny_loadPart')
open PySem.MeetsSeq PySem.MeetsSeq2 PySem.MeetsSeq3 PySem.SeqRoads2
theorem ints_at {vs : List Value} {ns : List Int} (h : IntsAre vs ns) {i : Nat} (hi : i < ns.length) : ∃ t, vs[i]? = some (.int (ns[i]) t) := by
  induction h generalizing i with
  | nil => simp at hi
  | cons a t h ih =>
    cases i with
    | zero => exact ⟨t, rfl⟩
    | succ i =>
      obtain ⟨t', e⟩ := ih (i := i) (by simpa using hi)
      exact ⟨t', by simpa using e⟩
theorem lt_loop (l b : Addr) (items items2 : Array Value) (n n2 : Nat) (dd dd2 : Option Addr) (sl sl2 : Array (Option Value)) (ns ms : List Int) (hi : IntsAre items.toList ns) (hj : IntsAre items2.toList ms) (k : Nat) :
    ∀ i : Nat, ns.length - i = k → i ≤ ns.length → i ≤ ms.length → Meets (Builtin.«list.__eq__.loop» ⟨[.ref l, .ref b, rawInt i, rawInt 0], []⟩)
      (fun _ R s => s.heap.get? l = some { cls := .type "list", dict := dd, data := .seq items n, slots := sl } ∧ s.heap.get? b = some { cls := .type "list", dict := dd2, data := .seq items2 n2, slots := sl2 } ∧
        R (.ok (.ret (.bool (lexLt (ns.drop i) (ms.drop i))))) s) := by
  have z1 : items.size = ns.length := by rw [← hi.length]; simp
  have z2 : items2.size = ms.length := by rw [← hj.length]; simp
  induction k with
  | zero =>
    intro i hk h1 h2 prog w A R s h
    obtain ⟨hp, g, d, tk, os⟩ := s; obtain ⟨hl, hb, h⟩ := h
    have hin : i = ns.length := by omega
    wp_walk using wpAny_loadPart' hl, wpAny_loadPart' hb
    have hi1 : items[((i : Nat) : Int).toNat]? = none := by simp; omega
    have hd : ns.drop i = [] := by simp; omega
    rw [hd] at h
    rw [hi1]
    wp_walk using wpAny_loadPart' hl, wpAny_loadPart' hb
    show R (.ok (.ret (.bool (decide (items.size < items2.size))))) _
    have e : lexLt [] (ms.drop i) = decide (items.size < items2.size) := by
      cases q : ms.drop i with
      | nil =>
        rw [lexLt_nil_nil]
        have : ms.length ≤ i := by simpa using List.drop_eq_nil_iff.mp q
        exact (decide_eq_false (by omega)).symm
      | cons x y =>
        rw [lexLt_nil_cons]
        have : i < ms.length := by
          by_cases z : i < ms.length
          · exact z
          · rw [List.drop_of_length_le (by omega)] at q; cases q
        exact (decide_eq_true (by omega)).symm
    rw [← e]
    exact h
  | succ k ih =>
    intro i hk h1 h2 prog w A R s h
    obtain ⟨hp, g, d, tk, os⟩ := s; obtain ⟨hl, hb, h⟩ := h
    have hlt : i < ns.length := by omega
    obtain ⟨t, et⟩ := ints_at hi hlt
    have hi1 : items[((i : Nat) : Int).toNat]? = some (.int (ns[i]) t) := by simpa using et
    by_cases hm : i < ms.length
    · obtain ⟨u, eu⟩ := ints_at hj hm
      have hi2 : items2[((i : Nat) : Int).toNat]? = some (.int (ms[i]) u) := by simpa using eu
      wp_walk using wpAny_loadPart' hl, wpAny_loadPart' hb
      rw [List.drop_eq_getElem_cons hlt, List.drop_eq_getElem_cons hm, lexLt_cons] at h
      have hc : ((i : Int) + 1) = ((i + 1 : Nat) : Int) := by push_cast; rfl
      rw [hi1, hi2]
      obtain ⟨e, he, hiff⟩ := eqAt_int A.in1 ⟨hp, g, d, tk, os⟩ (ns[i]) t (ms[i]) u
      refine wpAny_bind (he prog w _ _ ?_)
      cases e with
      | true =>
        rw [if_pos (hiff.mp rfl)] at h
        wp_walk
        rw [hc]
        exact ⟨plainId_quiet plain_eq_loop _, codeAny_builtin entry_eq_loop (by
          rw [Around.under_plainId plain_eq_loop _]
          exact ih (i + 1) (by omega) (by omega) (by omega) prog w A R _ ⟨hl, hb, h⟩)⟩
      | false =>
        rw [if_neg (fun q => absurd (hiff.mpr q) Bool.false_ne_true)] at h
        have hri := rcLt_int A.in1 ⟨hp, g, d, tk, os⟩ (ns[i]) t (ms[i]) u prog w
        wp_walk using wpAny_loadPart' hl, wpAny_loadPart' hb
        rw [hi1, hi2]
        wp_walk using hri
        simpa using h
    · have hi2 : items2[((i : Nat) : Int).toNat]? = none := by simp; omega
      wp_walk using wpAny_loadPart' hl, wpAny_loadPart' hb
      rw [List.drop_eq_getElem_cons hlt, List.drop_of_length_le (show ms.length ≤ i by omega), lexLt_cons_nil] at h
      rw [hi1, hi2]
      wp_walk using wpAny_loadPart' hl, wpAny_loadPart' hb
      show R (.ok (.ret (.bool (decide (items.size < items2.size))))) _
      rw [decide_eq_false (by omega)]
      exact h
theorem list_lt_ints (l b : Addr) (items items2 : Array Value) (n n2 : Nat) (dd dd2 : Option Addr) (sl sl2 : Array (Option Value)) (ns ms : List Int) (hi : IntsAre items.toList ns) (hj : IntsAre items2.toList ms) :
    Meets (Builtin.«list.__lt__» ⟨[.ref l, .ref b], []⟩)
      (fun _ R s => s.heap.get? l = some { cls := .type "list", dict := dd, data := .seq items n, slots := sl } ∧ s.heap.get? b = some { cls := .type "list", dict := dd2, data := .seq items2 n2, slots := sl2 } ∧
        R (.ok (.ret (.bool (lexLt ns ms)))) s) := by
  intro prog w A R s h
  obtain ⟨hp, g, d, tk, os⟩ := s; obtain ⟨hl, hb, h⟩ := h
  have f3 := AutoSeq1.sub_list_list
  wp_walk using wpAny_loadPart' hl, wpAny_loadPart' hb
  exact ⟨plainId_quiet plain_eq_loop _, codeAny_builtin entry_eq_loop (by
    rw [Around.under_plainId plain_eq_loop _]
    exact lt_loop l b items items2 n n2 dd dd2 sl sl2 ns ms hi hj _ 0 rfl (Nat.zero_le _) (Nat.zero_le _) prog w A R _ ⟨hl, hb, by simpa using h⟩)⟩
end
section
variable {prog : Program} {w : World} {A : Around} {E : Value → Shared → Prop} {s : Shared}
theorem lt_listInts {l b : Addr} {items items2 : Array Value} {ns ms : List Int} {Q : Value → Shared → Prop} (hl : s.heap.IsList l items) (hb : s.heap.IsList b items2) (hi : IntsAre items.toList ns) (hj : IntsAre items2.toList ms)
    (hu : A.units < cLine) (h : Q (.bool (lexLt ns ms)) s) : wpAny (model prog w) A (richCompare .Lt (.ref l) (.ref b)) Q E s := by
  obtain ⟨⟨cls, dd, data, sl⟩, ho, hc, n, hd⟩ := id hl
  obtain ⟨⟨cls2, dd2, data2, sl2⟩, ho2, hc2, n2, hd2⟩ := id hb
  simp only at hc hd hc2 hd2
  subst hc hd hc2 hd2
  exact richCompare_meets_room (op := .Lt) ⟨_, ho, rfl⟩ ⟨_, ho2, rfl⟩ PySem.F.slot_list_lt PySem.F.entry_list_lt (PySem.F.args_list_lt_2 _ _) (list_lt_ints l b items items2 n n2 dd dd2 sl sl2 ns ms hi hj)
    ⟨ho, ho2, show Value.bool (lexLt ns ms) ≠ Value.notImplemented ∧ Q (.bool (lexLt ns ms)) s from ⟨(fun x => nomatch x), h⟩⟩ hu
end
end HT
namespace HT
open PySem PyProof.Rows PySem.W
def kin {α : Type} (n : Nat) : KasT α → Bool
  | .ret _ => true
  | .ask i j k => decide (i < n) && decide (j < n) && kin n (k true) && kin n (k false)
def tab (b : Nat → Nat → Bool) (i j : Nat) : Bool := if i < j then b i j else if j < i then !b j i else false
theorem lexLt_irrefl : ∀ a : List Int, lexLt a a = false
  | [] => rfl
  | x :: a => by rw [lexLt_cons, if_pos rfl, lexLt_irrefl a]
theorem lexLt_flip : ∀ a b : List Int, a ≠ b → lexLt b a = !lexLt a b
  | [], [], h => absurd rfl h
  | [], _ :: _, _ => rfl
  | _ :: _, [], _ => rfl
  | x :: a, y :: b, h => by
    rw [lexLt_cons, lexLt_cons]
    by_cases e : x = y
    · subst e
      rw [if_pos rfl, if_pos rfl]
      exact lexLt_flip a b fun z => h (by rw [z])
    · rw [if_neg e, if_neg (Ne.symm e), Bool.eq_iff_iff]
      simp
      omega
theorem lexLt_trans : ∀ a b c : List Int, lexLt a b = true → lexLt b c = true → lexLt a c = true
  | [], [], _, h, _ => by rw [lexLt_nil_nil] at h; cases h
  | [], _ :: _, [], _, h => by rw [lexLt_cons_nil] at h; cases h
  | [], _ :: _, _ :: _, _, _ => rfl
  | _ :: _, [], _, h, _ => by rw [lexLt_cons_nil] at h; cases h
  | _ :: _, _ :: _, [], _, h => by rw [lexLt_cons_nil] at h; cases h
  | x :: a, y :: b, z :: c, h1, h2 => by
    rw [lexLt_cons] at h1 h2 ⊢
    by_cases e1 : x = y
    · subst e1
      rw [if_pos rfl] at h1
      by_cases e2 : x = z
      · subst e2
        rw [if_pos rfl] at h2 ⊢
        exact lexLt_trans a b c h1 h2
      · rw [if_neg e2] at h2 ⊢; exact h2
    · rw [if_neg e1] at h1
      have h1' := of_decide_eq_true h1
      by_cases e2 : y = z
      · subst e2
        rw [if_neg e1]; exact h1
      · rw [if_neg e2] at h2
        have h2' := of_decide_eq_true h2
        rw [if_neg (show x ≠ z by omega)]
        exact decide_eq_true (by omega)
end HT
namespace L2
open PySem PySem.Spec PyProof.Rows
section
variable {X : Cx}
def rLtL (K : PySem.W.Frag) : R2 := fun x y H Q => ∃ (a b : Addr) (ns ms : List Int), x = .ref a ∧ y = .ref b ∧ SqL K H a (ns.map V.int) ∧ SqL K H b (ms.map V.int) ∧ Q (.bl (HT.lexLt ns ms)) H
theorem k_ltL (K : PySem.W.Frag) (hu : X.A.units + 64 < cLine) (e : X.K = K := by rfl) : OpR X (compareOp .Lt) (rLtL K) := by
  subst e
  intro pins s σ H x y v u Q I rx ry h
  obtain ⟨a, b, ns, ms, rfl, rfl, ha, hb, q⟩ := h
  cases rx
  cases ry
  obtain ⟨its, r1, p1, _⟩ := I.list ha
  obtain ⟨its2, r2, p2, _⟩ := I.list hb
  exact HT.lt_listInts p1.isList p2.isList (intsAre_of r1) (intsAre_of r2) (by omega) ⟨.bl (HT.lexLt ns ms), H, I, rfl, q⟩
end
end L2
set_option Elab.async false
set_option linter.all false
set_option maxRecDepth 100000
namespace HT
open PySem PyProof.Rows PySem.W
def KW {α : Type} (c : Nat → Nat → Bool) (n : Nat) : KasT α → (α → Prop) → Prop
  | .ret a, Q => Q a
  | .ask i j k, Q => i < n ∧ j < n ∧ KW c n (k (c i j)) Q
theorem KW.bind {α β : Type} {c : Nat → Nat → Bool} {n : Nat} {f : α → KasT β} {Q : β → Prop} : ∀ {t : KasT α}, KW c n t (fun a => KW c n (f a) Q) → KW c n (t.bind f) Q
  | .ret _, h => h
  | .ask _ _ k, h => ⟨h.1, h.2.1, KW.bind (t := k _) h.2.2⟩
theorem KW.mono {α : Type} {c : Nat → Nat → Bool} {n : Nat} {Q Q' : α → Prop} (hq : ∀ a, Q a → Q' a) : ∀ {t : KasT α}, KW c n t Q → KW c n t Q'
  | .ret a, h => hq a h
  | .ask _ _ k, h => ⟨h.1, h.2.1, KW.mono hq (t := k _) h.2.2⟩
theorem KW.wp {α : Type} {n : Nat} {c : Nat → Nat → Bool} {cmp : Nat → Nat → (Bool → Shared → Prop) → Shared → Prop} {s : Shared} {Q : α → Prop} (hc : ∀ i j C, i < n → j < n → C (c i j) s → cmp i j C s) :
    ∀ t : KasT α, KW c n t Q → t.kasWp cmp (fun a s' => s' = s ∧ Q a) s
  | .ret _, h => ⟨rfl, h⟩
  | .ask i j k, h => hc i j _ h.1 h.2.1 (KW.wp hc (k (c i j)) h.2.2)
structure Ord (c : Nat → Nat → Bool) (n : Nat) : Prop where
  tr : ∀ i j k, i < n → j < n → k < n → c i j = true → c j k = true → c i k = true
  tot : ∀ i j, i < n → j < n → i ≠ j → c i j = false → c j i = true
  asy : ∀ i j, i < n → j < n → c i j = true → c j i = false
structure Pm (n : Nat) (p : Array Nat) : Prop where
  sz : p.size = n
  pm : p.toList.Perm (List.range n)
theorem Pm.lt {n : Nat} {p : Array Nat} (h : Pm n p) (i : Nat) (hi : i < n) : p.getD i 0 < n := by
  have hs := h.sz
  have e : p.getD i 0 = p[i] := by simp [Array.getD, hs, hi]
  rw [e]
  exact List.mem_range.mp (h.pm.mem_iff.mp (by simp))
theorem Pm.ne {n : Nat} {p : Array Nat} (h : Pm n p) {i j : Nat} (hi : i < n) (hj : j < n) (hij : i ≠ j) : p.getD i 0 ≠ p.getD j 0 := by
  have hs := h.sz
  have e1 : p.getD i 0 = p.toList[i]'(by simp [hs, hi]) := by simp [Array.getD, hs, hi]
  have e2 : p.getD j 0 = p.toList[j]'(by simp [hs, hj]) := by simp [Array.getD, hs, hj]
  rw [e1, e2]
  have nd : p.toList.Nodup := h.pm.nodup_iff.mpr List.nodup_range
  intro z
  exact hij ((List.getElem_inj nd).mp z)
theorem Pm.of {n : Nat} {p q : Array Nat} (h : Pm n p) (z : q.Perm p) : Pm n q := ⟨by rw [z.size_eq]; exact h.sz, (Array.perm_iff_toList_perm.mp z).trans h.pm⟩
def Up (c : Nat → Nat → Bool) (p : Array Nat) (m : Nat) : Prop := ∀ i j, i < j → j < m → c (p.getD i 0) (p.getD j 0) = true
def Dn (c : Nat → Nat → Bool) (p : Array Nat) (m : Nat) : Prop := ∀ i j, i < j → j < m → c (p.getD j 0) (p.getD i 0) = true
section
variable {c : Nat → Nat → Bool} {n : Nat}
theorem asc_ok (O : Ord c n) {p : Array Nat} (hp : Pm n p) : ∀ (f m : Nat), 1 ≤ m → m + f ≤ n → Up c p m → KW c n (kas_asc p f m) (fun r => m ≤ r ∧ r ≤ m + f ∧ Up c p r ∧ (r < m + f → c (p.getD r 0) (p.getD (r - 1) 0) = true))
  | 0, m, _, _, u => ⟨Nat.le_refl _, Nat.le_refl _, u, fun z => absurd z (Nat.lt_irrefl _)⟩
  | f + 1, m, h1, h2, u => by
    refine ⟨hp.lt m (by omega), hp.lt (m - 1) (by omega), ?_⟩
    cases e : c (p.getD m 0) (p.getD (m - 1) 0) with
    | true => exact ⟨Nat.le_refl _, by omega, u, fun _ => e⟩
    | false =>
      have hs : c (p.getD (m - 1) 0) (p.getD m 0) = true := O.tot _ _ (hp.lt m (by omega)) (hp.lt (m - 1) (by omega)) (hp.ne (by omega) (by omega) (by omega)) e
      have u' : Up c p (m + 1) := fun i j hij hj => by
        by_cases hjm : j < m
        · exact u i j hij hjm
        · have ej : j = m := by omega
          subst ej
          by_cases hi : i = j - 1
          · rw [hi]; exact hs
          · exact O.tr _ _ _ (hp.lt i (by omega)) (hp.lt (j - 1) (by omega)) (hp.lt j (by omega)) (u i (j - 1) (by omega) (by omega)) hs
      refine KW.mono (fun r h => ?_) (asc_ok O hp f (m + 1) (by omega) (by omega) u')
      exact ⟨by omega, by omega, h.2.2.1, fun z => h.2.2.2 (by omega)⟩
theorem desc_ok (O : Ord c n) {p : Array Nat} (hp : Pm n p) : ∀ (f m : Nat), 1 ≤ m → m + f ≤ n → Dn c p m → KW c n (kas_desc f p m 0) (fun r => r.1 = p ∧ r.2.2 = 0 ∧ m ≤ r.2.1 ∧ r.2.1 ≤ m + f ∧ Dn c p r.2.1)
  | 0, m, _, _, u => ⟨rfl, rfl, Nat.le_refl _, Nat.le_refl _, u⟩
  | f + 1, m, h1, h2, u => by
    refine ⟨hp.lt m (by omega), hp.lt (m - 1) (by omega), ?_⟩
    cases e : c (p.getD m 0) (p.getD (m - 1) 0) with
    | true =>
      have u' : Dn c p (m + 1) := fun i j hij hj => by
        by_cases hjm : j < m
        · exact u i j hij hjm
        · have ej : j = m := by omega
          subst ej
          by_cases hi : i = j - 1
          · rw [hi]; exact e
          · exact O.tr _ _ _ (hp.lt j (by omega)) (hp.lt (j - 1) (by omega)) (hp.lt i (by omega)) e (u i (j - 1) (by omega) (by omega))
      refine KW.mono (fun r h => ?_) (desc_ok O hp f (m + 1) (by omega) (by omega) u')
      exact ⟨h.1, h.2.1, by omega, by omega, h.2.2.2.2⟩
    | false =>
      have hs : c (p.getD (m - 1) 0) (p.getD m 0) = true := O.tot _ _ (hp.lt m (by omega)) (hp.lt (m - 1) (by omega)) (hp.ne (by omega) (by omega) (by omega)) e
      refine ⟨hp.lt (m - 1) (by omega), hp.lt m (by omega), ?_⟩
      rw [hs]
      exact ⟨rfl, rfl, Nat.le_refl _, (show m ≤ m + (f + 1) by omega), u⟩
theorem rev_getD {p : Array Nat} {m : Nat} (hm : m ≤ p.size) (k : Nat) : (kas_rev p 0 m).getD k 0 = if k < m then p.getD (m - 1 - k) 0 else p.getD k 0 := by
  have q := getElem?_mirror_all (xs := p) (i := 0) hm k
  have e : ∀ (a : Array Nat) (j : Nat), a.getD j 0 = (a[j]?).getD 0 := fun a j => by simp [Array.getD_eq_getD_getElem?]
  unfold kas_rev
  rw [e, q]
  by_cases h : k < m
  · rw [if_pos ⟨Nat.zero_le _, h⟩, if_pos h, e, Nat.zero_add]
  · rw [if_neg (by omega), if_neg h, e]
theorem tail3_ok (O : Ord c n) {p : Array Nat} (hp : Pm n p) {m : Nat} (h1 : 1 ≤ m) (h2 : m ≤ n) (u : Dn c p m) : KW c n (kas_tail3 m n p) (fun r => 1 ≤ r.1 ∧ r.1 ≤ n ∧ Pm n r.2 ∧ Up c r.2 r.1) := by
  have hr : Pm n (kas_rev p 0 m) := hp.of (mirror_perm _ _ _ _)
  have hsz : m ≤ p.size := by rw [hp.sz]; exact h2
  have u' : Up c (kas_rev p 0 m) m := fun i j hij hj => by
    rw [rev_getD hsz, rev_getD hsz, if_pos (by omega), if_pos hj]
    exact u _ _ (by omega) (by omega)
  refine KW.bind (KW.mono (fun r h => ?_) (asc_ok O hr (n - m) m h1 (by omega) u'))
  exact ⟨by omega, by omega, hr, h.2.2.1⟩
theorem count_ok (O : Ord c n) {p : Array Nat} (hp : Pm n p) (h2 : 2 ≤ n) : KW c n (kas_count n p) (fun r => 1 ≤ r.1 ∧ r.1 ≤ n ∧ Pm n r.2 ∧ Up c r.2 r.1) := by
  refine KW.bind (KW.mono (fun r h => ?_) (asc_ok O hp (n - 1) 1 (Nat.le_refl _) (by omega) (fun i j hij hj => by omega)))
  obtain ⟨h1, h3, u, st⟩ := h
  by_cases e : r = n
  · subst e
    rw [if_pos (by simp)]
    exact ⟨h1, Nat.le_refl _, hp, u⟩
  · rw [if_neg (by simpa using e)]
    by_cases hr : r > 1
    · rw [if_pos hr]
      refine ⟨hp.lt 0 (by omega), hp.lt (r - 1) (by omega), ?_⟩
      rw [u 0 (r - 1) (by omega) (by omega)]
      exact ⟨h1, by omega, hp, u⟩
    · rw [if_neg hr]
      have er : r = 1 := by omega
      subst er
      have s1 := st (by omega)
      have d : Dn c p 2 := fun i j hij hj => by
        have ei : i = 0 := by omega
        have ej : j = 1 := by omega
        subst ei; subst ej
        exact s1
      refine KW.bind (KW.mono (fun r h => ?_) (desc_ok O hp (n - 2) 2 (by omega) (by omega) d))
      obtain ⟨a1, a2, a3, a4, a5⟩ := h
      obtain ⟨q, m, z⟩ := r
      simp only at a1 a2 a3 a4 a5
      subst a1; subst a2
      show KW c n (if 0 > 0 then _ else _) _
      rw [if_neg (Nat.lt_irrefl 0)]
      exact tail3_ok O hp (show 1 ≤ m by omega) (show m ≤ n by omega) a5
theorem place_ok (O : Ord c n) {p : Array Nat} (hp : Pm n p) {k : Nat} (hk : k < n) (u : Up c p k) : ∀ (f l r : Nat), l ≤ r → r ≤ k → r - l ≤ f → (∀ i, i < l → c (p.getD i 0) (p.getD k 0) = true) → (∀ i, r ≤ i → i < k → c (p.getD k 0) (p.getD i 0) = true) →
    KW c n (kas_place p k f l r) (fun l => l ≤ k ∧ (∀ i, i < l → c (p.getD i 0) (p.getD k 0) = true) ∧ (∀ i, l ≤ i → i < k → c (p.getD k 0) (p.getD i 0) = true))
  | 0, l, r, h1, h2, h3, lo, hi => ⟨by omega, lo, fun i a b => hi i (by omega) b⟩
  | f + 1, l, r, h1, h2, h3, lo, hi => by
    unfold kas_place
    by_cases hlr : l ≥ r
    · rw [if_pos hlr]
      exact ⟨by omega, lo, fun i a b => hi i (by omega) b⟩
    · rw [if_neg hlr]
      have hm : (l + r) / 2 < k := by omega
      refine ⟨hp.lt k hk, hp.lt _ (by omega), ?_⟩
      cases e : c (p.getD k 0) (p.getD ((l + r) / 2) 0) with
      | true =>
        dsimp only
        rw [if_pos rfl]
        refine place_ok O hp hk u f l ((l + r) / 2) (by omega) (by omega) (by omega) lo fun i a b => ?_
        by_cases ei : i = (l + r) / 2
        · rw [ei]; exact e
        · exact O.tr _ _ _ (hp.lt k hk) (hp.lt _ (by omega)) (hp.lt i (by omega)) e (u _ _ (by omega) b)
      | false =>
        dsimp only
        rw [if_neg Bool.false_ne_true]
        have hs : c (p.getD ((l + r) / 2) 0) (p.getD k 0) = true := O.tot _ _ (hp.lt k hk) (hp.lt _ (by omega)) (hp.ne hk (by omega) (by omega)) e
        refine place_ok O hp hk u f ((l + r) / 2 + 1) r (by omega) h2 (by omega) (fun i a => ?_) hi
        by_cases ei : i = (l + r) / 2
        · rw [ei]; exact hs
        · exact O.tr _ _ _ (hp.lt i (by omega)) (hp.lt _ (by omega)) (hp.lt k hk) (u _ _ (by omega) (by omega)) hs
theorem bub_getD {p : Array Nat} {k l : Nat} (hk : k < p.size) (hl : l ≤ k) (i : Nat) : (bubble p k (k - l)).getD i 0 = if i = l then p.getD k 0 else if l < i ∧ i ≤ k then p.getD (i - 1) 0 else p.getD i 0 := by
  have q := getElem?_bubble hk (k - l) (by omega) i
  have e : ∀ (a : Array Nat) (j : Nat), a.getD j 0 = (a[j]?).getD 0 := fun a j => by simp [Array.getD_eq_getD_getElem?]
  rw [show k - (k - l) = l by omega] at q
  rw [e, e p k, e p (i - 1), e p i, q]
  split
  · rfl
  · split
    · rfl
    · rfl
theorem bin_ok (O : Ord c n) : ∀ (f : Nat) {p : Array Nat} {k : Nat}, Pm n p → 1 ≤ k → k + f = n → Up c p k → KW c n (kas_bin f p k) (fun q => Pm n q ∧ Up c q n)
  | 0, p, k, hp, h1, h2, u => by
    have : k = n := by omega
    subst this
    exact ⟨hp, u⟩
  | f + 1, p, k, hp, h1, h2, u => by
    refine KW.bind (KW.mono (fun l h => ?_) (place_ok O hp (show k < n by omega) u k 0 k (Nat.zero_le _) (Nat.le_refl _) (by omega) (fun i hi => by omega) (fun i a b => by omega)))
    obtain ⟨hlk, lo, hi⟩ := h
    have hks : k < p.size := by rw [hp.sz]; omega
    refine bin_ok O f (hp.of (bubble_perm _ _ _)) (by omega) (by omega) fun i j hij hj => ?_
    rw [bub_getD hks hlk, bub_getD hks hlk]
    by_cases hi1 : i = l
    · rw [if_pos hi1, if_neg (by omega), if_pos (by omega)]
      exact hi _ (by omega) (by omega)
    · rw [if_neg hi1]
      by_cases hi2 : l < i ∧ i ≤ k
      · rw [if_pos hi2, if_neg (by omega), if_pos (by omega)]
        exact u _ _ (by omega) (by omega)
      · rw [if_neg hi2]
        by_cases hj1 : j = l
        · rw [if_pos hj1]
          exact lo _ (by omega)
        · rw [if_neg hj1]
          by_cases hj2 : l < j ∧ j ≤ k
          · rw [if_pos hj2]
            exact u _ _ (by omega) (by omega)
          · rw [if_neg hj2]
            exact u _ _ (by omega) (by omega)
theorem sortG (O : Ord c n) (h2 : 2 ≤ n) : KW c n (kas_sort n) (fun p => Pm n p ∧ Up c p n) := by
  have h0 : Pm n (List.toArray (List.range n)) := ⟨by simp, by simp⟩
  refine KW.bind (KW.mono (fun r h => ?_) (count_ok O h0 h2))
  obtain ⟨h1, h3, hp, u⟩ := h
  by_cases hr : r.1 < n
  · rw [if_pos hr, Nat.max_eq_left h1]
    exact bin_ok O _ hp h1 (by omega) u
  · rw [if_neg hr]
    have : r.1 = n := by omega
    rw [this] at u
    exact ⟨hp, u⟩
end
end HT
set_option Elab.async false
set_option linter.all false
set_option maxRecDepth 100000
namespace HT
open PySem PyProof.Rows PySem.W
section
variable {prog : Program} {w : World} {A : Around} {E : Value → Shared → Prop} {s : Shared}
theorem one_lt {l b : Addr} {items items2 : Array Value} {ns ms : List Int} {Q : Bool → Shared → Prop} (hl : s.heap.IsList l items) (hb : s.heap.IsList b items2) (hi : IntsAre items.toList ns) (hj : IntsAre items2.toList ms) (hu : A.units + 1 < cLine)
    (h : Q (lexLt ns ms) s) : wpAny (model prog w) A (keyLt' oneType' (.ref l) (.ref b)) Q E s := by
  obtain ⟨⟨cls, dd, data, sl⟩, ho, hc, n, hd⟩ := id hl
  obtain ⟨⟨cls2, dd2, data2, sl2⟩, ho2, hc2, n2, hd2⟩ := id hb
  simp only at hc hd hc2 hd2
  subst hc hd hc2 hd2
  rw [keyLt'_oneType, oneLt'_eq]
  simp only [if_true]
  refine wpAny_bind (wpAny_cRoomFor (by omega) (wpAny_bind (wpAny_callSpecialIfBound?_slot (T := "list") (name := "__lt__") ⟨_, ho, rfl⟩ PySem.F.slot_list_lt
    (call_meets PySem.F.slot_list_lt ⟨_, ho, rfl⟩ PySem.F.entry_list_lt (PySem.F.args_list_lt_2 _ _) (list_lt_ints l b items items2 n n2 dd dd2 sl sl2 ns ms hi hj) ⟨ho, ho2, ?_⟩))))
  exact wpAny_truthy_bool h
theorem perm_getD {α : Type} (d : α) (zs : List α) {p : List Nat} (h : p.Perm (List.range zs.length)) : (p.map fun i => zs.getD i d).Perm zs := by
  have e : (List.range zs.length).map (fun i => zs.getD i d) = zs := by
    apply List.ext_getElem?
    intro i
    rw [List.getElem?_map]
    by_cases hi : i < zs.length
    · rw [List.getElem?_range hi, Option.map_some, List.getD_eq_getElem?_getD, List.getElem?_eq_getElem hi]; rfl
    · rw [List.getElem?_eq_none (by simpa using hi), List.getElem?_eq_none (by omega)]; rfl
  have q := h.map fun i => zs.getD i d
  rw [e] at q
  exact q
end
end HT
namespace L2
open PySem PySem.Spec PyProof.Rows
section
variable {X : Cx}
theorem vals_refs : ∀ {zs : List (Addr × List Int)} {its : List Value}, Vals (zs.map fun z => V.ref z.1) its → its = zs.map fun z => Value.ref z.1
  | [], its, h => by cases h; rfl
  | z :: zs, its, h => by
    cases h with
    | cons r t => rw [vals_refs t]; cases r; rfl
theorem refs_vals : ∀ (zs : List (Addr × List Int)), Vals (zs.map fun z => V.ref z.1) (zs.map fun z => Value.ref z.1)
  | [] => .nil
  | z :: zs => .cons rfl (refs_vals zs)
end
end L2
set_option Elab.async false
set_option linter.all false
set_option maxRecDepth 100000
namespace L2
open PySem PySem.Spec PyProof.Rows
section
variable {κ : Type} [DecidableEq κ]
def valV (kvs : List (κ × V)) (k : κ) : Option V := (kvs.find? fun kv => decide (kv.1 = k)).map (·.2)
def putK (kvs : List (κ × V)) (k : κ) (v : V) : List (κ × V) :=
  if (kvs.any fun kv => decide (kv.1 = k)) = true then kvs.map (fun kv => if kv.1 = k then (kv.1, v) else kv) else kvs ++ [(k, v)]
def dropK (kvs : List (κ × V)) (k : κ) : List (κ × V) := kvs.filter fun kv => decide (kv.1 ≠ k)
theorem valV_pos {p : κ × V} {r : List (κ × V)} {k : κ} (e : p.1 = k) : valV (p :: r) k = some p.2 := by simp [valV, List.find?_cons, e]
theorem valV_neg {p : κ × V} {r : List (κ × V)} {k : κ} (e : ¬ p.1 = k) : valV (p :: r) k = valV r k := by simp [valV, List.find?_cons, e]
theorem valV_any (k : κ) : ∀ kvs : List (κ × V), (kvs.any fun kv => decide (kv.1 = k)) = (valV kvs k).isSome
  | [] => rfl
  | p :: r => by
    rw [List.any_cons]
    by_cases e : p.1 = k
    · simp only [valV_pos e, decide_eq_true e, Bool.true_or, Option.isSome_some]
    · rw [valV_neg e, decide_eq_false e, Bool.false_or]; exact valV_any k r
theorem length_putK (kvs : List (κ × V)) (k : κ) (v : V) : (putK kvs k v).length ≤ kvs.length + 1 := by
  unfold putK
  split
  · rw [List.length_map]; omega
  · rw [List.length_append, List.length_cons, List.length_nil]; omega
theorem RelO.isSome_eq {o : Option V} {u : Option Value} (r : RelO o u) : o.isSome = u.isSome := by
  cases o with
  | none => cases u with
    | none => rfl
    | some _ => exact (show False from r).elim
  | some _ => cases u with
    | none => exact (show False from r).elim
    | some _ => rfl
theorem RelO.getD {o : Option V} {u : Option Value} {d : V} {d' : Value} (r : RelO o u) (rd : RelV d d') : RelV (o.getD d) (u.getD d') := by
  cases o with
  | none => cases u with
    | none => exact rd
    | some _ => exact (show False from r).elim
  | some _ => cases u with
    | none => exact (show False from r).elim
    | some _ => exact r
theorem KV.val {kvs : List (κ × V)} {vs : List (κ × Value)} (r : KV kvs vs) (k : κ) : RelO (valV kvs k) (valueAt vs k) := by
  unfold KV at r
  induction r with
  | nil => exact True.intro
  | @cons p q ps qs h t ih =>
    obtain ⟨h1, h2⟩ := h
    by_cases e : p.1 = k
    · have e' : q.1 = k := h1.symm.trans e
      have b : valueAt (q :: qs) k = some q.2 := by simp [valueAt, List.find?_cons, e']
      rw [valV_pos e, b]; exact h2
    · have e' : ¬ q.1 = k := fun z => e (h1.trans z)
      have b : valueAt (q :: qs) k = valueAt qs k := by simp [valueAt, List.find?_cons, e']
      rw [valV_neg e, b]; exact ih
theorem KV.any {kvs : List (κ × V)} {vs : List (κ × Value)} (r : KV kvs vs) (k : κ) : (kvs.any fun kv => decide (kv.1 = k)) = vs.any fun kv => decide (kv.1 = k) := by
  unfold KV at r
  induction r with
  | nil => rfl
  | cons h t ih => rw [List.any_cons, List.any_cons, ih, h.1]
theorem KV.repl {kvs : List (κ × V)} {vs : List (κ × Value)} (r : KV kvs vs) (k : κ) {y : V} {u : Value} (ry : RelV y u) :
    KV (kvs.map fun kv => if kv.1 = k then (kv.1, y) else kv) (vs.map fun kv => if kv.1 = k then (kv.1, u) else kv) := by
  unfold KV at r ⊢
  induction r with
  | nil => exact .nil
  | @cons p q ps qs h t ih =>
    rw [List.map_cons, List.map_cons]
    refine .cons ?_ ih
    obtain ⟨h1, h2⟩ := h
    by_cases e : p.1 = k
    · rw [if_pos e, if_pos (h1.symm.trans e)]; exact ⟨h1, ry⟩
    · rw [if_neg e, if_neg (fun z => e (h1.trans z))]; exact ⟨h1, h2⟩
theorem KV.put {kvs : List (κ × V)} {vs : List (κ × Value)} (r : KV kvs vs) (k : κ) {y : V} {u : Value} (ry : RelV y u) : KV (putK kvs k y) (stored vs k u) := by
  unfold putK stored
  rw [r.any k]
  by_cases e : (vs.any fun kv => decide (kv.1 = k)) = true
  · rw [if_pos e, if_pos e]; exact r.repl k ry
  · rw [if_neg e, if_neg e]; exact Paired.snoc r ⟨rfl, ry⟩
theorem KV.drop {kvs : List (κ × V)} {vs : List (κ × Value)} (r : KV kvs vs) (k : κ) : KV (dropK kvs k) (without vs k) := by
  unfold KV at r ⊢
  unfold dropK without
  induction r with
  | nil => exact .nil
  | @cons p q ps qs h t ih =>
    obtain ⟨h1, h2⟩ := h
    rw [List.filter_cons, List.filter_cons]
    by_cases e : p.1 = k
    · have a : ¬ decide (p.1 ≠ k) = true := by simp [e]
      have b : ¬ decide (q.1 ≠ k) = true := by simp [h1.symm.trans e]
      rw [if_neg a, if_neg b]; exact ih
    · have e' : ¬ q.1 = k := fun z => e (h1.trans z)
      have a : decide (p.1 ≠ k) = true := by simp [e]
      have b : decide (q.1 ≠ k) = true := by simp [e']
      rw [if_pos a, if_pos b]; exact .cons ⟨h1, h2⟩ ih
theorem KV.length {kvs : List (κ × V)} {vs : List (κ × Value)} (r : KV kvs vs) : kvs.length = vs.length := Paired.length r
end
theorem kV_is {P : Program} {w : World} {k : Key} {u : Value} (r : RelV (kV k) u) : (mixKind P w).is k u = true := by
  cases k with
  | inl i => obtain ⟨t, e⟩ := (show ∃ t, u = Value.int i t from r); subst e; exact mixKind_int P w i t
  | inr x => obtain ⟨t, e⟩ := (show ∃ t, u = Value.str x t from r); subst e; exact mixKind_str P w x t
theorem items_are {P : Program} {w : World} : ∀ {ks : List Key} {us : List Value}, Vals (ks.map kV) us → ItemsAre (mixKind P w) ks us
  | [], _, r => by rw [List.map_nil] at r; cases r; exact .nil
  | k :: ks, _, r => by
    rw [List.map_cons] at r
    cases r with
    | cons h t => exact .cons (kV_is h) (items_are t)
abbrev KT (H : Hp) : List (List Key × V) → List (List Key × Addr × Value) → Prop := Paired fun p q => p.1 = q.1 ∧ H q.2.1 = some (.tup (p.1.map kV)) ∧ RelV p.2 q.2.2
theorem KT.val {H : Hp} {kvs : List (List Key × V)} {xs : List (List Key × Addr × Value)} (r : KT H kvs xs) (k : List Key) : RelO (valV kvs k) ((atKey xs k).map (·.2)) := by
  induction r with
  | nil => exact True.intro
  | @cons p q ps qs h t ih =>
    obtain ⟨h1, _, h2⟩ := h
    by_cases e : p.1 = k
    · have e' : q.1 = k := h1.symm.trans e
      have b : atKey (q :: qs) k = some q.2 := by simp [atKey, List.find?_cons, e']
      rw [valV_pos e, b]; exact h2
    · have e' : ¬ q.1 = k := fun z => e (h1.trans z)
      have b : atKey (q :: qs) k = atKey qs k := by simp [atKey, List.find?_cons, e']
      rw [valV_neg e, b]; exact ih
theorem KT.repl {H : Hp} {kvs : List (List Key × V)} {xs : List (List Key × Addr × Value)} (r : KT H kvs xs) (k : List Key) {y : V} {u : Value} (ry : RelV y u) :
    KT H (kvs.map fun kv => if kv.1 = k then (kv.1, y) else kv) (xs.map (putAt k u)) := by
  induction r with
  | nil => exact .nil
  | @cons p q ps qs h t ih =>
    rw [List.map_cons, List.map_cons]
    refine .cons ?_ ih
    obtain ⟨h1, h2, h3⟩ := h
    unfold putAt
    by_cases e : p.1 = k
    · rw [if_pos e, if_pos (h1.symm.trans e)]; exact ⟨h1, h2, ry⟩
    · rw [if_neg e, if_neg (fun z => e (h1.trans z))]; exact ⟨h1, h2, h3⟩
theorem KT.put {H : Hp} {kvs : List (List Key × V)} {xs : List (List Key × Addr × Value)} (r : KT H kvs xs) (k : List Key) {b : Addr} {y : V} {u : Value} (hb : H b = some (.tup (k.map kV))) (ry : RelV y u) :
    KT H (putK kvs k y) (storedH xs k b u) := by
  have e : (kvs.any fun kv => decide (kv.1 = k)) = (atKey xs k).isSome := by
    rw [valV_any, (r.val k).isSome_eq, Option.isSome_map]
  unfold putK storedH
  rw [e]
  by_cases q : (atKey xs k).isSome = true
  · rw [if_pos q, if_pos q]; exact r.repl k ry
  · rw [if_neg q, if_neg q]; exact Paired.snoc r ⟨rfl, hb, ry⟩
theorem KT.keeps {H H' : Hp} {kvs : List (List Key × V)} {xs : List (List Key × Addr × Value)} (r : KT H kvs xs) (ht : ∀ b ys, H b = some (.tup ys) → H' b = some (.tup ys)) : KT H' kvs xs :=
  Paired.mapP r fun _ _ z => ⟨z.1, ht _ _ z.2.1, z.2.2⟩
section
variable {P : Program} {w : World} {H : Hp} {h : Heap} {a : Addr}
theorem rd_of {u : HO} (ok : HOk P w H h) (e : Rd H a u) : ObjOk P w H h a u := e.ok ok
theorem dk_rd {kvs : List (Key × V)} (ok : HOk P w H h) (e : Rd H a (.dK kvs)) : kvs.length ≤ sizeLine ∧ (a == sysModules) = false ∧ ∃ vs, KV kvs vs ∧ h.DictOf (mixKind P w) a vs :=
  show ObjOk P w H h a (.dK kvs) from rd_of ok e
theorem dk_of {kvs : List (Key × V)} (ok : HOk P w H h) (e : H a = some (.dK kvs)) : kvs.length ≤ sizeLine ∧ (a == sysModules) = false ∧ ∃ vs, KV kvs vs ∧ h.DictOf (mixKind P w) a vs := dk_rd ok (.inl e)
theorem key_of {ks : List Key} (ok : HOk P w H h) (e : H a = some (.tup (ks.map kV))) : (tupleKind (mixKind P w)).is h ks a := by
  obtain ⟨_, its, r, o, h1, h2, n, h3⟩ := (show ObjOk P w H h a (.tup (ks.map kV)) from ok a _ e)
  exact ⟨o, its.toArray, n, h1, h2, h3, by simpa using items_are r⟩
theorem dt_rd {kvs : List (List Key × V)} (ok : HOk P w H h) (e : Rd H a (.dT kvs)) : kvs.length ≤ sizeLine ∧ (a == sysModules) = false ∧
    ∃ xs, KT H kvs xs ∧ h.DictOfH (tupleKind (mixKind P w)) a xs := by
  obtain ⟨z, y, xs, r, o, es, ep, h1, h2, h3, h4, h5⟩ := (show ObjOk P w H h a (.dT kvs) from rd_of ok e)
  refine ⟨z, y, xs, r, o, es, ep, h1, h2, h3, h4, fun x hx => ?_, h5⟩
  have all : ∀ {l : List (List Key × V)} {m : List (List Key × Addr × Value)}, KT H l m → ∀ x ∈ m, (tupleKind (mixKind P w)).is h x.1 x.2.1 := by
    intro l m q
    induction q with
    | nil => intro x hx; exact nomatch hx
    | @cons p q ps qs hq t ih =>
      intro x hx
      rcases List.mem_cons.mp hx with e | hx
      · subst e
        exact key_of ok (by rw [← hq.1]; exact hq.2.1)
      · exact ih x hx
  exact all r x hx
theorem dt_of {kvs : List (List Key × V)} (ok : HOk P w H h) (e : H a = some (.dT kvs)) : kvs.length ≤ sizeLine ∧ (a == sysModules) = false ∧
    ∃ xs, KT H kvs xs ∧ h.DictOfH (tupleKind (mixKind P w)) a xs := dt_rd ok (.inl e)
end
def DGet (H : Hp) (a : Addr) (y : V) (r : Option V) : Prop :=
  (∃ kvs k, Rd H a (.dK kvs) ∧ y = kV k ∧ r = valV kvs k) ∨ ∃ kvs k b, Rd H a (.dT kvs) ∧ y = .ref b ∧ H b = some (.tup (k.map kV)) ∧ r = valV kvs k
def DPut (H : Hp) (a : Addr) (y v : V) (H' : Hp) : Prop :=
  (∃ kvs k, H a = some (.dK kvs) ∧ y = kV k ∧ kvs.length < sizeLine ∧ H' = upd H a (.dK (putK kvs k v))) ∨
  ∃ kvs k b, H a = some (.dT kvs) ∧ y = .ref b ∧ H b = some (.tup (k.map kV)) ∧ kvs.length < sizeLine ∧ H' = upd H a (.dT (putK kvs k v))
theorem DGet.k {H : Hp} {a : Addr} {kvs : List (Key × V)} {k : Key} (e : H a = some (.dK kvs)) : DGet H a (kV k) (valV kvs k) := .inl ⟨kvs, k, .inl e, rfl, rfl⟩
theorem DGet.t {H : Hp} {a b : Addr} {kvs : List (List Key × V)} {k : List Key} (e : H a = some (.dT kvs)) (eb : H b = some (.tup (k.map kV))) : DGet H a (.ref b) (valV kvs k) := .inr ⟨kvs, k, b, .inl e, rfl, eb, rfl⟩
theorem DPut.k {H : Hp} {a : Addr} {kvs : List (Key × V)} {k : Key} {v : V} (e : H a = some (.dK kvs)) (hl : kvs.length < sizeLine) : DPut H a (kV k) v (upd H a (.dK (putK kvs k v))) := .inl ⟨kvs, k, e, rfl, hl, rfl⟩
theorem DPut.t {H : Hp} {a b : Addr} {kvs : List (List Key × V)} {k : List Key} {v : V} (e : H a = some (.dT kvs)) (eb : H b = some (.tup (k.map kV))) (hl : kvs.length < sizeLine) :
    DPut H a (.ref b) v (upd H a (.dT (putK kvs k v))) := .inr ⟨kvs, k, b, e, rfl, eb, hl, rfl⟩
section
variable {X : Cx} {pins : List (Addr × Obj)} {σ : St} {H : Hp} {s : Shared} {a : Addr} {y v : V} {u r : Value} {o : Option V} {A : Around} {E : Value → Shared → Prop}
theorem Inv.big (I : Inv X pins σ H s) : sysModules < s.heap.objs.size := by
  have h : mainGlobals < s.heap.objs.size := (I.mod.glob.keeps I.bk).lt
  exact Nat.lt_trans (by decide) h
theorem d_write {h' : Heap} {t' : Nat} {ob : HO} (I : Inv X pins σ H s) (mu : Mut (H a)) (hs : Heap.SameBut a s.heap h') (he : ∃ q, h'.get? a = some q) (new : ObjOk X.prog X.w (upd H a ob) h' a ob) :
    Inv X pins σ (upd H a ob) { s with heap := h', toks := t' } :=
  I.write (x := a) (e := a) mu (.inl rfl) (fun b q hb z => (hs.2 b hb).trans z) he new
theorem dk_new {P : Program} {w : World} {H' : Hp} {h' : Heap} {kvs : List (Key × V)} {vs : List (Key × Value)} (z : kvs.length ≤ sizeLine) (hd : (a == sysModules) = false) (rel : KV kvs vs) (dd : h'.DictOf (mixKind P w) a vs) :
    ObjOk P w H' h' a (.dK kvs) := ⟨z, hd, vs, rel, dd⟩
theorem d_setItem {H' : Hp} {Q : Unit → Shared → Prop} (hu : A.units + 1 < cLine) (I : Inv X pins σ H s) (g : DPut H a y v H') (ry : RelV y u) (rv : RelV v r) (h : ∀ s', Inv X pins σ H' s' → Q () s') :
    wpAny (model X.prog X.w) A (setItem (.ref a) u r) Q E s := by
  rcases g with ⟨kvs, k, e, ey, l, eH⟩ | ⟨kvs, k, b, e, ey, eb, l, eH⟩
  · subst ey eH
    obtain ⟨z, hd, vs, rel, dd⟩ := dk_of I.hok e
    have hz : vs.length ≤ sizeLine := by rw [← rel.length]; exact z
    have hl : (putK kvs k v).length ≤ sizeLine := by have := length_putK kvs k v; omega
    refine wpAny_setItem_pairs (hsz := hz) (kV_is ry) dd fun h' dd' hs => h _ ?_
    have he : ∃ q, h'.get? a = some q := let ⟨q, _, _, hq, _⟩ := dd'; ⟨q, hq⟩
    exact d_write I (by rw [e]; exact True.intro) hs he (dk_new hl hd (rel.put k rv) dd')
  · subst ey eH
    cases (show u = Value.ref b from ry)
    obtain ⟨z, hd, xs, rel, dd⟩ := dt_of I.hok e
    have hz : xs.length ≤ sizeLine := by rw [← Paired.length rel]; exact z
    have hl : (putK kvs k v).length ≤ sizeLine := by have := length_putK kvs k v; omega
    refine wpAny_setItem_heap (hsz := hz) (tupleKind_room_in1 hu) (key_of I.hok eb) dd fun h' dd' hs => h _ ?_
    obtain ⟨q, es, ep, hq, h2, h3, h4, _, h5⟩ := dd'
    refine d_write I (by rw [e]; exact True.intro) hs ⟨q, hq⟩ ⟨hl, hd, _, (rel.put k eb rv).keeps fun c ys ec => ?_, q, es, ep, hq, h2, h3, h4, h5⟩
    rw [upd_ne (ne_of ec e (fun z => nomatch z))]
    exact ec
end
section
variable {X : Cx} {pins : List (Addr × Obj)} {σ : St} {H : Hp} {s : Shared} {a : Addr} {kvs : List (Key × V)} {k : Key} {u : Value} {A : Around} {E : Value → Shared → Prop}
end
def sDPut (td ty tv : TE) : TS := fun D σ H => tv σ H fun v H1 => td σ H1 fun x H2 => ty σ H2 fun y H3 => ∃ a H4, x = .ref a ∧ DPut H3 a y v H4 ∧ D.nx σ H4
section
variable {X : Cx} {o i e value : Expr} {pos pos' tpos : Pos} {td ty tv : TE}
theorem ps_dput (hu : X.A.units + 1 < cLine) (ho : PE X o td) (hi : PE X i ty) (hv : PE X value tv) (hs : swapsWith value (some (.Subscript o i pos')) pos.line X.env = pure false) :
    PS X (.Assign [.Subscript o i pos'] value pos) (sDPut td ty tv) := by
  intro pins s σ H D I h
  refine wpAny_Assign_Subscript (thn (hv pins s σ H _ I h) fun r s1 ⟨v, H1, I1, rv, q1⟩ => thn (ho pins s1 σ H1 _ I1 q1) fun u s2 ⟨x, H2, I2, rx, q2⟩ => thn (hi pins s2 σ H2 _ I2 q2) fun iv s3 ⟨y, H3, I3, ry, a, H4, ex, g, q3⟩ => ?_) hs
  subst ex
  obtain rfl : u = Value.ref a := rx
  exact d_setItem hu I3 g ry rv fun s4 I4 => ⟨σ, H4, I4, q3⟩
end
theorem dt_empty {P : Program} {w : World} {H : Hp} (h : Heap) (hb : sysModules < h.objs.size) : ObjOk P w H (h.push { cls := .type "dict", data := .dict #[] }) h.objs.size (.dT []) :=
  ⟨Nat.zero_le _, beq_eq_false_iff_ne.mpr (Ne.symm (Nat.ne_of_lt hb)), [], .nil, _, #[], 0, Heap.get?_push_size _ rfl, ⟨rfl, rfl, rfl⟩, rfl, rfl, List.nodup_nil⟩
def tDNewT : TE := fun _ H Q => ∀ p, H p = none → Q (.ref p) (upd H p (.dT []))
section
variable {X : Cx} {pos : Pos}
theorem pe_dnewT : PE X (.Dict [] [] pos) tDNewT := fun pins s σ H Q I h =>
  wpAny_Dict_empty ⟨.ref s.heap.objs.size, _, I.laid (a := s.heap.objs.size) (o := .dT []) (t' := s.toks) (fun _ _ q => Heap.get?_push_of_some _ q) (Nat.le_refl _) (dt_empty s.heap I.big), rfl, h _ (I.hok.fresh (Nat.le_refl _))⟩
end
structure M1 (X : Cx) (o : Expr) (m : Str) (apos : Pos) (e : Expr) (cpos : Pos) : Prop where
  base : attributeBase o m X.env (eval o X.env) = eval o X.env
  few : ((backTo cpos (starEach [e] X.env)).all (fun x => !x.1) && (backToKw cpos (keywordEach [] X.env)).all (fun x => x.1.isSome)
    && decide (([e] : List Expr).length + ([] : List Keyword).length + (if ([] : List Keyword).isEmpty then 0 else 1) < 30)) = true
  line : (apos.endLine == cpos.line) = true
  trees : backTo cpos (starEach [e] X.env) = [(false, eval e X.env)]
structure M2 (X : Cx) (o : Expr) (m : Str) (apos : Pos) (e f : Expr) (cpos : Pos) : Prop where
  base : attributeBase o m X.env (eval o X.env) = eval o X.env
  few : ((backTo cpos (starEach [e, f] X.env)).all (fun x => !x.1) && (backToKw cpos (keywordEach [] X.env)).all (fun x => x.1.isSome)
    && decide (([e, f] : List Expr).length + ([] : List Keyword).length + (if ([] : List Keyword).isEmpty then 0 else 1) < 30)) = true
  line : (apos.endLine == cpos.line) = true
  trees : backTo cpos (starEach [e, f] X.env) = [(false, eval e X.env), (false, eval f X.env)]
section
variable {X : Cx} {pins : List (Addr × Obj)} {σ : St} {H : Hp} {s : Shared} {a : Addr} {y d : V} {u r : Value} {o : Option V} {A : Around} {E : Value → Shared → Prop}
end
section
variable {X : Cx} {o e f : Expr} {apos cpos : Pos} {td ty tx : TE}
end
section
variable {X : Cx} {pins : List (Addr × Obj)} {σ : St} {H : Hp} {s : Shared} {a : Addr} {kvs : List (Key × V)} {A : Around} {E : Value → Shared → Prop}
end
section
variable {X : Cx} {pins : List (Addr × Obj)} {σ : St} {H : Hp} {s : Shared} {a : Addr} {y : V} {u : Value} {A : Around} {E : Value → Shared → Prop}
end
end L2
namespace L2
open PySem PySem.Spec PyProof.Rows
section
variable {X : Cx}
end
section
variable {κ : Type} [DecidableEq κ]
end
end L2
set_option Elab.async false
set_option linter.all false
set_option maxRecDepth 100000
namespace HT
open PySem PyProof.Rows PySem.W
section
variable {prog : Program} {w : World} {A : Around} {E : Value → Shared → Prop} {s : Shared}
theorem sortX_tree {a : Addr} {vs : List Value} {n0 : Nat} {κ : SortKind} {c : Nat → Nat → Bool} {P : PySem.Fin → Shared → Prop} (ho : s.heap.get? a = some (seqObj "list" vs.toArray n0)) (h60 : vs.length ≤ 60) (O : Ord c vs.length)
    (hkind : ∀ G : Heap, (∀ b o, b ≠ a → s.heap.get? b = some o → G.get? b = some o) → 2 ≤ vs.length → ∀ Q : SortKind → Shared → Prop, Q κ { s with heap := G } → wpAny (model prog w) A (keyKind' vs.toArray) Q E { s with heap := G })
    (hcmp : ∀ G : Heap, (∀ b o, b ≠ a → s.heap.get? b = some o → G.get? b = some o) → ∀ i j (C : Bool → Shared → Prop), i < vs.length → j < vs.length → C (c i j) { s with heap := G } → kas_ask prog w A κ vs i j C { s with heap := G })
    (h : ∀ p : List Nat, p.Perm (List.range vs.length) → p.Pairwise (fun i j => c i j = true) → P (.done (.ret .none)) { s with heap := sortedHeap s.heap a vs (p.map fun i => vs.getD i Value.none).toArray }) :
    wpAny (model prog w) A (Builtin.«list.sort» ⟨[.ref a], []⟩) P E s := by
  rw [list_sort_plain]
  have hsl : vs.length ≤ sizeLine := Nat.le_trans h60 (by decide)
  have ha : a < s.heap.objs.size := Heap.lt_size ho
  obtain ⟨e1, ho1⟩ : ∃ e1, (s.heap.update a (Obj.mapSeq fun _ => #[])).get? a = some (seqObj "list" #[] e1) := ⟨_, get?_update_seq ho (fun _ => #[])⟩
  refine wpAny_bind (listItems_at ho rfl (wpAny_bind (listUpdate_at ho rfl (wpAny_bind (seqEpoch_at ho1 rfl (wpAny_bind (wpAny_newTuple (wpAny_bind (wpAny_newList (wpAny_holding ?_) (Nat.zero_le _))) (by show vs.length ≤ _; exact hsl))))) (by rw [List.size_toArray]; exact hsl) (Nat.zero_le _))))
  generalize hG : (((s.heap.update a (Obj.mapSeq fun _ => (#[] : Array Value))).push (seqObj "tuple" vs.toArray 0)).push (seqObj "list" #[] 0)) = G
  have ho6 : G.get? a = some (seqObj "list" #[] e1) := by
    rw [← hG, Heap.get?_push_ne _ _ _ (by rw [size_push', Heap.size_update]; exact Nat.ne_of_lt (Nat.lt_succ_of_lt ha)), Heap.get?_push_ne _ _ _ (by rw [Heap.size_update]; exact Nat.ne_of_lt ha)]; exact ho1
  have keep : ∀ b o, b ≠ a → s.heap.get? b = some o → G.get? b = some o := fun b o hb e => by
    have hlt := Heap.lt_size e
    rw [← hG, Heap.get?_push_ne _ _ _ (by rw [size_push', Heap.size_update]; exact Nat.ne_of_lt (Nat.lt_succ_of_lt hlt)), Heap.get?_push_ne _ _ _ (by rw [Heap.size_update]; exact Nat.ne_of_lt hlt), Heap.get?_update_other _ _ (Ne.symm hb)]; exact e
  show wpAny (model prog w) A _ P E { s with heap := G }
  dsimp only
  have e2 : ∀ out : Array Value, G.update a (Obj.mapSeq fun _ => out) = sortedHeap s.heap a vs out := fun out => by rw [← hG]; rfl
  by_cases h2 : vs.toArray.size < 2
  · rw [if_pos h2, if_pos h2]
    refine wpAny_bind (wpAny_pure ?_)
    rw [StateT.run_pure]
    refine wpAny_bind (wpAny_pure ?_)
    dsimp only
    rw [List.size_toArray] at h2
    have hout : (arrOf (SortSt.mk' general' (vs.toArray.zip vs.toArray) #[] 7 none)).map (·.2) = ((List.range vs.length).map fun i => vs.getD i Value.none).toArray := by
      show ((vs.toArray.zip vs.toArray).map (·.2)) = _
      apply Array.toList_inj.mp
      rw [Array.toList_map, Array.toList_zip, List.map_snd_zip (by simp)]
      apply List.ext_getElem?
      intro i
      rw [List.getElem?_map]
      by_cases hi : i < vs.length
      · rw [List.getElem?_range hi, Option.map_some, List.getD_eq_getElem?_getD, List.getElem?_eq_getElem hi]; rfl
      · rw [List.getElem?_eq_none (by simpa using hi), List.getElem?_eq_none (by simpa using hi)]; rfl
    rw [hout]
    refine wpAny_bind (seqEpoch_at ho6 rfl (wpAny_bind (listUpdate_at ho6 rfl ?_ (Nat.zero_le _) (by rw [List.size_toArray, List.length_map, List.length_range]; exact Nat.le_succ_of_le hsl))))
    simp only [bne_self_eq_false, Bool.false_eq_true, if_false]
    rw [e2]
    refine wpAny_pure (h _ (List.Perm.refl _) ?_)
    rw [List.pairwise_iff_getElem]
    intro i j hi hj hij
    rw [List.length_range] at hj
    omega
  · rw [if_neg h2, if_neg h2]
    rw [List.size_toArray] at h2
    refine wpAny_bind (hkind G keep (by omega) _ ?_)
    have ask : (kas_sort vs.length).kasWp (kas_ask prog w A κ vs) (fun p s' => s' = { s with heap := G } ∧ (Pm vs.length p ∧ Up c p vs.length)) { s with heap := G } :=
      KW.wp (n := vs.length) (fun i j C hi hj hC => hcmp G keep i j C hi hj hC) _ (sortG O (by omega))
    refine wpAny_bind (wpAny_mono (kat_run (E := E) (ks := vs) (vs := vs) (Q := fun st' s' => ∃ p : Array Nat, s' = { s with heap := G } ∧ arrOf st' = p.map (kas_item (vs.toArray.zip vs.toArray)) ∧ failedOf st' = none ∧ Pm vs.length p ∧ Up c p vs.length)
      rfl (by omega) (by omega) (fun p st' s' _ a2 a3 a4 => ⟨p, a4.1, a2, a3, a4.2⟩) ask) ?_ fun _ _ e => e)
    rintro ⟨⟨⟩, st'⟩ s' ⟨p, rfl, har, hfl, hpm, hup⟩
    dsimp only
    have hpl : p.toList.length = vs.length := by rw [hpm.pm.length_eq, List.length_range]
    have hol : (p.toList.map fun i => vs.getD i Value.none).length = vs.length := by rw [List.length_map, hpl]
    rw [kat_snds rfl har]
    refine wpAny_bind (seqEpoch_at ho6 rfl (wpAny_bind (listUpdate_at ho6 rfl ?_ (Nat.zero_le _) (by rw [List.size_toArray, hol]; exact Nat.le_succ_of_le hsl))))
    rw [hfl]
    simp only [bne_self_eq_false, Bool.false_eq_true, if_false]
    rw [e2]
    refine wpAny_pure (h _ hpm.pm ?_)
    rw [List.pairwise_iff_getElem]
    intro i j hi hj hij
    have q1 := hup i j hij (by omega)
    have g1 : p.getD i 0 = p.toList[i] := by
      have : i < p.size := by rw [hpm.sz]; omega
      simp [Array.getD, this]
    have g2 : p.getD j 0 = p.toList[j] := by
      have : j < p.size := by rw [hpm.sz]; omega
      simp [Array.getD, this]
    rw [g1, g2] at q1
    exact q1
theorem sortedX {r : Addr} {n : Nat} {κ : SortKind} {Pv : List Value → Prop} {Q : Value → Shared → Prop} (h60 : n ≤ 60)
    (hcol : ∀ R : List Value → Shared → Prop, (∀ h' tk vs, (∀ b o, s.heap.get? b = some o → h'.get? b = some o) → vs.length = n → Pv vs → R vs { s with heap := h', toks := tk }) → wpAny (model prog w) A.in1 (collect (.ref r)) R E s)
    (hord : ∀ vs, vs.length = n → Pv vs → ∃ c : Nat → Nat → Bool, Ord c n ∧
      (∀ (G : Heap) (tk : Nat), (∀ b o, s.heap.get? b = some o → G.get? b = some o) → 2 ≤ n → ∀ Q : SortKind → Shared → Prop, Q κ { s with heap := G, toks := tk } → wpAny (model prog w) A.in1.in1 (keyKind' vs.toArray) Q E { s with heap := G, toks := tk }) ∧
      (∀ (G : Heap) (tk : Nat), (∀ b o, s.heap.get? b = some o → G.get? b = some o) → ∀ i j (C : Bool → Shared → Prop), i < n → j < n → C (c i j) { s with heap := G, toks := tk } → kas_ask prog w A.in1.in1 κ vs i j C { s with heap := G, toks := tk }) ∧
      ∀ (p : List Nat) (h' h'' : Heap) (tk e : Nat), p.Perm (List.range n) → p.Pairwise (fun i j => c i j = true) → (∀ b o, s.heap.get? b = some o → h'.get? b = some o) → (∀ b o, h'.get? b = some o → h''.get? b = some o) → h''.get? h'.objs.size = some (seqObj "list" (p.map fun i => vs.getD i Value.none).toArray e) → Q (.ref h'.objs.size) { s with heap := h'', toks := tk }) :
    wpAny (model prog w) A (call (.builtin "sorted") [.ref r]) Q E s := by
  refine Calls.call_function_entry kind_sorted plain_sorted entry_sorted (args_sorted1 _) ?_
  unfold Builtin.«sorted»
  refine wpAny_bind (m := checkCount "sorted" 1 1 _) (wpAny_pure (wpAny_bind (hcol _ fun h' tk vs hk hl pv => ?_)))
  obtain ⟨c, O, hkind, hcmp, fin⟩ := hord vs hl pv
  subst hl
  have hsl : vs.length ≤ sizeLine := Nat.le_trans h60 (by decide)
  refine wpAny_bind (wpAny_newList ?_ hsl)
  have hoL : (h'.push (seqObj "list" vs.toArray 0)).get? h'.objs.size = some (seqObj "list" vs.toArray 0) := Heap.get?_push_size _ rfl
  have ne : ∀ b o, s.heap.get? b = some o → b ≠ h'.objs.size := fun b o q => Nat.ne_of_lt (Heap.lt_size (hk b o q))
  show wpAny _ _ _ _ _ { s with heap := h'.push (seqObj "list" vs.toArray 0), toks := tk }
  dsimp only
  refine wpAny_bind (wpAny_holding (wpAny_call_entry slot_list_sort ⟨_, hoL, rfl⟩ entry_list_sort (sortX_tree (A := A.in1.in1) (s := { s with heap := h'.push (seqObj "list" vs.toArray 0), toks := tk }) (κ := κ) (c := c) hoL h60 O (fun G kG h2 Q' hq => hkind G tk (fun b o q => kG b o (ne b o q) (Heap.get?_push_of_some _ (hk b o q))) h2 Q' hq)
    (fun G kG i j C hi hj hC => hcmp G tk (fun b o q => kG b o (ne b o q) (Heap.get?_push_of_some _ (hk b o q))) i j C hi hj hC) fun p hp hw => ⟨_, rfl, ?_⟩) (args_list_sort _)))
  refine wpAny_pure ⟨_, rfl, ?_⟩
  obtain ⟨e, he⟩ := sortedHeap_at (out := (p.map fun i => vs.getD i Value.none).toArray) hoL
  refine fin p h' _ tk e hp hw hk (fun b o q => ?_) he
  have hlt := Heap.lt_size q
  rw [sortedHeap_old (Nat.ne_of_lt hlt) (by rw [size_push']; exact Nat.lt_succ_of_lt hlt)]
  exact Heap.get?_push_of_some _ q
end
end HT
set_option Elab.async false
set_option linter.all false
set_option maxRecDepth 100000
namespace HT
open PySem PyProof.Rows PySem.W
def RawD (h : Heap) (d : Addr) (ks : List Value) (ep : Nat) : Prop := ∃ (o : Obj) (es : Array DictEntry), h.get? d = some o ∧ o.ExactDict ∧ o.data = .dict es ep ∧ es.toList.map (·.key) = ks
theorem RawD.at {h h' : Heap} {d : Addr} {ks : List Value} {ep : Nat} (x : RawD h d ks ep) (e : ∀ o, h.get? d = some o → h'.get? d = some o) : RawD h' d ks ep := let ⟨o, es, ho, r⟩ := x; ⟨o, es, e _ ho, r⟩
theorem RawD.lt {h : Heap} {d : Addr} {ks : List Value} {ep : Nat} (x : RawD h d ks ep) : d < h.objs.size := let ⟨_, _, ho, _⟩ := x; Heap.lt_size ho
theorem RawD.ty {s : Shared} {d : Addr} {ks : List Value} {ep : Nat} (x : RawD s.heap d ks ep) : s.TypeIs (.ref d) "dict" := let ⟨o, _, ho, hc, _⟩ := x; ⟨o, ho, hc.1⟩
section
variable {prog : Program} {w : World} {A : Around} {E : Value → Shared → Prop} {s : Shared} {d it : Addr} {ks : List Value} {ep i : Nat}
theorem rd_iter {Q : Value → Shared → Prop} (hd : (d == sysModules) = false) (hm : RawD s.heap d ks ep) (hQ : Q (.ref s.heap.objs.size) { s with heap := s.heap.push { cls := .type "dict_keyiterator", data := .fields #[.ref d, .int 0 0, .int ks.length 0, .int ep 0] } }) :
    wpAny (model prog w) A (pyIter (.ref d)) Q E s := by
  obtain ⟨o, es, ho, hc, hdat, hk⟩ := id hm
  refine wpAny_pyIter_slot hm.ty F.slot_dict_iter (wpAny_call_entry F.slot_dict_iter hm.ty F.entry_dict_iter ?_ (F.args_dict_iter_1 _))
  unfold Builtin.«dict.__iter__» Builtin.Dict.dictSlotNone
  refine wpAny_bind (wpAny_bind (wpAny_notOrdered_dict hm.ty ?_))
  show wpAny _ _ (pure (Value.ref d)) _ _ s
  refine wpAny_pure ?_
  show wpAny _ _ (Builtin.Dict.showsAll d >>= _) _ _ s
  unfold Builtin.Dict.showsAll
  rw [hd, if_neg Bool.false_ne_true]
  have hsz : es.size = ks.length := by rw [← hk]; simp
  refine wpAny_bind (wpAny_pure (wpAny_bind (wpAny_dictEntries ho hdat (wpAny_bind (wpAny_dictEpoch ho hdat (wpAny_bind (wpAny_newObj_type (wpAny_pure ⟨_, rfl, "dict_keyiterator", _, ⟨_, Heap.get?_push_size _ rfl, rfl⟩, F.slot_dict_keyiterator_next.lookup, ?_⟩))))))))
  simpa [rawInt, hsz] using hQ
theorem rd_item {v : Value} {Q : Option Value → Shared → Prop} (hit : s.heap.IsKeyIter it d i ks.length ep) (hm : RawD s.heap d ks ep) (hx : ks[i]? = some v)
    (hQ : ∀ h', h'.IsKeyIter it d (i + 1) ks.length ep → Heap.SameBut it s.heap h' → Q (some v) { s with heap := h' }) : wpAny (model prog w) A (pyNext (.ref it)) Q E s := by
  obtain ⟨o, ho, hc, hd⟩ := id hit
  obtain ⟨od, es, hod, hcd, hdd, hk⟩ := id hm
  have hsz : es.size = ks.length := by rw [← hk]; simp
  have hlt : i < es.size := by rw [hsz]; exact (List.getElem?_eq_some_iff.mp hx).1
  have hkey : es[i].key = v := by
    rw [← hk, List.getElem?_map] at hx
    simpa [hlt] using hx
  have hown : Builtin.Dict_items.ownsTuple "dict_keyiterator" = false := by decide
  unfold pyNext
  refine wpAny_bind (wpAny_attempt (wpAny_callSpecial?_slot (name := Str.ofString "__next__") hit.typeIs F.slot_dict_keyiterator_next (wpAny_call_entry F.slot_dict_keyiterator_next hit.typeIs F.entry_dict_keyiterator_next ?_ (F.args_dict_keyiterator_next_1 _))))
  refine wpAny_bind (wpAny_pure (wpAny_bind (wpAny_bind ?_)))
  first | refine wpAny_bind (wpAny_typeNameOfWhole_keyiter hit.typeIs (wpAny_pure (wpAny_bind (wpAny_fieldsOf ho hd ?_)))) | refine wpAny_bind (wpAny_typeNameOf_keyiter hit.typeIs (wpAny_pure (wpAny_bind (wpAny_fieldsOf ho hd ?_))))
  simp only [hown, Bool.false_eq_true, if_false]
  show wpAny _ _ (if (Value.ref d == Value.none) = true then _ else _) _ _ s
  rw [if_neg (show ¬ ((Value.ref d == Value.none) = true) from Bool.false_ne_true)]
  refine wpAny_bind (wpAny_pure (wpAny_bind (wpAny_dictEntries hod hdd ?_)))
  rw [if_neg (by rw [hsz]; simp)]
  refine wpAny_bind (wpAny_pure (wpAny_bind (wpAny_dictEpoch hod hdd ?_)))
  rw [if_neg (by simp)]
  refine wpAny_pure ?_
  simp only [show ¬ ((i : Int) < 0) from by omega, if_false, Int.toNat_natCast, Array.getElem?_eq_getElem hlt]
  refine wpAny_bind ?_
  first | refine wpAny_bind (wpAny_typeNameOfWhole_keyiter hit.typeIs (wpAny_pure (wpAny_bind (wpAny_isOneOf_keyiter hit.typeIs ?_)))) | refine wpAny_bind (wpAny_typeNameOf_keyiter hit.typeIs (wpAny_pure (wpAny_bind (wpAny_isOneOf_keyiter hit.typeIs ?_))))
  show wpAny _ _ (setField (.ref it) 1 (rawInt ((i : Int) + 1)) >>= _) _ _ s
  refine wpAny_bind (wpAny_setField ho hd (by simp) ?_)
  have hit' : (s.heap.update it (Obj.mapFields (·.setIfInBounds 1 (rawInt ((i : Int) + 1))))).IsKeyIter it d (i + 1) ks.length ep :=
    ⟨_, Heap.get?_update_self _ ho (Obj.isFreed_of_fields (Obj.data_mapFields hd _)), (Obj.cls_mapFields ..).trans hc, by rw [Obj.data_mapFields hd]; simp [rawInt]⟩
  refine wpAny_bind (wpAny_holding (wpAny_bind (wpAny_isOneOf_keyiter (s := { s with heap := s.heap.update it (Obj.mapFields (·.setIfInBounds 1 (rawInt ((i : Int) + 1)))) }) hit'.typeIs ?_)))
  show wpAny _ _ (pure es[i].key) _ _ _
  rw [hkey]
  exact wpAny_pure (wpAny_pure ⟨_, rfl, wpAny_pure (hQ _ hit' (Heap.SameBut.update ..))⟩)
theorem rd_end {Q : Option Value → Shared → Prop} (hh : A.handled = none) (hit : s.heap.IsKeyIter it d ks.length ks.length ep) (hm : RawD s.heap d ks ep) (hQ : ∀ h', Heap.ExtBut it s.heap h' → Q none { s with heap := h' }) : wpAny (model prog w) A (pyNext (.ref it)) Q E s := by
  obtain ⟨o, ho, hc, hd⟩ := id hit
  obtain ⟨od, es, hod, hcd, hdd, hk⟩ := id hm
  have hsz : es.size = ks.length := by rw [← hk]; simp
  have hge : es.size ≤ ks.length := Nat.le_of_eq hsz
  have hown : Builtin.Dict_items.ownsTuple "dict_keyiterator" = false := by decide
  unfold pyNext
  refine wpAny_bind (wpAny_attempt (wpAny_callSpecial?_slot (name := Str.ofString "__next__") hit.typeIs F.slot_dict_keyiterator_next (wpAny_call_entry F.slot_dict_keyiterator_next hit.typeIs F.entry_dict_keyiterator_next ?_ (F.args_dict_keyiterator_next_1 _))))
  refine wpAny_bind (wpAny_pure (wpAny_bind (wpAny_bind ?_)))
  first | refine wpAny_bind (wpAny_typeNameOfWhole_keyiter hit.typeIs (wpAny_pure (wpAny_bind (wpAny_fieldsOf ho hd ?_)))) | refine wpAny_bind (wpAny_typeNameOf_keyiter hit.typeIs (wpAny_pure (wpAny_bind (wpAny_fieldsOf ho hd ?_))))
  simp only [hown, Bool.false_eq_true, if_false]
  show wpAny _ _ (if (Value.ref d == Value.none) = true then _ else _) _ _ s
  rw [if_neg (show ¬ ((Value.ref d == Value.none) = true) from Bool.false_ne_true)]
  refine wpAny_bind (wpAny_pure (wpAny_bind (wpAny_dictEntries hod hdd ?_)))
  rw [if_neg (by rw [hsz]; simp)]
  refine wpAny_bind (wpAny_pure (wpAny_bind (wpAny_dictEpoch hod hdd ?_)))
  rw [if_neg (by simp)]
  refine wpAny_pure ?_
  simp only [show ¬ ((ks.length : Int) < 0) from by omega, if_false, Int.toNat_natCast, Array.getElem?_eq_none hge]
  refine wpAny_bind ?_
  first | refine wpAny_bind (wpAny_typeNameOfWhole_keyiter hit.typeIs (wpAny_pure ?_)) | refine wpAny_bind (wpAny_typeNameOf_keyiter hit.typeIs (wpAny_pure ?_))
  show wpAny _ _ (setField (.ref it) 0 .none >>= _) _ _ s
  refine wpAny_bind (wpAny_setField ho hd (by simp) ?_)
  show wpAny _ _ (newExc (.type "StopIteration") [] >>= _) _ _ _
  refine wpAny_bind ?_
  simp only [newExc, newTuple]
  refine wpAny_bind (wpAny_newObj_type (wpAny_bind (m := firstArgMember _ _) (wpAny_of_eq (a := Value.none) (by first | rfl | (simp only [firstArgMember]; rfl)) (wpAny_newObj_type ?_ (by size_fits)))) (by size_fits))
  simp only [raiseNew]
  refine wpAny_bind (wpAny_handled ?_)
  rw [show A.in1.handled = none from hh]
  refine wpAny_bind (wpAny_pure (wpAny_throw ?_))
  refine wpAny_bind (wpAny_isInstance (T := "StopIteration") (b := true) ⟨_, Heap.get?_push_size _ rfl, rfl⟩ isSubtype_stop ?_)
  exact wpAny_pure (hQ _ (((Heap.SameBut.update ..).extBut.push _).push _))
theorem rd_walks (hh : A.handled = none) (I d : Addr) (hne : d ≠ I) (ks : List Value) (ep : Nat) : Walks prog w A I [I, d] [I] ks.length (fun i v => ks[i]? = some v) (fun i h => h.IsKeyIter I d i ks.length ep ∧ RawD h d ks ep) where
  sub := fun b hb => by simp at hb; simp [hb]
  frame := fun _ _ _ st hk => ⟨st.1.at fun o e => hk I (by simp) o e, st.2.at fun o e => hk d (by simp) o e⟩
  item := fun i s Q E hi st hQ => by
    refine rd_item (v := ks[i]) st.1 st.2 (List.getElem?_eq_getElem hi) fun h' hit' hs' => hQ _ h' s.toks (List.getElem?_eq_getElem hi) ⟨hit', st.2.at fun o e => hs'.extBut _ _ hne e⟩ fun b o hb e => hs'.extBut b o (fun h => hb (by simp [h])) e
  done := fun s Q E st hQ => rd_end hh st.1 st.2 fun h' he' => hQ h' s.toks fun b o hb e => he' b o (fun h => hb (by simp [h])) e
  self := fun _ _ _ _ st hQ => wpAny_pyIter_keyiter st.1 hQ
theorem rd_src (lo : (d == sysModules) = false) : KdlSrc prog w "dict" d d ks.length (fun i v => ks[i]? = some v) (fun h => RawD h d ks ep) where
  type := fun _ hm => hm.ty
  there := fun _ hm => ⟨hm.lt, hm.lt⟩
  keep := fun _ _ hm hk => hm.at fun o e => hk d (.inl rfl) o e
  notList := by decide
  notTuple := by decide
  hint := fun _ _ _ _ hm hq => kdl_hint_dict hm.ty hq
  iter := fun _ _ hh hm => ⟨_, _, (fun _ _ hq => rd_iter lo hm hq), rd_walks hh _ d (Nat.ne_of_lt hm.lt) ks ep, ⟨⟨_, Heap.get?_push_size _ rfl, rfl, rfl⟩, hm.at fun o e => Heap.get?_push_of_some _ e⟩⟩
end
end HT
namespace L2
open PySem PySem.Spec PyProof.Rows PySem.W
def kI (ns : List Int) : List Key := ns.map Sum.inl
theorem kI_V (ns : List Int) : (kI ns).map kV = ns.map V.int := by unfold kI; rw [List.map_map]; rfl
theorem kI_inj {a b : List Int} (e : kI a = kI b) : a = b := by
  unfold kI at e
  exact List.map_inj_right (fun x y h => by cases h; rfl) |>.mp e
section
variable {X : Cx} {pins : List (Addr × Obj)} {σ : St} {H : Hp} {s : Shared}
theorem tupI_at (I : Inv X pins σ H s) {p : Addr} {ns : List Int} (h : H p = some (.tup (ns.map V.int))) : ∃ (its : List Value) (o : Obj) (m : Nat), IntsAre its ns ∧ s.heap.get? p = some o ∧ o.cls = .type "tuple" ∧ o.data = .seq its.toArray m := by
  obtain ⟨_, its, r, o, e, hc, m, hd⟩ := I.hok p _ h
  exact ⟨its, o, m, by simpa using intsAre_of r, e, hc, hd⟩
end
theorem lex_ints {prog : Program} {w : World} {A : Around} {Q : Bool → Shared → Prop} {s : Shared} {f : Bool} : ∀ {xs ys : List Value} {as bs : List Int} (i : Nat), IntsAre xs as → IntsAre ys bs → f = decide (as.length < bs.length) → Q (HT.lexLt as bs) s → KatLex prog w A true f Q (xs.zip ys) i s
  | [], _, _, _, i, .nil, .nil, hf, h => by subst hf; exact kat_nil h
  | [], _, _, _, i, .nil, .cons m u hj, hf, h => by subst hf; exact kat_nil h
  | _, [], _, _, i, .cons n t hi, .nil, hf, h => by subst hf; exact kat_nil h
  | _, _, _, _, i, .cons n t (ns := as) hi, .cons m u (ns := bs) hj, hf, h => by
    rw [List.zip_cons_cons]
    refine kat_cons (wpAny_eqBool_int ?_)
    rw [HT.lexLt_cons] at h
    by_cases e : n = m
    · rw [if_pos e] at h
      rw [show (n == m) = true by simp [e]]
      exact kat_yes (lex_ints (i + 1) hi hj (by rw [hf]; simp) h)
    · rw [if_neg e] at h
      rw [show (n == m) = false by simp [e]]
      refine kat_no ?_
      by_cases hi0 : i = 0
      · subst hi0
        exact oneLt_int h
      · rw [show (true && i == 0) = false by simp [hi0]]
        exact kat_one _ _ (HT.rcLt_int A s n t m u prog w _ _ h)
section
variable {X : Cx} {pins : List (Addr × Obj)} {σ : St} {H : Hp} {s : Shared}
theorem keyT_lt (I : Inv X pins σ H s) {A : Around} {p q : Addr} {as bs : List Int} (hp : H p = some (.tup (as.map V.int))) (hq : H q = some (.tup (bs.map V.int))) {Q : Bool → Shared → Prop} {E : Value → Shared → Prop} (h : Q (HT.lexLt as bs) s) :
    wpAny (model X.prog X.w) A (keyLt' (tuples' true) (.ref p) (.ref q)) Q E s := by
  obtain ⟨its, o, m, hi, e, _, hd⟩ := tupI_at I hp
  obtain ⟨its', o', m', hi', e', _, hd'⟩ := tupI_at I hq
  refine kat_lt e hd e' hd' ?_
  rw [List.size_toArray, List.size_toArray, hi.length, hi'.length]
  exact lex_ints 0 (by simpa using hi) (by simpa using hi') rfl h
end
theorem kat_tupsI {X : Cx} {pins : List (Addr × Obj)} {σ : St} {H : Hp} {s : Shared} (I : Inv X pins σ H s) : ∀ zs : List (Addr × List Int), (∀ z ∈ zs, H z.1 = some (.tup (z.2.map V.int)) ∧ z.2 ≠ []) → ∃ fs : List Value, KatTups s.heap (zs.map fun z => Value.ref z.1) fs ∧ fs.length = zs.length ∧ ∀ v ∈ fs, ∃ n t, v = Value.int n t
  | [], _ => ⟨[], KatTups.nil, rfl, fun v hv => by cases hv⟩
  | z :: zs, h => by
    obtain ⟨fs, h1, h2, h3⟩ := kat_tupsI I zs fun q hq => h q (.tail _ hq)
    obtain ⟨za, zl⟩ := z
    obtain ⟨hz, hne⟩ := h (za, zl) (.head _)
    obtain ⟨its, o, m, hi, e, hc, hd⟩ := tupI_at I hz
    simp only at hi hne
    cases hi with
    | nil => exact absurd rfl hne
    | cons n t hi =>
      refine ⟨.int n t :: fs, KatTups.cons e hc hd (by simp) h1, by simp [h2], fun v hv => ?_⟩
      rcases List.mem_cons.mp hv with rfl | hv
      · exact ⟨n, t, rfl⟩
      · exact h3 v hv
theorem lexOrd {ls : List (List Int)} (nd : ls.Nodup) : HT.Ord (fun i j => HT.lexLt (ls.getD i []) (ls.getD j [])) ls.length := by
  have ge : ∀ i, (h : i < ls.length) → ls.getD i [] = ls[i] := fun i h => by rw [List.getD_eq_getElem?_getD, List.getElem?_eq_getElem h]; rfl
  refine ⟨fun i j k _ _ _ h1 h2 => HT.lexLt_trans _ _ _ h1 h2, fun i j hi hj hij h => ?_, fun i j hi hj h => ?_⟩
  · have ne : ls.getD i [] ≠ ls.getD j [] := fun z => by
      rw [ge i hi, ge j hj] at z
      exact hij ((List.getElem_inj nd).mp z)
    have := HT.lexLt_flip _ _ ne
    rw [h] at this
    exact this
  · cases e : HT.lexLt (ls.getD j []) (ls.getD i []) with
    | false => rfl
    | true =>
      have := HT.lexLt_trans _ _ _ h e
      rw [HT.lexLt_irrefl] at this
      cases this
theorem perm_out {zs : List (Addr × List Int)} {p : List Nat} (hp : p.Perm (List.range zs.length)) (hw : p.Pairwise (fun i j => HT.lexLt ((zs.map (·.2)).getD i []) ((zs.map (·.2)).getD j []) = true)) :
    ∃ zs' : List (Addr × List Int), zs'.Perm zs ∧ zs'.Pairwise (fun x y => HT.lexLt x.2 y.2 = true) ∧ (p.map fun i => (zs.map fun z => Value.ref z.1).getD i Value.none) = zs'.map fun z => Value.ref z.1 := by
  have g : ∀ i ∈ p, (zs.map (·.2)).getD i [] = (zs.getD i (0, [])).2 ∧ (zs.map fun z => Value.ref z.1).getD i Value.none = Value.ref (zs.getD i (0, [])).1 := fun i hi => by
    have hi' := List.mem_range.mp (hp.mem_iff.mp hi)
    constructor
    · rw [List.getD_eq_getElem?_getD, List.getD_eq_getElem?_getD, List.getElem?_map, List.getElem?_eq_getElem hi']; rfl
    · rw [List.getD_eq_getElem?_getD, List.getD_eq_getElem?_getD, List.getElem?_map, List.getElem?_eq_getElem hi']; rfl
  refine ⟨p.map fun i => zs.getD i (0, []), HT.perm_getD _ zs hp, ?_, ?_⟩
  · rw [List.pairwise_map]
    refine List.Pairwise.imp_of_mem ?_ hw
    intro i j hi hj h
    rw [(g i hi).1, (g j hj).1] at h
    exact h
  · rw [List.map_map]
    exact List.map_congr_left fun i hi => (g i hi).2
theorem kt_split {H : Hp} : ∀ {kvs : List (List Key × V)} {xs : List (List Key × Addr × Value)} {ls : List (List Int)}, KT H kvs xs → kvs.map (·.1) = ls.map kI → ∃ zs : List (Addr × List Int), zs.map (·.2) = ls ∧ (xs.map fun x => Value.ref x.2.1) = zs.map (fun z => Value.ref z.1) ∧ (∀ z ∈ zs, H z.1 = some (.tup (z.2.map V.int))) ∧ xs.map (·.1) = ls.map kI
  | [], [], ls, .nil, e => by
    cases ls with
    | nil => exact ⟨[], rfl, rfl, by simp, rfl⟩
    | cons _ _ => simp at e
  | p :: kvs, q :: xs, ls, .cons h t, e => by
    cases ls with
    | nil => simp at e
    | cons l ls =>
      rw [List.map_cons, List.map_cons] at e
      injection e with e1 e2
      obtain ⟨zs, h1, h2, h3, h4⟩ := kt_split t e2
      refine ⟨(q.2.1, l) :: zs, by simp [h1], by simp [h2], fun z hz => ?_, ?_⟩
      · rcases List.mem_cons.mp hz with rfl | hz
        · have := h.2.1
          rw [e1, kI_V] at this
          exact this
        · exact h3 z hz
      · rw [List.map_cons, List.map_cons, h4, ← h.1, e1]
section
variable {X : Cx}
def rSortD : List V → Hp → VK → Prop := fun xs H Q => ∃ (a : Addr) (kvs : List (List Key × V)) (ls : List (List Int)), xs = [.ref a] ∧ H a = some (.dT kvs) ∧ kvs.map (·.1) = ls.map kI ∧ ls.length ≤ 60 ∧ (∀ l ∈ ls, l ≠ []) ∧
  ∀ (p : Addr) (zs' : List (Addr × List Int)), H p = none → (zs'.map (·.2)).Perm ls → zs'.Pairwise (fun x y => HT.lexLt x.2 y.2 = true) → (∀ z ∈ zs', H z.1 = some (.tup (z.2.map V.int))) → Q (.ref p) (upd H p (.lst (zs'.map fun z => V.ref z.1)))
theorem k_sortD (hcalm : X.calm = true := by rfl) : CallR X (.builtin "sorted") rSortD := by
  intro pins s σ H xs us Q I r h
  obtain ⟨a, kvs, ls, rfl, ha, hks, h60, hne, q⟩ := h
  obtain ⟨u, rfl, rx⟩ := vals1 r
  cases rx
  obtain ⟨z, hd, xs, rel, o, es, ep, h1, h2, h3, h4, h5, h6⟩ := dt_of I.hok ha
  obtain ⟨zs, hz2, hzr, hzt, hx1⟩ := kt_split rel hks
  have hzl : zs.length = ls.length := by rw [← hz2, List.length_map]
  have nd : (zs.map (·.2)).Nodup := by
    rw [hz2]
    rw [hx1] at h6
    exact (List.pairwise_map.mp h6).imp fun hab e => hab (by rw [e])
  have hraw : HT.RawD s.heap a (zs.map fun z => Value.ref z.1) ep := ⟨o, es, h1, h2, h3, by rw [h4, List.map_map, ← hzr]; rfl⟩
  have hkl : (zs.map fun z => Value.ref z.1).length = zs.length := List.length_map ..
  have hO := lexOrd nd
  rw [List.length_map] at hO
  have hzt' : ∀ z ∈ zs, H z.1 = some (.tup (z.2.map V.int)) ∧ z.2 ≠ [] := fun z hz => ⟨hzt z hz, hne _ (by rw [← hz2]; exact List.mem_map.mpr ⟨z, hz, rfl⟩)⟩
  refine HT.sortedX (n := zs.length) (κ := tuples' true) (Pv := fun vs => vs = zs.map fun z => Value.ref z.1) (by omega) (fun R hR => ?_) fun vs hl hv => ?_
  · refine kdu_collect (A := X.A.in1) (HT.rd_src (ks := zs.map fun z => Value.ref z.1) (ep := ep) hd) (I.ok.hd hcalm) hraw (by rw [hkl]; exact Nat.le_trans (show zs.length ≤ 60 by omega) (by decide)) fun h' tk acc hk hacc => ?_
    have hal : acc.toList.length = zs.length := by rw [Array.length_toList, hacc.1, hkl]
    refine hR h' tk acc.toList hk hal ?_
    apply List.ext_getElem?
    intro i
    cases e : acc.toList[i]? with
    | some v => exact (hacc.2 i v (by rw [← Array.getElem?_toList]; exact e)).symm
    | none => rw [List.getElem?_eq_none (by rw [hkl, ← hal]; exact List.getElem?_eq_none_iff.mp e)]
  · subst hv
    have gr : ∀ i, i < zs.length → (zs.map fun z => Value.ref z.1).getD i Value.none = .ref (zs.getD i (0, [])).1 ∧ (zs.map (·.2)).getD i [] = (zs.getD i (0, [])).2 ∧ zs.getD i (0, []) ∈ zs := fun i hi => by
      have e : zs.getD i (0, []) = zs[i] := by rw [List.getD_eq_getElem?_getD, List.getElem?_eq_getElem hi]; rfl
      rw [e]
      refine ⟨?_, ?_, List.getElem_mem _⟩
      · rw [List.getD_eq_getElem?_getD, List.getElem?_map, List.getElem?_eq_getElem hi]; rfl
      · rw [List.getD_eq_getElem?_getD, List.getElem?_map, List.getElem?_eq_getElem hi]; rfl
    refine ⟨_, hO, fun G tk kG hn2 Q' hq => ?_, fun G tk kG i j C hi hj hC => ?_, fun p h' h'' tk e hp hw k1 k2 hat => ?_⟩
    · obtain ⟨fs, ht, hfl, hfi⟩ := kat_tupsI (I.kept (t' := tk) kG) zs hzt'
      refine kat_kind (T := .type "int") ht (by omega) (fun v hv => ?_) (by decide) (by rw [show (Value.type "int" != Value.type "tuple") = true by decide]; exact hq)
      obtain ⟨n, t, rfl⟩ := hfi v hv
      exact Looks.of_pure rfl
    · obtain ⟨a1, a2, a3⟩ := gr i hi
      obtain ⟨b1, b2, b3⟩ := gr j hj
      unfold kas_ask
      rw [a1, b1]
      refine keyT_lt (I.kept (t' := tk) kG) (hzt _ a3) (hzt _ b3) ?_
      rw [a2, b2] at hC
      exact hC
    · obtain ⟨zs', pm, pw, hm⟩ := perm_out hp hw
      rw [hm] at hat
      have I1 := I.kept (t' := tk) k1
      have hfree : H h'.objs.size = none := I1.hok.fresh (Nat.le_refl _)
      have hl' : zs'.length = zs.length := pm.length_eq
      refine ⟨.ref h'.objs.size, _, I1.laid (t' := tk) (o := .lst (zs'.map fun z => V.ref z.1)) k2 (Nat.le_refl _) ⟨by rw [List.length_map]; exact Nat.le_trans (show zs'.length ≤ 60 by omega) (by decide), _, e, refs_vals zs', hat⟩, rfl, q _ zs' hfree (by rw [← hz2]; exact pm.map _) pw fun z hz => hzt z (pm.mem_iff.mp hz)⟩
end
end L2
set_option Elab.async false
set_option linter.all false
set_option maxRecDepth 100000
namespace L2
open PySem PySem.Spec PyProof.Rows PySem.W
section
variable {X : Cx}
def rSortM (K : PySem.W.Frag) : List V → Hp → VK → Prop := fun xs H Q => ∃ (a : Addr) (zs : List (Addr × List Int)), xs = [.ref a] ∧ SqL K H a (zs.map fun z => V.ref z.1) ∧ zs.length ≤ 60 ∧ (∀ z ∈ zs, SqL K H z.1 (z.2.map V.int)) ∧ (zs.map (·.2)).Nodup ∧
  ∀ (p : Addr) (zs' : List (Addr × List Int)), H p = none → zs'.Perm zs → zs'.Pairwise (fun x y => HT.lexLt x.2 y.2 = true) → Q (.ref p) (upd H p (.lst (zs'.map fun z => V.ref z.1)))
theorem k_sortM (K : PySem.W.Frag) (hu : X.A.units + 64 < cLine) (e : X.K = K := by rfl) : CallR X (.builtin "sorted") (rSortM K) := by
  subst e
  intro pins s σ H xs us Q I r h
  obtain ⟨a, zs, rfl, ha, h60, hz, nd, q⟩ := h
  obtain ⟨u, rfl, rx⟩ := vals1 r
  cases rx
  obtain ⟨its, r1, p1, _⟩ := I.list ha
  have e1 := vals_refs r1
  subst e1
  have hO := lexOrd nd
  rw [List.length_map] at hO
  have hkl : (zs.map fun z => Value.ref z.1).length = zs.length := List.length_map ..
  have hzl : ∀ z ∈ zs, ∃ its : List Value, s.heap.IsList z.1 its.toArray ∧ IntsAre its z.2 := fun z hzm => by
    obtain ⟨its, r2, p2, _⟩ := I.list (hz z hzm)
    exact ⟨its, p2.isList, by simpa using intsAre_of r2⟩
  refine HT.sortedX (n := zs.length) (κ := oneType') (Pv := fun vs => vs = zs.map fun z => Value.ref z.1) h60 (fun R hR => ?_) fun vs hl hv => ?_
  · have hsl : (zs.map fun z => Value.ref z.1).length ≤ sizeLine := by rw [hkl]; exact Nat.le_trans h60 (by decide)
    refine collect_list p1.isList ?_ hsl
    refine hR _ s.toks _ (fun b o q => ?_) hkl rfl
    have hlt := Heap.lt_size q
    rw [Heap.get?_update_ne _ _ _ _ (Nat.ne_of_lt hlt), Heap.get?_push_ne _ _ _ (Nat.ne_of_lt hlt)]; exact q
  · subst hv
    have gr : ∀ i, i < zs.length → (zs.map fun z => Value.ref z.1).getD i Value.none = .ref (zs.getD i (0, [])).1 ∧ (zs.map (·.2)).getD i [] = (zs.getD i (0, [])).2 ∧ zs.getD i (0, []) ∈ zs := fun i hi => by
      have e : zs.getD i (0, []) = zs[i] := by rw [List.getD_eq_getElem?_getD, List.getElem?_eq_getElem hi]; rfl
      rw [e]
      refine ⟨?_, ?_, List.getElem_mem _⟩
      · rw [List.getD_eq_getElem?_getD, List.getElem?_map, List.getElem?_eq_getElem hi]; rfl
      · rw [List.getD_eq_getElem?_getD, List.getElem?_map, List.getElem?_eq_getElem hi]; rfl
    refine ⟨_, hO, fun G tk kG hn2 Q' hq => ?_, fun G tk kG i j C hi hj hC => ?_, fun p h' h'' tk e hp hw k1 k2 hat => ?_⟩
    · refine kas_kind (T := .type "list") (by omega) (fun v hv => ?_) (by decide) (by decide) hq
      obtain ⟨z, hzm, rfl⟩ := List.mem_map.mp hv
      obtain ⟨its, hl, _⟩ := hzl z hzm
      obtain ⟨o, e, hcl, _⟩ := hl
      intro A' Q' E' s' k q
      exact wpAny_typeOf (T := "list") ⟨o, k _ _ (kG _ _ e), hcl⟩ q
    · obtain ⟨a1, a2, a3⟩ := gr i hi
      obtain ⟨b1, b2, b3⟩ := gr j hj
      obtain ⟨its, hl, hI⟩ := hzl _ a3
      obtain ⟨its2, hl2, hI2⟩ := hzl _ b3
      unfold kas_ask
      rw [a1, b1]
      refine HT.one_lt (s := { s with heap := G, toks := tk }) (hl.at fun o e => kG _ o e) (hl2.at fun o e => kG _ o e) (by simpa using hI) (by simpa using hI2) (by show X.A.units + 1 + 1 + 1 < cLine; omega) ?_
      rw [a2, b2] at hC
      exact hC
    · obtain ⟨zs', pm, pw, hm⟩ := perm_out hp hw
      rw [hm] at hat
      have I1 := I.kept (t' := tk) k1
      have hfree : H h'.objs.size = none := I1.hok.fresh (Nat.le_refl _)
      have hl' : zs'.length = zs.length := pm.length_eq
      exact ⟨.ref h'.objs.size, _, I1.laid (t' := tk) (o := .lst (zs'.map fun z => V.ref z.1)) k2 (Nat.le_refl _) ⟨by rw [List.length_map]; exact Nat.le_trans (show zs'.length ≤ 60 by omega) (by decide), _, e, refs_vals zs', hat⟩, rfl, q _ zs' hfree pm pw⟩
end
end L2
set_option Elab.async false
set_option linter.all false
set_option maxRecDepth 100000
namespace L2
open PySem PySem.Spec PyProof.Rows
def Noted (n : Addr → Prop) (h : Heap) (e : Addr) (c : Value) : Prop :=
  ∃ (oe oT : Obj) (vs ts : Array Value) (a0 : Value) (T : Addr), h.get? e = some oe ∧ oe.cls = c ∧ oe.data = .fields vs ∧ vs[0]? = some a0 ∧ vs[1]? = some (.ref T) ∧ n T ∧ T ≠ e ∧ h.get? T = some oT ∧ oT.data = .fields ts ∧ ts[3]? = some .none
def CX1 (P : Program) (w : World) : CXT := fun outer H s E e s' =>
  ∃ (ea : Addr) (c : Value) (H' : Hp), e = .ref ea ∧ s'.os = s.os ∧ AllBare s'.gens ∧ Un (frs outer) [] H H' s.heap s'.heap ∧ HOk P w H' s'.heap ∧ s.heap.get? ea = none ∧ H' ea = none ∧
    Noted (fun T => s.heap.get? T = none ∧ H' T = none) s'.heap ea c ∧ E c none H'
def PassN (X : Cx) (Ex : St → XK) : Prop := ∀ (pins : List (Addr × Obj)) (σ : St) (H : Hp) (s : Shared) (h' : Heap) (ea : Addr) (c : Value) (vs : List Value), Inv X pins σ H s → Heap.MadeExcOf s.heap h' ea c vs → Ex σ c none H → X.xe (.ref ea) { s with heap := h' }
def PassS (X : Cx) (Ex : St → XK) : Prop := ∀ (pins : List (Addr × Obj)) (σ : St) (H : Hp) (s : Shared) (e : Value) (s' : Shared), Inv X pins σ H s → CX1 X.prog X.w X.stack H s (Ex σ) e s' → X.xe e s'
theorem FnOk.up {P : Program} {w : World} {K : PySem.W.Frag} {mg : Str → Option Value} {base : Heap} {CX : CXT} {k : Nat} {f : Addr} {fd : FuncData} {ps : List Str} {sp : Sp} (F : FnOk P w K mg base CX0 k f fd ps sp) : FnOk P w K mg base CX k f fd ps sp :=
  ⟨F.len, fun A outer s H args us vs Q E hr e0 hb hv hs => codeAny_mono (F.run A outer s H args us vs Q E hr e0 hb hv hs) fun r s' q => by
    cases r with
    | error e => exact False.elim q
    | ok fl => cases fl <;> exact q⟩
theorem ObjOk.thereO {P : Program} {w : World} {H : Hp} {h : Heap} {a : Addr} {o : HO} (x : ObjOk P w H h a o) : ∃ u, h.get? a = some u := by
  cases o with
  | lst xs => obtain ⟨_, _, _, _, e⟩ := x; exact ⟨_, e⟩
  | tup xs => obtain ⟨_, _, _, o, e, _⟩ := x; exact ⟨_, e⟩
  | dK kvs => obtain ⟨_, _, _, _, o, _, _, e, _⟩ := x; exact ⟨_, e⟩
  | dT kvs => obtain ⟨_, _, _, _, o, _, _, e, _⟩ := x; exact ⟨_, e⟩
  | set S n => obtain ⟨o, _, _, _, e, _⟩ := x; exact ⟨_, e⟩
  | ins C dx fs => obtain ⟨_, _, _, e, _⟩ := x; exact ⟨_, e⟩
  | own y => exact x
  | xd fs => obtain ⟨_, ⟨_, _, _, e, _⟩, _⟩ := x; exact ⟨_, e⟩
  | rng lo hi => obtain ⟨_, _, _, e⟩ := x; exact ⟨_, e⟩
  | frz ob u => obtain ⟨e, _⟩ := x; exact ⟨_, e⟩
  | tbl ps => exact ⟨_, (show h.get? a = some _ from x)⟩
  | met f y => exact ⟨_, (show h.get? a = some _ from x)⟩
  | ext φ => obtain ⟨_, e, _⟩ := x; exact e
theorem HOk.off {P : Program} {w : World} {H : Hp} {h : Heap} {a : Addr} (x : HOk P w H h) (e : h.get? a = none) : H a = none := by
  cases q : H a with
  | none => rfl
  | some o => obtain ⟨u, z⟩ := (x a o q).thereO; rw [e] at z; cases z
section
variable {X : Cx} {pins : List (Addr × Obj)} {σ : St} {H H' : Hp} {s s' : Shared} {h' B : Heap} {ea : Addr} {c a0 : Value}
def Holds1 (X : Cx) (H' : Hp) (s s' : Shared) (B : Heap) : Prop := ∀ b o, s'.heap.get? b = some o → ((∃ u, s.heap.get? b = some u) ∨ H' b ≠ none) → b ∉ frs X.stack → B.get? b = some o
theorem fly_free (I : Inv X pins σ H s) (un : Un (frs X.stack) [] H H' s.heap s'.heap) : ∀ b ∈ frs X.stack, H' b = none := fun b hb => by
  obtain ⟨_, o, ho, _⟩ := I.stack.mem hb
  exact un.free b o ho (I.stkFree b hb) (by simp)
theorem fly_un (I : Inv X pins σ H s) (un : Un (frs X.stack) [] H H' s.heap s'.heap) (hok : HOk X.prog X.w H' s'.heap) (hB : Holds1 X H' s s' B) (st : B.StaysIn h') (up : s'.heap.UpToSlots h') :
    Un (frs X.stack) [] H H' s.heap h' ∧ HOk X.prog X.w H' h' := by
  have fr := fly_free I un
  have sl : ∀ b o, s.heap.get? b = some o → b ∈ frs X.stack → ∃ q, h'.get? b = some { o with slots := q } := fun b o e hb => by
    obtain ⟨_, o2, ho, hd⟩ := I.stack.mem hb
    rw [e] at ho; cases ho
    obtain ⟨q, e1⟩ := un.slot b o e (I.stkFree b hb) hb (by simp)
    obtain ⟨q2, e2⟩ := up b _ e1 hd
    exact ⟨q2, e2⟩
  refine ⟨⟨fun b o e n hb _ => ?_, fun b o e _ hb _ => sl b o e hb, fun b o e n _ => un.free b o e n (by simp), fun b o e _ => ?_, un.tups, un.frzs, un.tbls⟩, fun a o e => ?_⟩
  · exact st b o (hB b o (un.keep b o e n hb (by simp)) (.inl ⟨o, e⟩) hb)
  · by_cases hb : b ∈ frs X.stack
    · obtain ⟨q, e1⟩ := sl b o e hb
      exact ⟨_, e1⟩
    · obtain ⟨o1, e1⟩ := un.there b o e (by simp)
      exact ⟨o1, st b o1 (hB b o1 e1 (.inl ⟨o, e⟩) hb)⟩
  · refine (hok a o e).stay (fun b u hc q => ?_) (fun _ q => q) fun _ _ q => q
    have nb : H' b ≠ none := by
      rcases hc with z | z
      · rw [z, e]; intro z2; cases z2
      · rw [z]; intro z2; cases z2
    exact st b u (hB b u q (.inr nb) fun hb => nb (fr b hb))
theorem fly_T (I : Inv X pins σ H s) (un : Un (frs X.stack) [] H H' s.heap s'.heap) (hok : HOk X.prog X.w H' s'.heap) (hB : Holds1 X H' s s' B) (st : B.StaysIn h') (up : s'.heap.UpToSlots h') (t : h'.TracedW B ea c a0) :
    Noted (fun T => s.heap.get? T = none ∧ H' T = none) h' ea c := by
  have fr := fly_free I un
  obtain ⟨oe, vs, T, oT, ts, he, ⟨hc, h0⟩, hd, h1, hnT, hTe, hT, hdT, h3⟩ := t
  have nF : T ∉ frs X.stack := fun hb => by
    obtain ⟨_, o, ho, hd⟩ := I.stack.mem hb
    obtain ⟨q, e1⟩ := un.slot T o ho (I.stkFree T hb) hb (by simp)
    obtain ⟨q2, e2⟩ := up T _ e1 hd
    rw [hT] at e2; cases e2
    exact hd _ hdT
  refine ⟨oe, oT, vs, ts, a0, T, he, hc, hd, h0, h1, ⟨?_, ?_⟩, hTe, hT, hdT, h3⟩
  · cases q : s.heap.get? T with
    | none => rfl
    | some o =>
      obtain ⟨o1, e1⟩ := un.there T o q (by simp)
      have := hB T o1 e1 (.inl ⟨o, q⟩) nF
      rw [hnT] at this; cases this
  · cases q : H' T with
    | none => rfl
    | some o =>
      obtain ⟨o1, e1⟩ := (hok T o q).thereO
      have := hB T o1 e1 (.inr (by rw [q]; intro z; cases z)) nF
      rw [hnT] at this; cases this
theorem fly_out {E : XK} (I : Inv X pins σ H s) (hx : X.ex = []) (os : s'.os = s.os) (bare : AllBare s'.gens) (un : Un (frs X.stack) [] H H' s.heap s'.heap) (hok : HOk X.prog X.w H' s'.heap) (n0 : s.heap.get? ea = none) (n1 : H' ea = none)
    (hB : Holds1 X H' s s' B) (st : B.StaysIn h') (t : h'.TracedW B ea c a0) (up : s'.heap.UpToSlots h') (hE : E c none H') : CX1 X.prog X.w X.outer X.H₀ X.s₀ E (.ref ea) { s' with heap := h' } := by
  obtain ⟨u1, k1⟩ := fly_un I un hok hB st up
  have J : Inv X pins σ H' { s' with heap := h' } := I.call' (ch := []) os u1 k1 bare fun b z => absurd z (by simp)
  have off : ∀ b, s.heap.get? b = none → X.s₀.heap.get? b = none := fun b e => by
    cases q : X.s₀.heap.get? b with
    | none => rfl
    | some o =>
      obtain ⟨o1, e1⟩ := I.base.there b o q (by rw [hx]; simp)
      rw [e] at e1; cases e1
  have ub := J.base
  rw [hx] at ub
  obtain ⟨oe, oT, vs, ts, a1, T, he, hc, hd, h0, h1, ⟨hn, hm⟩, r⟩ := fly_T I un hok hB st up t
  exact ⟨ea, c, H', rfl, J.os, J.bare, ub, k1, off ea n0, n1, ⟨oe, oT, vs, ts, a1, T, he, hc, hd, h0, h1, ⟨off T hn, hm⟩, r⟩, hE⟩
theorem holds_hide {Ts : List Addr} (n0 : s.heap.get? ea = none) (n1 : H' ea = none) (nT : ∀ T ∈ Ts, s.heap.get? T = none ∧ H' T = none) : Holds1 X H' s s' (PySem.W.hideAll s'.heap (ea :: (Ts ++ frs X.stack))) := fun b o e hb hf => by
  refine PySem.W.hideAll_get _ e fun hm => ?_
  have bad : ∀ a, s.heap.get? a = none → H' a = none → b ≠ a := fun a h1 h2 z => by
    subst z
    rcases hb with ⟨u, q⟩ | q
    · rw [h1] at q; cases q
    · exact q h2
  rcases List.mem_cons.mp hm with z | hm
  · exact bad ea n0 n1 z
  · rcases List.mem_append.mp hm with z | z
    · exact bad b (nT b z).1 (nT b z).2 rfl
    · exact hf z
theorem fly_frames (I : Inv X pins σ H s) (os : s'.os = s.os) (bare : AllBare s'.gens) (un : Un (frs X.stack) [] H H' s.heap s'.heap) (hok : HOk X.prog X.w H' s'.heap) {as : List Addr} (ha : ∀ b ∈ frs X.stack, b ∈ as) : s'.heap.FunFrames (PySem.W.hideAll s'.heap as) X.stack := by
  have J : Inv X pins σ H' s' := I.call' (ch := []) os un hok bare fun b z => absurd z (by simp)
  exact PySem.W.funFrames_hide J.stack fun env he b hb => ha b (List.mem_filterMap.mpr ⟨env, he, hb⟩)
theorem fly_lib (I : Inv X pins σ H s) (os : s'.os = s.os) (bare : AllBare s'.gens) (un : Un (frs X.stack) [] H H' s.heap s'.heap) (hok : HOk X.prog X.w H' s'.heap) (n0 : s.heap.get? ea = none) (n1 : H' ea = none)
    (t : Noted (fun T => s.heap.get? T = none ∧ H' T = none) s'.heap ea c) : ∃ B a0, Holds1 X H' s s' B ∧ Heap.FlyingW B X.stack ea c a0 s'.heap := by
  obtain ⟨oe, oT, vs, ts, a0, T, he, hc, hd, h0, h1, ⟨hn, hm⟩, hTe, hT, hdT, h3⟩ := t
  refine ⟨PySem.W.hideAll s'.heap (ea :: ([T] ++ frs X.stack)), a0, holds_hide n0 n1 (fun b hb => by rw [List.mem_singleton.mp hb]; exact ⟨hn, hm⟩), fun b o q => PySem.W.of_hideAll _ q, PySem.W.hideAll_none _ (by simp), fly_frames I os bare un hok (by intro b hb; simp [hb]), ?_⟩
  exact ⟨oe, vs, T, oT, ts, he, ⟨hc, h0⟩, hd, h1, PySem.W.hideAll_none _ (by simp), hTe, hT, hdT, h3⟩
end
theorem pass_new {P : Program} {w : World} {K : PySem.W.Frag} {mg : Str → Option Value} {base : Heap} {N : List Str} {qual : Str} {scope : Scope} {f : Addr} {cd : Value} {A : Around} {outer : List Env} {s₀ : Shared} {H₀ : Hp} {E : XK} :
    PassN (cxOf (CX1 P w) P w K mg base N qual scope f cd A outer s₀ H₀ E) fun _ => E := by
  intro pins σ H s h' ea c vs I hm hE
  show wpAny _ _ (leaving (envOfC qual scope s₀.heap.objs.size f cd) (.ref ea)) _ _ _
  refine wpAny_leaves_madeW (s := { s with heap := h' }) (base := PySem.W.hideAll s.heap (frs (cxOf (CX1 P w) P w K mg base N qual scope f cd A outer s₀ H₀ E).stack)) I.ok.frames rfl (fun b o q => PySem.W.of_hideAll _ q)
    (fly_frames I rfl I.bare Un.refl I.hok fun b hb => hb) hm fun h2 t fl _ _ up => ?_
  refine fly_out (s' := { s with heap := h' }) I rfl rfl I.bare (Un.kept hm.keeps) (I.hok.kept hm.keeps) hm.new (I.hok.off hm.new) (fun b o e hb hf => ?_) fl.1 fl.2.2.2 up hE
  refine PySem.W.hideAll_get _ ?_ hf
  rcases hb with ⟨u, q⟩ | q
  · have z := hm.keeps b u q
    rw [show h'.get? b = some o from e] at z; cases z; exact q
  · cases r : H b with
    | none => exact absurd r q
    | some x =>
      obtain ⟨u, q⟩ := (I.hok b x r).thereO
      have z := hm.keeps b u q
      rw [show h'.get? b = some o from e] at z; cases z; exact q
end L2
set_option Elab.async false
set_option linter.all false
set_option maxRecDepth 100000
namespace L2
open PySem PySem.Spec PyProof.Rows
abbrev veT : List Value := [.type "ValueError", .type "Exception", .type "BaseException", .type "object"]
structure ExcC (K : PySem.W.Frag) (mg : Str → Option Value) (x : Str) (C : Addr) : Prop where
  g : mg x = some (.ref C)
  ok : PySem.W.excIn K C veT "ValueError.__new__" = true
theorem exc_obj {K : PySem.W.Frag} {h : Heap} {C : Addr} {bmB : List Value} {newId : String} (X : K.In h) (q : PySem.W.excIn K C bmB newId = true) :
    ∃ (bm bs : List Value) (N : Addr) (nm qn : Str) (hd ab : Bool) (sn : List Str) (sub : List Value) (col : Option Bool) (dd : Option Addr) (k0 k1 k2 k3 k5 : Option Value) (mN : Str → Option Value),
      h.get? C = some (excClassObj nm qn C N bs bm hd sn sub ab col dd k0 k1 k2 k3 k5 newId) ∧ h.Ns N mN ∧ mN "__init__" = none ∧ OwnTail h bmB bm := by
  unfold PySem.W.excIn at q
  split at q
  · rename_i dd cd sl e
    split at q
    · rename_i C2 bm k0 k1 k2 k3 n k5 hm hs
      rw [Bool.and_eq_true, Bool.and_eq_true, Bool.and_eq_true, Bool.and_eq_true, Bool.and_eq_true] at q
      have z1 := eq_of_beq q.1.1.1.1.1
      have z2 := eq_of_beq q.1.1.1.1.2
      have z3 : cd.hasDel = false := by simpa using q.1.1.1.2
      cases cd with
      | mk nm bs mro ns qn hd sn sub ab col del =>
        cases sl with
        | mk l =>
          have hs' : l = _ := hs
          have hm' : mro = _ := hm
          have z3' : del = false := z3
          subst hs' hm' z3' z1 z2
          exact ⟨bm, bs, ns, nm, qn, hd, ab, sn, sub, col, dd, k0, k1, k2, k3, k5, _, X _ _ e, Heap.Ns.of_isNs (PySem.W.isNs_of_in X q.1.2), PySem.W.nsMap_none_of_in X q.1.2 (eq_of_beq q.2), PySem.W.tail_of_in X q.1.1.2⟩
    · cases q
  · cases q
def tRaise (c : Value) (Ex : St → XK) (t : TA) : TS := fun _ σ H => t σ H fun vs H1 => vs.length ≤ sizeLine ∧ Ex σ c none H1
theorem ps_raise {X : Cx} {x : Str} {C : Addr} {Ex : St → XK} {e : Expr} {es : List Expr} {t : TA} {np cpos pos : Pos} (O : ExcC X.K X.mg x C) (hx : PassN X Ex) (hc : X.calm = true) (ha : PA X (e :: es) t) (hg : Gl X x := by rfl) (hdb : (x == ("__debug__" : Str)) = false := by decide)
    (he : starEach (e :: es) X.env = (false, eval e X.env) :: starEach es X.env := by rfl) (hpl : (backTo cpos (starEach (e :: es) X.env)).any (·.1) = false := by rfl) : PS X (.Raise (some (.Call (.Name x np) (e :: es) [] cpos)) none pos) (tRaise (.ref C) Ex t) := by
  intro pins s σ H D I h
  obtain ⟨bm, bs, N, nm, qn, hd, ab, sn, sub, col, dd, k0, k1, k2, k3, k5, mN, hC, hN, hni, T⟩ := exc_obj (h := X.base) I.ok.mod.kin O.ok
  refine wpAny_Raise_call_subT (C := C) (nm := nm) (q := qn) (N := N) (bs := bs) (bm := bm) (hdct := hd) (sn := sn) (sub := sub) (ab := ab) (col := col) (dd := dd) (k0 := k0) (k1 := k1) (k2 := k2) (k3 := k3) (k5 := k5)
    PySem.F.excBase_ValueError (mN := mN) (T.hasType PySem.F.excBase_ValueError.hasBase) (I.ok.hd hc) hpl hni (ld_glob I hg O.g ⟨rfl, ?_⟩ hdb)
  have ha' := ha cpos pins s σ H _ I h
  rw [he] at ha' ⊢
  refine Calls.evalArgs_plain (thn ha' fun us s1 ⟨vs, H1, I1, r, hz, q⟩ => ?_)
  exact ⟨rfl, by rw [← r.length]; exact hz, I1.bk _ _ hC, hN.keeps I1.bk, T.keeps I1.bk, fun h' ea hm => hx pins σ H1 s1 h' ea (.ref C) us I1 hm q⟩
def tCallX (sp : Sp) (Ex : St → XK) (t : TA) : TE := fun σ H Q => t σ H fun vs H1 => sp vs H1 Q (Ex σ)
theorem run_fnX {X : Cx} {k : Nat} {f : Addr} {fd : FuncData} {ps : List Str} {sp : Sp} {Ex : St → XK} {pins : List (Addr × Obj)} {σ : St} {H : Hp} {s : Shared} {Q : VK} {us : List Value} {vs : List V} (F : FnOk X.prog X.w X.K X.mg X.base (CX1 X.prog X.w) k f fd ps sp) (hr : Room k X.A) (hb : Binds X.K fd ps []) (hx : PassS X Ex)
    (I : Inv X pins σ H s) (r : Vals vs us) (h : sp vs H Q (Ex σ)) : wpAny (model X.prog X.w) X.A (call (.ref f) us) (EP X pins σ Q) X.xe s := by
  have hl : us.length = ps.length := by rw [← r.length]; exact F.len _ _ _ _ h
  have hb' := hb s us I.kIn (by rw [List.append_nil]; exact hl)
  rw [List.append_nil] at hb'
  refine wpAny_call (codeAny_mono (F.run X.A X.stack s H ⟨us, []⟩ us vs Q (Ex σ) hr I.env0 hb' r h) fun r s' hq => ?_)
  cases r with
  | error e => exact hx pins σ H s e s' I hq
  | ok fl =>
    cases fl with
    | ret u => exact I.after hq
    | next => exact False.elim hq
    | brk => exact False.elim hq
    | cont => exact False.elim hq
theorem pcallX {X : Cx} {x : Str} {st : Stmt} {ps : List Str} {f : Addr} {fd : FuncData} {k : Nat} {sp : Sp} {Ex : St → XK} {e : Expr} {es : List Expr} {t : TA} {p pos : Pos} (D : Df X.K X.mg x st ps f fd) (G : FnOk X.prog X.w X.K X.mg X.base (CX1 X.prog X.w) k f fd ps sp) (hr : Room k X.A) (hx : PassS X Ex) (ha : PA X (e :: es) t) (hg : Gl X x := by rfl)
    (hdb : (x == ("__debug__" : Str)) = false := by decide) (he : starEach (e :: es) X.env = (false, eval e X.env) :: starEach es X.env := by rfl) (hpl : (backTo pos (starEach es X.env)).any (·.1) = false := by rfl) : PE X (.Call (.Name x p) (e :: es) [] pos) (tCallX sp Ex t) := by
  intro pins s σ H Q I h
  refine wpAny_Call_Name_kw (ld_glob I hg D.g ?_ hdb)
  refine PySem.W.callWith_K (h₀ := X.base) I.ok.mod.kin D.fn.kp (thn (ha pos pins s σ H _ I h) fun us s1 ⟨vs, H1, I1, r, q⟩ => ⟨I1.kIn, ?_⟩) he hpl
  exact run_fnX G hr D.b hx I1 r q
theorem Fun.ok1 {P : Program} {w : World} {K : PySem.W.Frag} {mg : Str → Option Value} {base : Heap} {x qual : Str} {st : Stmt} {f : Addr} {fd : FuncData} {N ps : List Str} {k : Nat} {sp : Sp} (F : Fun K x qual st f fd) (S : FnScope N ps (defScope st)) (len : ∀ vs H Q E, sp vs H Q E → vs.length = ps.length)
    (hbody : ∀ (cdv : Value) (A : Around) (outer : List Env) (s : Shared) (H : Hp) (vs : List V) (Q : VK) (E : XK), Room k (A.deeper (envOfC qual (defScope st) s.heap.objs.size f cdv)) → sp vs H Q E →
      ∃ t, PSs (cxOf (CX1 P w) P w K mg base N qual (defScope st) f cdv A outer s H E) (defBody st) t ∧ t { nx := fun _ H' => Q .non H', rt := Q } (start N vs) H) : FnOk P w K mg base (CX1 P w) (k + 1) f fd ps sp := by
  obtain ⟨oc, od, kV, doc, pm, an, cdv, ct, osl, rfl, lk, hcd⟩ := F.ex
  exact fn_of lk hcd S len fun A outer s H vs Q E hr hsp => hbody cdv A outer s H vs Q E hr hsp
end L2
set_option Elab.async false
set_option linter.all false
set_option maxRecDepth 100000
namespace L2
open PySem PySem.Spec PyProof.Rows Builtin Builtin.ObjectAttr Builtin.Getset_descriptor
structure ExcI (K : PySem.W.Frag) (C : Addr) : Prop where
  ga : PySem.W.findIn K (.ref C) "__getattribute__" = some (some (.builtin "BaseException.__getattribute__"))
  hk : PySem.W.findIn K (.ref C) "__getattr__" = some none
  at_ : PySem.W.findIn K (.ref C) "__class__" = some (some (.builtin "object.__class__"))
  sp : PySem.W.specialIn K (.builtin "object.__class__") "__get__" = some (some (.builtin "getset_descriptor.__get__"))
  tk : PySem.W.takesIn K (.builtin "object.__class__") = some true
  mo : PySem.W.mroIn K C (.type "object") = some true
  mb : PySem.W.mroIn K C (.type "BaseException") = some true
def ExcAt (e C : Addr) (h : Heap) : Prop := ∃ o, h.get? e = some o ∧ o.cls = .ref C
section
variable {prog : Program} {w : World} {A : Around} {K : PySem.W.Frag} {e C : Addr} {h : Heap}
theorem ExcAt.ty {M : Model} (x : ExcAt e C h) : PySem.W.Looks M h (typeOf (.ref e)) (.ref C) := by
  obtain ⟨o, h1, h2⟩ := x
  have L : PySem.W.Looks M h (typeOf (.ref e)) o.cls := (PySem.W.Looks.ld h1).andThen .now
  rw [h2] at L
  exact L
def excO (e C : Addr) : HO := .ext fun h => ExcAt e C h
end
end L2
set_option Elab.async false
set_option linter.all false
set_option maxRecDepth 100000
namespace L2
open PySem PySem.Spec PyProof.Rows
structure CatchC (K : PySem.W.Frag) (mg : Str → Option Value) (y : Str) (Ch : Addr) : Prop where
  g : mg y = some (.ref Ch)
  mb : PySem.W.mroIn K Ch (.type "BaseException") = some true
theorem exc_match {prog : Program} {w : World} {A : Around} {E : Value → Shared → Prop} {K : PySem.W.Frag} {e C Ch : Addr} {s : Shared} {b : Bool} {Q : Bool → Shared → Prop} (X : K.In s.heap) (x : ExcAt e C s.heap) (m : PySem.W.kitCls K (.ref C) (.ref Ch) = some b)
    (hb : PySem.W.mroIn K Ch (.type "BaseException") = some true) (q : Q b s) : wpAny (model prog w) A (excMatches (.ref e) (.ref Ch)) Q E s := by
  cases s with
  | mk hp gn dr tk os =>
    obtain ⟨y1, y2, y3⟩ := PySem.W.kit_cls (M := model prog w) X m
    have y0 := x.ty (M := model prog w)
    have y4 := PySem.W.looks_mroIn (M := model prog w) X hb
    have y5 := tc_notTuple
    unfold excMatches isInstance isExcClass
    repeat (first | with_reducible refine PySem.W.Looks.at (by assumption) ?_ | (with_reducible refine wpAny_of_eq y5 ?_) | with_reducible refine wpAny_bind ?_ | wp_step)
    cases b
    · exact wpAny_pure (wpAny_pure (wpAny_pure q))
    · exact wpAny_pure (wpAny_pure (wpAny_pure q))
section
variable {X : Cx} {pins : List (Addr × Obj)} {σ : St} {H H' : Hp} {s s' : Shared}
abbrev Cx.sui (X : Cx) (e : Addr) : Cx := { X with A := X.A.mark (some (.ref e)), calm := false, xe := fun _ _ => False }
theorem Inv.toSui (I : Inv X pins σ H s) (e : Addr) : Inv (X.sui e) pins σ H s :=
  ⟨⟨I.ok.mod, I.ok.kind, I.ok.glob, I.ok.blt, I.ok.above, I.ok.inj, I.ok.has, I.ok.cab, (fun z => nomatch z), I.ok.frames, I.ok.stk, I.ok.exf, I.ok.bs, I.ok.bsz, I.ok.noex, I.ok.exfs, I.ok.funs, I.ok.frf⟩, I.os, I.bare, I.base, I.loc, I.cell, I.free, I.freeC, I.pin, I.hok, I.len⟩
theorem Inv.ofSui {e : Addr} (ok : X.Ok) (I : Inv (X.sui e) pins σ H s) : Inv X pins σ H s := ⟨ok, I.os, I.bare, I.base, I.loc, I.cell, I.free, I.freeC, I.pin, I.hok, I.len⟩
abbrev Cx.body (X : Cx) (E : Value → Shared → Prop) (pn : List (Addr × Obj)) : Cx := { X with xe := E, pn := pn }
theorem Inv.toBody (I : Inv X pins σ H s) (E : Value → Shared → Prop) : Inv (X.body E (X.pn ++ pins)) [] σ H s :=
  ⟨⟨I.ok.mod, I.ok.kind, I.ok.glob, I.ok.blt, I.ok.above, I.ok.inj, I.ok.has, I.ok.cab, I.ok.hd, I.ok.frames, I.ok.stk, I.ok.exf, I.ok.bs, I.ok.bsz, I.ok.noex, I.ok.exfs, I.ok.funs, I.ok.frf⟩, I.os, I.bare, I.base, I.loc, I.cell, I.free, I.freeC, fun p hp => I.pin p (by rw [List.append_nil] at hp; exact hp), I.hok, I.len⟩
theorem Inv.ofBody {E : Value → Shared → Prop} {pins' : List (Addr × Obj)} (ok : X.Ok) (I : Inv (X.body E (X.pn ++ pins)) pins' σ H s) : Inv X pins σ H s := ⟨ok, I.os, I.bare, I.base, I.loc, I.cell, I.free, I.freeC, fun p hp => I.pin p (List.mem_append_left _ hp), I.hok, I.len⟩
theorem SP.ofBody {E : Value → Shared → Prop} {D : Ends} {f : Flow} (ok : X.Ok) (h : SP (X.body E (X.pn ++ pins)) [] D f s') : SP X pins D f s' := by
  cases f with
  | next => obtain ⟨σ', H', I, q⟩ := h; exact ⟨σ', H', I.ofBody ok, q⟩
  | brk => obtain ⟨σ', H', I, q⟩ := h; exact ⟨σ', H', I.ofBody ok, q⟩
  | cont => obtain ⟨σ', H', I, q⟩ := h; exact ⟨σ', H', I.ofBody ok, q⟩
  | ret u => obtain ⟨v, σ', H', I, r, q⟩ := h; exact ⟨v, σ', H', I.ofBody ok, r, q⟩
theorem fly_track {e C : Addr} {h' : Heap} (un : Un (frs X.stack) [] H H' s.heap h') (hok : HOk X.prog X.w H' h') (n0 : s.heap.get? e = none) (n1 : H' e = none) (x : ExcAt e C h') :
    Un (frs X.stack) [] H (upd H' e (excO e C)) s.heap h' ∧ HOk X.prog X.w (upd H' e (excO e C)) h' := by
  have ne : ∀ b o, s.heap.get? b = some o → b ≠ e := fun b o q z => by rw [z, n0] at q; cases q
  refine ⟨⟨un.keep, un.slot, fun b o q n hx => by rw [upd_ne (ne b o q)]; exact un.free b o q n hx, un.there, fun b xs q => ?_, fun b o u q => ?_, fun b ps q => ?_⟩, fun b o q => ?_⟩
  · have z := un.tups b xs q
    rw [upd_ne (ne_of_none z n1)]; exact z
  · have z := un.frzs b o u q
    rw [upd_ne (ne_of_none z n1)]; exact z
  · obtain ⟨more, z⟩ := un.tbls b ps q
    exact ⟨more, by rw [upd_ne (ne_of_none z n1)]; exact z⟩
  · by_cases hb : b = e
    · subst hb
      rw [upd_same] at q
      cases q
      obtain ⟨o, h1, h2⟩ := id x
      exact ⟨x, ⟨o, h1⟩, fun ha hb' xa ka => let ⟨o, h1, h2⟩ := xa; ⟨o, ka o h1, h2⟩⟩
    · rw [upd_ne hb] at q
      exact (hok b o q).stay (fun c u _ z => z) (fun c z => by rw [upd_ne (ne_of_none z n1)]; exact z) fun c xs z => by rw [upd_ne (ne_of_none z n1)]; exact z
end
def xNo (K : PySem.W.Frag) (Ch : Addr) (ts : TS) (D : Ends) : St → XK := fun σ c _ H => ∃ C, c = .ref C ∧ PySem.W.kitCls K (.ref C) (.ref Ch) = some true ∧ ∀ e, H e = none → ts D σ (upd H e (excO e C))
def tTryNo (K : PySem.W.Frag) (Ch : Addr) (tb : (St → XK) → TS) (ts : TS) : TS := fun D σ H => tb (xNo K Ch ts D) D σ H
section
variable {X : Cx} {y n : Str} {Ch : Addr} {i : Nat} {body suite : List Stmt} {b₀ : Stmt} {tb : (St → XK) → TS} {ts : TS} {np hpos pos : Pos}
theorem ps_tryNo (O : CatchC X.K X.mg y Ch) (hstk : X.stack = X.env :: X.outer) (hfr : X.env.frame = some X.env.locals)
    (hb : ∀ (E : Value → Shared → Prop) (pn : List (Addr × Obj)) (Ex : St → XK), PassS (X.body E pn) Ex → PSs (X.body E pn) body (tb Ex)) (hs : ∀ e, PSs (X.sui e) (b₀ :: suite) ts) (hg : Gl X y := by rfl) (hdb : (y == ("__debug__" : Str)) = false := by decide) :
    PS X (.Try body [.ExceptHandler (some (.Name y np)) none (b₀ :: suite) hpos] [] [] pos) (tTryNo X.K Ch tb ts) := by
  intro pins s σ H D I h
  have ok := I.ok
  refine wpAny_Try_except (wpAny_mono (hb (fun e s₁ => wpAny (model X.prog X.w) X.A (noteFrame e X.env) (fun _ s₂ => wpAny (model X.prog X.w) X.A (setFlight e none) (fun _ s₃ => wpAny (model X.prog X.w) X.A (handleBy e X.env [.ExceptHandler (some (.Name y np)) none (b₀ :: suite) hpos]) (SP X pins D) X.xe s₃) X.xe s₂) X.xe s₁)
    (X.pn ++ pins) (xNo X.K Ch ts D) ?_ [] s σ H D (I.toBody _) h) (fun f s1 q => ?_) fun _ _ z => z)
  · intro pins2 σ2 H2 s2 e s3 I2 hcx
    have I2 := I2.ofBody ok
    obtain ⟨ea, c, H3, rfl, os, bare, un, hok, n0, n1, t, C, rfl, hk, hq⟩ := hcx
    obtain ⟨B, a0, hB, fl⟩ := fly_lib I2 os bare un hok n0 n1 t
    have fl' : Heap.FlyingW B (X.env :: X.outer) ea (.ref C) a0 s3.heap := by rw [← hstk]; exact fl
    refine wpAny_looks_onW (by rw [ok.frames, hstk]) hfr fl' fun h4 held up4 => wpAny_landsW held fun h5 fl5 up5 => ?_
    obtain ⟨u5, k5⟩ := fly_un I2 un hok hB fl5.1 (up4.trans up5)
    have J5 : Inv X pins σ2 H3 { s3 with heap := h5 } := I2.call' (ch := []) os u5 k5 bare fun b z => absurd z (by simp)
    have x5 : ExcAt ea C h5 := fl5.there
    refine wpAny_handleBy_cons (codeAny_handlers_test (ld_glob (X := X.sui ea) (J5.toSui ea) hg O.g ?_ hdb)) (by intro z; cases z)
    refine exc_match J5.kIn x5 hk O.mb (codeAny_handlers_suite (lands_againW fl5 fun h6 fl6 up6 => ?_))
    obtain ⟨u6, k6⟩ := fly_un I2 un hok hB fl6.1 ((up4.trans up5).trans up6)
    obtain ⟨u7, k7⟩ := fly_track u6 k6 n0 n1 fl6.there
    have J7 : Inv X pins σ2 (upd H3 ea (excO ea C)) { s3 with heap := h6 } := I2.call' (ch := []) os u7 k7 bare fun b z => absurd z (by simp)
    refine wpAny_mono (hs ea pins _ _ _ D (J7.toSui ea) (hq ea n1)) (fun f s9 q => ?_) fun _ _ z => False.elim z
    cases f with
    | next => obtain ⟨σ9, H9, J, q⟩ := q; exact ⟨_, _, J.ofSui ok, q⟩
    | brk => obtain ⟨σ9, H9, J, q⟩ := q; exact ⟨_, _, J.ofSui ok, q⟩
    | cont => obtain ⟨σ9, H9, J, q⟩ := q; exact ⟨_, _, J.ofSui ok, q⟩
    | ret u => obtain ⟨v, σ9, H9, J, r, q⟩ := q; exact ⟨v, _, _, J.ofSui ok, r, q⟩
  · cases f with
    | next => exact wpAny_execs_nil (SP.ofBody ok q)
    | ret u => exact SP.ofBody ok q
    | brk => exact SP.ofBody ok q
    | cont => exact SP.ofBody ok q
end
theorem passF {X : Cx} : PassS X fun _ => E0 := fun _ _ _ _ _ _ _ h => by obtain ⟨_, _, _, _, _, _, _, _, _, _, _, z⟩ := h; exact z.elim
end L2
set_option Elab.async false
set_option linter.all false
set_option maxRecDepth 100000
namespace L2
open PySem PySem.Spec PyProof.Rows
structure CScopeT (sc : Scope) (scope : Scope) (xs : List Str) (M : List Str) (ys : List Str) (js : List Nat) : Prop where
  kind : scope.kind = .function
  cell : ∀ y ∈ scope.names, y.2 ≠ .cell
  loc : ∀ y ∈ scope.names, y.2 = .local → scope.names.lookup y.1 = some .local
  var : ∀ x ∈ xs, scope.names.lookup x = some .local
  free : ∀ y ∈ scope.names, y.2 = .free → sc.names.lookup y.1 = some .cell ∨ sc.names.lookup y.1 = some .free
  caps : js.map (M[·]?) = ys.map some
  fr : ∀ y ∈ ys, scope.names.lookup y = some .free
  nd : (xs ++ ys).Nodup
theorem CScope.nofree {sc scope : Scope} {x : Str} {M : List Str} (kind : scope.kind = .function) (cell : ∀ y ∈ scope.names, y.2 ≠ .cell) (loc : ∀ y ∈ scope.names, y.2 = .local → scope.names.lookup y.1 = some .local) (var : scope.names.lookup x = some .local) (free : ∀ y ∈ scope.names, y.2 ≠ .free) : CScope sc scope x M [] [] :=
  ⟨kind, cell, loc, var, fun y hy e => absurd e (free y hy), rfl, by simp, by simp⟩
section
variable {X : Cx} {pins : List (Addr × Obj)} {σ : St} {H : Hp} {s : Shared}
end
section
variable {prog : Program} {w : World} {A : Around} {R : Result → Shared → Prop} {s : Shared}
end
section
variable {X : Cx} {elt iter : Expr} {ifs : List Expr} {tg : Expr} {xs : List Str} {pos : Pos} {g : TG} {scope : Scope} {ys : List Str} {js : List Nat} {wi : TI} {tt : TT} {te : TE}
end
end L2
set_option Elab.async false
set_option linter.all false
set_option maxRecDepth 100000
namespace L2
open PySem PySem.Spec PyProof.Rows
theorem turn_long {P : Program} {w : World} {K : PySem.W.Frag} {tg : Expr} (it : Addr) (lo : Int) (n : Nat) : Turn P w K tg (Itr lo n) [it] it (fun i h => IsLongIter h it (lo + (i : Nat) * 1) ((n : Int) - (i : Nat)) 1) where
  mem := by simp
  obj := fun i h st b hb => by
    have e : b = it := by simpa using hb
    subst e
    exact ⟨_, st, fun v z => by
      have z' : Data.fields _ = Data.cell v := z
      cases z'⟩
  keep := fun i h h' st k => k it (by simp) _ st
  item := by
    intro X hP hw hK hc i pins s σ H E I hf st hg
    subst hP hw hK
    obtain ⟨f0, f1, f2, f3, f4, f5⟩ := hf it (by simp)
    have W := Walks.longrange (prog := X.prog) (w := X.w) (I.ok.hd hc) it lo 1 n
    refine W.item i s _ _ hg st fun v h' tk hv st' kk => ?_
    obtain ⟨t, rfl⟩ := hv
    have I1 : Inv X pins σ H { s with heap := h', toks := tk } := I.turned (fun b o hb e => kk b o (by simpa using hb) e) f0 f1 f3 f4 f5
    have e1 : lo + (i : Int) * 1 = lo + i := by omega
    exact ⟨_, rfl, go_of (s := { s with heap := h', toks := tk }) (n := "longrange_iterator") st' rfl rfl (by decide) ⟨.int (lo + i), H, I1, ⟨t, by rw [e1]⟩, ⟨rfl, rfl⟩, st', fun b hb => (hf b hb).1⟩⟩
  done := by
    intro X hP hw hK hc i pins s σ H E I hf st hg
    subst hP hw hK
    obtain ⟨f0, f1, f2, f3, f4, f5⟩ := hf it (by simp)
    exact wpAny_pyNext_long_end (I.ok.hd hc) st (by have : n ≤ i := hg; omega) fun h' eb => ⟨rfl, I.turned (t' := s.toks) (fun b o hb e => eb b o hb e) f0 f1 f3 f4 f5⟩
  self := fun _ _ _ _ _ st h => wpAny_pyIter_longiter st h
section
variable {X : Cx} {tg : Expr}
theorem range_itL {pins : List (Addr × Obj)} {σ : St} {H : Hp} {s : Shared} {R : It → Hp → Prop} {E : Value → Shared → Prop} {lo hi : Int} {t u v : Tok} {tk : Nat} (I : Inv X pins σ H s)
    (q : R (Itr lo (hi - lo).toNat) H) : wpAny (model X.prog X.w) X.A (pyIter (.ref s.heap.objs.size)) (PIE X pins σ tg R) E { s with heap := s.heap.push { cls := .type "range", data := .fields #[.int lo t, .int hi u, .int 1 v] }, toks := tk } := by
  have I1 : Inv X pins σ H { s with heap := s.heap.push { cls := .type "range", data := .fields #[.int lo t, .int hi u, .int 1 v] }, toks := tk } := I.kept fun b o e => Heap.get?_push_of_some _ e
  have e1 : lo + ((0 : Nat) : Int) * 1 = lo := by simp
  have e2 : (((hi - lo).toNat : Nat) : Int) - ((0 : Nat) : Int) = Builtin.Range.rangeSize lo hi 1 := by rw [rangeSize_one]; split <;> omega
  have ok : ∀ b ∈ [(s.heap.push { cls := .type "range", data := .fields #[.int lo t, .int hi u, .int 1 v] }).objs.size], FpOk X pins H b := fun b hb => by
    have e : b = (s.heap.push { cls := .type "range", data := .fields #[.int lo t, .int hi u, .int 1 v] }).objs.size := by simpa using hb
    subst e
    exact I1.fpOk (Nat.le_refl _) (I1.hok.fresh (Nat.le_refl _))
  cases hsm : Builtin.Range.small lo hi 1 with
  | true =>
    refine wpAny_pyIter_range (IsRange.new ..) hsm ?_
    refine ⟨_, [(s.heap.push { cls := .type "range", data := .fields #[.int lo t, .int hi u, .int 1 v] }).objs.size], _, _, H, rfl, I1.kept (t' := tk) fun b o e => Heap.get?_push_of_some _ e, turn_range _ lo (hi - lo).toNat, ?_, ok, q⟩
    show IsRangeIter _ _ (lo + ((0 : Nat) : Int) * 1) ((((hi - lo).toNat : Nat) : Int) - ((0 : Nat) : Int)) 1
    rw [e1, e2]
    exact Heap.get?_push_size _ rfl
  | false =>
    refine wpAny_pyIter_longrange (IsRange.new ..) hsm ?_
    refine ⟨_, [(s.heap.push { cls := .type "range", data := .fields #[.int lo t, .int hi u, .int 1 v] }).objs.size], _, _, H, rfl, I1.kept (t' := tk) fun b o e => Heap.get?_push_of_some _ e, turn_long _ lo (hi - lo).toNat, ?_, ok, q⟩
    show IsLongIter _ _ (lo + ((0 : Nat) : Int) * 1) ((((hi - lo).toNat : Nat) : Int) - ((0 : Nat) : Int)) 1
    rw [e1, e2]
    exact Heap.get?_push_size _ rfl
def iRng2L (ta : TA) : TI := fun σ H R => ta σ H fun vs H1 => ∃ i j : Int, vs = [.int i, .int j] ∧ R (Itr i (j - i).toNat) H1
theorem pi_range2L {a b : Expr} {ta : TA} {p pos : Pos} (hg : Gl X "range") (hm : X.mg "range" = none) (ha : PA X [a, b] ta) (hs : starEach [a, b] X.env = [(false, eval a X.env), (false, eval b X.env)] := by rfl) (hs2 : starEach [b] X.env = [(false, eval b X.env)] := by rfl) :
    PI X tg (.Call (.Name "range" p) [a, b] [] pos) (iRng2L ta) := by
  intro pins s σ H R I h
  refine Call_ (ld_blt I hg hm boot_range (PyProof.Rows.callWith_type1 (thn (ha pos pins s σ H _ I h) fun us s1 ⟨vs, H1, I1, r1, q1⟩ => ?_) (by rw [hs, hs2]) (by rw [hs2]; rfl)))
  obtain ⟨i, j, e, q⟩ := q1
  subst e
  cases r1 with
  | cons r rr =>
    cases rr with
    | cons r' rr =>
      cases rr
      obtain ⟨t, rfl⟩ := r
      obtain ⟨t', rfl⟩ := r'
      exact call_range_2 (range_itL I1 q)
end
end L2
set_option Elab.async false
set_option linter.all false
set_option maxRecDepth 100000
namespace L2
open PySem PySem.Spec PyProof.Rows
def Itrs (lo c : Int) (n : Nat) : It := ⟨fun i _ => i < n, fun i H x H' => H' = H ∧ x = .int (lo + i * c), fun i _ => n ≤ i⟩
theorem turn_rangeS {P : Program} {w : World} {K : PySem.W.Frag} {tg : Expr} (it : Addr) (lo c : Int) (n : Nat) : Turn P w K tg (Itrs lo c n) [it] it (fun i h => IsRangeIter h it (lo + (i : Nat) * c) ((n : Int) - (i : Nat)) c) where
  mem := by simp
  obj := fun i h st b hb => by
    have e : b = it := by simpa using hb
    subst e
    exact ⟨_, st, fun v z => by
      have z' : Data.fields _ = Data.cell v := z
      cases z'⟩
  keep := fun i h h' st k => k it (by simp) _ st
  item := by
    intro X hP hw hK hc i pins s σ H E I hf st hg
    subst hP hw hK
    obtain ⟨f0, f1, f2, f3, f4, f5⟩ := hf it (by simp)
    have W := Walks.range (prog := X.prog) (w := X.w) (I.ok.hd hc) it lo c n
    refine W.item i s _ _ hg st fun v h' tk hv st' kk => ?_
    obtain ⟨t, rfl⟩ := hv
    have I1 : Inv X pins σ H { s with heap := h', toks := tk } := I.turned (fun b o hb e => kk b o (by simpa using hb) e) f0 f1 f3 f4 f5
    exact ⟨_, rfl, go_of (s := { s with heap := h', toks := tk }) (n := "range_iterator") st' rfl rfl (by decide) ⟨.int (lo + i * c), H, I1, ⟨t, rfl⟩, ⟨rfl, rfl⟩, st', fun b hb => (hf b hb).1⟩⟩
  done := by
    intro X hP hw hK hc i pins s σ H E I hf st hg
    subst hP hw hK
    obtain ⟨f0, f1, f2, f3, f4, f5⟩ := hf it (by simp)
    exact wpAny_pyNext_range_end (I.ok.hd hc) st (by have : n ≤ i := hg; omega) fun h' eb => ⟨rfl, I.turned (t' := s.toks) (fun b o hb e => eb b o hb e) f0 f1 f3 f4 f5⟩
  self := fun _ _ _ _ _ st h => wpAny_pyIter_rangeiter st h
section
variable {X : Cx} {tg : Expr}
theorem for_rangeS {lo c : Int} {n : Nat} {g : TG} {tb : TS} {D : Ends} {σ : St} {H : Hp} (Pv : Nat → St → Hp → Prop) (h0 : Pv 0 σ H)
    (hs : ∀ i σ H, i < n → Pv i σ H → g (.int (lo + i * c)) σ H fun σ2 H2 => tb { D with nx := Pv (i + 1), ct := Pv (i + 1), bk := D.nx } σ2 H2) (hd : ∀ σ H, Pv n σ H → D.nx σ H) :
    ∃ W : Nat → Nat → St → Hp → Prop, (∃ m, W 0 m σ H) ∧ ∀ i m σ H, W i m σ H →
      ((Itrs lo c n).stop i H ∧ D.nx σ H) ∨ ((Itrs lo c n).go i H ∧ ∃ N : St → Hp → Prop, (∀ σ' H', N σ' H' → ∃ m', m' < m ∧ W (i + 1) m' σ' H') ∧ ∀ x H', (Itrs lo c n).yld i H x H' → g x σ H' fun σ2 H2 => tb { D with nx := N, ct := N, bk := D.nx } σ2 H2) := by
  refine ⟨fun i m σ H => m = n - i ∧ i ≤ n ∧ Pv i σ H, ⟨n, by simp, Nat.zero_le _, h0⟩, ?_⟩
  rintro i m σ H ⟨rfl, hi, p⟩
  by_cases hlt : i < n
  · refine .inr ⟨hlt, Pv (i + 1), fun σ' H' p' => ⟨n - (i + 1), by omega, rfl, hlt, p'⟩, fun x H' y => ?_⟩
    obtain ⟨e, y⟩ := y
    subst e y
    exact hs i σ _ hlt p
  · have e : i = n := by omega
    subst e
    exact .inl ⟨Nat.le_refl _, hd σ H p⟩
end
end L2
set_option Elab.async false
set_option linter.all false
set_option maxRecDepth 100000
namespace L2
open PySem PySem.Spec PyProof.Rows PySem.SeqAt
section
variable {X : Cx}
def rSum (K : PySem.W.Frag) : List V → Hp → VK → Prop := fun xs H Q => ∃ (a : Addr) (ns : List Int), xs = [.ref a] ∧ SqL K H a (ns.map V.int) ∧ Q (.int ns.sum) H
theorem call_sum (hc : X.calm = true) : CallR X (.builtin "sum") (rSum X.K) := by
  intro pins s σ H xs us Q I r h
  obtain ⟨a, ns, rfl, hq, q⟩ := h
  obtain ⟨u, rfl, rx⟩ := vals1 r
  cases rx
  obtain ⟨its, rv, pl, hz⟩ := I.list hq
  have hi := intsAre_of rv
  obtain ⟨ys, hy⟩ := hi.allInts.items
  have hn : (ys.toList.map (·.1)).sum = ns.sum := by
    have e := hi.numsOf
    have e2 := nums_intItems ys
    rw [← hy] at e2
    rw [← e, ← e2]
  refine sum_intListG (xs := ys) (I.ok.hd hc) (by rw [← hy]; exact pl.isList) fun h' tk t' hk => ?_
  refine ⟨.int ns.sum, H, I.kept fun b o e => hk b o e, ?_, q⟩
  refine ⟨t', ?_⟩
  rw [preSum_eq, List.take_of_length_le (by simp), hn]
theorem k_sum (K : PySem.W.Frag) (hc : X.calm = true) (e : X.K = K := by rfl) : CallR X (.builtin "sum") (rSum K) := by subst e; exact call_sum hc
end
end L2
set_option Elab.async false
set_option linter.all false
set_option maxRecDepth 100000
namespace L2
open PySem PySem.Spec PyProof.Rows PySem.SeqAt
section
variable {X : Cx}
def rIndexT (K : PySem.W.Frag) : V → List V → Hp → VK → Prop := fun x vs H Q => ∃ l xs y ts u j, x = .ref l ∧ vs = [y] ∧ SqL K H l xs ∧ TrsAt K H ts xs ∧ TrAt K H u y ∧ tdeps ts ≤ 8 ∧ j < ts.length ∧
  (∀ t, ts[j]? = some t → teq t u = true) ∧ (∀ m t, m < j → ts[m]? = some t → teq t u = false) ∧ Q (.int (j : Nat)) H
open Classical in
theorem mt_indexT (hu : X.A.units + 64 < cLine) : MtM X "list.index" (rIndexT X.K) := by
  intro pins s σ H x vs v us Q I rx rv h
  obtain ⟨l, xs, y, ts, u, j, rfl, rfl, hq, hts, ht, hd, hj, hit, hno, q⟩ := h
  cases rx
  obtain ⟨u0, rfl, ru⟩ := Vals.one rv
  obtain ⟨its, r, pl, hz⟩ := I.list hq
  obtain ⟨⟨cls, dd, data, sl⟩, ho, hc, n, hdat⟩ := id pl.isList
  simp only at hc hdat
  subst hc hdat
  have l1 := hts.length
  have m1 := r.length
  have val : ∀ (m : Nat) (hm : m < its.length) (t : Tr), ts[m]? = some t → decide (∃ t x, RelV x its[m] ∧ TrAt X.K H t x ∧ teq t u = true) = teq t u := by
    intro m hm t et
    obtain ⟨z, ez, hz'⟩ := hts.get et
    obtain ⟨w, ew, rw'⟩ := r.get ez
    have e' : its[m] = w := by
      rw [List.getElem?_eq_getElem hm] at ew
      exact Option.some.inj ew
    rw [e', Bool.eq_iff_iff, decide_eq_true_iff]
    constructor
    · rintro ⟨t', x', r', h', e3⟩
      rw [rw'.inj r'] at hz'
      rw [tr_inj I 8 (Nat.le_trans (tdep_mem (List.mem_of_getElem? et)) hd) hz' h']; exact e3
    · intro e3
      exact ⟨t, z, rw', hz', e3⟩
  have hjs : j < its.length := by omega
  have hsl : (sizeLine : Int) < 2 ^ 63 - 1 := by decide
  refine call_meets PySem.F.slot_list_index ⟨_, ho, rfl⟩ PySem.F.entry_list_index (PySem.F.args_list_index_2 _ _)
    (list_indexAt l its.toArray n dd sl u0 (fun y => decide (∃ t x, RelV x y ∧ TrAt X.K H t x ∧ teq t u = true)) j (by simpa using hjs) (by omega) ?_ ?_) ⟨ho, in_core I hu ht ru hd hts r, ?_⟩
  · have q := val j hjs _ (List.getElem?_eq_getElem hj)
    rw [hit _ (List.getElem?_eq_getElem hj)] at q
    simpa using q
  · intro m hm hlt
    have hm' : m < ts.length := by omega
    have q := val m (by omega) _ (List.getElem?_eq_getElem hm')
    rw [hno m _ hlt (List.getElem?_eq_getElem hm')] at q
    simpa using q
  · exact ⟨.int (j : Nat), H, I.kept fun b o e => e, ⟨_, rfl⟩, q⟩
theorem k_indexT (K : PySem.W.Frag) (hu : X.A.units + 64 < cLine) (e : X.K = K := by rfl) : MtM X "list.index" (rIndexT K) := by subst e; exact mt_indexT hu
end
end L2
set_option Elab.async false
set_option linter.all false
set_option maxRecDepth 100000
namespace L2
open PySem PySem.Spec PyProof.Rows
theorem k_fld {X : Cx} (K : PySem.W.Frag) {e : Expr} {f : Str} {pos : Pos} {ta : TE} (he : PE X e ta) (hb : attributeBase e f X.env (eval e X.env) = eval e X.env := by rfl) (ek : X.K = K := by rfl) : PE X (.Attribute e f pos) (tFld K ta f) := by subst ek; exact pe_fld he hb
structure Mt (K : PySem.W.Frag) (C : Addr) (q x : Str) (st : Stmt) (ps : List Str) (f : Addr) (fd : FuncData) : Prop where
  fn : Fun K x q st f fd
  b : Binds K fd ps []
  m : Meth K C x f
theorem pmeth {X : Cx} {C : Addr} {q x : Str} {st : Stmt} {ps : List Str} {f : Addr} {fd : FuncData} {k : Nat} {sp : Sp} {o e : Expr} {es : List Expr} {ta : TE} {t : TA} {apos pos : Pos} {pl : Sem Bool} (D : Mt X.K C q x st ps f fd) (c : Cls X.K C) (G : FnOk X.prog X.w X.K X.mg X.base CX0 k f fd ps sp) (hr : Room k X.A) (he : PE X o ta) (ha : PA X (e :: es) t)
    (hst : starEach (e :: es) X.env = (false, eval e X.env) :: starEach es X.env := by rfl) (hpl : (backTo pos (starEach es X.env)).any (·.1) = false := by rfl)
    (ht : eval (.Call (.Attribute o x apos) (e :: es) [] pos) X.env = (do
      let ov ← eval o X.env
      standAt apos.atName
      let (f, first) ← holding [ov] (getMethod ov x pl)
      callWith pos f first (backTo pos (starEach (e :: es) X.env)) (backToKw pos (keywordEach [] X.env))) := by rfl) : PE X (.Call (.Attribute o x apos) (e :: es) [] pos) (tMeth C x sp [] E0 ta t) :=
  pe_meth he c D.m G hr D.b .nil pass0 ha hst hpl ht
structure Blt2 (mg : Str → Option Value) : Prop where
  n_sum : mg "sum" = none
  n_abs : mg "abs" = none
  n_zip : mg "zip" = none
  n_str : mg "str" = none
theorem rsizeD {a : Int} (h : -1 ≤ a) : Builtin.Range.rangeSize a (-1) (-1) = a + 1 := by
  unfold Builtin.Range.rangeSize
  rw [if_neg (by omega)]
  by_cases h1 : -1 < a
  · rw [if_pos h1, show (a - -1 - 1) = a by omega, show (- -1 : Int) = 1 from rfl, Int.ediv_one]
  · rw [if_neg h1]
    omega
theorem rsmallD {a : Int} (h : -1 ≤ a) (h2 : a ≤ 1000) : Builtin.Range.small a (-1) (-1) = true := by
  unfold Builtin.Range.small
  rw [rsizeD h]
  simp only [Builtin.Range.rangeFitsLong, Bool.and_eq_true, Bool.or_eq_true, decide_eq_true_eq, beq_iff_eq]
  first
    | omega
    | (simp; omega)
def iRngD (ta : TA) : TI := fun σ H R => ta σ H fun vs H1 => ∃ i : Int, vs = [.int i, .int (-1), .int (-1)] ∧ -1 ≤ i ∧ i ≤ 1000 ∧ R (Itrs i (-1) (i + 1).toNat) H1
section
variable {X : Cx} {tg : Expr}
theorem range_itD {pins : List (Addr × Obj)} {σ : St} {H : Hp} {s : Shared} {R : It → Hp → Prop} {E : Value → Shared → Prop} {lo : Int} {t u v : Tok} {tk : Nat} (I : Inv X pins σ H s) (h1 : -1 ≤ lo) (h2 : lo ≤ 1000)
    (q : R (Itrs lo (-1) (lo + 1).toNat) H) : wpAny (model X.prog X.w) X.A (pyIter (.ref s.heap.objs.size)) (PIE X pins σ tg R) E { s with heap := s.heap.push { cls := .type "range", data := .fields #[.int lo t, .int (-1) u, .int (-1) v] }, toks := tk } := by
  refine wpAny_pyIter_range (IsRange.new ..) (rsmallD h1 h2) ?_
  have I1 : Inv X pins σ H { s with heap := s.heap.push { cls := .type "range", data := .fields #[.int lo t, .int (-1) u, .int (-1) v] }, toks := tk } := I.kept fun b o e => Heap.get?_push_of_some _ e
  refine ⟨_, [(s.heap.push { cls := .type "range", data := .fields #[.int lo t, .int (-1) u, .int (-1) v] }).objs.size], _, _, H, rfl,
    I1.kept (t' := tk) fun b o e => Heap.get?_push_of_some _ e, turn_rangeS _ lo (-1) (lo + 1).toNat, ?_, fun b hb => ?_, q⟩
  · have e1 : lo + ((0 : Nat) : Int) * (-1) = lo := by simp
    have e2 : (((lo + 1).toNat : Nat) : Int) - ((0 : Nat) : Int) = Builtin.Range.rangeSize lo (-1) (-1) := by rw [rsizeD h1]; omega
    show IsRangeIter _ _ (lo + ((0 : Nat) : Int) * (-1)) ((((lo + 1).toNat : Nat) : Int) - ((0 : Nat) : Int)) (-1)
    rw [e1, e2]
    exact Heap.get?_push_size _ rfl
  · have e : b = (s.heap.push { cls := .type "range", data := .fields #[.int lo t, .int (-1) u, .int (-1) v] }).objs.size := by simpa using hb
    subst e
    exact I1.fpOk (Nat.le_refl _) (I1.hok.fresh (Nat.le_refl _))
theorem pi_rangeD {a b d : Expr} {ta : TA} {p pos : Pos} (hg : Gl X "range") (hm : X.mg "range" = none) (ha : PA X [a, b, d] ta) (hs : starEach [a, b, d] X.env = [(false, eval a X.env), (false, eval b X.env), (false, eval d X.env)] := by rfl) (hs2 : starEach [b, d] X.env = [(false, eval b X.env), (false, eval d X.env)] := by rfl) :
    PI X tg (.Call (.Name "range" p) [a, b, d] [] pos) (iRngD ta) := by
  intro pins s σ H R I h
  refine Call_ (ld_blt I hg hm boot_range (PyProof.Rows.callWith_type1 (thn (ha pos pins s σ H _ I h) fun us s1 ⟨vs, H1, I1, r1, q1⟩ => ?_) (by rw [hs, hs2]) (by rw [hs2]; rfl)))
  obtain ⟨i, e, q1, q2, q⟩ := q1
  subst e
  cases r1 with
  | cons r rr =>
    cases rr with
    | cons r' rr =>
      cases rr with
      | cons r'' rr =>
        cases rr
        obtain ⟨t, rfl⟩ := r
        obtain ⟨t', rfl⟩ := r'
        obtain ⟨t'', rfl⟩ := r''
        exact call_range_3 (by omega) (range_itD I1 q1 q2 q) (Or.inl (PyProof.noPylong_small (by omega)))
end
end L2
set_option Elab.async false
set_option linter.all false
set_option maxRecDepth 100000
namespace L2
open PySem PySem.Spec PyProof.Rows
section
variable {X : Cx}
end
end L2
set_option Elab.async false
set_option linter.all false
set_option maxRecDepth 100000
namespace L2
open PySem PySem.Spec PyProof.Rows PySem.W
def CodeO (c : Addr) (q : Str) : HO := .ext fun h => h.CodeRec (.ref c) q
def LamAt (P : Addr) (pos : Pos) (q : Str) (H : Hp) (c : Addr) : Prop := H P = some (.tbl #[rawInt pos.line, rawInt pos.col, .ref c]) ∧ H c = some (CodeO c q)
def LamTab (P : Addr) (pos : Pos) (q : Str) (H : Hp) : Prop := H P = some (.tbl #[]) ∨ ∃ c, LamAt P pos q H c
section
variable {P : Program} {w : World} {K : Frag} {mg : Str → Option Value} {base : Heap} {N ps : List Str} {k : Nat} {A : Around} {outer : List Env} {s : Shared} {H : Hp} {us : List Value} {vs : List V} {Q : VK} {E : XK} {f : Addr} {o : Obj}
  {name qual : Str} {params : Arguments} {body : Expr} {scope : Scope} {pm cdv ct : Value} {args : Args}
theorem lam_run (ho : s.heap.get? f = some o) (hd : o.data = .func (kla_fn name qual params body scope [] pm cdv ct)) (hcd : s.heap.CodeRec cdv qual) (S : FnScope N ps scope) (hr : Room (k + 1) A) (e0 : Env0 P w K mg base A outer s H)
    (hb : BindsTo s (kla_fn name qual params body scope [] pm cdv ct) args (ps.zip us)) (hl : vs.length = ps.length) (r : Vals vs us)
    (hbody : ∃ t, PE (cxOf CX0 P w K mg base N qual scope f cdv A outer s H E) body t ∧ t (start N vs) H Q) : codeAny (model P w) A (.call (.ref f) args) (CR CX0 outer P w H s Q E) s := by
  have lim : s.heap.NoLimit := e0.mod.nolimit.keeps fun b o e => (e0.bs b o e).1
  have hkind : ∀ y ∈ ps.zip us, scope.names.lookup y.1 = some .local ∨ (scope.names.lookup y.1 = some .cell ∧ ((cellsFrom (s.heap.objs.size + 1) scope.names []).lookup y.1).isSome = true) := fun ⟨n, v⟩ hy => by
    rcases S.par n (List.of_mem_zip hy).1 with q | q
    · exact .inl q
    · exact .inr ⟨q, PySem.W.cellsFrom_some _ _ _ (.inl q)⟩
  refine kla_callFunE hr.depth ho hd S.co S.gen rfl hcd (hb _ _ _ _ ?_)
  refine wpAny_newFunctionEnv_cells S.kind hkind fun env he s1 x => ?_
  subst he
  refine ⟨lim.keeps x.toInCall.keep, kla_codeExpr ?_⟩
  obtain ⟨t, ht, hq⟩ := hbody
  have I : Inv (cxOf CX0 P w K mg base N qual scope f cdv A outer s H E) [] (start N vs) H s1 := inv_start S hr.hd e0 hl r x
  refine wpAny_mono (ht [] s1 (start N vs) H _ I hq) (fun u s' hs => ?_) fun e s' hs => hs
  obtain ⟨v, H', J, rv, q⟩ := hs
  exact ⟨v, H', J.os, J.bare, J.base, J.hok, rv, q⟩
end
section
variable {X : Cx} {pins : List (Addr × Obj)} {σ : St} {H : Hp} {s : Shared} {params : Arguments} {body : Expr} {scope : Scope} {pos : Pos} {c P : Addr} {Q : Value → Shared → Prop}
theorem lam_make (I : Inv X pins σ H s) (hdef : defaultsOf params X.env = ([], [])) (hcl : closureFor scope X.env = pure []) (hcode : X.env.code = .ref c) (hK : codeHdIn X.K c P = true) (hB : X.base.BuiltinsAt X.mg P) (hgP : mainGlobals ≠ P)
    (hT : LamTab P pos (X.env.qual ++ "<lambda>") H)
    (h : ∀ (f c' : Addr) (H' : Hp) (s' : Shared) (pm ct : Value), Inv X pins σ H' s' → LamAt P pos (X.env.qual ++ "<lambda>") H' c' → s'.heap.get? f = some (kla_obj "<lambda>" (X.env.qual ++ "<lambda>") params body scope [] pm c' ct) → H' f = none → s.heap.objs.size ≤ f →
      (∀ b u, b ≠ P → H b = some u → H' b = some u) → Q (.ref f) s') :
    wpAny (model X.prog X.w) X.A (eval (.Lambda params body scope pos) X.env) Q X.xe s := by
  have C : CodeHd s.heap c P := codeHd_of_K I.kIn hK
  have hg : s.heap.Ns mainGlobals X.mg := I.mod.glob.keeps I.bk
  have hb : s.heap.BuiltinsAt X.mg P := by
    obtain ⟨bm, o, b1, b2, b3, b4, b5, b6, b7, b8⟩ := hB
    exact ⟨bm, o, b1, b2, b3, b4, I.bk _ _ b5, b6, b7, b8⟩
  refine kla_eval hdef ?_
  rcases hT with hP | ⟨c', hP, hc'⟩
  · have hPo : s.heap.get? P = some (tabObj #[]) := I.hok P _ hP
    refine kla_makeFunction hcl I.ok.glob hg hcode C hPo (show TriplesOk [] from trivial) rfl hgP hb fun c' ct h' tk hx hge hlt hrec htb => ?_
    have htb' : h'.get? P = some (tabObj #[rawInt pos.line, rawInt pos.col, .ref c']) := htb
    have hPc : P ≠ c' := fun z => by
      have := Heap.lt_size hPo
      rw [z] at this
      exact absurd (Nat.lt_of_lt_of_le this hge) (Nat.lt_irrefl _)
    have hHc : H c' = none := I.hok.fresh hge
    have old : ∀ b o, b ≠ P → s.heap.get? b = some o → (h'.push (kla_obj "<lambda>" (X.env.qual ++ "<lambda>") params body scope [] ((X.mg "__name__").getD .none) c' ct)).get? b = some o := fun b o hb e => Heap.get?_push_of_some _ (hx b o hb e)
    have nP : ∀ b, H b = none → b ≠ P := fun b n z => by rw [z, hP] at n; cases n
    have up : ∀ b u, b ≠ P → H b = some u → upd (upd H P (.tbl #[rawInt pos.line, rawInt pos.col, .ref c'])) c' (CodeO c' (X.env.qual ++ "<lambda>")) b = some u := fun b u hb e => by
      rw [upd_ne (fun z => by rw [z, hHc] at e; cases e), upd_ne hb]; exact e
    have upn : ∀ b, b ≠ P → b ≠ c' → H b = none → upd (upd H P (.tbl #[rawInt pos.line, rawInt pos.col, .ref c'])) c' (CodeO c' (X.env.qual ++ "<lambda>")) b = none := fun b h1 h2 e => by
      rw [upd_ne h2, upd_ne h1]; exact e
    have J : Inv X pins σ (upd (upd H P (.tbl #[rawInt pos.line, rawInt pos.col, .ref c'])) c' (CodeO c' (X.env.qual ++ "<lambda>"))) { s with heap := h'.push (kla_obj "<lambda>" (X.env.qual ++ "<lambda>") params body scope [] ((X.mg "__name__").getD .none) c' ct), toks := tk } := by
      refine I.un ⟨fun b o e n _ _ => old b o (nP b n) e, fun b o e n _ _ => ⟨o.slots, old b o (nP b n) e⟩, fun b o e n _ => upn b (nP b n) (Nat.ne_of_lt (Nat.lt_of_lt_of_le (Heap.lt_size e) hge)) n, fun b o e _ => ?_, fun b xs e => up b _ (fun z => by rw [z, hP] at e; cases e) e, fun b o u e => up b _ (fun z => by rw [z, hP] at e; cases e) e, fun b ps e => ?_⟩ ?_
      · by_cases hb : b = P
        · rw [hb]; exact ⟨_, Heap.get?_push_of_some _ htb'⟩
        · exact ⟨o, old b o hb e⟩
      · by_cases hb : b = P
        · rw [hb] at e ⊢
          rw [hP] at e
          cases e
          exact ⟨#[rawInt pos.line, rawInt pos.col, .ref c'], by rw [upd_ne hPc, upd_same]; rfl⟩
        · exact ⟨#[], by rw [up b _ hb e]; simp⟩
      · intro b u e
        by_cases hbc : b = c'
        · subst hbc
          rw [upd_same] at e
          cases e
          obtain ⟨c2, oc, vs, t, e1, e2, e3, e4⟩ := id hrec
          cases e1
          have q := Heap.get?_push_of_some (kla_obj "<lambda>" (X.env.qual ++ "<lambda>") params body scope [] ((X.mg "__name__").getD .none) b ct) e2
          refine ⟨⟨b, oc, vs, t, rfl, q, e3, e4⟩, ⟨oc, q⟩, fun h1 h2 ⟨c3, o3, v3, t3, a1, a2, a3, a4⟩ k => ?_⟩
          cases a1
          exact ⟨b, o3, v3, t3, rfl, k _ a2, a3, a4⟩
        · rw [upd_ne hbc] at e
          by_cases hbP : b = P
          · rw [hbP] at e ⊢
            rw [upd_same] at e
            cases e
            exact Heap.get?_push_of_some _ htb'
          · rw [upd_ne hbP] at e
            refine (I.hok b u e).stay (fun d v hd q => old d v ?_ q) (fun d q => ?_) fun d xs q => ?_
            · rcases hd with rfl | hd
              · exact hbP
              · intro z; rw [z, hP] at hd; cases hd
            · exact up d _ (fun z => by rw [z, hP] at q; cases q) q
            · exact up d _ (fun z => by rw [z, hP] at q; cases q) q
    have hsz : s.heap.objs.size ≤ h'.objs.size := Nat.le_of_lt (Nat.lt_of_le_of_lt hge hlt)
    refine h _ c' _ _ _ ct J ⟨by rw [upd_ne hPc, upd_same], upd_same⟩ (Heap.get?_push_size _ rfl) ?_ hsz up
    exact upn _ (Nat.ne_of_gt (Nat.lt_of_lt_of_le (Heap.lt_size hPo) hsz)) (Nat.ne_of_gt hlt) (I.hok.fresh hsz)
  · have hPo : s.heap.get? P = some (tabObj #[rawInt pos.line, rawInt pos.col, .ref c']) := I.hok P _ hP
    refine kla_makeFunctionHit hcl I.ok.glob hg hcode C hPo (show TriplesOk [rawInt pos.line, rawInt pos.col, .ref c'] from trivial) (cv := .ref c') ?_ hb fun ct h' tk hk hsz => ?_
    · have := codeAmong_snoc (pos := pos) (c := .ref c') [] trivial rfl
      exact this
    · exact h _ c' H _ _ ct (I.kept (t' := tk) fun b u e => Heap.get?_push_of_some _ (hk b u e)) ⟨hP, hc'⟩ (Heap.get?_push_size _ rfl) (I.hok.fresh hsz) hsz (fun b u _ e => e)
end
end L2
set_option Elab.async false
set_option linter.all false
set_option maxRecDepth 100000
namespace HT
def kLess (a b : List Int) : Bool := if a.length = b.length then lexLt a b else decide (a.length < b.length)
theorem kLess_irrefl (a : List Int) : kLess a a = false := by unfold kLess; rw [if_pos rfl, lexLt_irrefl]
theorem kLess_trans (a b c : List Int) (h1 : kLess a b = true) (h2 : kLess b c = true) : kLess a c = true := by
  unfold kLess at *
  by_cases e1 : a.length = b.length
  · rw [if_pos e1] at h1
    by_cases e2 : b.length = c.length
    · rw [if_pos e2] at h2
      rw [if_pos (e1.trans e2)]
      exact lexLt_trans a b c h1 h2
    · rw [if_neg e2] at h2
      rw [if_neg (by omega)]
      have := of_decide_eq_true h2
      exact decide_eq_true (by omega)
  · rw [if_neg e1] at h1
    have h1' := of_decide_eq_true h1
    by_cases e2 : b.length = c.length
    · rw [if_neg (by omega)]
      exact decide_eq_true (by omega)
    · rw [if_neg e2] at h2
      have := of_decide_eq_true h2
      rw [if_neg (by omega)]
      exact decide_eq_true (by omega)
theorem kLess_flip (a b : List Int) (h : a ≠ b) : kLess b a = !kLess a b := by
  unfold kLess
  by_cases e : a.length = b.length
  · rw [if_pos e, if_pos e.symm, lexLt_flip a b h]
  · rw [if_neg e, if_neg (Ne.symm e), Bool.eq_iff_iff]
    simp
    omega
theorem kOrd {ls : List (List Int)} (nd : ls.Nodup) : Ord (fun i j => kLess (ls.getD i []) (ls.getD j [])) ls.length := by
  have ge : ∀ i, (h : i < ls.length) → ls.getD i [] = ls[i] := fun i h => by rw [List.getD_eq_getElem?_getD, List.getElem?_eq_getElem h]; rfl
  refine ⟨fun i j k _ _ _ h1 h2 => kLess_trans _ _ _ h1 h2, fun i j hi hj hij h => ?_, fun i j hi hj h => ?_⟩
  · have ne : ls.getD i [] ≠ ls.getD j [] := fun z => by
      rw [ge i hi, ge j hj] at z
      exact hij ((List.getElem_inj nd).mp z)
    have := kLess_flip _ _ ne
    rw [h] at this
    exact this
  · cases e : kLess (ls.getD j []) (ls.getD i []) with
    | false => rfl
    | true =>
      have := kLess_trans _ _ _ h e
      rw [kLess_irrefl] at this
      cases this
end HT
namespace L2
open PySem PySem.Spec PyProof.Rows PySem.W
section
variable {X : Cx} {pins : List (Addr × Obj)} {σ : St} {H : Hp} {s : Shared}
theorem key_at (I : Inv X pins σ H s) {p z : Addr} {n : Int} (h : H p = some (.tup [.int n, .ref z])) : ∃ (t : Tok) (o : Obj) (m : Nat), s.heap.get? p = some o ∧ o.cls = .type "tuple" ∧ o.data = .seq #[.int n t, .ref z] m := by
  obtain ⟨_, its, r, o, e, hc, m, hd⟩ := I.hok p _ h
  cases r with
  | cons r1 r2 =>
    cases r2 with
    | cons r3 r4 =>
      cases r4
      obtain ⟨t, rfl⟩ := r1
      cases r3
      exact ⟨t, o, m, e, hc, hd⟩
theorem key_lt (I : Inv X pins σ H s) {A : Around} {p q za zb : Addr} {as bs : List Int} (hp : H p = some (.tup [.int as.length, .ref za])) (hq : H q = some (.tup [.int bs.length, .ref zb])) (ha : H za = some (.lst (as.map V.int))) (hb : H zb = some (.lst (bs.map V.int)))
    (hu : A.units + 2 < cLine) {Q : Bool → Shared → Prop} {E : Value → Shared → Prop} (h : Q (HT.kLess as bs) s) : wpAny (model X.prog X.w) A (keyLt' (tuples' true) (.ref p) (.ref q)) Q E s := by
  obtain ⟨t, o, m, e, _, hd⟩ := key_at I hp
  obtain ⟨t', o', m', e', _, hd'⟩ := key_at I hq
  refine kat_lt e hd e' hd' ?_
  refine kat_cons (wpAny_eqBool_int ?_)
  unfold HT.kLess at h
  by_cases hl : as.length = bs.length
  · rw [if_pos hl] at h
    have e1 : ((as.length : Int) == (bs.length : Int)) = true := by rw [hl]; simp
    rw [e1]
    refine kat_yes (kat_cons ?_)
    refine (tr_cmps I (A := A) 1 (t := tInts as) (u := tInts bs) (v := .ref za) (w := .ref zb) (by rw [tdep_tInts]; exact Nat.le_refl _) (TrAt.ints (SqL.of ha)) (TrAt.ints (SqL.of hb)) rfl rfl (by omega)).eq _ _ _ _ ?_
    rw [teq_ints]
    by_cases hab : as = bs
    · rw [decide_eq_true hab]
      refine kat_yes (kat_nil ?_)
      rw [hab, HT.lexLt_irrefl] at h
      exact h
    · rw [decide_eq_false hab]
      refine kat_no (kat_one _ _ ?_)
      obtain ⟨its, r1, p1, _⟩ := I.list (SqL.of ha)
      obtain ⟨its2, r2, p2, _⟩ := I.list (SqL.of hb)
      exact HT.lt_listInts p1.isList p2.isList (by simpa using intsAre_of r1) (by simpa using intsAre_of r2) (by omega) h
  · rw [if_neg hl] at h
    have e1 : ((as.length : Int) == (bs.length : Int)) = false := by simp; omega
    rw [e1]
    refine kat_no ?_
    refine oneLt_int ?_
    have : decide ((as.length : Int) < (bs.length : Int)) = decide (as.length < bs.length) := by
      rw [Bool.eq_iff_iff]; simp
    rw [this]
    exact h
end
end L2
set_option Elab.async false
set_option linter.all false
set_option maxRecDepth 100000
set_option maxHeartbeats 4000000
namespace L2
open PySem PySem.Spec PyProof.Rows PySem.W
section
variable {X : Cx} {pins : List (Addr × Obj)} {σ : St} {H : Hp} {s : Shared}
structure Late (X : Cx) (pins : List (Addr × Obj)) (n : Nat) (a : Addr) : Prop where
  s0 : X.s₀.heap.objs.size ≤ a
  lo : a ≠ X.env.locals
  ce : ∀ x c, X.env.cells.lookup x = some c → c ≠ a
  fs : a ∉ X.fs
  pn : ∀ p ∈ X.pn ++ pins, p.1 ≠ a
  ge : n ≤ a
theorem Inv.late (I : Inv X pins σ H s) {a : Addr} (h : s.heap.objs.size ≤ a) : Late X pins s.heap.objs.size a :=
  ⟨Nat.le_trans I.sz h, Nat.ne_of_gt (Nat.lt_of_lt_of_le I.lt h), fun x c e z => by
    obtain ⟨v, o, ho, _⟩ := I.cell x c e
    rw [z] at ho
    exact absurd (Nat.lt_of_lt_of_le (Heap.lt_size ho) h) (Nat.lt_irrefl _), I.nofs h, fun p hp z => by
    obtain ⟨e, _⟩ := I.pin p hp
    rw [z] at e
    exact absurd (Nat.lt_of_lt_of_le (Heap.lt_size e) h) (Nat.lt_irrefl _), h⟩
theorem Inv.tell {a : Addr} {xs : List V} {its : List Value} {n : Nat} {h' : Heap} {t' : Nat} (I : Inv X pins σ H s) {m : Nat} (L : Late X pins m a) (hn : H a = none) (k : ∀ b o, b ≠ a → s.heap.get? b = some o → h'.get? b = some o)
    (hv : Vals xs its) (hz : xs.length ≤ sizeLine) (ha : h'.get? a = some (seqObj "list" its.toArray n)) : Inv X pins σ (upd H a (.lst xs)) { s with heap := h', toks := t' } := by
  have na : ∀ b u, H b = some u → b ≠ a := fun b u e z => by rw [z, hn] at e; cases e
  refine I.step (g' := s.gens) (d' := s.drawn) (ch := [a]) (fun b hb => ?_) (fun b o _ _ hc e _ => k b o (fun z => hc (by simp [z])) e) (fun b o _ _ hc e _ => ⟨o.slots, k b o (fun z => hc (by simp [z])) e⟩) (fun b o hc e n => by rw [upd_ne (fun z => hc (by simp [z]))]; exact n)
    (fun b o hc e => ⟨o, k b o (fun z => hc (by simp [z])) e⟩) (fun b xs e => by rw [upd_ne (na b _ e)]; exact e) (fun b o u e => by rw [upd_ne (na b _ e)]; exact e) (fun b ps e => ⟨#[], by rw [upd_ne (na b _ e), e]; simp⟩) (fun m hm => ?_) (fun b u e => ?_) I.bare
  · have e : b = a := by simpa using hb
    subst e
    exact ⟨.inr L.s0, L.lo, L.ce, L.pn⟩
  · obtain ⟨o, es, ep, ho, r⟩ := hm
    exact ⟨o, es, ep, k _ o (Ne.symm L.lo) ho, r⟩
  · by_cases hb : b = a
    · subst hb
      rw [upd_same] at e
      cases e
      exact ⟨hz, its, n, hv, ha⟩
    · rw [upd_ne hb] at e
      refine (I.hok b u e).stay (fun c v hc q => k c v ?_ q) (fun c q => by rw [upd_ne (na c _ q)]; exact q) fun c xs q => by rw [upd_ne (na c _ q)]; exact q
      rcases hc with rfl | hc
      · exact hb
      · exact na c _ hc
def Keyed' (H : Hp) (zs : List (Addr × List Int)) (pl : List Addr) : Prop := ∀ j z, zs[j]? = some z → j < pl.length → ∃ p, pl[j]? = some p ∧ H p = some (.tup [.int z.2.length, .ref z.1])
theorem kat_tups (I : Inv X pins σ H s) : ∀ pl : List Addr, (∀ p ∈ pl, ∃ (n : Int) (z : Addr), H p = some (.tup [.int n, .ref z])) → ∃ fs : List Value, KatTups s.heap (pl.map Value.ref) fs ∧ fs.length = pl.length ∧ ∀ v ∈ fs, ∃ n t, v = Value.int n t
  | [], _ => ⟨[], KatTups.nil, rfl, fun v hv => by cases hv⟩
  | p :: pl, h => by
    obtain ⟨fs, h1, h2, h3⟩ := kat_tups I pl fun q hq => h q (.tail _ hq)
    obtain ⟨n, z, e⟩ := h p (.head _)
    obtain ⟨t, o, m, e1, e2, e3⟩ := key_at I e
    refine ⟨.int n t :: fs, KatTups.cons e1 e2 e3 rfl h1, by simp [h2], fun v hv => ?_⟩
    rcases List.mem_cons.mp hv with rfl | hv
    · exact ⟨n, t, rfl⟩
    · exact h3 v hv
theorem ksk_late {zs : List (Addr × List Int)} {f kS a : Addr} {fo : Obj} {e1 : Nat} {A : Around} {P : PySem.Fin → Shared → Prop} {E : Value → Shared → Prop} {n : Nat}
    (I : Inv X ((f, fo) :: (a, seqObj "list" #[] e1) :: pins) σ H s) (La : Late X pins n a) (Lk : Late X ((f, fo) :: (a, seqObj "list" #[] e1) :: pins) n kS) (hkS : s.heap.get? kS = some (seqObj "list" #[] 0)) (hkn : H kS = none)
    (hz : ∀ z ∈ zs, H z.1 = some (.lst (z.2.map V.int))) (nd : (zs.map (·.2)).Nodup) (h60 : zs.length ≤ 60) (hu : A.units + 2 < cLine)
    (turn : ∀ (H' : Hp) (s' : Shared) (pins' : List (Addr × Obj)) (z : Addr × List Int), Inv X pins' σ H' s' → (f, fo) ∈ pins' → Same H H' → z ∈ zs →
      wpAny (model X.prog X.w) A (call (.ref f) [.ref z.1]) (EP X pins' σ fun v H2 => ∃ p, v = .ref p ∧ H' p = none ∧ H2 = upd H' p (.tup [.int z.2.length, .ref z.1])) (fun _ _ => False) s')
    (done : ∀ (H' : Hp) (s' : Shared) (zs' : List (Addr × List Int)), Inv X pins σ (upd H' a (.lst (zs'.map fun z => V.ref z.1))) s' → Same H H' → H' a = none → zs'.Perm zs → zs'.Pairwise (fun x y => HT.kLess x.2 y.2 = true) → P (.done (.ret .none)) s') :
    wpAny (model X.prog X.w) A (ksk_rest a (.ref f) false (zs.map fun z => Value.ref z.1).toArray e1 (.ref kS)) P E s := by
  unfold ksk_rest
  refine wpAny_bind (wpAny_rule ?_)
  first
    | rw [List.forIn_toArray]
    | (rw [← Array.forIn_toList]; simp only [List.toList_toArray])
    | rw [← Array.forIn_toList]
  refine wpAny_bind (ksk_fold (fun i s' => ∃ (H' : Hp) (pl : List Addr) (e : Nat), Inv X ((f, fo) :: (a, seqObj "list" #[] e1) :: pins) σ H' s' ∧ s'.heap.get? kS = some (seqObj "list" (pl.map Value.ref).toArray e) ∧ H' kS = none ∧ pl.length = i ∧ Keyed' H' zs pl ∧ Same H H') (zs.map fun z => Value.ref z.1) 0 s
    ⟨H, [], 0, I, hkS, hkn, rfl, fun j z _ h => by simp at h, Same.refl _⟩ ?step ?fin)
  case step =>
    rintro j x s' hx ⟨H', pl, e, I', hk', hkn', hpl, hkeys, sm⟩
    rw [Nat.zero_add] at hpl ⊢
    rw [List.getElem?_map] at hx
    obtain ⟨z, hzj, ez⟩ := Option.map_eq_some_iff.mp hx
    subst ez
    have hzm := List.mem_of_getElem? hzj
    have hj : j < zs.length := (List.getElem?_eq_some_iff.mp hzj).1
    have I2 : Inv X ((kS, seqObj "list" (pl.map Value.ref).toArray e) :: (f, fo) :: (a, seqObj "list" #[] e1) :: pins) σ H' s' := I'.pins_of fun p hp => by
      rcases List.mem_cons.mp hp with rfl | hp
      · exact ⟨hk', hkn', Lk.lo, Lk.fs, fun v z => by cases z⟩
      · exact I'.pin p (List.mem_append_right _ hp)
    refine wpAny_bind (wpAny_attempt (wpAny_mono (turn H' s' _ z I2 (by simp) sm hzm) (fun v s'' he => ?_) fun _ _ hF => hF.elim))
    obtain ⟨v', H2, I3, rv, p, rfl, hpf, rfl⟩ := he
    cases rv
    have pk := I3.pin (kS, seqObj "list" (pl.map Value.ref).toArray e) (List.mem_append_right _ (.head _))
    have I4 : Inv X ((f, fo) :: (a, seqObj "list" #[] e1) :: pins) σ (upd H' p (.tup [.int z.2.length, .ref z.1])) s'' := I3.pins_of fun q hq => I3.pin q (List.mem_append_right _ (.tail _ hq))
    obtain ⟨c2, hc2⟩ : ∃ c2, (s''.heap.update kS (Obj.mapSeq (·.push (.ref p)))).get? kS = some (seqObj "list" ((pl.map Value.ref).toArray.push (.ref p)) c2) := ⟨_, get?_update_seq pk.1 (·.push (.ref p))⟩
    have hsl : (pl.map Value.ref).toArray.size ≤ 60 := by rw [List.size_toArray, List.length_map]; omega
    dsimp only
    refine wpAny_bind (listUpdate_at pk.1 rfl ?_ (Nat.le_trans hsl (by decide)) (by rw [Array.size_push]; exact Nat.le_trans (Nat.succ_le_succ hsl) (by decide)))
    refine wpAny_pure ⟨rfl, _, pl ++ [p], c2, I4.turned (t' := s''.toks) (fun b o hb q => ?_) pk.2.1 Lk.lo (.inr Lk.s0) Lk.ce Lk.pn, ?_, pk.2.1, by rw [List.length_append, List.length_singleton, hpl], fun i y hy hi => ?_, sm.trans (same_upd hpf)⟩
    · rw [Heap.get?_update_other _ _ (Ne.symm hb)]; exact q
    · rw [hc2]; simp
    · by_cases hlt : i < pl.length
      · obtain ⟨p', e1', e2'⟩ := hkeys i y hy hlt
        exact ⟨p', by rw [List.getElem?_append_left hlt]; exact e1', by rw [upd_ne (ne_of_none e2' hpf)]; exact e2'⟩
      · have ei : i = pl.length := by rw [List.length_append, List.length_singleton] at hi; omega
        have ej : i = j := by omega
        rw [ej, hzj] at hy
        cases hy
        exact ⟨p, by rw [ei]; simp, upd_same⟩
  case fin =>
    rintro s' ⟨H', pl, e, I', hk', hkn', hpl, hkeys, sm⟩
    rw [Nat.zero_add, List.length_map] at hpl
    try dsimp only
    refine wpAny_bind (listItems_at hk' rfl ?_)
    have ga := I'.pin (a, seqObj "list" #[] e1) (List.mem_append_right _ (.tail _ (.head _)))
    have Ip : Inv X pins σ H' s' := I'.pins_of fun q hq => I'.pin q (by
      rcases List.mem_append.mp (List.mem_append_right X.pn hq) with h | h
      · exact List.mem_append_left _ h
      · exact List.mem_append_right _ (.tail _ (.tail _ h)))
    have nka : kS ≠ a := fun z => Lk.pn (a, seqObj "list" #[] e1) (List.mem_append_right _ (.tail _ (.head _))) z.symm
    have tail : ∀ (st : SortSt) (zs' : List (Addr × List Int)), (arrOf st).map (·.2) = (zs'.map fun z => Value.ref z.1).toArray → failedOf st = none → zs'.Perm zs → zs'.Pairwise (fun x y => HT.kLess x.2 y.2 = true) →
        wpAny (model X.prog X.w) A (ksk_tail a false e1 (.ref kS) st) P E s' := by
      intro st zs' hout hfl pm pw
      have hlen : zs'.length ≤ 60 := by rw [pm.length_eq]; exact h60
      have s1 := Heap.SameBut.update s'.heap kS (Obj.mapSeq fun _ => (#[] : Array Value))
      have na1 : (s'.heap.update kS (Obj.mapSeq fun _ => (#[] : Array Value))).get? a = some (seqObj "list" #[] e1) := (s1.2 a nka.symm).trans ga.1
      obtain ⟨c2, hc2⟩ : ∃ c2, ((s'.heap.update kS (Obj.mapSeq fun _ => (#[] : Array Value))).update a (Obj.mapSeq fun _ => (zs'.map fun z => Value.ref z.1).toArray)).get? a = some (seqObj "list" (zs'.map fun z => Value.ref z.1).toArray c2) :=
        ⟨_, get?_update_seq na1 fun _ => (zs'.map fun z => Value.ref z.1).toArray⟩
      have I5 : Inv X pins σ H' { s' with heap := s'.heap.update kS (Obj.mapSeq fun _ => (#[] : Array Value)), toks := s'.toks } := Ip.turned (fun b o hb q => by rw [Heap.get?_update_other _ _ (Ne.symm hb)]; exact q) hkn' Lk.lo (.inr Lk.s0) Lk.ce (fun q hq => Lk.pn q (by
        rcases List.mem_append.mp hq with h | h
        · exact List.mem_append_left _ h
        · exact List.mem_append_right _ (.tail _ (.tail _ h))))
      have I6 := I5.tell (t' := s'.toks) (h' := (s'.heap.update kS (Obj.mapSeq fun _ => (#[] : Array Value))).update a (Obj.mapSeq fun _ => (zs'.map fun z => Value.ref z.1).toArray)) La ga.2.1 (fun b o hb q => by rw [Heap.get?_update_other _ _ (Ne.symm hb)]; exact q) (refs_vals zs') (by rw [List.length_map]; exact Nat.le_trans hlen (by decide)) hc2
      unfold ksk_tail
      try dsimp only
      refine wpAny_bind (listUpdate_at hk' rfl ?_ (by rw [List.size_toArray, List.length_map, hpl]; exact Nat.le_trans h60 (by decide)) (Nat.zero_le _))
      refine wpAny_bind (wpAny_letGo ?_)
      refine wpAny_bind (seqEpoch_at na1 rfl ?_)
      simp only [Bool.false_eq_true, if_false]
      rw [hout]
      refine wpAny_bind (listUpdate_at na1 rfl ?_ (Nat.zero_le _) (by rw [List.size_toArray, List.length_map]; exact Nat.le_trans hlen (by decide)))
      rw [hfl]
      simp only [bne_self_eq_false, Bool.false_eq_true, if_false]
      exact wpAny_pure (done H' _ zs' I6 sm ga.2.1 pm pw)
    unfold ksk_end
    try dsimp only
    simp only [Bool.false_eq_true, if_false]
    have hvl : (zs.map fun z => Value.ref z.1).toArray.size = zs.length := by rw [List.size_toArray, List.length_map]
    by_cases h2 : (zs.map fun z => Value.ref z.1).toArray.size < 2
    · rw [if_pos h2, if_pos h2]
      refine wpAny_bind (wpAny_pure ?_)
      rw [StateT.run_pure]
      refine wpAny_bind (wpAny_pure ?_)
      try dsimp only
      refine tail _ zs ?_ rfl (List.Perm.refl _) ?_
      · show (((pl.map Value.ref).toArray.zip (zs.map fun z => Value.ref z.1).toArray).map (·.2)) = _
        apply Array.toList_inj.mp
        rw [Array.toList_map, Array.toList_zip, List.map_snd_zip (by simp [hpl])]
      · rw [hvl] at h2
        match zs, h2 with
        | [], _ => exact .nil
        | [_], _ => exact List.pairwise_singleton _ _
    · rw [if_neg h2, if_neg h2]
      rw [hvl] at h2
      have hkl : (pl.map Value.ref).length = (zs.map fun z => Value.ref z.1).length := by rw [List.length_map, List.length_map, hpl]
      have hk2 : ∀ j, j < zs.length → ∃ p, pl[j]? = some p ∧ H' p = some (.tup [.int (zs.getD j (0, [])).2.length, .ref (zs.getD j (0, [])).1]) ∧ zs.getD j (0, []) ∈ zs := fun j hj => by
        have e : zs.getD j (0, []) = zs[j] := by rw [List.getD_eq_getElem?_getD, List.getElem?_eq_getElem hj]; rfl
        rw [e]
        obtain ⟨p, e1, e2⟩ := hkeys j zs[j] (List.getElem?_eq_getElem hj) (by omega)
        exact ⟨p, e1, e2, List.getElem_mem hj⟩
      obtain ⟨fs, ht, hfl, hfi⟩ := kat_tups I' pl fun p hp => by
        obtain ⟨j, hj, rfl⟩ := List.getElem_of_mem hp
        obtain ⟨p', e1, e2, _⟩ := hk2 j (by omega)
        rw [List.getElem?_eq_getElem hj] at e1
        cases e1
        exact ⟨_, _, e2⟩
      refine wpAny_bind (kat_kind (T := .type "int") ht (by omega) (fun v hv => ?_) (by decide) ?_)
      · obtain ⟨n, t, rfl⟩ := hfi v hv
        exact Looks.of_pure rfl
      have ls2 : (zs.map (·.2)).length = zs.length := List.length_map ..
      have ask : (kas_sort (zs.map fun z => Value.ref z.1).length).kasWp (kas_ask X.prog X.w A (tuples' true) (pl.map Value.ref)) (fun p s'' => s'' = s' ∧ (HT.Pm zs.length p ∧ HT.Up (fun i j => HT.kLess ((zs.map (·.2)).getD i []) ((zs.map (·.2)).getD j [])) p zs.length)) s' := by
        rw [List.length_map]
        have O := HT.kOrd nd
        rw [ls2] at O
        refine HT.KW.wp (n := zs.length) (fun i j C hi hj hC => ?_) _ (HT.sortG O (by omega))
        obtain ⟨p, e1, e2, e3⟩ := hk2 i hi
        obtain ⟨q, d1, d2, d3⟩ := hk2 j hj
        have ei : (zs.map (·.2)).getD i [] = (zs.getD i (0, [])).2 := by rw [List.getD_eq_getElem?_getD, List.getD_eq_getElem?_getD, List.getElem?_map, List.getElem?_eq_getElem hi]; rfl
        have ej : (zs.map (·.2)).getD j [] = (zs.getD j (0, [])).2 := by rw [List.getD_eq_getElem?_getD, List.getD_eq_getElem?_getD, List.getElem?_map, List.getElem?_eq_getElem hj]; rfl
        have gi : (pl.map Value.ref).getD i Value.none = .ref p := by rw [List.getD_eq_getElem?_getD, List.getElem?_map, e1]; rfl
        have gj : (pl.map Value.ref).getD j Value.none = .ref q := by rw [List.getD_eq_getElem?_getD, List.getElem?_map, d1]; rfl
        unfold kas_ask
        rw [gi, gj]
        refine key_lt I' e2 d2 (sm _ _ (hz _ e3)) (sm _ _ (hz _ d3)) hu ?_
        try dsimp only at hC
        rw [ei, ej] at hC
        exact hC
      have eT : (Value.type "int" != Value.type "tuple") = true := by decide
      rw [eT]
      refine wpAny_bind (wpAny_mono (kat_run (ks := pl.map Value.ref) (vs := zs.map fun z => Value.ref z.1) (Q := fun st' s'' => ∃ p : Array Nat, s'' = s' ∧ arrOf st' = p.map (kas_item ((pl.map Value.ref).toArray.zip (zs.map fun z => Value.ref z.1).toArray)) ∧ failedOf st' = none ∧ HT.Pm zs.length p ∧ HT.Up (fun i j => HT.kLess ((zs.map (·.2)).getD i []) ((zs.map (·.2)).getD j [])) p zs.length)
        hkl (by rw [List.length_map]; omega) (by rw [List.length_map]; omega) (fun p st' s'' _ a2 a3 a4 => ⟨p, a4.1, a2, a3, a4.2⟩) ask) ?_ fun _ _ e => e)
      rintro ⟨⟨⟩, st'⟩ s'' ⟨p, rfl, har, hfl2, hpm, hup⟩
      try dsimp only
      have hout := kat_snds hkl har
      have hpl2 : p.toList.length = zs.length := by rw [hpm.pm.length_eq, List.length_range]
      refine tail st' (p.toList.map fun i => zs.getD i (0, [])) ?_ hfl2 (HT.perm_getD _ zs hpm.pm) ?_
      · rw [hout, List.map_map]
        congr 1
        refine List.map_congr_left fun i hi => ?_
        have hi' := List.mem_range.mp (hpm.pm.mem_iff.mp hi)
        show _ = Value.ref (zs.getD i (0, [])).1
        rw [List.getD_eq_getElem?_getD, List.getD_eq_getElem?_getD, List.getElem?_map, List.getElem?_eq_getElem hi']; rfl
      · rw [List.pairwise_map, List.pairwise_iff_getElem]
        intro i j hi hj hij
        have q1 := hup i j hij (by omega)
        have e1 : p.getD i 0 = p.toList[i] := by
          have : i < p.size := by rw [hpm.sz]; omega
          simp [Array.getD, this]
        have e2 : p.getD j 0 = p.toList[j] := by
          have : j < p.size := by rw [hpm.sz]; omega
          simp [Array.getD, this]
        rw [e1, e2] at q1
        have m1 := List.mem_range.mp (hpm.pm.mem_iff.mp (List.getElem_mem hi))
        have m2 := List.mem_range.mp (hpm.pm.mem_iff.mp (List.getElem_mem hj))
        have ei : (zs.map (·.2)).getD p.toList[i] [] = (zs.getD p.toList[i] (0, [])).2 := by rw [List.getD_eq_getElem?_getD, List.getD_eq_getElem?_getD, List.getElem?_map, List.getElem?_eq_getElem m1]; rfl
        have ej : (zs.map (·.2)).getD p.toList[j] [] = (zs.getD p.toList[j] (0, [])).2 := by rw [List.getD_eq_getElem?_getD, List.getD_eq_getElem?_getD, List.getElem?_map, List.getElem?_eq_getElem m2]; rfl
        try dsimp only at q1
        rw [ei, ej] at q1
        exact q1
end
end L2
set_option Elab.async false
set_option linter.all false
set_option maxRecDepth 100000
set_option maxHeartbeats 4000000
namespace L2
open PySem PySem.Spec PyProof.Rows PySem.W
section
variable {X : Cx} {pins : List (Addr × Obj)} {σ : St} {H : Hp} {s : Shared}
theorem sorted_late {zs : List (Addr × List Int)} {f l : Addr} {fo : Obj} {Q : VK} (I : Inv X ((f, fo) :: pins) σ H s) (hl : H l = some (.lst (zs.map fun z => V.ref z.1))) (hz : ∀ z ∈ zs, H z.1 = some (.lst (z.2.map V.int))) (nd : (zs.map (·.2)).Nodup) (h60 : zs.length ≤ 60)
    (hu : X.A.in1.in1.units + 2 < cLine)
    (turn : ∀ (H' : Hp) (s' : Shared) (pins' : List (Addr × Obj)) (z : Addr × List Int), Inv X pins' σ H' s' → (f, fo) ∈ pins' → Same H H' → z ∈ zs →
      wpAny (model X.prog X.w) X.A.in1.in1 (call (.ref f) [.ref z.1]) (EP X pins' σ fun v H2 => ∃ p, v = .ref p ∧ H' p = none ∧ H2 = upd H' p (.tup [.int z.2.length, .ref z.1])) (fun _ _ => False) s')
    (q : ∀ (D : Addr) (H' : Hp) (zs' : List (Addr × List Int)), H D = none → Same H H' → H' D = none → zs'.Perm zs → zs'.Pairwise (fun x y => HT.kLess x.2 y.2 = true) → Q (.ref D) (upd H' D (.lst (zs'.map fun z => V.ref z.1)))) :
    wpAny (model X.prog X.w) X.A (call (.builtin "sorted") [.ref l] [(Str.ofString "key", .ref f)]) (EP X pins σ Q) X.xe s := by
  obtain ⟨its, r1, p1, _⟩ := I.list (SqL.of hl)
  have e1 := vals_refs r1
  subst e1
  have hvl : (zs.map fun z => Value.ref z.1).length = zs.length := List.length_map ..
  have hsl : (zs.map fun z => Value.ref z.1).length ≤ sizeLine := by rw [hvl, sizeLine_eq]; omega
  refine call_function_entry_kw kind_sorted plain_sorted entry_sorted (ksk_s1 _ _) ?_
  unfold Builtin.«sorted»
  refine wpAny_bind (m := checkCount "sorted" 1 1 _) (wpAny_pure (wpAny_bind (collect_list p1.isList (wpAny_bind (wpAny_newList ?_ hsl)) hsl)))
  generalize hB : (s.heap.push (seqObj "list" #[] 0)).update s.heap.objs.size (Obj.mapSeq (· ++ (zs.map fun z => Value.ref z.1).toArray)) = B
  have hsz : B.objs.size = s.heap.objs.size + 1 := by rw [← hB, Heap.size_update, size_push']
  have keep : ∀ b o, s.heap.get? b = some o → (B.push (seqObj "list" (zs.map fun z => Value.ref z.1).toArray 0)).get? b = some o := fun b o q => by
    have hlt : b < s.heap.objs.size := Heap.lt_size q
    rw [Heap.get?_push_ne _ _ _ (by rw [hsz]; exact Nat.ne_of_lt (Nat.lt_succ_of_lt hlt)), ← hB, Heap.get?_update_ne _ _ _ _ (Nat.ne_of_lt hlt), Heap.get?_push_ne _ _ _ (Nat.ne_of_lt hlt)]; exact q
  have hoL : (B.push (seqObj "list" (zs.map fun z => Value.ref z.1).toArray 0)).get? (s.heap.objs.size + 1) = some (seqObj "list" (zs.map fun z => Value.ref z.1).toArray 0) := by
    rw [← hsz]; exact Heap.get?_push_size _ rfl
  have hszB : (B.push (seqObj "list" (zs.map fun z => Value.ref z.1).toArray 0)).objs.size = s.heap.objs.size + 2 := by rw [size_push', hsz]
  show wpAny _ _ _ _ _ { s with heap := B.push (seqObj "list" (zs.map fun z => Value.ref z.1).toArray 0) }
  dsimp only
  rw [hsz]
  refine wpAny_bind (wpAny_holding (wpAny_call_entry_kw slot_list_sort ⟨_, hoL, rfl⟩ entry_list_sort ?body (ksk_l1 _ _)))
  case body =>
    show wpAny (model X.prog X.w) X.A.in1.in1 (Builtin.«list.sort» ⟨[.ref (s.heap.objs.size + 1)], [(Str.ofString "key", .ref f)]⟩) _ _ _
    rw [ksk_t1]
    unfold ksk_tree
    generalize hG : B.push (seqObj "list" (zs.map fun z => Value.ref z.1).toArray 0) = G at keep hoL hszB
    generalize hLd : s.heap.objs.size + 1 = L at hoL
    have hLG : L < G.objs.size := Heap.lt_size hoL
    obtain ⟨e1, ho1⟩ : ∃ e1, (G.update L (Obj.mapSeq fun _ => (#[] : Array Value))).get? L = some (seqObj "list" #[] e1) := ⟨_, get?_update_seq hoL fun _ => #[]⟩
    refine wpAny_bind (listItems_at (s := { s with heap := G }) hoL rfl ?_)
    refine wpAny_bind (listUpdate_at (s := { s with heap := G }) hoL rfl ?_ (by rw [List.size_toArray]; exact hsl) (Nat.zero_le _))
    refine wpAny_bind (seqEpoch_at ho1 rfl ?_)
    refine wpAny_bind (wpAny_newTuple ?_ (by show (zs.map fun z => Value.ref z.1).length ≤ _; exact hsl))
    refine wpAny_bind (wpAny_newList ?_ (Nat.zero_le _))
    refine wpAny_holding ?_
    generalize hM : (G.update L (Obj.mapSeq fun _ => (#[] : Array Value))).push (seqObj "tuple" (zs.map fun z => Value.ref z.1).toArray 0) = M
    have hMs : M.objs.size = s.heap.objs.size + 3 := by rw [← hM, size_push', Heap.size_update, hszB]
    have hkS : (M.push (seqObj "list" #[] 0)).get? (s.heap.objs.size + 3) = some (seqObj "list" #[] 0) := by rw [← hMs]; exact Heap.get?_push_size _ rfl
    have hL2 : (M.push (seqObj "list" #[] 0)).get? L = some (seqObj "list" #[] e1) := Heap.get?_push_of_some _ (by rw [← hM]; exact Heap.get?_push_of_some _ ho1)
    have keep2 : ∀ b o, s.heap.get? b = some o → (M.push (seqObj "list" #[] 0)).get? b = some o := fun b o q => by
      have hlt : b < s.heap.objs.size := Heap.lt_size q
      refine Heap.get?_push_of_some _ ?_
      rw [← hM]
      refine Heap.get?_push_of_some _ ?_
      rw [Heap.get?_update_ne _ _ _ _ (by rw [← hLd]; exact Nat.ne_of_lt (Nat.lt_succ_of_lt hlt))]
      exact keep b o q
    have La0 := I.late (a := L) (by rw [← hLd]; exact Nat.le_succ _)
    have Lk0 := I.late (a := s.heap.objs.size + 3) (by omega)
    have I1 : Inv X ((f, fo) :: pins) σ H { s with heap := M.push (seqObj "list" #[] 0), toks := s.toks } := I.kept keep2
    have hLn : H L = none := I.hok.fresh (by rw [← hLd]; exact Nat.le_succ _)
    have I2 : Inv X ((f, fo) :: (L, seqObj "list" #[] e1) :: pins) σ H { s with heap := M.push (seqObj "list" #[] 0), toks := s.toks } := I1.pins_of fun p hp => by
      rcases List.mem_cons.mp hp with rfl | hp
      · exact I1.pin _ (List.mem_append_right _ (.head _))
      · rcases List.mem_cons.mp hp with rfl | hp
        · exact ⟨hL2, hLn, La0.lo, La0.fs, fun v z => by cases z⟩
        · exact I1.pin p (List.mem_append_right _ (.tail _ hp))
    have La : Late X pins s.heap.objs.size L := ⟨La0.s0, La0.lo, La0.ce, La0.fs, fun p hp => La0.pn p (by
      rcases List.mem_append.mp hp with h | h
      · exact List.mem_append_left _ h
      · exact List.mem_append_right _ (.tail _ h)), La0.ge⟩
    have Lk : Late X ((f, fo) :: (L, seqObj "list" #[] e1) :: pins) s.heap.objs.size (s.heap.objs.size + 3) := ⟨Lk0.s0, Lk0.lo, Lk0.ce, Lk0.fs, fun p hp => by
      rcases List.mem_append.mp hp with h | h
      · exact Lk0.pn p (List.mem_append_left _ h)
      · rcases List.mem_cons.mp h with rfl | h
        · exact Lk0.pn _ (List.mem_append_right _ (.head _))
        · rcases List.mem_cons.mp h with rfl | h
          · show L ≠ _
            rw [← hLd]; omega
          · exact Lk0.pn p (List.mem_append_right _ (.tail _ h)), Lk0.ge⟩
    rw [hMs]
    refine ksk_late (s := { s with heap := M.push (seqObj "list" #[] 0) }) I2 La Lk hkS (I.hok.fresh (by omega)) hz nd h60 hu turn fun H' s' zs' I' sm hn pm pw => ⟨_, rfl, ?_⟩
    exact wpAny_pure ⟨_, rfl, .ref L, _, I', rfl, q L H' zs' hLn sm hn pm pw⟩
end
end L2
set_option Elab.async false
set_option linter.all false
set_option maxRecDepth 100000
set_option maxHeartbeats 4000000
namespace L2
open PySem PySem.Spec PyProof.Rows PySem.W
section
variable {X : Cx} {σ : St} {H : Hp} {s : Shared} {params : Arguments} {body : Expr} {scope : Scope} {pos lpos kpos p : Pos} {c P : Addr} {y : Str} {e : Expr} {te : TE}
theorem lam_turn {pins : List (Addr × Obj)} {f c' : Addr} {q : Str} {pm ct : Value} {k : Nat} {v : V} {u : Value} {Q : VK} (I : Inv X pins σ H s) (hf : (f, kla_obj "<lambda>" q params body scope [] pm c' ct) ∈ pins) (hL : LamAt P lpos q H c') (S : FnScope [y] [y] scope) (hr : Room (k + 1) X.A.in1.in1)
    (hb : ∀ (pm ct : Value) (u : Value), bindArgs (kla_fn "<lambda>" q params body scope [] pm (.ref c') ct) ⟨[u], []⟩ = pure [(y, u)]) (rv : RelV v u)
    (hbody : ∃ t, PE (cxOf CX0 X.prog X.w X.K X.mg X.base [y] q scope f (.ref c') X.A.in1.in1 X.stack s H E0) body t ∧ t (start [y] [v]) H Q) :
    wpAny (model X.prog X.w) X.A.in1.in1 (call (.ref f) [u]) (EP X pins σ Q) (fun _ _ => False) s := by
  have pf := I.pin _ (List.mem_append_right X.pn hf)
  have hcd : s.heap.CodeRec (.ref c') q := (I.hok c' _ hL.2).1
  refine wpAny_call (codeAny_mono (lam_run (k := k) (N := [y]) (ps := [y]) (us := [u]) (vs := [v]) (E := E0) pf.1 rfl hcd S hr I.env0.in1.in1 (BindsTo.of_eq (hb pm ct u)) rfl (.cons rv .nil) hbody) fun r s' hq => ?_)
  cases r with
  | error e => exact hq
  | ok fl =>
    cases fl with
    | ret u => exact I.after hq
    | next => exact False.elim hq
    | brk => exact False.elim hq
    | cont => exact False.elim hq
def tSortKey (P : Addr) (lpos : Pos) (q : Str) (te : TE) : TE := fun σ H Q => te σ H fun x H1 => ∃ (l : Addr) (zs : List (Addr × List Int)), x = .ref l ∧ H1 l = some (.lst (zs.map fun z => V.ref z.1)) ∧ (∀ z ∈ zs, H1 z.1 = some (.lst (z.2.map V.int))) ∧ (zs.map (·.2)).Nodup ∧ zs.length ≤ 60 ∧ LamTab P lpos q H1 ∧
  ∀ (D : Addr) (zs' : List (Addr × List Int)) (H2 : Hp), H1 D = none → H2 D = none → (∀ b u, b ≠ P → H1 b = some u → H2 b = some u) → LamTab P lpos q H2 → zs'.Perm zs → zs'.Pairwise (fun x y => HT.kLess x.2 y.2 = true) → Q (.ref D) (upd H2 D (.lst (zs'.map fun z => V.ref z.1)))
theorem pe_sortKey {k : Nat} (he : PE X e te) (hg : Gl X "sorted") (hm : X.mg "sorted" = none) (hr : Room (k + 3) X.A) (hdef : defaultsOf params X.env = ([], [])) (hcl : closureFor scope X.env = pure []) (hcode : X.env.code = .ref c) (hK : codeHdIn X.K c P = true) (hB : X.base.BuiltinsAt X.mg P) (hgP : mainGlobals ≠ P)
    (S : FnScope [y] [y] scope) (hb : ∀ (pm cd ct : Value) (u : Value), bindArgs (kla_fn "<lambda>" (X.env.qual ++ "<lambda>") params body scope [] pm cd ct) ⟨[u], []⟩ = pure [(y, u)])
    (hbody : ∀ (f c' : Addr) (s : Shared) (H : Hp) (z : Addr × List Int), H z.1 = some (.lst (z.2.map V.int)) → ∃ t, PE (cxOf CX0 X.prog X.w X.K X.mg X.base [y] (X.env.qual ++ "<lambda>") scope f (.ref c') X.A.in1.in1 X.stack s H E0) body t ∧
      t (start [y] [.ref z.1]) H fun v H2 => ∃ p, v = .ref p ∧ H p = none ∧ H2 = upd H p (.tup [.int z.2.length, .ref z.1]))
    (hs1 : starEach [e] X.env = [(false, eval e X.env)] := by rfl) :
    PE X (.Call (.Name "sorted" p) [e] [⟨some "key", .Lambda params body scope lpos, kpos⟩] pos) (tSortKey P lpos (X.env.qual ++ "<lambda>") te) := by
  intro pins s σ H Q I h
  refine wpAny_Call_Name_kw (ld_blt I hg hm boot_sorted ?_ (by decide) (by decide))
  have ha : PA X [e] (tCons te tNil) := pa_cons he pa_nil hs1
  refine callWith_kw (thn (ha pos pins s σ H (fun vs H1 => match vs with
    | [x] => ∃ (l : Addr) (zs : List (Addr × List Int)), x = .ref l ∧ H1 l = some (.lst (zs.map fun z => V.ref z.1)) ∧ (∀ z ∈ zs, H1 z.1 = some (.lst (z.2.map V.int))) ∧ (zs.map (·.2)).Nodup ∧ zs.length ≤ 60 ∧ LamTab P lpos (X.env.qual ++ "<lambda>") H1 ∧
      ∀ (D : Addr) (zs' : List (Addr × List Int)) (H2 : Hp), H1 D = none → H2 D = none → (∀ b u, b ≠ P → H1 b = some u → H2 b = some u) → LamTab P lpos (X.env.qual ++ "<lambda>") H2 → zs'.Perm zs → zs'.Pairwise (fun x y => HT.kLess x.2 y.2 = true) → Q (.ref D) (upd H2 D (.lst (zs'.map fun z => V.ref z.1)))
    | _ => False) I h) fun us s1 ⟨vs, H1, I1, r1, q1⟩ => ?_) (by rw [hs1]; rfl) (by rw [hs1]; rfl)
  match vs, q1 with
  | [x], q1 =>
    obtain ⟨l, zs, rfl, hl, hz, nd, h60, hT, q⟩ := q1
    obtain ⟨u, rfl, rx⟩ := vals1 r1
    cases rx
    show wpAny _ _ (evalAll ((do let v ← eval (.Lambda params body scope lpos) X.env; standAt pos; pure v) :: [])) _ _ s1
    refine wpAny_evalAll_cons (wpAny_bind (lam_make I1 hdef hcl hcode hK hB hgP hT fun f c' H2 s2 pm ct I2 hL hfo hfn hsz up => wpAny_bind (wpAny_standAt (wpAny_pure ?_))))
    refine wpAny_evalAll_nil ?_
    have Lf := I1.late hsz
    have I3 : Inv X ((f, kla_obj "<lambda>" (X.env.qual ++ "<lambda>") params body scope [] pm c' ct) :: pins) σ H2 s2 := I2.pins_of fun p hp => by
      rcases List.mem_cons.mp hp with rfl | hp
      · exact ⟨hfo, hfn, Lf.lo, Lf.fs, fun v z => by cases z⟩
      · exact I2.pin p (List.mem_append_right _ hp)
    have hPl : ∀ b xs, H1 b = some (.lst xs) → b ≠ P := fun b xs e z => by
      rw [z] at e
      rcases hT with t | ⟨c2, t, _⟩
      · rw [t] at e; cases e
      · rw [t] at e; cases e
    have hr2 : Room (k + 1) X.A.in1.in1 := (hr.in1).in1
    show wpAny _ _ (call (.builtin "sorted") [.ref l] [(Str.ofString "key", .ref f)]) _ _ s2
    refine sorted_late I3 (up _ _ (hPl _ _ hl) hl) (fun z hzm => up _ _ (hPl _ _ (hz z hzm)) (hz z hzm)) nd h60 (by have := hr2.units; omega) (fun H' s' pins' z I' hf sm hzm => ?_) fun D H' zs' hD sm hn pm pw => ?_
    · have hL' : LamAt P lpos (X.env.qual ++ "<lambda>") H' c' := ⟨sm _ _ hL.1, sm _ _ hL.2⟩
      exact lam_turn (v := .ref z.1) I' hf hL' S hr2 (fun pm ct u => hb pm (.ref c') ct u) rfl (hbody f c' s' H' z (sm _ _ (up _ _ (hPl _ _ (hz z hzm)) (hz z hzm))))
    · refine q D zs' H' ?_ hn (fun b u hb e => sm _ _ (up b u hb e)) (.inr ⟨c', sm _ _ hL.1, sm _ _ hL.2⟩) pm pw
      cases e : H1 D with
      | none => rfl
      | some u =>
        by_cases hDP : D = P
        · rw [hDP, hL.1] at hD; cases hD
        · rw [up D u hDP e] at hD; cases hD
end
end L2
set_option Elab.async false
set_option linter.all false
set_option maxRecDepth 100000
set_option maxHeartbeats 4000000
namespace L2
open PySem PySem.Spec PyProof.Rows PySem.W
theorem law_callP {P : Program} {w : World} {K : Frag} {mg mb : Str → Option Value} {CX : CXT} {k : Nat} {fa a c T : Addr} {fd : FuncData} {x : Str} {sp : Sp} {s₁ : Shared} {vs : List Value} {ns : List Int}
    (KX : K.In s₁.heap) (hns : s₁.heap.Ns mainGlobals mg) (hb : s₁.heap.Ns builtinsNs mb) (hbb : ∀ x : Str, x ≠ "__name__" → mb x = bootBuiltins x) (hlim : s₁.heap.NoLimit) (hg : s₁.gens = #[])
    (hBM : ∃ bm ob, mg "__builtins__" = some (.ref bm) ∧ bm ≠ builtinsNs ∧ s₁.heap.get? bm = some ob ∧ ob.cls = .type "module" ∧ ob.dict = some builtinsNs ∧ ob.data = .plain)
    (hT : s₁.heap.get? T = some (tabObj #[])) (hKT : K.lookup T = none) (hcT : codeHdIn K c T = true)
    (ha : s₁.heap.get? a = some { cls := .type "list", data := .seq vs.toArray }) (hi : IntsAre vs ns) (hl : ns.length ≤ sizeLine) (hr : Room k callerA)
    (F : ∀ base : Heap, K.In base → base.Ns mainGlobals mg → base.BuiltinsAt mg T → FnOk P w K mg base CX k fa fd [x] sp) (hbind : ∀ (s : Shared) (u : Value), BindsTo s fd ⟨[u], []⟩ [(x, u)])
    (hsp : ∀ H : Hp, H T = some (.tbl #[]) → SqL K H a (ns.map V.int) → sp [.ref a] H (fun v _ => v = .bl true) fun _ _ _ => False)
    (hCX : ∀ H e s', CX [] H s₁ (fun _ _ _ => False) e s' → False) :
    codeAny (model P w) callerA (.call (.ref fa) ⟨[.ref a], []⟩) (fun r s' => r = .ok (.ret (.bool true)) ∧ OldK s₁.heap s'.heap ∧ s'.os = s₁.os ∧ AllBare s'.gens) s₁ := by
  have rv := vals_ints hi
  have lenV := hi.length
  have tabT : s₁.heap.TableAt c T #[] := (codeHd_of_K KX hcT).tab hT
  have core : ∀ H : Hp, H T = some (.tbl #[]) → SqL K H a (ns.map V.int) → HOk P w H s₁.heap → (∀ b, H b ≠ none → b = a ∨ b = T) → (∀ b, b ≠ T → H b = none ∨ ∃ o xs, H b = some (.frz o (.lst xs))) → (∀ b, H b ≠ none → K.lookup b = none) →
      codeAny (model P w) callerA (.call (.ref fa) ⟨[.ref a], []⟩) (fun r s' => r = .ok (.ret (.bool true)) ∧ OldK s₁.heap s'.heap ∧ s'.os = s₁.os ∧ AllBare s'.gens) s₁ := by
    intro H hHT hS hok hA hO hK
    have base_of : ∀ {b : Addr} {o : Obj}, s₁.heap.get? b = some o → H b = none → (hidT s₁.heap H).get? b = some o := fun e n => hidT_get e n
    have noA : ∀ {b : Addr} {o : Obj}, s₁.heap.get? b = some o → (∀ xs n, o.data ≠ .seq xs n) → (∀ ps, o.data ≠ .fields ps) → H b = none := fun {b o} e d1 d2 => by
      cases q : H b with
      | none => rfl
      | some u =>
        rcases hA b (by rw [q]; simp) with e' | e'
        · subst e'
          rw [ha] at e; cases e
          exact absurd rfl (d1 _ _)
        · subst e'
          rw [hT] at e; cases e
          exact absurd rfl (d2 _)
    have nsK : ∀ {b : Addr} {m : Str → Option Value}, s₁.heap.Ns b m → (hidT s₁.heap H).Ns b m := fun {b m} ⟨o, es, ep, e, d, r⟩ => ⟨o, es, ep, base_of e (noA e (fun xs n z => by rw [d] at z; cases z) (fun ps z => by rw [d] at z; cases z)), d, r⟩
    have hKb : K.In (hidT s₁.heap H) := fun b o e => base_of (KX b o e) (by
      cases q : H b with
      | none => rfl
      | some u => rw [hK b (by rw [q]; simp)] at e; cases e)
    have hM : Mod K mg (hidT s₁.heap H) := ⟨hKb, nsK hns, ⟨mb, nsK hb, hbb⟩, let ⟨mc, h1, h2⟩ := hlim; ⟨mc, nsK h1, h2⟩⟩
    have hBA : (hidT s₁.heap H).BuiltinsAt mg T := by
      obtain ⟨bm, ob, b1, b2, b3, b4, b5, b6⟩ := hBM
      refine ⟨bm, ob, b1, b2, fun z => ?_, fun z => ?_, base_of b3 (noA b3 (fun xs n z => by rw [b6] at z; cases z) (fun ps z => by rw [b6] at z; cases z)), b4, b5, b6⟩
      · obtain ⟨o, es, ep, e, hd, _⟩ := hns
        rw [z, e] at b3; cases b3
        rw [hd] at b6; cases b6
      · rw [z, hT] at b3; cases b3; cases b4
    have e0 : Env0 P w K mg (hidT s₁.heap H) callerA [] s₁ H := ⟨rfl, hM, fun b o e => of_hidT e, Nat.le_of_eq (hidT_size _ _), trivial, fun b hb => absurd (show b ∈ ([] : List Addr) from hb) (by simp), hok, .of_eq hg⟩
    refine codeAny_mono ((F _ hKb (nsK hns) hBA).run callerA [] s₁ H ⟨[.ref a], []⟩ [.ref a] [.ref a] _ _ hr e0 (hbind s₁ (.ref a)) (.cons rfl .nil) (hsp H hHT hS)) fun r s' h => ?_
    cases r with
    | error e => exact (hCX H e s' h).elim
    | ok fl =>
      cases fl with
      | next => exact False.elim h
      | brk => exact False.elim h
      | cont => exact False.elim h
      | ret u =>
        obtain ⟨v, H', os, bare, un, hok', r', q⟩ := h
        have q' : v = .bl true := q
        subst q'
        obtain rfl : u = Value.bool true := r'
        have oth : ∀ b o, b ≠ T → s₁.heap.get? b = some o → s'.heap.get? b = some o := fun b o hbT e => by
          cases q : H b with
          | none => exact un.keep b o e q (by intro z; exact absurd (show b ∈ ([] : List Addr) from z) (by simp)) (by simp)
          | some u =>
            rcases hO b hbT with z | ⟨ob, xs, z⟩
            · rw [q] at z; cases z
            · have z2 := un.frzs b ob _ z
              obtain ⟨e1, _⟩ := hok b _ z
              obtain ⟨e2, _⟩ := hok' b _ z2
              rw [e] at e1; cases e1
              exact e2
        obtain ⟨more, hm⟩ := un.tbls T _ hHT
        have hTm : s'.heap.get? T = some { cls := .none, data := .fields (#[] ++ more) } := hok' T _ hm
        refine ⟨rfl, ⟨fun b o e => ?_, fun b o e => ?_⟩, os, bare⟩
        · by_cases hbT : b = T
          · subst hbT
            rw [hT] at e; cases e
            exact .inr (.inl ⟨tabT.isCodeTable, rfl, #[], more, rfl, hTm⟩)
          · exact .inl (oth b o hbT e)
        · by_cases hbT : b = T
          · subst hbT; exact ⟨_, hTm⟩
          · exact ⟨o, oth b o hbT e⟩
  have hTa : T ≠ a := fun z => by rw [z, ha] at hT; cases hT
  cases hk : K.lookup a with
  | some o =>
    have e := KX a o hk
    rw [ha] at e
    cases e
    refine core (fun b => if b = T then some (.tbl #[]) else none) (if_pos rfl) (.inr ⟨_, vs.toArray, _, hk, rfl, rfl, rfl, by rw [List.size_toArray, lenV]; exact hl, by simpa using rv⟩) (fun b u z => ?_) (fun b z => ?_) (fun b hb => .inl (if_neg hb)) fun b z => ?_
    · by_cases hb : b = T
      · have z' := (if_pos hb).symm.trans z
        cases z'
        subst hb
        exact hT
      · have z' := (if_neg hb).symm.trans z
        cases z'
    · by_cases hb : b = T
      · exact .inr hb
      · exact absurd (if_neg hb) z
    · by_cases hb : b = T
      · rw [hb]; exact hKT
      · exact absurd (if_neg hb) z
  | none =>
    refine core (fun b => if b = a then some (.frz { cls := .type "list", data := .seq vs.toArray } (.lst (ns.map V.int))) else if b = T then some (.tbl #[]) else none) (by rw [if_neg hTa, if_pos rfl]) (.inl (.inr ⟨{ cls := .type "list", data := .seq vs.toArray }, if_pos rfl⟩)) (fun b u z => ?_) (fun b z => ?_) (fun b hb => ?_) fun b z => ?_
    · by_cases hb : b = a
      · have z' := (if_pos hb).symm.trans z
        cases z'
        subst hb
        exact ⟨ha, by rw [List.length_map]; exact hl, vs, _, rv, ha⟩
      · have z' := (if_neg hb).symm.trans z
        by_cases hb2 : b = T
        · have z2 := (if_pos hb2).symm.trans z'
          cases z2
          subst hb2
          exact hT
        · have z2 := (if_neg hb2).symm.trans z'
          cases z2
    · by_cases hb : b = a
      · exact .inl hb
      · by_cases hb2 : b = T
        · exact .inr hb2
        · exact absurd (by rw [if_neg hb, if_neg hb2]) z
    · by_cases hba : b = a
      · exact .inr ⟨_, _, if_pos hba⟩
      · exact .inl (by rw [if_neg hba, if_neg hb])
    · by_cases hb : b = a
      · rw [hb]; exact hk
      · by_cases hb2 : b = T
        · rw [hb2]; exact hKT
        · exact absurd (by rw [if_neg hb, if_neg hb2]) z
theorem walkP {l : PySem.W.OpenLaw} {n k : Nat} {q : Program} {loose : List Str} {XP : (Str → Option Value) → Heap → Prop} {YP : World → Heap → Prop} {d : DefRec} {K : Params → PySem.W.Frag} {sp : World → Sp} {x : Str} {c T : Addr}
    (hn : l.most = some n) (hn2 : n ≤ sizeLine) (hdf : d.params.defaults = []) (hr : Room k callerA)
    (hY : ∀ (w : World) (h : Heap), YP w h → (K w.params).In h) (hYT : ∀ (w : World) (h : Heap), YP w h → h.get? T = some (tabObj #[])) (hKT : ∀ w : World, (K w.params).lookup T = none) (hcT : ∀ w : World, codeHdIn (K w.params) c T = true)
    (F : ∀ (w : World) (mg : Str → Option Value) (fa : Addr) (h : Heap), (K w.params).In h → h.Ns mainGlobals mg → mg d.name = some (.ref fa) →
      ∃ fd : FuncData, (∀ (s : Shared) (u : Value), BindsTo s fd ⟨[u], []⟩ [(x, u)]) ∧
        ∀ base : Heap, (K w.params).In base → base.Ns mainGlobals mg → base.BuiltinsAt mg T → FnOk l.prog w (K w.params) mg base CX0 k fa fd [x] (sp w))
    (hsp : ∀ (w : World) (H : Hp) (a : Addr) (ns : List Int), ns.length ≤ n → H T = some (.tbl #[]) → SqL (K w.params) H a (ns.map V.int) → sp w [.ref a] H (fun v _ => v = .bl true) fun _ _ _ => False) :
    PySem.W.WalkO q loose XP YP l.row.toRowW d [] (fun f vs => PySem.call f vs) := by
  refine Att.attach_call hn hdf fun w s₀ s₁ mg mb fa o pm cd doc a vs ns G Y ho hd hcd hmg hobj hints hlen hg => ?_
  have KX := hY w _ Y
  obtain ⟨fd, hb, hF⟩ := F w mg fa _ KX G.T.g hmg
  exact law_callP KX G.T.g G.T.b G.T.builtins G.T.nolimit hg G.T.bmain (hYT w _ Y) (hKT w) (hcT w) hobj hints (Nat.le_trans hlen hn2) hr hF hb (fun H hO hS => hsp w H a ns hlen hO hS) fun H e s' h => h
end L2
set_option linter.all false
namespace Lw
def figs (b n : Nat) : List Int := if h : 2 ≤ b ∧ b ≤ n then figs b (n / b) ++ [((n % b : Nat) : Int)] else [(n : Int)]
termination_by n
decreasing_by exact Nat.div_lt_self (by omega) (by omega)
theorem figs_lt {b n : Nat} (h : n < b) : figs b n = [(n : Int)] := by
  rw [figs, dif_neg (by omega)]
theorem figs_ge {b n : Nat} (h2 : 2 ≤ b) (h : b ≤ n) : figs b n = figs b (n / b) ++ [((n % b : Nat) : Int)] := by
  rw [figs, dif_pos ⟨h2, h⟩]
def ahead (b r : Nat) : List Int := if r = 0 then [] else figs b r
theorem figs_step {b n : Nat} (h2 : 2 ≤ b) : figs b n = ahead b (n / b) ++ [((n % b : Nat) : Int)] := by
  unfold ahead
  by_cases h : n < b
  · rw [figs_lt h, if_pos (Nat.div_eq_of_lt h), Nat.mod_eq_of_lt h]; rfl
  · rw [figs_ge h2 (by omega), if_neg]
    have := Nat.div_pos (a := n) (b := b) (by omega) (by omega)
    omega
theorem ahead_step {b r : Nat} (h2 : 2 ≤ b) (hr : 0 < r) : ahead b r = ahead b (r / b) ++ [((r % b : Nat) : Int)] := by
  rw [← figs_step h2]
  unfold ahead
  rw [if_neg (by omega)]
theorem figs_len {b : Nat} (h2 : 2 ≤ b) : ∀ (m n : Nat), n < 2 ^ m → (figs b n).length ≤ m + 1
  | 0, n, h => by rw [figs_lt (by simp at h; omega)]; simp
  | m + 1, n, h => by
    by_cases hn : n < b
    · rw [figs_lt hn]; simp
    · rw [figs_ge h2 (by omega), List.length_append, List.length_singleton]
      have h3 : n / b ≤ n / 2 := Nat.div_le_div_left h2 (by omega)
      have h4 : n / 2 < 2 ^ m := by rw [Nat.pow_succ] at h; omega
      have := figs_len h2 m (n / b) (by omega)
      omega
theorem figs_ne {b n : Nat} : figs b n ≠ [] := by
  rw [figs]
  split
  · simp
  · simp
def tops (b : Nat) : Nat → Nat → List Int
  | 0, n => [((n / b ^ 0 : Nat) : Int)]
  | k + 1, n => ((n / b ^ (k + 1) : Nat) : Int) :: tops b k (n % b ^ (k + 1))
theorem tops_snoc {b : Nat} : ∀ (k n : Nat), tops b (k + 1) n = tops b k (n / b) ++ [((n % b : Nat) : Int)]
  | 0, n => by simp [tops]
  | k + 1, n => by
    rw [tops, tops_snoc k (n % b ^ (k + 2)), tops, List.cons_append]
    have e : b ^ (k + 1 + 1) = b * b ^ (k + 1) := by rw [Nat.pow_succ, Nat.mul_comm]
    have e1 : n % b ^ (k + 1 + 1) / b = n / b % b ^ (k + 1) := by rw [e, Nat.mod_mul_right_div_self]
    have e2 : n % b ^ (k + 1 + 1) % b = n % b := by rw [e, Nat.mod_mul_right_mod]
    have e3 : n / b ^ (k + 1 + 1) = n / b / b ^ (k + 1) := by rw [e, Nat.div_div_eq_div_mul]
    rw [e1, e2, e3]
theorem tops_figs {b : Nat} (h2 : 2 ≤ b) : ∀ (k n : Nat), n < b ^ (k + 1) → (k = 0 ∨ b ^ k ≤ n) → tops b k n = figs b n
  | 0, n, h, _ => by
    rw [figs_lt (by simpa using h)]; simp [tops]
  | k + 1, n, h, hk => by
    have hge : b ^ (k + 1) ≤ n := by
      rcases hk with z | z
      · omega
      · exact z
    have hb : b ≤ n := Nat.le_trans (by rw [Nat.pow_succ]; exact Nat.le_mul_of_pos_left b (Nat.pow_pos (by omega))) hge
    rw [tops_snoc, figs_ge h2 hb]
    have h3 : n / b < b ^ (k + 1) := by
      rw [Nat.div_lt_iff_lt_mul (by omega), ← Nat.pow_succ]; exact h
    have h4 : b ^ k ≤ n / b := by
      rw [Nat.le_div_iff_mul_le (by omega), ← Nat.pow_succ]; exact hge
    rw [tops_figs h2 k (n / b) h3 (.inr h4)]
theorem tops_len {b : Nat} : ∀ (k n : Nat), (tops b k n).length = k + 1
  | 0, n => rfl
  | k + 1, n => by rw [tops, List.length_cons, tops_len k]
end Lw
set_option linter.all false
namespace Lw
structure GoodFs (b : Nat) (ns : List Int) : Prop where
  ne : ns ≠ []
  len : ns.length ≤ 200
  fig : ∀ f ∈ ns, 0 ≤ f ∧ f < b
  first : ns.head? ≠ some 0 ∨ ns.length = 1
end Lw
set_option linter.all false
namespace Lw
def hasS (st fs : List Int) : Bool := (List.range fs.length).any fun k => decide ((fs.drop k).take st.length = st)
theorem hasS_iff {st fs : List Int} (h : st ≠ []) : hasS st fs = true ↔ ∃ k, (fs.drop k).take st.length = st := by
  unfold hasS
  simp only [List.any_eq_true, List.mem_range, decide_eq_true_eq]
  constructor
  · rintro ⟨k, _, e⟩; exact ⟨k, e⟩
  · rintro ⟨k, e⟩
    refine ⟨k, ?_, e⟩
    have hl := congrArg List.length e
    rw [List.length_take, List.length_drop] at hl
    have : 0 < st.length := List.length_pos_iff.mpr h
    omega
theorem hasS_short {st fs : List Int} (h : st ≠ []) : hasS st fs = (List.range ((fs.length : Int) - st.length + 1).toNat).any fun k => decide ((fs.drop k).take st.length = st) := by
  rw [Bool.eq_iff_iff, hasS_iff h]
  simp only [List.any_eq_true, List.mem_range, decide_eq_true_eq]
  constructor
  · rintro ⟨k, e⟩
    refine ⟨k, ?_, e⟩
    have hl := congrArg List.length e
    rw [List.length_take, List.length_drop] at hl
    have : 0 < st.length := List.length_pos_iff.mpr h
    omega
  · rintro ⟨k, _, e⟩; exact ⟨k, e⟩
def lacks (ls : List (List Int)) (fs : List Int) : Bool := !ls.any fun st => hasS st fs
end Lw
set_option linter.all false
namespace Lw
theorem hasS_pre {st fs gs : List Int} (h : st ≠ []) (q : hasS st fs = true) : hasS st (fs ++ gs) = true := by
  rw [hasS_iff h] at q ⊢
  obtain ⟨k, e⟩ := q
  refine ⟨k, ?_⟩
  have hl := congrArg List.length e
  rw [List.length_take, List.length_drop] at hl
  have hp : 0 < st.length := List.length_pos_iff.mpr h
  rw [List.drop_append_of_le_length (by omega), List.take_append_of_le_length (by rw [List.length_drop]; omega)]
  exact e
theorem lacks_pre {ls : List (List Int)} {fs gs : List Int} (ne : ∀ l ∈ ls, l ≠ []) (h : lacks ls (fs ++ gs) = true) : lacks ls fs = true := by
  unfold lacks at *
  rw [Bool.not_eq_true', List.any_eq_false] at h ⊢
  intro l hl q
  exact h l hl (hasS_pre (ne l hl) q)
end Lw
set_option linter.all false
namespace Lw
def begs (ls : List (List Int)) (fs : List Int) : Bool := ls.any fun st => decide (st.take fs.length = fs)
def tailS (ls : List (List Int)) : List Int → List Int
  | [] => []
  | x :: fs => if begs ls (x :: fs) then x :: fs else tailS ls fs
theorem tailS_skip {ls : List (List Int)} : ∀ (i : Nat) (fs : List Int), i ≤ fs.length → (∀ k, k < i → begs ls (fs.drop k) = false) → tailS ls fs = tailS ls (fs.drop i)
  | 0, _, _, _ => rfl
  | i + 1, [], h, _ => by simp at h
  | i + 1, x :: fs, h, q => by
    have h0 := q 0 (by omega)
    rw [List.drop_zero] at h0
    rw [tailS, if_neg (by rw [h0]; decide), List.drop_succ_cons]
    exact tailS_skip i fs (by simpa using h) fun k hk => by have := q (k + 1) (by omega); rwa [List.drop_succ_cons] at this
theorem tailS_here {ls : List (List Int)} {fs : List Int} (h : begs ls fs = true) : tailS ls fs = fs := by
  cases fs with
  | nil => rfl
  | cons x fs => rw [tailS, if_pos h]
theorem tailS_at {ls : List (List Int)} {fs : List Int} {i : Nat} (hi : i ≤ fs.length) (h : ∀ k, k < i → begs ls (fs.drop k) = false) (q : begs ls (fs.drop i) = true) : tailS ls fs = fs.drop i := by
  rw [tailS_skip i fs hi h, tailS_here q]
theorem tailS_none {ls : List (List Int)} {fs : List Int} (h : ∀ k, k < fs.length → begs ls (fs.drop k) = false) : tailS ls fs = [] := by
  rw [tailS_skip fs.length fs (Nat.le_refl _) h, List.drop_length]; rfl
end Lw
set_option linter.all false
namespace Lw
def isSt (ls : List (List Int)) (x : List Int) : Prop := x = [] ∨ ∃ st ∈ ls, ∃ k, 1 ≤ k ∧ k < st.length ∧ x = st.take k ∧ lacks ls x = true
structure StandsL (ls : List (List Int)) (xs : List (List Int)) : Prop where
  mem : ∀ x, x ∈ xs ↔ isSt ls x
  up : xs.Pairwise fun x y => HT.kLess x y = true
theorem isSt_len {ls : List (List Int)} (h : ∀ st ∈ ls, st.length ≤ 4) {x : List Int} (q : isSt ls x) : x.length ≤ 3 := by
  rcases q with rfl | ⟨st, hst, k, h1, h2, rfl, _⟩
  · decide
  · have := h st hst
    rw [List.length_take]; omega
end Lw
set_option linter.all false
namespace Lw
theorem begs_init {ls : List (List Int)} {y : List Int} {x : Int} (h : begs ls (y ++ [x]) = true) : begs ls y = true := by
  unfold begs at *
  rw [List.any_eq_true] at h ⊢
  obtain ⟨st, hst, q⟩ := h
  refine ⟨st, hst, decide_eq_true ?_⟩
  have q := of_decide_eq_true q
  have e := congrArg (List.take y.length) q
  rw [List.take_left, List.take_take, List.length_append] at e
  rw [Nat.min_eq_left (by omega)] at e
  exact e
theorem tailS_spec {ls : List (List Int)} : ∀ fs : List Int, ∃ j, j ≤ fs.length ∧ tailS ls fs = fs.drop j ∧ (∀ k, k < j → begs ls (fs.drop k) = false) ∧ (j < fs.length → begs ls (fs.drop j) = true)
  | [] => ⟨0, Nat.le_refl _, rfl, fun k hk => by omega, fun h => by simp at h⟩
  | x :: fs => by
    by_cases h : begs ls (x :: fs) = true
    · exact ⟨0, Nat.zero_le _, by rw [tailS, if_pos h]; rfl, fun k hk => by omega, fun _ => h⟩
    · obtain ⟨j, h1, h2, h3, h4⟩ := tailS_spec (ls := ls) fs
      refine ⟨j + 1, by rw [List.length_cons]; omega, by rw [tailS, if_neg h, h2, List.drop_succ_cons], fun k hk => ?_, fun hj => by rw [List.drop_succ_cons]; exact h4 (by rw [List.length_cons] at hj; omega)⟩
      cases k with
      | zero => rw [List.drop_zero]; simpa using h
      | succ k => rw [List.drop_succ_cons]; exact h3 k (by omega)
theorem tailS_step {ls : List (List Int)} (fs : List Int) (x : Int) : tailS ls (tailS ls fs ++ [x]) = tailS ls (fs ++ [x]) := by
  obtain ⟨j, h1, h2, h3, _⟩ := tailS_spec (ls := ls) fs
  rw [h2, tailS_skip j (fs ++ [x]) (by rw [List.length_append]; omega) (fun k hk => ?_), List.drop_append_of_le_length h1]
  rw [List.drop_append_of_le_length (by omega)]
  cases e : begs ls (fs.drop k ++ [x]) with
  | false => rfl
  | true => rw [← h3 k hk, begs_init e]
theorem hasS_drop {st fs : List Int} (ne : st ≠ []) {j : Nat} (h : hasS st (fs.drop j) = true) : hasS st fs = true := by
  rw [hasS_iff ne] at h ⊢
  obtain ⟨k, e⟩ := h
  exact ⟨j + k, by rw [← List.drop_drop]; exact e⟩
theorem lacks_drop {ls : List (List Int)} (ne : ∀ l ∈ ls, l ≠ []) {fs : List Int} (j : Nat) (h : lacks ls fs = true) : lacks ls (fs.drop j) = true := by
  unfold lacks at *
  rw [Bool.not_eq_true', List.any_eq_false] at h ⊢
  intro st hst q
  exact h st hst (hasS_drop (ne st hst) q)
theorem lacks_step {ls : List (List Int)} (ne : ∀ l ∈ ls, l ≠ []) {fs : List Int} (x : Int) (h : lacks ls fs = true) : lacks ls (tailS ls fs ++ [x]) = lacks ls (fs ++ [x]) := by
  obtain ⟨j, h1, h2, h3, _⟩ := tailS_spec (ls := ls) fs
  rw [h2, ← List.drop_append_of_le_length h1]
  rw [Bool.eq_iff_iff]
  constructor
  · intro q
    unfold lacks at *
    rw [Bool.not_eq_true', List.any_eq_false] at h q ⊢
    intro st hst hs
    rw [hasS_iff (ne st hst)] at hs
    obtain ⟨k, e⟩ := hs
    have hp : 0 < st.length := List.length_pos_iff.mpr (ne st hst)
    have hl := congrArg List.length e
    rw [List.length_take, List.length_drop, List.length_append, List.length_singleton] at hl
    by_cases hin : k + st.length ≤ fs.length
    · refine h st hst ((hasS_iff (ne st hst)).mpr ⟨k, ?_⟩)
      rw [List.drop_append_of_le_length (by omega), List.take_append_of_le_length (by rw [List.length_drop]; omega)] at e
      exact e
    · have hk : k + st.length = fs.length + 1 := by omega
      rw [List.take_of_length_le (by rw [List.length_drop, List.length_append, List.length_singleton]; omega)] at e
      by_cases hkj : j ≤ k
      · refine q st hst ((hasS_iff (ne st hst)).mpr ⟨k - j, ?_⟩)
        rw [List.drop_drop, show j + (k - j) = k by omega, e, List.take_of_length_le (Nat.le_refl _)]
      · have h3k := h3 k (by omega)
        rw [List.drop_append_of_le_length (by omega)] at e
        unfold begs at h3k
        rw [List.any_eq_false] at h3k
        refine h3k st hst (decide_eq_true ?_)
        rw [← e, List.take_left]
  · intro q
    exact lacks_drop ne j q
theorem tailS_isSt {ls : List (List Int)} (ne : ∀ l ∈ ls, l ≠ []) {fs : List Int} (h : lacks ls fs = true) : isSt ls (tailS ls fs) := by
  obtain ⟨j, h1, h2, _, h4⟩ := tailS_spec (ls := ls) fs
  rw [h2]
  by_cases hj : j < fs.length
  · have q := h4 hj
    unfold begs at q
    rw [List.any_eq_true] at q
    obtain ⟨st, hst, q⟩ := q
    have q := of_decide_eq_true q
    have hl := congrArg List.length q
    rw [List.length_take] at hl
    have hlen : (fs.drop j).length = fs.length - j := List.length_drop ..
    have hlk := lacks_drop ne j h
    refine .inr ⟨st, hst, (fs.drop j).length, by omega, ?_, q.symm, hlk⟩
    by_cases hlt : (fs.drop j).length < st.length
    · exact hlt
    · exfalso
      have hle : st.length ≤ (fs.drop j).length := by omega
      rw [List.take_of_length_le hle] at q
      unfold lacks at hlk
      rw [Bool.not_eq_true', List.any_eq_false] at hlk
      refine hlk st hst ((hasS_iff (ne st hst)).mpr ⟨0, ?_⟩)
      rw [List.drop_zero, ← q, List.take_of_length_le (Nat.le_refl _)]
  · left
    exact List.drop_of_length_le (by omega)
end Lw
set_option linter.all false
namespace Lw
theorem StandsL.first {ls xs : List (List Int)} (a : StandsL ls xs) : ∃ r, xs = [] :: r := by
  have h0 : ([] : List Int) ∈ xs := (a.mem []).mpr (.inl rfl)
  cases xs with
  | nil => cases h0
  | cons x r =>
    rcases List.mem_cons.mp h0 with e | e
    · exact ⟨r, by rw [e]⟩
    · have := (List.pairwise_cons.mp a.up).1 [] e
      unfold HT.kLess at this
      by_cases hl : x.length = ([] : List Int).length
      · have : x = [] := List.eq_nil_of_length_eq_zero hl
        exact ⟨r, by rw [this]⟩
      · rw [if_neg hl] at this
        have := of_decide_eq_true this
        simp at this
end Lw
set_option linter.all false
namespace Lw
def cnt (ls : List (List Int)) (b : Nat) : Nat → List Int → Nat
  | 0, _ => 1
  | t + 1, x => ((List.range b).map fun (c : Nat) => if lacks ls (x ++ [(c : Int)]) = true then cnt ls b t (tailS ls (x ++ [(c : Int)])) else 0).sum
def padF (b : Nat) : Nat → Nat → List Int
  | 0, _ => []
  | t + 1, r => ((r / b ^ t : Nat) : Int) :: padF b t (r % b ^ t)
def many (p : Nat → Bool) : Nat → Nat
  | 0 => 0
  | n + 1 => many p n + (if p n = true then 1 else 0)
theorem many_congr {p q : Nat → Bool} : ∀ {N : Nat}, (∀ n, n < N → p n = q n) → many p N = many q N
  | 0, _ => rfl
  | N + 1, h => by rw [many, many, many_congr (N := N) fun n hn => h n (by omega), h N (by omega)]
theorem many_none {p : Nat → Bool} : ∀ {N : Nat}, (∀ n, n < N → p n = false) → many p N = 0
  | 0, _ => rfl
  | N + 1, h => by rw [many, many_none (N := N) fun n hn => h n (by omega), h N (by omega)]; rfl
theorem many_add (p : Nat → Bool) (A : Nat) : ∀ B : Nat, many p (A + B) = many p A + many (fun n => p (A + n)) B
  | 0 => rfl
  | B + 1 => by rw [← Nat.add_assoc, many, many, many_add p A B, Nat.add_assoc]
theorem many_mul (p : Nat → Bool) (B : Nat) : ∀ A : Nat, many p (A * B) = ((List.range A).map fun c => many (fun r => p (c * B + r)) B).sum
  | 0 => by simp [many]
  | A + 1 => by
    rw [Nat.succ_mul, many_add, many_mul p B A, List.range_succ, List.map_append, List.sum_append]
    simp
theorem many_mono (p : Nat → Bool) {A B : Nat} (h : A ≤ B) : many p A ≤ many p B := by
  obtain ⟨k, rfl⟩ := Nat.exists_eq_add_of_le h
  rw [many_add]; omega
theorem many_lt (p : Nat → Bool) {A B : Nat} (h : A < B) (q : p A = true) : many p A < many p B := by
  have e : many p (A + 1) = many p A + 1 := by rw [many, if_pos q]
  have := many_mono p (A := A + 1) (B := B) h
  omega
theorem many_sub {p q : Nat → Bool} (h : ∀ n, p n = true → q n = true) : ∀ N : Nat, many p N ≤ many q N
  | 0 => Nat.le_refl _
  | N + 1 => by
    have i := many_sub h N
    rw [many, many]
    by_cases e : p N = true
    · rw [if_pos e, if_pos (h N e)]; omega
    · rw [if_neg e]; omega
theorem pad_cons {b t c r : Nat} (hr : r < b ^ t) : padF b (t + 1) (c * b ^ t + r) = (c : Int) :: padF b t r := by
  have h0 : 0 < b ^ t := by omega
  rw [padF, Nat.add_comm, Nat.add_mul_div_right _ _ h0, Nat.div_eq_of_lt hr, Nat.zero_add, Nat.add_mul_mod_self_right, Nat.mod_eq_of_lt hr]
theorem map_sum_congr {f g : Nat → Nat} : ∀ {N : Nat}, (∀ c, c < N → f c = g c) → ((List.range N).map f).sum = ((List.range N).map g).sum := by
  intro N h
  congr 1
  apply List.map_congr_left
  intro c hc
  exact h c (List.mem_range.mp hc)
theorem cnt_part {ls : List (List Int)} (ne : ∀ l ∈ ls, l ≠ []) {b t : Nat} (ih : ∀ x, lacks ls x = true → many (fun r => lacks ls (x ++ padF b t r)) (b ^ t) = cnt ls b t (tailS ls x)) {x : List Int} (c : Nat) :
    many (fun r => lacks ls (x ++ padF b (t + 1) (c * b ^ t + r))) (b ^ t) = if lacks ls (x ++ [(c : Int)]) = true then cnt ls b t (tailS ls (x ++ [(c : Int)])) else 0 := by
  have e1 : many (fun r => lacks ls (x ++ padF b (t + 1) (c * b ^ t + r))) (b ^ t) = many (fun r => lacks ls (x ++ [(c : Int)] ++ padF b t r)) (b ^ t) := by
    apply many_congr
    intro r hr
    show lacks ls _ = lacks ls _
    rw [pad_cons hr, List.append_assoc]
    rfl
  rw [e1]
  by_cases h : lacks ls (x ++ [(c : Int)]) = true
  · rw [if_pos h, ih _ h]
  · rw [if_neg h]
    apply many_none
    intro r _
    cases hc : lacks ls (x ++ [(c : Int)] ++ padF b t r) with
    | false => rfl
    | true => exact absurd (lacks_pre ne hc) h
theorem cnt_pad {ls : List (List Int)} (ne : ∀ l ∈ ls, l ≠ []) {b : Nat} : ∀ (t : Nat) (x : List Int), lacks ls x = true → many (fun r => lacks ls (x ++ padF b t r)) (b ^ t) = cnt ls b t (tailS ls x)
  | 0, x, h => by
    rw [Nat.pow_zero, many, many, cnt, padF, List.append_nil, if_pos h]
  | t + 1, x, h => by
    rw [Nat.pow_succ', many_mul, cnt]
    apply map_sum_congr
    intro c _
    rw [cnt_part ne (cnt_pad ne t), lacks_step ne _ h, tailS_step]
def gd (ls : List (List Int)) (b n : Nat) : Bool := lacks ls (figs b n)
theorem pad_tops {b : Nat} : ∀ (t n : Nat), padF b (t + 1) n = tops b t n
  | 0, n => by simp [padF, tops]
  | t + 1, n => by rw [padF, pad_tops t, tops]
theorem figs_pad {b t c r : Nat} (h2 : 2 ≤ b) (h1 : 1 ≤ c) (hc : c < b) (hr : r < b ^ t) : figs b (c * b ^ t + r) = (c : Int) :: padF b t r := by
  rw [← pad_cons hr, pad_tops]
  refine (tops_figs h2 t _ ?_ (.inr ?_)).symm
  · rw [Nat.pow_succ']
    have : (c + 1) * b ^ t ≤ b * b ^ t := Nat.mul_le_mul_right _ hc
    rw [Nat.succ_mul] at this
    omega
  · have : 1 * b ^ t ≤ c * b ^ t := Nat.mul_le_mul_right _ h1
    omega
def cntO (ls : List (List Int)) (b : Nat) : Nat → Nat
  | 0 => if lacks ls [0] = true then 1 else 0
  | t + 1 => ((List.range b).map fun (c : Nat) => if c = 0 then cntO ls b t else if lacks ls [(c : Int)] = true then cnt ls b t (tailS ls [(c : Int)]) else 0).sum
theorem cntO_part {ls : List (List Int)} (ne : ∀ l ∈ ls, l ≠ []) {b t c : Nat} (h2 : 2 ≤ b) (h1 : 1 ≤ c) (hc : c < b) : many (fun r => gd ls b (c * b ^ t + r)) (b ^ t) = if lacks ls [(c : Int)] = true then cnt ls b t (tailS ls [(c : Int)]) else 0 := by
  have e := cnt_part (x := []) ne (b := b) (t := t) (cnt_pad ne t) c
  rw [List.nil_append] at e
  rw [← e]
  apply many_congr
  intro r hr
  show gd ls b _ = lacks ls _
  rw [gd, figs_pad h2 h1 hc hr, List.nil_append, pad_cons hr]
theorem cntO_many {ls : List (List Int)} (ne : ∀ l ∈ ls, l ≠ []) {b : Nat} (h2 : 2 ≤ b) : ∀ t : Nat, cntO ls b t = many (gd ls b) (b ^ t)
  | 0 => by
    rw [Nat.pow_zero, many, many, cntO, Nat.zero_add]
    unfold gd
    rw [figs_lt (show 0 < b by omega)]
    rfl
  | t + 1 => by
    rw [Nat.pow_succ', many_mul, cntO]
    apply map_sum_congr
    intro c hc
    by_cases h0 : c = 0
    · subst h0
      rw [if_pos rfl, cntO_many ne h2 t]
      apply many_congr
      intro r _
      rw [Nat.zero_mul, Nat.zero_add]
    · rw [if_neg h0, cntO_part ne h2 (by omega) hc]
end Lw
set_option linter.all false
namespace Lw
theorem figs_size {b n k : Nat} (h2 : 2 ≤ b) (hn : n < b ^ (k + 1)) (h : k = 0 ∨ b ^ k ≤ n) : (figs b n).length = k + 1 := by
  rw [← tops_figs h2 k n hn h, tops_len]
theorem size_ex {b : Nat} (h2 : 2 ≤ b) (n : Nat) : ∃ k, n < b ^ (k + 1) ∧ (k = 0 ∨ b ^ k ≤ n) := by
  have key : ∀ K : Nat, n < b ^ (K + 1) → ∃ k, n < b ^ (k + 1) ∧ (k = 0 ∨ b ^ k ≤ n) := by
    intro K
    induction K with
    | zero => intro h; exact ⟨0, h, .inl rfl⟩
    | succ K ih =>
      intro h
      by_cases q : n < b ^ (K + 1)
      · exact ih q
      · exact ⟨K + 1, h, .inr (by omega)⟩
  refine key n ?_
  have : n < 2 ^ n := Nat.lt_two_pow_self
  have h3 : 2 ^ n ≤ b ^ n := Nat.pow_le_pow_left h2 n
  have h4 : b ^ n ≤ b ^ (n + 1) := Nat.pow_le_pow_right (by omega) (Nat.le_succ n)
  omega
theorem size_iff {b n k : Nat} (h2 : 2 ≤ b) : (figs b n).length = k + 1 ↔ n < b ^ (k + 1) ∧ (k = 0 ∨ b ^ k ≤ n) := by
  refine ⟨fun h => ?_, fun h => figs_size h2 h.1 h.2⟩
  obtain ⟨m, h1, h3⟩ := size_ex h2 n
  have e := figs_size h2 h1 h3
  rw [h] at e
  obtain rfl : k = m := by omega
  exact ⟨h1, h3⟩
end Lw
set_option linter.all false
namespace Lw
def stepC (ls : List (List Int)) (b t : Nat) : Option (List Int) → Nat → Nat
  | some x, c => if lacks ls (x ++ [(c : Int)]) = true then cnt ls b t (tailS ls (x ++ [(c : Int)])) else 0
  | none, c => if c = 0 then cntO ls b t else if lacks ls [(c : Int)] = true then cnt ls b t (tailS ls [(c : Int)]) else 0
def under (ls : List (List Int)) (b t : Nat) (o : Option (List Int)) (s : Nat) : Nat := ((List.range s).map (stepC ls b t o)).sum
theorem under_zero (ls : List (List Int)) (b t : Nat) (o : Option (List Int)) : under ls b t o 0 = 0 := rfl
theorem under_succ (ls : List (List Int)) (b t : Nat) (o : Option (List Int)) (s : Nat) : under ls b t o (s + 1) = under ls b t o s + stepC ls b t o s := by
  unfold under
  rw [List.range_succ, List.map_append, List.sum_append]
  simp
def Rep (ls : List (List Int)) (b m : Nat) (o : Option (List Int)) : Prop := (m = 0 ∧ o = none) ∨ (1 ≤ m ∧ gd ls b m = true ∧ o = some (tailS ls (figs b m)))
theorem figs_moreN {b m c : Nat} (h2 : 2 ≤ b) (h1 : 1 ≤ m) (hc : c < b) : figs b (m * b + c) = figs b m ++ [(c : Int)] := by
  have hge : b ≤ m * b + c := by
    have : 1 * b ≤ m * b := Nat.mul_le_mul_right b h1
    omega
  rw [figs_ge h2 hge]
  have e1 : (m * b + c) / b = m := by rw [Nat.add_comm, Nat.add_mul_div_right _ _ (by omega), Nat.div_eq_of_lt hc, Nat.zero_add]
  have e2 : (m * b + c) % b = c := by rw [Nat.add_comm, Nat.add_mul_mod_self_right, Nat.mod_eq_of_lt hc]
  rw [e1, e2]
theorem go_on {b m c : Nat} (h2 : 2 ≤ b) (h1 : 1 ≤ m) : 1 ≤ m * b + c := by
  have : 1 * b ≤ m * b := Nat.mul_le_mul_right b h1
  omega
theorem figs_padM {b m : Nat} (h2 : 2 ≤ b) (h1 : 1 ≤ m) : ∀ (t r : Nat), r < b ^ t → figs b (m * b ^ t + r) = figs b m ++ padF b t r
  | 0, r, hr => by
    have : r = 0 := by rw [Nat.pow_zero] at hr; omega
    subst this
    rw [Nat.pow_zero, Nat.mul_one, Nat.add_zero, padF, List.append_nil]
  | t + 1, r, hr => by
    have hp : 0 < b ^ t := Nat.pow_pos (by omega)
    have hc : r / b ^ t < b := by
      rw [Nat.div_lt_iff_lt_mul hp]
      rw [Nat.pow_succ', ] at hr
      exact hr
    have hm : r % b ^ t < b ^ t := Nat.mod_lt _ hp
    have e : m * b ^ (t + 1) + r = (m * b + r / b ^ t) * b ^ t + r % b ^ t := by
      have h := Nat.div_add_mod r (b ^ t)
      rw [Nat.pow_succ', Nat.add_mul, Nat.mul_assoc, Nat.add_assoc, Nat.mul_comm (r / b ^ t), h]
    have h1' : 1 ≤ m * b + r / b ^ t := go_on h2 h1
    rw [e, figs_padM h2 h1' t _ hm, figs_moreN h2 h1 hc, padF, List.append_assoc]
    rfl
theorem stepC_many {ls : List (List Int)} (ne : ∀ l ∈ ls, l ≠ []) {b m : Nat} {o : Option (List Int)} (h2 : 2 ≤ b) (R : Rep ls b m o) (t : Nat) {c : Nat} (hc : c < b) : stepC ls b t o c = many (fun r => gd ls b ((m * b + c) * b ^ t + r)) (b ^ t) := by
  rcases R with ⟨rfl, rfl⟩ | ⟨h1, hg, rfl⟩
  · rw [Nat.zero_mul, Nat.zero_add]
    show (if c = 0 then _ else _) = _
    by_cases h0 : c = 0
    · subst h0
      rw [if_pos rfl, cntO_many ne h2]
      apply many_congr
      intro r _
      rw [Nat.zero_mul, Nat.zero_add]
    · rw [if_neg h0, cntO_part ne h2 (by omega) hc]
  · have e := cnt_part (x := figs b m) ne (b := b) (t := t) (cnt_pad ne t) c
    show (if lacks ls (tailS ls (figs b m) ++ [(c : Int)]) = true then cnt ls b t (tailS ls (tailS ls (figs b m) ++ [(c : Int)])) else 0) = _
    rw [lacks_step ne _ hg, tailS_step, ← e]
    apply many_congr
    intro r hr
    show lacks ls _ = gd ls b _
    rw [gd, figs_padM h2 (go_on h2 h1) t r hr, figs_moreN h2 h1 hc, pad_cons hr, List.append_assoc]
    rfl
theorem under_many {ls : List (List Int)} (ne : ∀ l ∈ ls, l ≠ []) {b m : Nat} {o : Option (List Int)} (h2 : 2 ≤ b) (R : Rep ls b m o) (t : Nat) : ∀ {s : Nat}, s ≤ b → many (gd ls b) (m * b ^ (t + 1)) + under ls b t o s = many (gd ls b) ((m * b + s) * b ^ t)
  | 0, _ => by rw [under_zero, Nat.add_zero, Nat.pow_succ', show (m * b + 0) * b ^ t = m * (b * b ^ t) by rw [Nat.add_zero, Nat.mul_assoc]]
  | s + 1, hs => by
    rw [under_succ, ← Nat.add_assoc, under_many ne h2 R t (s := s) (by omega), stepC_many ne h2 R t (show s < b by omega), ← Nat.add_assoc, Nat.succ_mul (m * b + s), many_add]
theorem Rep.step {ls : List (List Int)} (ne : ∀ l ∈ ls, l ≠ []) {b m : Nat} {o : Option (List Int)} (h2 : 2 ≤ b) (R : Rep ls b m o) {c : Nat} (hc : c < b) :
    (o = none ∧ c = 0 ∧ Rep ls b (m * b + c) none) ∨ (¬ (o = none ∧ c = 0) ∧ ((lacks ls (o.getD [] ++ [(c : Int)]) = true ∧ Rep ls b (m * b + c) (some (tailS ls (o.getD [] ++ [(c : Int)])))) ∨ (lacks ls (o.getD [] ++ [(c : Int)]) = false ∧ 1 ≤ m * b + c ∧ gd ls b (m * b + c) = false))) := by
  rcases R with ⟨rfl, rfl⟩ | ⟨h1, hg, rfl⟩
  · by_cases h0 : c = 0
    · left; exact ⟨rfl, h0, .inl ⟨by rw [h0]; omega, rfl⟩⟩
    · right
      refine ⟨fun z => h0 z.2, ?_⟩
      rw [Nat.zero_mul, Nat.zero_add]
      show (lacks ls [(c : Int)] = true ∧ _) ∨ (lacks ls [(c : Int)] = false ∧ _)
      have eg : gd ls b c = lacks ls [(c : Int)] := by unfold gd; rw [figs_lt hc]
      cases hl : lacks ls [(c : Int)] with
      | true => left; exact ⟨rfl, .inr ⟨by omega, by rw [eg]; exact hl, by rw [figs_lt hc]; rfl⟩⟩
      | false => right; exact ⟨rfl, by omega, by rw [eg]; exact hl⟩
  · right
    refine ⟨fun z => (nomatch z.1), ?_⟩
    have hm : 1 ≤ m * b + c := go_on h2 h1
    show (lacks ls (tailS ls (figs b m) ++ [(c : Int)]) = true ∧ Rep ls b (m * b + c) (some (tailS ls (tailS ls (figs b m) ++ [(c : Int)])))) ∨ (lacks ls (tailS ls (figs b m) ++ [(c : Int)]) = false ∧ _)
    rw [lacks_step ne _ hg, tailS_step]
    have eg : gd ls b (m * b + c) = lacks ls (figs b m ++ [(c : Int)]) := by unfold gd; rw [figs_moreN h2 h1 hc]
    cases hl : lacks ls (figs b m ++ [(c : Int)]) with
    | true => left; exact ⟨rfl, .inr ⟨hm, by rw [eg]; exact hl, by rw [figs_moreN h2 h1 hc]⟩⟩
    | false => right; exact ⟨rfl, hm, by rw [eg]; exact hl⟩
theorem bad_on {ls : List (List Int)} (ne : ∀ l ∈ ls, l ≠ []) {b m : Nat} (h2 : 2 ≤ b) (h1 : 1 ≤ m) (hg : gd ls b m = false) (t : Nat) {r : Nat} (hr : r ≤ b ^ t) : many (gd ls b) (m * b ^ t + r) = many (gd ls b) (m * b ^ t) := by
  rw [many_add, many_none (N := r)]
  · omega
  intro k hk
  show gd ls b _ = false
  cases hc : gd ls b (m * b ^ t + k) with
  | false => rfl
  | true =>
    unfold gd at hc hg
    rw [figs_padM h2 h1 t k (by omega)] at hc
    rw [lacks_pre ne hc] at hg
    cases hg
end Lw
set_option linter.all false
namespace Lw
theorem padF_get {b : Nat} : ∀ {t n k : Nat}, k < t → n < b ^ t → (padF b t n)[k]? = some (((n / b ^ (t - 1 - k)) % b : Nat) : Int)
  | 0, _, _, hk, _ => by omega
  | t + 1, n, 0, _, hn => by
    have : n / b ^ t < b := by
      rw [Nat.pow_succ'] at hn
      rcases Nat.eq_zero_or_pos (b ^ t) with h | h
      · rw [h] at hn; omega
      · rw [Nat.div_lt_iff_lt_mul h]; exact hn
    rw [padF, List.getElem?_cons_zero, show t + 1 - 1 - 0 = t by omega, Nat.mod_eq_of_lt this]
  | t + 1, n, k + 1, hk, hn => by
    have hb : 0 < b := by
      rcases Nat.eq_zero_or_pos b with h | h
      · subst h; rw [Nat.zero_pow (by omega)] at hn; omega
      · exact h
    rw [padF, List.getElem?_cons_succ, padF_get (by omega) (Nat.mod_lt _ (Nat.pow_pos hb))]
    have e : t + 1 - 1 - (k + 1) = t - 1 - k := by omega
    rw [e]
    generalize hj : t - 1 - k = j
    obtain ⟨q, hq⟩ : ∃ q, t = j + (q + 1) := ⟨t - j - 1, by omega⟩
    rw [hq, Nat.pow_add, Nat.mod_mul_right_div_self, Nat.pow_succ', Nat.mod_mul_right_mod]
theorem figs_get {b n N k : Nat} (h2 : 2 ≤ b) (hN : (figs b n).length = N) (hk : k < N) : (figs b n)[k]? = some (((n / b ^ (N - 1 - k)) % b : Nat) : Int) := by
  obtain ⟨K, rfl⟩ : ∃ K, N = K + 1 := ⟨N - 1, by omega⟩
  obtain ⟨h1, h3⟩ := (size_iff h2).mp hN
  rw [← tops_figs h2 K n h1 h3, ← pad_tops]
  exact padF_get hk h1
theorem figs_lt_pow {b n N : Nat} (h2 : 2 ≤ b) (hN : (figs b n).length = N) : n < b ^ N := by
  cases N with
  | zero => exact absurd (List.length_eq_zero_iff.mp hN) figs_ne
  | succ K => exact ((size_iff h2).mp hN).1
theorem next_top {b n t : Nat} (hb : 0 < b) : n / b ^ t = n / b ^ (t + 1) * b + (n / b ^ t) % b := by
  have h := Nat.div_add_mod (n / b ^ t) b
  rw [Nat.div_div_eq_div_mul, ← Nat.pow_succ, Nat.mul_comm] at h
  exact h.symm
end Lw
set_option linter.all false
namespace Lw
theorem gd_pre {ls : List (List Int)} (ne : ∀ l ∈ ls, l ≠ []) {b h t r : Nat} (h2 : 2 ≤ b) (h1 : 1 ≤ h) (hr : r < b ^ t) (hg : gd ls b (h * b ^ t + r) = true) : gd ls b h = true := by
  unfold gd at *
  rw [figs_padM h2 h1 t r hr] at hg
  exact lacks_pre ne hg
theorem none_more {ls : List (List Int)} (ne : ∀ l ∈ ls, l ≠ []) {b n N : Nat} (h2 : 2 ≤ b) (hN : (figs b n).length = N) (h : many (gd ls b) (b ^ (N + 1)) ≤ many (gd ls b) n) : ∀ g, n ≤ g → gd ls b g = false := by
  have low : ∀ g, n ≤ g → g < b ^ (N + 1) → gd ls b g = false := by
    intro g h1 h3
    cases e : gd ls b g with
    | false => rfl
    | true =>
      have a1 := many_lt (gd ls b) h3 e
      have a2 := many_mono (gd ls b) h1
      omega
  intro g h1
  by_cases hs : g < b ^ (N + 1)
  · exact low g h1 hs
  · cases e : gd ls b g with
    | false => rfl
    | true =>
      exfalso
      obtain ⟨k, k1, k2⟩ := size_ex h2 g
      have hk : N + 1 ≤ k := by
        by_cases z : N + 1 ≤ k
        · exact z
        · have : b ^ (k + 1) ≤ b ^ (N + 1) := Nat.pow_le_pow_right (by omega) (by omega)
          omega
      have k3 : b ^ k ≤ g := by rcases k2 with z | z; omega; exact z
      obtain ⟨t, rfl⟩ : ∃ t, k = N + t := ⟨k - N, by omega⟩
      have hp : 0 < b ^ t := Nat.pow_pos (by omega)
      have hlo : b ^ N ≤ g / b ^ t := by
        rw [Nat.le_div_iff_mul_le hp, ← Nat.pow_add]; exact k3
      have hhi : g / b ^ t < b ^ (N + 1) := by
        rw [Nat.div_lt_iff_lt_mul hp, ← Nat.pow_add, show N + 1 + t = N + t + 1 by omega]; exact k1
      have hn := figs_lt_pow h2 hN
      have hpos : 0 < b ^ N := Nat.pow_pos (by omega)
      have hg : gd ls b (g / b ^ t) = true := by
        refine gd_pre ne h2 (by omega) (Nat.mod_lt g hp) (t := t) ?_
        rw [Nat.mul_comm, Nat.div_add_mod]; exact e
      have := low (g / b ^ t) (by omega) hhi
      rw [hg] at this
      cases this
theorem ge_of_many {p : Nat → Bool} {g n : Nat} (hg : p g = true) (h : many p n ≤ many p g) : n ≤ g := by
  by_cases z : n ≤ g
  · exact z
  · have := many_lt p (show g < n by omega) hg
    omega
theorem pow_near {b n N : Nat} (h2 : 2 ≤ b) (h16 : b ≤ 16) (hN : (figs b n).length = N) : b ^ (N + 1) ≤ 256 * (n + 1) := by
  cases N with
  | zero => exact absurd (List.length_eq_zero_iff.mp hN) figs_ne
  | succ K =>
    obtain ⟨_, h3⟩ := (size_iff h2).mp hN
    have hb : b * b ≤ 256 := Nat.mul_le_mul h16 h16
    have e : b ^ (K + 1 + 1) = b * b * b ^ K := by rw [Nat.pow_succ', Nat.pow_succ', Nat.mul_assoc]
    rw [e]
    rcases h3 with h | h
    · subst h
      rw [Nat.pow_zero]; omega
    · calc b * b * b ^ K ≤ 256 * b ^ K := Nat.mul_le_mul_right _ hb
        _ ≤ 256 * (n + 1) := Nat.mul_le_mul_left _ (by omega)
end Lw
set_option linter.all false
namespace Lw
end Lw
set_option Elab.async false
set_option linter.all false
set_option maxRecDepth 100000
namespace L2
open Lw
def insL (x : List Int) : List (List Int) → List (List Int)
  | [] => [x]
  | y :: ys => if x = y then y :: ys else if HT.lexLt x y = true then x :: y :: ys else y :: insL x ys
def uni (ls : List (List Int)) : List (List Int) := ls.foldr insL []
theorem mem_insL {x l : List Int} : ∀ {ys : List (List Int)}, l ∈ insL x ys ↔ l = x ∨ l ∈ ys
  | [] => by simp [insL]
  | y :: ys => by
    unfold insL
    by_cases h : x = y
    · rw [if_pos h, h]; simp
    · rw [if_neg h]
      split
      · simp
      · rw [List.mem_cons, mem_insL (ys := ys), List.mem_cons]
        constructor <;> (rintro (z | z | z) <;> simp [z])
theorem mem_uni {l : List Int} : ∀ {ls : List (List Int)}, l ∈ uni ls ↔ l ∈ ls
  | [] => by simp [uni]
  | x :: ls => by
    show l ∈ insL x (uni ls) ↔ _
    rw [mem_insL, mem_uni, List.mem_cons]
abbrev LPw (ls : List (List Int)) : Prop := ls.Pairwise fun x y => HT.lexLt x y = true
theorem pw_insL {x : List Int} : ∀ {ys : List (List Int)}, LPw ys → LPw (insL x ys)
  | [], _ => by simp [insL, LPw]
  | y :: ys, h => by
    obtain ⟨h1, h2⟩ := List.pairwise_cons.mp h
    unfold insL
    by_cases e : x = y
    · rw [if_pos e]; exact h
    · rw [if_neg e]
      split
      next q =>
        refine List.pairwise_cons.mpr ⟨fun z hz => ?_, h⟩
        rcases List.mem_cons.mp hz with rfl | hz
        · exact q
        · exact HT.lexLt_trans _ _ _ q (h1 z hz)
      next q =>
        refine List.pairwise_cons.mpr ⟨fun z hz => ?_, pw_insL h2⟩
        rcases mem_insL.mp hz with rfl | hz
        · have f := HT.lexLt_flip z y e
          cases c : HT.lexLt z y with
          | true => exact absurd c q
          | false => rw [c] at f; exact f
        · exact h1 z hz
theorem pw_uni : ∀ {ls : List (List Int)}, LPw (uni ls)
  | [] => .nil
  | x :: ls => pw_insL (pw_uni (ls := ls))
theorem lex_uniq : ∀ {a b : List (List Int)}, LPw a → LPw b → (∀ l, l ∈ a ↔ l ∈ b) → a = b
  | [], [], _, _, _ => rfl
  | [], y :: b, _, _, h => absurd ((h y).mpr (.head _)) (by simp)
  | x :: a, [], _, _, h => absurd ((h x).mp (.head _)) (by simp)
  | x :: a, y :: b, ha, hb, h => by
    obtain ⟨a1, a2⟩ := List.pairwise_cons.mp ha
    obtain ⟨b1, b2⟩ := List.pairwise_cons.mp hb
    have irr : ∀ z : List Int, HT.lexLt z z ≠ true := fun z q => by rw [HT.lexLt_irrefl] at q; cases q
    have e : x = y := by
      rcases List.mem_cons.mp ((h x).mp (.head _)) with z | z
      · exact z
      · rcases List.mem_cons.mp ((h y).mpr (.head _)) with q | q
        · exact q.symm
        · exact absurd (HT.lexLt_trans _ _ _ (a1 y q) (b1 x z)) (irr x)
    subst e
    rw [lex_uniq a2 b2 fun l => ?_]
    constructor
    · intro hl
      rcases List.mem_cons.mp ((h l).mp (.tail _ hl)) with z | z
      · subst z; exact absurd (a1 l hl) (irr l)
      · exact z
    · intro hl
      rcases List.mem_cons.mp ((h l).mpr (.tail _ hl)) with z | z
      · subst z; exact absurd (b1 l hl) (irr l)
      · exact z
theorem uni_of {a ls : List (List Int)} (ha : LPw a) (h : ∀ l, l ∈ a ↔ l ∈ ls) : a = uni ls := lex_uniq ha pw_uni fun l => by rw [h, mem_uni]
def needless (U : List (List Int)) (st : List Int) : Bool := U.any fun o => decide (o ≠ st) && hasS o st
def needed (U : List (List Int)) : List (List Int) := U.filter fun st => !needless U st
abbrev CN := Nat × List (List Int)
def allC (cs : List CN) : List (List Int) := cs.flatMap (·.2)
def needC (cs : List CN) : List (List Int) := needed (uni (allC cs))
def baseC (cs : List CN) : Nat := (cs.headD (0, [])).1
def sameB (cs : List CN) : Bool := cs.all fun c => decide (c.1 = baseC cs)
theorem mem_needed {U : List (List Int)} {l : List Int} (h : l ∈ needed U) : l ∈ U := (List.mem_filter.mp h).1
theorem pw_needed {U : List (List Int)} (h : LPw U) : LPw (needed U) := h.filter _
end L2
namespace PySem.W.Fast
def tw1927932471976704362 := ()
def tw6097424898733256651 := ()
def tw416862614893991897 := ()
def tw3906423267769977515 := ()
def tw9587052723624357879 := ()
def tw2757359862999049965 := ()
def tw119958449838767072 := ()
def tw15530288840318954247 := ()
def tw12048518190093713529 := ()
def tw16402315021344168806 := ()
def tw17080299436040997166 := ()
def tw2113260416538259284 := ()
def tw5245183320718111855 := ()
def tw9913245298747987254 := ()
def tw1381519245056968209 := ()
def tw17565447484376997939 := ()
def tw16372460804979189614 := ()
def tw6858211056115719911 := ()
def tw11951228576781434056 := ()
def tw3590111974683645590 := ()
def tw7585982751151123068 := ()
def tw11174733103357875051 := ()
def tw905308184629112080 := ()
def tw15046957287556366597 := ()
def tw4731423849589500125 := ()
def tw1329278729458262730 := ()
def tw6655735453340462488 := ()
def tw18405043795825205683 := ()
def tw7737923117082694849 := ()
def tw1091921466349578272 := ()
def tw15967829035317358758 := ()
def tw16241752766363367965 := ()
def tw9576981734610583198 := ()
def tw11944534596935915524 := ()
def tw12325406923823051430 := ()
def tw2224233134407739790 := ()
def tw14642956125915649272 := ()
def tw14733363890838903286 := ()
def tw4716353858948726662 := ()
def tw17746376333076142347 := ()
def tw11396790421590918184 := ()
def tw1018391106974591013 := ()
def tw730178690265221453 := ()
def tw8870552449728636070 := ()
def tw6121843737925276654 := ()
def tw13132644142785915010 := ()
def tw3826382902330874271 := ()
def tw3519979523635369733 := ()
def tw16842508110133532015 := ()
def tw6491028822977827777 := ()
def tw3440994219845807398 := ()
def tw17289006436155014736 := ()
def tw17746485323128786494 := ()
def tw12241849646745360957 := ()
def tw128825066304083896 := ()
def tw12341249150862639232 := ()
def tw6285747602314824440 := ()
def tw15422825218292869555 := ()
def tw14797991820403894434 := ()
def tw10869076041726177853 := ()
def tw6581663221740182705 := ()
def tw4023568419110172209 := ()
def tw3004949243431336064 := ()
def tw10591711975971907627 := ()
def tw10961641954141745829 := ()
def tw10446325931098209248 := ()
def tw14224608082016727883 := ()
def tw17249562053736872315 := ()
def tw538513706166933927 := ()
def tw15322779640539902076 := ()
def tw16181107610930395108 := ()
def tw258768238663799820 := ()
def tw7042241938259878548 := ()
def tw6432094076641852953 := ()
def tw1741211090936029789 := ()
def tw1701917227233729086 := ()
def tw7298157372066191729 := ()
def tw13181449574442512373 := ()
def tw15795649851371932895 := ()
def tw13040462418728456673 := ()
def tw2749352798000777352 := ()
def tw16035131786802221937 := ()
def tw11823168018436481481 := ()
def tw1334929199346341077 := ()
def tw11340248471785311469 := ()
def tw8660543394544858773 := ()
def tw12725314896775767097 := ()
def tw5403305868646469322 := ()
def tw10843860278011946567 := ()
def tw4102689622030858493 := ()
def tw13561689979389488272 := ()
def tw17179930908079434304 := ()
def tw7077497064059362478 := ()
def tw672478256921429441 := ()
def tw13127267819866372093 := ()
def tw5096036093080053461 := ()
def tw16080917712301721017 := ()
def tw17953687360644779156 := ()
def tw3653602560510239597 := ()
def tw18210912095517905887 := ()
def tw8615143025799438210 := ()
def tw13357352335870222741 := ()
def tw13454342908185670029 := ()
def tw17990645857367665345 := ()
def tw11522970588027546568 := ()
def tw10760611143180682155 := ()
def tw16765588803308164015 := ()
def tw10045671244925299953 := ()
def tw2753317517147570736 := ()
def tw13526211876971343222 := ()
def tw8941659202532370321 := ()
def tw9471219987524875607 := ()
def tw5858966892694614703 := ()
def tw12405203543055185482 := ()
def tw4214082126305852670 := ()
def tw2498905424416745267 := ()
def tw2505783106275205325 := ()
def tw2301168925941289868 := ()
def tw4802583471366373895 := ()
def tw13130109913281700736 := ()
def tw15303033037799848695 := ()
def tw3063647647857967166 := ()
def tw3275517403916135801 := ()
def tw11175244428557801475 := ()
def tw11275359216443023738 := ()
def tw3952520988413296038 := ()
def tw9713262267381202911 := ()
def tw8783543829031660381 := ()
def tw14864841159956468858 := ()
def tw4268493914732639902 := ()
def tw10282228982110144106 := ()
def tw12001108162034393444 := ()
def tw8303582698061920601 := ()
def tw4396185855914664536 := ()
def tw4604577881574738065 := ()
def tw15057718697068231903 := ()
def tw11897648436243188103 := ()
def tw4457314729813079153 := ()
def tw4003272008115585377 := ()
def tw9072604750368504652 := ()
def tw2320255757423284940 := ()
def tw6217575852074714636 := ()
def tw18109916857295499783 := ()
def tw14402078747132479110 := ()
def tw15873825330539831387 := ()
def tw3744876106366225417 := ()
def tw10882453282457238360 := ()
def tw14628097768348181304 := ()
def tw2156095191228353656 := ()
def tw4676437142617789160 := ()
def tw17437459055545559576 := ()
def tw10252591991169492824 := ()
def tw3380378458918083479 := ()
def tw11920985760326348911 := ()
def tw5924948095430372058 := ()
def tw3274754526999220489 := ()
def tw4994908096895114243 := ()
def tw15279580498767594959 := ()
def tw13272012080542413665 := ()
def tw751644256209250179 := ()
def tw14841540892594727932 := ()
def tw5699084551722810695 := ()
def tw6619908981098583270 := ()
def tw14695904654667097350 := ()
def tw13017672771559196692 := ()
def tw13468867852215956369 := ()
def tw12453014677514445962 := ()
def tw11286799319334516713 := ()
def tw12715161507302091495 := ()
def tw10346660918033084779 := ()
def tw17042962660952822687 := ()
def tw5987819310217887518 := ()
def tw2519497480898442615 := ()
def tw7259322099839358079 := ()
def tw7625769002772329723 := ()
def tw10656090224277127952 := ()
def tw11775697361624233733 := ()
def tw9906665851420886296 := ()
def tw9021917675983638520 := ()
def tw17265522131690088431 := ()
def tw1683272280936497234 := ()
def tw7245346632446309801 := ()
def tw9389422334706481004 := ()
def tw8939481455839022822 := ()
def tw6375623965066067342 := ()
def tw5056920989196732952 := ()
def tw13354626404216846831 := ()
def tw8593190055714587807 := ()
def tw15103314536195466968 := ()
def tw14922369130118509795 := ()
def tw16508331007888415546 := ()
def tw17557192643373694054 := ()
def tw8366398243104649353 := ()
def tw11122244179830210041 := ()
def tw18277820086758986584 := ()
def tw16458668836686391820 := ()
def tw11314428463230292627 := ()
def tw14470446651694466854 := ()
def tw13013493828521183522 := ()
def tw12445792985025882540 := ()
def tw2353012511037609125 := ()
def tw5351596160226776888 := ()
def tw13177508200611808225 := ()
def tw8035599699943673386 := ()
def tw11251981221059596655 := ()
def tw8308478424483907958 := ()
def tw870403293782502614 := ()
def tw2439245651471611512 := ()
def tw15981357878329893099 := ()
def tw6335811745686321278 := ()
def tw16362160678670339924 := ()
def tw1552981988227627745 := ()
def tw14717360672823915388 := ()
def tw1076745131271130368 := ()
def tw1959855896921862891 := ()
def tw8718313378372874576 := ()
def tw4841489211413368237 := ()
def tw16294828226046391438 := ()
def tw14457526929370692108 := ()
def tw12866412863935114599 := ()
def tw17534943982264551038 := ()
def tw13089550134167207140 := ()
def tw1332351423645114854 := ()
def tw9371063250655208032 := ()
def tw2392895688839447263 := ()
def tw17063701809982299403 := ()
def tw11297100634857364717 := ()
def tw6359749593505645347 := ()
def tw6599248309451663057 := ()
def tw16216159729558432223 := ()
def tw17574837776803958237 := ()
def tw17601420877471505611 := ()
def tw1335324862670532528 := ()
def tw12351925366560689620 := ()
def tw14777221233228541282 := ()
def tw3068253469977934580 := ()
def tw4529412286654820140 := ()
def tw2100487282537173095 := ()
def tw790329109024886668 := ()
def tw2202229473365579933 := ()
def tw13839231128853082931 := ()
def tw15257372686523102067 := ()
def tw15396542841974656188 := ()
def tw10069497104447295009 := ()
def tw11925737717626940885 := ()
def tw17439693874247895551 := ()
def tw6528211816860033115 := ()
def tw1449956699944350597 := ()
def tw6081570282935659751 := ()
def tw16546125844788228746 := ()
def tw14877658915869510910 := ()
def tw12059052288934060165 := ()
def tw9275202451428869350 := ()
def tw3719759197912696003 := ()
def tw10588481429190004652 := ()
def tw14816407326917886831 := ()
def tw6481409795053117150 := ()
def tw8105554725779173053 := ()
def tw7133110614166368200 := ()
def tw2166418704645813260 := ()
def tw15274855880769576193 := ()
def tw11029473806577204497 := ()
def tw949189499818812300 := ()
def tw12898715074303475662 := ()
def tw17613882265501464850 := ()
def tw17043926842553201099 := ()
def tw13674073195121755631 := ()
def tw1473689038960083842 := ()
def tw17474869249085411789 := ()
def tw2819608610629962616 := ()
def tw9436234701831166714 := ()
def tw10516689689974254792 := ()
def tw15411170968271702234 := ()
def tw3296704538616200441 := ()
def tw1424975343505615512 := ()
def tw13591731276070869731 := ()
def tw16085137213035692856 := ()
def tw12867268158668711088 := ()
def tw6919186842864518058 := ()
def tw15956048098599942393 := ()
def tw5904142379246599766 := ()
def tw12412498398523044903 := ()
def tw16708947239278222423 := ()
def tw4236472998784095587 := ()
def tw17345104477214960584 := ()
def tw8029988921924427588 := ()
def tw17184853110900283684 := ()
def tw3260898507085593124 := ()
def tw15161379859544769860 := ()
def tw3343838114916235890 := ()
def tw1216506909550345920 := ()
def tw10639869398800128881 := ()
def tw17252121487449217790 := ()
def tw9483773103044994033 := ()
def tw17700784641317883453 := ()
def tw12396296696613040486 := ()
def tw12968193558953838291 := ()
def tw12690804305647914079 := ()
def tw14198505144954340462 := ()
def tw4189599616011270853 := ()
def tw16121718475744821205 := ()
def tw9578492419281079752 := ()
def tw9244232375446589337 := ()
def tw2309220866245678985 := ()
def tw15976595839792612807 := ()
def tw353107433802213755 := ()
def tw11879112335928320992 := ()
def tw17465203514194904893 := ()
def tw1945930000101319436 := ()
def tw18435207705420434282 := ()
def tw7496357583343829235 := ()
def tw4909808589820480476 := ()
def tw10788886830523139166 := ()
def tw13091569921834819947 := ()
def tw3512140819443890653 := ()
def tw13488976359824289648 := ()
def tw3089682714271256135 := ()
def tw1152559797084918990 := ()
def tw11711124980576682984 := ()
def tw9139335986195793177 := ()
def tw2317503112632235444 := ()
def tw4753364263334605862 := ()
def tw4087831338573416939 := ()
def tw11906456418049115839 := ()
def tw13737367759015551839 := ()
def tw2066507493918625833 := ()
def tw18213369642614515978 := ()
def tw10645358095331056394 := ()
def tw16848567302323890049 := ()
def tw9803737910576582944 := ()
def tw8488079385466456498 := ()
def tw8994811670286979465 := ()
def tw5667210575380831318 := ()
def tw16157444601386874193 := ()
def tw15805033320135896333 := ()
def tw10410428351088043622 := ()
def tw9092737907517436427 := ()
def tw7814164870679290100 := ()
def tw980526812452217619 := ()
def tw6059205771990762976 := ()
def tw15249120735177810896 := ()
def tw16082387381155467045 := ()
def tw11191451570353230315 := ()
def tw18353134700730329906 := ()
def tw13425588559492169106 := ()
def tw7243549087156997456 := ()
def tw5098339185797843336 := ()
def tw5913352109979901688 := ()
def tw16717951694737175591 := ()
def tw13380212584595977365 := ()
def tw16674721670505419896 := ()
def tw18315774790542103386 := ()
def tw5463503673908269707 := ()
def tw11587670443470838669 := ()
def tw7651797766865528512 := ()
def tw15136123893745303007 := ()
def tw414510189815077363 := ()
def tw14028329402329298983 := ()
def tw4101541289186913883 := ()
def tw17140359686118203091 := ()
def tw10642841848686401929 := ()
def tw16272024839648482515 := ()
def tw858220006324449762 := ()
def tw3764479127683099855 := ()
def tw3552050596322294644 := ()
def tw4441328688908718568 := ()
def tw17966256975484835246 := ()
def tw15200855735832443966 := ()
def tw4100036918805428886 := ()
def tw444783069110122241 := ()
def tw11625963789061330847 := ()
def tw14176067374687903319 := ()
def tw7766861831093693174 := ()
def tw1389192018274553904 := ()
def tw9390206722935772749 := ()
def tw17632811206768593170 := ()
def tw13047714524747198795 := ()
def tw4117682085157927468 := ()
def tw3811871244298613804 := ()
def tw2687258426250408432 := ()
def tw16571702646410243416 := ()
def tw7308983603346660065 := ()
def tw6928971067729554284 := ()
def tw14843585465534761653 := ()
def tw18276546894798653770 := ()
def tw15510679306374902462 := ()
def tw2884991420925563424 := ()
def tw9552679881145107228 := ()
def tw7921048727074392475 := ()
def tw14150207604265340413 := ()
def tw17564147065756902548 := ()
def tw13828544322150263886 := ()
def tw9517826245005401374 := ()
def tw7753865328023010497 := ()
def tw1600832777760400473 := ()
def tw853046017020397241 := ()
def tw6446384432131639773 := ()
def tw8961588753088780077 := ()
def tw17500633366341279483 := ()
def tw17222924424038767610 := ()
def tw12151159949502450380 := ()
def tw4488164923479621993 := ()
def tw18212503570034478258 := ()
def tw6462072743862311424 := ()
def tw9102666960976276844 := ()
def tw3065499660899296048 := ()
def tw14829345995680487849 := ()
def tw16302339979697054139 := ()
def tw13247910203443202753 := ()
def tw15442396141088894248 := ()
def tw12182304112253592235 := ()
def tw16612069868895762763 := ()
def tw6739614229065190656 := ()
def tw7050246667852342683 := ()
def tw14881774677796374912 := ()
def tw12601449815876796310 := ()
def tw8644979333295040676 := ()
def tw15612378297413444645 := ()
def tw5568719104962487349 := ()
def tw16489256733865896560 := ()
def tw382203070890222094 := ()
def tw7043805544984173617 := ()
def tw3100560937664369164 := ()
def tw9051263301620860043 := ()
def tw3668782396509375523 := ()
def tw15519938568132164752 := ()
def tw16870910773198190782 := ()
def tw18318749197896664842 := ()
def tw15521320720156148672 := ()
def tw13013979968192454521 := ()
def tw10366077824617102633 := ()
def tw5593484309812914294 := ()
def tw18076801485657948005 := ()
def tw16848756616749315853 := ()
def tw8835918551797265328 := ()
def tw11834305104827530606 := ()
def tw13639307674010316601 := ()
def tw16200516670220783338 := ()
def tw15858877614267135906 := ()
def tw7098265518844096065 := ()
def tw4691677607526386426 := ()
def tw4046526116839052591 := ()
def tw8274922642645916707 := ()
def tw9701385709534832901 := ()
def tw9442980596528739053 := ()
def tw8039231718199692163 := ()
def tw7264171819777297493 := ()
def tw9144092836295483035 := ()
end PySem.W.Fast
set_option Elab.async false
set_option linter.all false
set_option maxRecDepth 100000
namespace Lw
open PySem L2 PyProof.Rows
def top (i : Nat) : Stmt := PySem.Challenge.pw_lackstretch_k31_whole_together_and_each.main.body.getD i (.Pass ⟨0, 0, 0, 0⟩)
abbrev s__wall : Stmt := top 0
abbrev s_is_whole : Stmt := top 13
abbrev s_is_number : Stmt := top 14
abbrev s_is_base : Stmt := top 15
abbrev s_is_figure : Stmt := top 16
abbrev s_are_figures : Stmt := top 17
abbrev s_is_stretch : Stmt := top 18
abbrev s_is_rising : Stmt := top 19
abbrev s_is_bad_list : Stmt := top 20
abbrev s_is_rule : Stmt := top 21
abbrev s_check_base : Stmt := top 22
abbrev s_check_number : Stmt := top 23
abbrev s_check_rule : Stmt := top 24
abbrev s_stands_within : Stmt := top 25
abbrev s_lacks_all : Stmt := top 26
abbrev s_figures_of : Stmt := top 27
abbrev s_is_good : Stmt := top 28
abbrev s_are_rules : Stmt := top 33
abbrev s_check_rules : Stmt := top 34
abbrev s_check_bound : Stmt := top 35
abbrev s_is_good_by_each : Stmt := top 36
abbrev s_keeps_all : Stmt := top 37
abbrev s_all_keeping : Stmt := top 38
abbrev s_count_keeping : Stmt := top 39
abbrev s_next_keeping : Stmt := top 40
abbrev s_unlike_stretches : Stmt := top 41
abbrev s_is_needless : Stmt := top 42
abbrev s_one_rule : Stmt := top 43
abbrev s_begins_one : Stmt := top 45
abbrev s_longest_stand : Stmt := top 46
abbrev s_stands_of : Stmt := top 47
abbrev s_place_behind : Stmt := top 49
abbrev s_steps_from : Stmt := top 50
abbrev s_all_steps : Stmt := top 51
abbrev s_Tails___init__ : Stmt := inClass (top 52) 0
abbrev s_Tails_layer : Stmt := inClass (top 52) 1
abbrev s_Tails_many_by : Stmt := inClass (top 52) 2
abbrev s_Tails_many_under : Stmt := inClass (top 52) 3
abbrev s_Tails_many_below : Stmt := inClass (top 52) 4
abbrev s_Tails_many_within : Stmt := inClass (top 52) 5
abbrev s_Tails_figure_at : Stmt := inClass (top 52) 6
abbrev s_Tails_number_at : Stmt := inClass (top 52) 7
abbrev s_Tails_are_endless : Stmt := inClass (top 52) 8
abbrev s_count_below : Stmt := top 54
abbrev s_next_good : Stmt := top 55
abbrev s__law_cell : Stmt := top 57
abbrev s__law_store : Stmt := top 58
abbrev s__law_take : Stmt := top 59
abbrev s__law_stretch : Stmt := top 60
abbrev s__law_bad : Stmt := top 61
abbrev s__law_base : Stmt := top 62
abbrev s__law_rules : Stmt := top 65
abbrev s__law_number : Stmt := top 67
abbrev s__law_each_right : Stmt := top 68
abbrev s__law_number_right : Stmt := top 69
abbrev s__law_one_right : Stmt := top 70
abbrev s_law : Stmt := top 71
end Lw
namespace Lw
open PySem L2 PyProof.Rows
section
variable {P : Program} {w : World} {K : PySem.W.Frag} {mg : Str → Option Value} {base : Heap}
def sp_is_whole : Sp := fun vs H Q _ => ∃ i : Int, vs = [.int i] ∧ Q (.bl true) H
theorem sc_is_whole : FnScope ["thing"] ["thing"] (defScope s_is_whole) := ⟨rfl, rfl, rfl, by decide +kernel, rfl, by decide +kernel, by decide +kernel⟩
theorem ok_is_whole {f : Addr} {fd : FuncData} (D : Df K mg "is_whole" s_is_whole ["thing"] f fd) (T : Blt mg) : FnOk P w K mg base CX0 1 f fd ["thing"] sp_is_whole := by
  refine D.fn.ok sc_is_whole (fun vs H Q E h => ?_) (fun cdv A outer s H vs Q E hr h => ?_)
  · obtain ⟨i, rfl, _⟩ := h; rfl
  · obtain ⟨i, rfl, q⟩ := h
    refine ⟨_, (pss_one (ps_ret (pe_and (pe_callB call_isi (by rfl) T.n_isinstance boot_isinstance (pa_cons (pv 0) (pa_cons (pe_bltn (v := .ty "int") rfl T.n_int boot_int rfl) pa_nil))) (pe_one (pe_not (pe_callB call_isi (by rfl) T.n_isinstance boot_isinstance (pa_cons (pv 0) (pa_cons (pe_bltn (v := .ty "bool") rfl T.n_bool boot_bool rfl) pa_nil)))))))), ?_⟩
    refine ⟨_, rfl, _, _, _, _, rfl, .int i, kit_int_int, _, rfl, iteT ?_⟩
    refine ⟨_, rfl, _, _, _, _, rfl, .int i, kit_int_bool, _, rfl, ?_⟩
    exact q
def sp_is_base : Sp := fun vs H Q _ => ∃ i : Int, vs = [.int i] ∧ Q (.bl (decide (2 ≤ i ∧ i ≤ 16))) H
theorem sc_is_base : FnScope ["thing"] ["thing"] (defScope s_is_base) := ⟨rfl, rfl, rfl, by decide +kernel, rfl, by decide +kernel, by decide +kernel⟩
theorem ok_is_base {f f1 : Addr} {fd fd1 : FuncData} {t1 t2 : Tok} (D : Df K mg "is_base" s_is_base ["thing"] f fd) (Dis_whole : Df K mg "is_whole" s_is_whole ["thing"] f1 fd1) (T : Blt mg) (c_LEAST_BASE : mg "LEAST_BASE" = some (.int 2 t1)) (c_GREATEST_BASE : mg "GREATEST_BASE" = some (.int 16 t2)) :
    FnOk P w K mg base CX0 2 f fd ["thing"] sp_is_base := by
  have Gis_whole : FnOk P w K mg base CX0 1 f1 fd1 ["thing"] sp_is_whole := ok_is_whole Dis_whole T
  refine D.fn.ok sc_is_base (fun vs H Q E h => ?_) (fun cdv A outer s H vs Q E hr h => ?_)
  · obtain ⟨i, rfl, _⟩ := h; rfl
  · obtain ⟨i, rfl, q⟩ := h
    refine ⟨_, (pss_one (ps_ret (pe_and (pcall Dis_whole Gis_whole (hr.mono (by decide)) (pa_cons (pv 0) pa_nil)) (pe_one (pe_chain op_le op_le (pe_glob (v := .int 2) rfl c_LEAST_BASE ⟨_, rfl⟩) (pv 0) (pe_glob (v := .int 16) rfl c_GREATEST_BASE ⟨_, rfl⟩)))))), ?_⟩
    refine ⟨_, rfl, i, rfl, _, rfl, iteT ?_⟩
    refine ⟨_, rfl, _, _, rfl, rfl, _, rfl, ?_⟩
    refine ite2 (fun h1 => ?_) (fun h1 => ?_)
    · have h1' : (2 : Int) ≤ i := of_decide_eq_true h1
      refine ⟨_, _, rfl, rfl, ?_⟩
      rw [show decide (2 ≤ i ∧ i ≤ 16) = decide (i ≤ 16) by simp [h1']] at q
      exact q
    · have h1' : ¬ (2 : Int) ≤ i := fun z => h1 (decide_eq_true z)
      rw [show decide (2 ≤ i ∧ i ≤ 16) = false by simp [h1']] at q
      exact q
def sp_check_base : Sp := fun vs H Q _ => ∃ i : Int, vs = [.int i] ∧ 2 ≤ i ∧ i ≤ 16 ∧ Q .non H
theorem sc_check_base : FnScope ["thing"] ["thing"] (defScope s_check_base) := ⟨rfl, rfl, rfl, by decide +kernel, rfl, by decide +kernel, by decide +kernel⟩
theorem ok_check_base {f f1 : Addr} {fd fd1 : FuncData} (D : Df K mg "check_base" s_check_base ["thing"] f fd) (Dis_base : Df K mg "is_base" s_is_base ["thing"] f1 fd1) (Gis_base : FnOk P w K mg base CX0 2 f1 fd1 ["thing"] sp_is_base) :
    FnOk P w K mg base CX0 3 f fd ["thing"] sp_check_base := by
  refine D.fn.ok sc_check_base (fun vs H Q E h => ?_) (fun cdv A outer s H vs Q E hr h => ?_)
  · obtain ⟨i, rfl, _⟩ := h; rfl
  · obtain ⟨i, rfl, h1, h2, q⟩ := h
    refine ⟨_, (pss_one (ps_if (pt_not (pt_val (pcall Dis_base Gis_base (hr.mono (by decide)) (pa_cons (pv 0) pa_nil))))
        (pss_one ps_never)
        pss_nil)), ?_⟩
    refine ⟨_, rfl, i, rfl, _, rfl, ?_⟩
    rw [decide_eq_true (show 2 ≤ i ∧ i ≤ 16 from ⟨h1, h2⟩)]
    exact iteF q
end
section
variable {P : Program} {w : World} {K : PySem.W.Frag} {mg : Str → Option Value} {base : Heap}
def sp_is_number : Sp := fun vs H Q _ => ∃ i : Int, vs = [.int i] ∧ Q (.bl (decide (0 ≤ i))) H
theorem sc_is_number : FnScope ["thing"] ["thing"] (defScope s_is_number) := ⟨rfl, rfl, rfl, by decide +kernel, rfl, by decide +kernel, by decide +kernel⟩
theorem ok_is_number {f f1 : Addr} {fd fd1 : FuncData} (D : Df K mg "is_number" s_is_number ["thing"] f fd) (Dis_whole : Df K mg "is_whole" s_is_whole ["thing"] f1 fd1) (T : Blt mg) :
    FnOk P w K mg base CX0 2 f fd ["thing"] sp_is_number := by
  have Gis_whole : FnOk P w K mg base CX0 1 f1 fd1 ["thing"] sp_is_whole := ok_is_whole Dis_whole T
  refine D.fn.ok sc_is_number (fun vs H Q E h => ?_) (fun cdv A outer s H vs Q E hr h => ?_)
  · obtain ⟨i, rfl, _⟩ := h; rfl
  · obtain ⟨i, rfl, q⟩ := h
    refine ⟨_, (pss_one (ps_ret (pe_and (pcall Dis_whole Gis_whole (hr.mono (by decide)) (pa_cons (pv 0) pa_nil)) (pe_one (pe_cmpR op_ge (pv 0) pe_int (nomark _)))))), ?_⟩
    refine ⟨_, rfl, i, rfl, _, rfl, iteT ?_⟩
    exact ⟨_, rfl, _, _, rfl, rfl, q⟩
def sp_check_number : Sp := fun vs H Q _ => ∃ i : Int, vs = [.int i] ∧ 0 ≤ i ∧ Q .non H
theorem sc_check_number : FnScope ["thing"] ["thing"] (defScope s_check_number) := ⟨rfl, rfl, rfl, by decide +kernel, rfl, by decide +kernel, by decide +kernel⟩
theorem ok_check_number {f f1 f2 : Addr} {fd fd1 fd2 : FuncData} (D : Df K mg "check_number" s_check_number ["thing"] f fd) (Dis_number : Df K mg "is_number" s_is_number ["thing"] f2 fd2) (Dis_whole : Df K mg "is_whole" s_is_whole ["thing"] f1 fd1) (T : Blt mg) :
    FnOk P w K mg base CX0 3 f fd ["thing"] sp_check_number := by
  have Gis_number : FnOk P w K mg base CX0 2 f2 fd2 ["thing"] sp_is_number := ok_is_number Dis_number Dis_whole T
  refine D.fn.ok sc_check_number (fun vs H Q E h => ?_) (fun cdv A outer s H vs Q E hr h => ?_)
  · obtain ⟨i, rfl, _⟩ := h; rfl
  · obtain ⟨i, rfl, h1, q⟩ := h
    refine ⟨_, (pss_one (ps_if (pt_not (pt_val (pcall Dis_number Gis_number (hr.mono (by decide)) (pa_cons (pv 0) pa_nil))))
        (pss_one ps_never)
        pss_nil)), ?_⟩
    refine ⟨_, rfl, i, rfl, _, rfl, ?_⟩
    rw [decide_eq_true h1]
    exact iteF q
end
section
variable {P : Program} {w : World} {K : PySem.W.Frag} {mg : Str → Option Value} {base : Heap}
def sp_figures_of : Sp := fun vs H Q _ => ∃ b n : Nat, vs = [.int b, .int n] ∧ 2 ≤ b ∧ b ≤ 16 ∧ n < 2 ^ 900 ∧
  ∀ l H', H l = none → H' l = some (.lst ((figs b n).map V.int)) → Same H H' → Q (.ref l) H'
theorem sc_figures_of : FnScope ["base", "n", "backwards", "rest"] ["base", "n"] (defScope s_figures_of) := ⟨rfl, rfl, rfl, by decide +kernel, rfl, by decide +kernel, by decide +kernel⟩
theorem ok_figures_of {f f1 f2 : Addr} {fd fd1 fd2 : FuncData} (D : Df K mg "figures_of" s_figures_of ["base", "n"] f fd) (Dcheck_base : Df K mg "check_base" s_check_base ["thing"] f1 fd1) (Gcheck_base : FnOk P w K mg base CX0 3 f1 fd1 ["thing"] sp_check_base)
    (Dcheck_number : Df K mg "check_number" s_check_number ["thing"] f2 fd2) (Gcheck_number : FnOk P w K mg base CX0 3 f2 fd2 ["thing"] sp_check_number) (T : Blt mg) : FnOk P w K mg base CX0 4 f fd ["base", "n"] sp_figures_of := by
  refine D.fn.ok sc_figures_of (fun vs H Q E h => ?_) (fun cdv A outer s H vs Q E hr h => ?_)
  · obtain ⟨b, n, rfl, _⟩ := h; rfl
  · obtain ⟨b, n, rfl, h2, h16, hn, k⟩ := h
    refine ⟨_, (pss_cons (ps_expr (pcall Dcheck_base Gcheck_base (hr.mono (by decide)) (pa_cons (pv 0) pa_nil)))
      (pss_cons (ps_expr (pcall Dcheck_number Gcheck_number (hr.mono (by decide)) (pa_cons (pv 1) pa_nil)))
      (pss_cons (ps_set (i := 2) sc_figures_of.nd rfl (Or.inl rfl) (pe_lst (pa_cons (pe_op op_mod (pv 1) (pv 0)) pa_nil)))
      (pss_cons (ps_set (i := 3) sc_figures_of.nd rfl (Or.inl rfl) (pe_op op_fdivB (pv 1) (pv 0)))
      (pss_cons (ps_while PassesOwn.never (pt_cmpR op_gt (pv 3) pe_int (nomark _))
        (pss_cons (ps_expr (pe_bm PySem.F.plainAttrs_list PySem.F.slot_list_append PySem.F.type_list_append mt_append (pv 2) (pa_cons (pe_op op_mod (pv 3) (pv 0)) pa_nil)))
        (pss_one (ps_set (i := 3) sc_figures_of.nd rfl (Or.inl rfl) (pe_op op_fdivB (pv 3) (pv 0))))))
      (pss_one (ps_ret (pe_listRev rfl rfl T.n_list rfl T.n_reversed (pv 2))))))))), ?_⟩
    refine ⟨_, rfl, (b : Int), rfl, by omega, by omega, ?_⟩
    refine ⟨_, rfl, (n : Int), rfl, by omega, ?_⟩
    refine ⟨_, rfl, _, rfl, _, _, rfl, rfl, (by omega : (0 : Int) < b), (by decide : 1 ≤ sizeLine), fun l hl => ?_⟩
    refine ⟨_, rfl, _, rfl, _, _, rfl, rfl, ⟨by omega, by omega⟩, ?_⟩
    have hlen := figs_len h2 900 n hn
    refine while_by (fun σ H2 => ∃ (r : Nat) (L : List Int), σ = [some (.int b), some (.int n), some (.ref l), some (.int r)] ∧ H2 l = some (.lst (L.map V.int)) ∧ Same H H2 ∧ figs b n = ahead b r ++ L.reverse)
      (fun σ _ => match σ with | [_, _, _, some (.int r)] => r.toNat | _ => 0) ?_ ?_ ?_
    · refine ⟨n / b, [((n % b : Nat) : Int)], ?_, ?_, same_upd hl, ?_⟩
      · rfl
      · rw [upd_same]; simp
      · rw [figs_step h2]; simp
    · rintro σ H2 ⟨r, L, rfl, hL, sH, he⟩
      refine ⟨_, rfl, _, _, rfl, rfl, _, rfl, ?_⟩
      refine ite2 (fun h1 => ?_) (fun h1 => ?_)
      · have hr0 : 0 < r := by have := of_decide_eq_true h1; omega
        have hLl : L.length ≤ 901 := by
          have := congrArg List.length he
          rw [List.length_append, List.length_reverse] at this
          omega
        refine ⟨_, rfl, .inl ⟨rfl, _, SqL.of hL⟩, _, rfl, _, rfl, _, _, rfl, rfl, (by omega : (0 : Int) < b), l, _, _, rfl, rfl, hL, by rw [List.length_map]; exact Nat.lt_of_le_of_lt hLl (by decide), ?_⟩
        refine ⟨_, rfl, _, rfl, _, _, rfl, rfl, ⟨by omega, by omega⟩, ?_⟩
        refine ⟨⟨r / b, L ++ [((r % b : Nat) : Int)], ?_, ?_, ?_, ?_⟩, ?_⟩
        · simp
        · rw [upd_same]; simp
        · exact fun b' o e => by rw [upd_ne (ne_of_none e hl)]; exact sH b' o e
        · rw [he, ahead_step h2 hr0, List.reverse_append]; simp
        · show ((r : Int) / (b : Int)).toNat < (r : Int).toNat
          have : r / b < r := Nat.div_lt_self hr0 (by omega)
          omega
      · have hr0 : r = 0 := by
          by_cases z : r = 0
          · exact z
          · exact absurd (decide_eq_true (by omega : (0 : Int) < r)) h1
        subst hr0
        refine ⟨_, rfl, l, _, rfl, SqL.of hL, fun q hq => ?_⟩
        have hlq : q ≠ l := fun z => by rw [z, hL] at hq; cases hq
        refine k q _ (sH.free hq) ?_ (sH.trans (same_upd hq))
        rw [upd_same, he]
        simp [ahead]
    · intro σ H2 Q Q' hq
      rintro ⟨v, e, i, j, e1, e2, k, e3, q⟩
      exact ⟨v, e, i, j, e1, e2, k, e3, hq _ _ q⟩
end
end Lw
set_option Elab.async false
set_option linter.all false
set_option maxRecDepth 100000
namespace Lw
open PySem L2 PyProof.Rows
section
variable {P : Program} {w : World} {K : PySem.W.Frag} {mg : Str → Option Value} {base : Heap}
def sp_is_figure : Sp := fun vs H Q _ => ∃ b i : Int, vs = [.int b, .int i] ∧ Q (.bl (decide (0 ≤ i ∧ i < b))) H
theorem sc_is_figure : FnScope ["base", "thing"] ["base", "thing"] (defScope s_is_figure) := ⟨rfl, rfl, rfl, by decide +kernel, rfl, by decide +kernel, by decide +kernel⟩
theorem ok_is_figure {f f1 : Addr} {fd fd1 : FuncData} (D : Df K mg "is_figure" s_is_figure ["base", "thing"] f fd) (Dis_whole : Df K mg "is_whole" s_is_whole ["thing"] f1 fd1) (T : Blt mg) : FnOk P w K mg base CX0 2 f fd ["base", "thing"] sp_is_figure := by
  have Gis_whole : FnOk P w K mg base CX0 1 f1 fd1 ["thing"] sp_is_whole := ok_is_whole Dis_whole T
  refine D.fn.ok sc_is_figure (fun vs H Q E h => ?_) (fun cdv A outer s H vs Q E hr h => ?_)
  · obtain ⟨b, i, rfl, _⟩ := h; rfl
  · obtain ⟨b, i, rfl, q⟩ := h
    refine ⟨_, (pss_one (ps_ret (pe_and (pcall Dis_whole Gis_whole (hr.mono (by decide)) (pa_cons (pv 1) pa_nil)) (pe_one (pe_chain op_le op_lt pe_int (pv 1) (pv 0)))))), ?_⟩
    refine ⟨_, rfl, i, rfl, _, rfl, iteT ?_⟩
    refine ⟨_, rfl, _, _, rfl, rfl, _, rfl, ?_⟩
    refine ite2 (fun h1 => ?_) (fun h1 => ?_)
    · have h1' : (0 : Int) ≤ i := of_decide_eq_true h1
      refine ⟨_, rfl, _, _, rfl, rfl, ?_⟩
      rw [show decide (0 ≤ i ∧ i < b) = decide (i < b) by simp [h1']] at q
      exact q
    · have h1' : ¬ (0 : Int) ≤ i := fun z => h1 (decide_eq_true z)
      rw [show decide (0 ≤ i ∧ i < b) = false by simp [h1']] at q
      exact q
def sp_are_figures : Sp := fun vs H Q _ => ∃ (b : Int) (a : Addr) (ns : List Int), vs = [.int b, .ref a] ∧ H a = some (.lst (ns.map V.int)) ∧ ns.length ≤ 1000 ∧ ∀ H', Same H H' → Q (.bl (ns.all fun i => decide (0 ≤ i ∧ i < b))) H'
theorem sc_are_figures : FnScope ["base", "thing"] ["base", "thing"] (defScope s_are_figures) := ⟨rfl, rfl, rfl, by decide +kernel, rfl, by decide +kernel, by decide +kernel⟩
theorem ok_are_figures {f f1 : Addr} {fd fd1 : FuncData} (D : Df K mg "are_figures" s_are_figures ["base", "thing"] f fd) (Dis_figure : Df K mg "is_figure" s_is_figure ["base", "thing"] f1 fd1) (Gis_figure : FnOk P w K mg base CX0 2 f1 fd1 ["base", "thing"] sp_is_figure) (T : Blt mg) :
    FnOk P w K mg base CX0 3 f fd ["base", "thing"] sp_are_figures := by
  refine D.fn.ok sc_are_figures (fun vs H Q E h => ?_) (fun cdv A outer s H vs Q E hr h => ?_)
  · obtain ⟨b, a, ns, rfl, _⟩ := h; rfl
  · obtain ⟨b, a, ns, rfl, ha, hlen, kk⟩ := h
    refine ⟨_, (pss_one (ps_ret (pe_and (pe_callB (k_isi K) (by rfl) T.n_isinstance boot_isinstance (pa_cons (pv 1) (pa_cons (pe_bltn (v := .ty "list") rfl T.n_list boot_list rfl) pa_nil))) (pe_one (pe_callB (k_all K rfl) (by rfl) T.n_all boot_all (pa_cons (pe_comp (show CScope (defScope s_are_figures) _ "each" ["base", "thing"] ["base"] [0] from ⟨rfl, by decide +kernel, by decide +kernel, rfl, by decide +kernel, rfl, by decide +kernel, by decide +kernel⟩) rfl (k_pi K (pv 1)) (fun _ _ _ _ => pts_nil) (fun _ _ _ _ => (pcall Dis_figure Gis_figure (hr.mono (by decide)) (pa_cons (pv 1) (pa_cons (pv 0) pa_nil))))) pa_nil)))))), ?_⟩
    refine ⟨_, rfl, _, _, _, _, rfl, .lst ha, kit_list_list, _, rfl, iteT ?_⟩
    refine ⟨_, rfl, a, rfl, ⟨_, SqL.of ha⟩, comp_list (K := K) (a := a) (xs := ns.map V.int) (fun i ys H4 => ys = ((ns.take i).map fun i => decide (0 ≤ i ∧ i < b)).map V.bl ∧ H4 = H) ⟨by simp, rfl⟩ (fun i ys H4 _ ⟨_, e⟩ => by rw [e]; exact SqL.of ha) ?_ ?_⟩
    · rintro j x ys H4 hx ⟨rfl, rfl⟩
      refine ⟨?_, ?_⟩
      · rw [List.length_map, List.length_map, List.length_take]
        exact Nat.lt_of_le_of_lt (Nat.le_trans (Nat.min_le_right _ _) hlen) (by decide)
      obtain ⟨z, hz, rfl⟩ : ∃ z, ns[j]? = some z ∧ x = V.int z := by
        rw [List.getElem?_map] at hx
        obtain ⟨z, h, e⟩ := Option.map_eq_some_iff.mp hx
        exact ⟨z, h, e.symm⟩
      unfold tYes
      dsimp only
      rw [if_pos rfl]
      refine ⟨_, rfl, _, rfl, b, z, rfl, ?_, rfl⟩
      rw [List.take_succ, hz]
      simp
    · rintro ys H4 ⟨rfl, rfl⟩ Dd hD
      refine ⟨Dd, _, rfl, SqL.of upd_same, ?_⟩
      have q := kk _ (same_upd hD (o := .lst (((ns.take (ns.map V.int).length).map fun i => decide (0 ≤ i ∧ i < b)).map V.bl)))
      rw [List.length_map, List.take_length] at q ⊢
      rw [List.all_map]
      exact q
end
section
variable {P : Program} {w : World} {K : PySem.W.Frag} {mg : Str → Option Value} {base : Heap}
structure RuleAt (H : Hp) (r : Addr) (b : Nat) (bl : Addr) (zs : List (Addr × List Int)) : Prop where
  tu : H r = some (.tup [.int b, .ref bl])
  li : H bl = some (.lst (zs.map fun z => V.ref z.1))
  st : ∀ z ∈ zs, H z.1 = some (.lst (z.2.map V.int))
theorem RuleAt.same {H H' : Hp} {r bl : Addr} {b : Nat} {zs : List (Addr × List Int)} (R : RuleAt H r b bl zs) (s : Same H H') : RuleAt H' r b bl zs := ⟨s _ _ R.tu, s _ _ R.li, fun z hz => s _ _ (R.st z hz)⟩
structure GoodSt (b : Nat) (l : List Int) : Prop where
  ne : l ≠ []
  len : l.length ≤ 4
  fig : ∀ f ∈ l, 0 ≤ f ∧ f < b
structure GoodRule (b : Nat) (ls : List (List Int)) : Prop where
  b2 : 2 ≤ b
  b16 : b ≤ 16
  len : ls.length ≤ 4
  st : ∀ l ∈ ls, GoodSt b l
  up : ls.Pairwise fun x y => HT.lexLt x y = true
theorem all_figs' {b : Nat} {ns : List Int} (h : ∀ f ∈ ns, 0 ≤ f ∧ f < (b : Int)) : (ns.all fun i => decide (0 ≤ i ∧ i < (b : Int))) = true := by
  rw [List.all_eq_true]; intro x hx; exact decide_eq_true (h x hx)
def sp_is_stretch : Sp := fun vs H Q _ => ∃ (b : Nat) (a : Addr) (ns : List Int), vs = [.int b, .ref a] ∧ H a = some (.lst (ns.map V.int)) ∧ GoodSt b ns ∧ ∀ H', Same H H' → Q (.bl true) H'
theorem sc_is_stretch : FnScope ["base", "thing"] ["base", "thing"] (defScope s_is_stretch) := ⟨rfl, rfl, rfl, by decide +kernel, rfl, by decide +kernel, by decide +kernel⟩
theorem ok_is_stretch {f f1 : Addr} {fd fd1 : FuncData} {t1 : Tok} (D : Df K mg "is_stretch" s_is_stretch ["base", "thing"] f fd) (Dare_figures : Df K mg "are_figures" s_are_figures ["base", "thing"] f1 fd1) (Gare_figures : FnOk P w K mg base CX0 3 f1 fd1 ["base", "thing"] sp_are_figures) (c_LONGEST_STRETCH : mg "LONGEST_STRETCH" = some (.int 4 t1)) (T : Blt mg) :
    FnOk P w K mg base CX0 4 f fd ["base", "thing"] sp_is_stretch := by
  refine D.fn.ok sc_is_stretch (fun vs H Q E h => ?_) (fun cdv A outer s H vs Q E hr h => ?_)
  · obtain ⟨b, a, ns, rfl, _⟩ := h; rfl
  · obtain ⟨b, a, ns, rfl, ha, g, kk⟩ := h
    refine ⟨_, (pss_one (ps_ret (pe_and (pcall Dare_figures Gare_figures (hr.mono (by decide)) (pa_cons (pv 0) (pa_cons (pv 1) pa_nil))) (pe_one (pe_chain op_le op_le pe_int (pe_callB (k_len K) (by rfl) T.n_len PySem.boot_len (pa_cons (pv 1) pa_nil)) (pe_glob (v := .int 4) rfl c_LONGEST_STRETCH ⟨_, rfl⟩)))))), ?_⟩
    have hlen := g.len
    refine ⟨_, rfl, _, rfl, b, a, ns, rfl, ha, Nat.le_trans hlen (by decide), fun H1 s1 => ?_⟩
    rw [all_figs' g.fig]
    refine ⟨_, rfl, iteT ?_⟩
    have hpos : 0 < ns.length := List.length_pos_iff.mpr g.ne
    refine ⟨_, rfl, a, _, rfl, .inl (SqL.of (s1 _ _ ha)), _, _, rfl, rfl, _, rfl, ?_⟩
    rw [List.length_map, decide_eq_true (show (1 : Int) ≤ (ns.length : Int) by omega)]
    refine iteT ?_
    refine ⟨_, _, rfl, rfl, ?_⟩
    dsimp only
    rw [decide_eq_true (show (ns.length : Int) ≤ 4 by omega)]
    exact kk H1 s1
def sp_is_rising : Sp := fun vs H Q _ => ∃ (bl : Addr) (zs : List (Addr × List Int)), vs = [.ref bl] ∧ H bl = some (.lst (zs.map fun z => V.ref z.1)) ∧ (∀ z ∈ zs, H z.1 = some (.lst (z.2.map V.int))) ∧ zs.length ≤ 4 ∧ (zs.map (·.2)).Pairwise (fun x y => HT.lexLt x y = true) ∧ ∀ H', Same H H' → Q (.bl true) H'
theorem sc_is_rising : FnScope ["stretches"] ["stretches"] (defScope s_is_rising) := ⟨rfl, rfl, rfl, by decide +kernel, rfl, by decide +kernel, by decide +kernel⟩
theorem all_rep {n : Nat} : (List.replicate n true).all id = true := by
  rw [List.all_eq_true]; intro x hx; exact (List.mem_replicate.mp hx).2
theorem ok_is_rising {f : Addr} {fd : FuncData} (D : Df K mg "is_rising" s_is_rising ["stretches"] f fd) (T : Blt mg) : FnOk P w K mg base CX0 1 f fd ["stretches"] sp_is_rising := by
  refine D.fn.ok sc_is_rising (fun vs H Q E h => ?_) (fun cdv A outer s H vs Q E hr h => ?_)
  · obtain ⟨bl, zs, rfl, _⟩ := h; rfl
  · obtain ⟨bl, zs, rfl, hb, hz, h4, up, kk⟩ := h
    have HU := HUof hr
    refine ⟨_, (pss_one (ps_ret (pe_callB (k_all K rfl) (by rfl) T.n_all boot_all (pa_cons (pe_comp (show CScope (defScope s_is_rising) _ "k" ["stretches"] ["stretches"] [0] from ⟨rfl, by decide +kernel, by decide +kernel, rfl, by decide +kernel, rfl, by decide +kernel, by decide +kernel⟩) rfl (pi_range1 rfl T.n_range (pa_cons (pe_op op_sub (pe_callB (k_len K) (by rfl) T.n_len PySem.boot_len (pa_cons (pv 0) pa_nil)) pe_int) pa_nil)) (fun _ _ _ _ => pts_nil) (fun _ _ _ _ => (pe_cmpR (k_ltL K HU) (pe_ix (k_ixL K) (pv 1) (pv 0) (fun _ _ => rfl)) (pe_ix (k_ixL K) (pv 1) (pe_op op_add (pv 0) pe_int) (fun _ _ => rfl)) (nomark _)))) pa_nil)))), ?_⟩
    refine ⟨_, rfl, bl, _, rfl, .inl (SqL.of hb), _, _, rfl, rfl, _, rfl, ?_⟩
    rw [List.length_map]
    refine ⟨by omega, by omega, comp_range (lo := 0) (n := ((zs.length : Int) - 1).toNat) (fun i ys H4 => ys = (List.replicate i true).map V.bl ∧ H4 = H) ⟨by simp, rfl⟩ ?_ ?_⟩
    · rintro i ys H4 hi ⟨rfl, rfl⟩
      refine ⟨by rw [List.length_map, List.length_replicate]; exact Nat.lt_of_lt_of_le (show i < 5 by omega) (by decide), ?_⟩
      unfold tYes
      dsimp only
      rw [if_pos rfl]
      have hi0 : i < zs.length := by omega
      have hi1 : i + 1 < zs.length := by omega
      have g0 : atI (zs.map fun z => V.ref z.1) (0 + (i : Int)) = some (.ref (zs[i]).1) := by rw [Int.zero_add]; exact atI_nat (by rw [List.getElem?_map, List.getElem?_eq_getElem hi0]; rfl)
      have g1 : atI (zs.map fun z => V.ref z.1) (0 + (i : Int) + 1) = some (.ref (zs[i + 1]).1) := by rw [Int.zero_add]; exact atI_nat (j := i + 1) (by rw [List.getElem?_map, List.getElem?_eq_getElem hi1]; rfl)
      refine ⟨_, rfl, _, rfl, bl, _, _, _, rfl, rfl, SqL.of hb, g0, ?_⟩
      refine ⟨_, rfl, _, rfl, _, _, rfl, rfl, bl, _, _, _, rfl, rfl, SqL.of hb, g1, ?_⟩
      refine ⟨_, _, _, _, rfl, rfl, SqL.of (hz _ (List.getElem_mem hi0)), SqL.of (hz _ (List.getElem_mem hi1)), ?_, rfl⟩
      rw [List.pairwise_map, List.pairwise_iff_getElem] at up
      rw [up i (i + 1) hi0 hi1 (by omega), List.replicate_succ']
      simp
    · rintro ys H4 ⟨rfl, rfl⟩ Dd hD
      refine ⟨Dd, _, rfl, SqL.of upd_same, ?_⟩
      rw [all_rep]
      exact kk _ (same_upd hD)
def sp_is_bad_list : Sp := fun vs H Q _ => ∃ (b : Nat) (bl : Addr) (zs : List (Addr × List Int)), vs = [.int b, .ref bl] ∧ H bl = some (.lst (zs.map fun z => V.ref z.1)) ∧ (∀ z ∈ zs, H z.1 = some (.lst (z.2.map V.int))) ∧ GoodRule b (zs.map (·.2)) ∧ ∀ H', Same H H' → Q (.bl true) H'
theorem sc_is_bad_list : FnScope ["base", "thing"] ["base", "thing"] (defScope s_is_bad_list) := ⟨rfl, rfl, rfl, by decide +kernel, rfl, by decide +kernel, by decide +kernel⟩
theorem ok_is_bad_list {f f1 f2 : Addr} {fd fd1 fd2 : FuncData} {t1 : Tok} (D : Df K mg "is_bad_list" s_is_bad_list ["base", "thing"] f fd) (Dis_stretch : Df K mg "is_stretch" s_is_stretch ["base", "thing"] f1 fd1) (Gis_stretch : FnOk P w K mg base CX0 4 f1 fd1 ["base", "thing"] sp_is_stretch) (Dis_rising : Df K mg "is_rising" s_is_rising ["stretches"] f2 fd2) (c_MOST_STRETCHES : mg "MOST_STRETCHES" = some (.int 4 t1)) (T : Blt mg) :
    FnOk P w K mg base CX0 5 f fd ["base", "thing"] sp_is_bad_list := by
  have Gis_rising : FnOk P w K mg base CX0 1 f2 fd2 ["stretches"] sp_is_rising := ok_is_rising Dis_rising T
  refine D.fn.ok sc_is_bad_list (fun vs H Q E h => ?_) (fun cdv A outer s H vs Q E hr h => ?_)
  · obtain ⟨b, bl, zs, rfl, _⟩ := h; rfl
  · obtain ⟨b, bl, zs, rfl, hb, hz, g, kk⟩ := h
    have h4 : zs.length ≤ 4 := by have := g.len; rwa [List.length_map] at this
    refine ⟨_, (pss_cons (ps_if (PW.pt (pw_or (pt_not (pt_val (pe_callB (k_isi K) (by rfl) T.n_isinstance boot_isinstance (pa_cons (pv 1) (pa_cons (pe_bltn (v := .ty "list") rfl T.n_list boot_list rfl) pa_nil))))) (pw_or1 (pt_cmpR op_gt (pe_callB (k_len K) (by rfl) T.n_len PySem.boot_len (pa_cons (pv 1) pa_nil)) (pe_glob (v := .int 4) rfl c_MOST_STRETCHES ⟨_, rfl⟩) (nomark _)))))
        (pss_one (ps_ret pe_bl))
        pss_nil)
      (pss_one (ps_ret (pe_and (pe_callB (k_all K rfl) (by rfl) T.n_all boot_all (pa_cons (pe_comp (show CScope (defScope s_is_bad_list) _ "each" ["base", "thing"] ["base"] [0] from ⟨rfl, by decide +kernel, by decide +kernel, rfl, by decide +kernel, rfl, by decide +kernel, by decide +kernel⟩) rfl (k_pi K (pv 1)) (fun _ _ _ _ => pts_nil) (fun _ _ _ _ => (pcall Dis_stretch Gis_stretch (hr.mono (by decide)) (pa_cons (pv 1) (pa_cons (pv 0) pa_nil))))) pa_nil)) (pe_one (pcall Dis_rising Gis_rising (hr.mono (by decide)) (pa_cons (pv 1) pa_nil))))))), ?_⟩
    refine ⟨_, rfl, _, _, _, _, rfl, .lst hb, kit_list_list, _, rfl, iteF ?_⟩
    refine ⟨_, rfl, bl, _, rfl, .inl (SqL.of hb), _, _, rfl, rfl, _, rfl, ?_⟩
    rw [List.length_map, decide_eq_false (show ¬ (4 : Int) < (zs.length : Int) by omega)]
    refine iteF ?_
    refine ⟨_, rfl, bl, rfl, ⟨_, SqL.of hb⟩, comp_list (K := K) (a := bl) (xs := zs.map fun z => V.ref z.1) (fun i ys H4 => ys = (List.replicate i true).map V.bl ∧ Same H H4) ⟨by simp, Same.refl _⟩ (fun i ys H4 _ ⟨_, e⟩ => SqL.of (e _ _ hb)) ?_ ?_⟩
    · rintro j x ys H4 hx ⟨rfl, s4⟩
      rw [List.getElem?_map] at hx
      obtain ⟨z, hzj, e⟩ := Option.map_eq_some_iff.mp hx
      subst e
      have hzm := List.mem_of_getElem? hzj
      have hj : j < zs.length := (List.getElem?_eq_some_iff.mp hzj).1
      refine ⟨by rw [List.length_map, List.length_replicate]; exact Nat.lt_of_lt_of_le (show j < 5 by omega) (by decide), ?_⟩
      unfold tYes
      dsimp only
      rw [if_pos rfl]
      refine ⟨_, rfl, _, rfl, b, z.1, z.2, rfl, s4 _ _ (hz z hzm), g.st _ (List.mem_map.mpr ⟨z, hzm, rfl⟩), fun H5 s5 => ⟨?_, s4.trans s5⟩⟩
      rw [List.replicate_succ']; simp
    · rintro ys H4 ⟨rfl, s4⟩ Dd hD
      refine ⟨Dd, _, rfl, SqL.of upd_same, ?_⟩
      rw [all_rep]
      have s5 := s4.trans (same_upd hD (o := .lst ((List.replicate (zs.map fun z => V.ref z.1).length true).map V.bl)))
      refine ⟨_, rfl, iteT ?_⟩
      exact ⟨_, rfl, bl, zs, rfl, s5 _ _ hb, fun z hzm => s5 _ _ (hz z hzm), h4, g.up, fun H6 s6 => kk H6 (s5.trans s6)⟩
def sp_is_rule : Sp := fun vs H Q _ => ∃ (r : Addr) (b : Nat) (bl : Addr) (zs : List (Addr × List Int)), vs = [.ref r] ∧ RuleAt H r b bl zs ∧ GoodRule b (zs.map (·.2)) ∧ ∀ H', Same H H' → Q (.bl true) H'
theorem sc_is_rule : FnScope ["thing"] ["thing"] (defScope s_is_rule) := ⟨rfl, rfl, rfl, by decide +kernel, rfl, by decide +kernel, by decide +kernel⟩
theorem ok_is_rule {f f1 f2 : Addr} {fd fd1 fd2 : FuncData} (D : Df K mg "is_rule" s_is_rule ["thing"] f fd) (Dis_base : Df K mg "is_base" s_is_base ["thing"] f1 fd1) (Gis_base : FnOk P w K mg base CX0 2 f1 fd1 ["thing"] sp_is_base) (Dis_bad_list : Df K mg "is_bad_list" s_is_bad_list ["base", "thing"] f2 fd2) (Gis_bad_list : FnOk P w K mg base CX0 5 f2 fd2 ["base", "thing"] sp_is_bad_list) (T : Blt mg) :
    FnOk P w K mg base CX0 6 f fd ["thing"] sp_is_rule := by
  refine D.fn.ok sc_is_rule (fun vs H Q E h => ?_) (fun cdv A outer s H vs Q E hr h => ?_)
  · obtain ⟨r, b, bl, zs, rfl, _⟩ := h; rfl
  · obtain ⟨r, b, bl, zs, rfl, R, g, kk⟩ := h
    have b2 := g.b2
    have b16 := g.b16
    refine ⟨_, (pss_cons (ps_if (PW.pt (pw_or (pt_not (pt_val (pe_callB (k_isi K) (by rfl) T.n_isinstance boot_isinstance (pa_cons (pv 0) (pa_cons (pe_bltn (v := .ty "tuple") rfl T.n_tuple boot_tuple rfl) pa_nil))))) (pw_or1 (pt_cmpR op_ne (pe_callB (k_len K) (by rfl) T.n_len PySem.boot_len (pa_cons (pv 0) pa_nil)) pe_int (nomark _)))))
        (pss_one (ps_ret pe_bl))
        pss_nil)
      (pss_one (ps_ret (pe_and (pcall Dis_base Gis_base (hr.mono (by decide)) (pa_cons (pe_ix (k_ixT K) (pv 0) pe_int (fun _ _ => rfl)) pa_nil)) (pe_one (pcall Dis_bad_list Gis_bad_list (hr.mono (by decide)) (pa_cons (pe_ix (k_ixT K) (pv 0) pe_int (fun _ _ => rfl)) (pa_cons (pe_ix (k_ixT K) (pv 0) pe_int (fun _ _ => rfl)) pa_nil)))))))), ?_⟩
    refine ⟨_, rfl, _, _, _, _, rfl, .tup R.tu, kit_tuple_tuple, _, rfl, iteF ?_⟩
    refine ⟨_, rfl, r, _, rfl, .inr (SqT.of R.tu), rfl, _, rfl, ?_⟩
    refine iteF ?_
    refine ⟨_, rfl, r, _, _, V.int b, rfl, rfl, SqT.of R.tu, rfl, (b : Int), rfl, ?_⟩
    rw [decide_eq_true (show (2 : Int) ≤ b ∧ (b : Int) ≤ 16 from ⟨by omega, by omega⟩)]
    refine ⟨_, rfl, iteT ?_⟩
    refine ⟨_, rfl, r, _, _, V.int b, rfl, rfl, SqT.of R.tu, rfl, _, rfl, r, _, _, V.ref bl, rfl, rfl, SqT.of R.tu, rfl, b, bl, zs, rfl, R.li, R.st, g, kk⟩
def sp_check_rule : Sp := fun vs H Q _ => ∃ (r : Addr) (b : Nat) (bl : Addr) (zs : List (Addr × List Int)), vs = [.ref r] ∧ RuleAt H r b bl zs ∧ GoodRule b (zs.map (·.2)) ∧ ∀ H', Same H H' → Q .non H'
theorem sc_check_rule : FnScope ["thing"] ["thing"] (defScope s_check_rule) := ⟨rfl, rfl, rfl, by decide +kernel, rfl, by decide +kernel, by decide +kernel⟩
theorem ok_check_rule {f f1 : Addr} {fd fd1 : FuncData} (D : Df K mg "check_rule" s_check_rule ["thing"] f fd) (Dis_rule : Df K mg "is_rule" s_is_rule ["thing"] f1 fd1) (Gis_rule : FnOk P w K mg base CX0 6 f1 fd1 ["thing"] sp_is_rule) : FnOk P w K mg base CX0 7 f fd ["thing"] sp_check_rule := by
  refine D.fn.ok sc_check_rule (fun vs H Q E h => ?_) (fun cdv A outer s H vs Q E hr h => ?_)
  · obtain ⟨r, b, bl, zs, rfl, _⟩ := h; rfl
  · obtain ⟨r, b, bl, zs, rfl, R, g, kk⟩ := h
    refine ⟨_, (pss_one (ps_if (pt_not (pt_val (pcall Dis_rule Gis_rule (hr.mono (by decide)) (pa_cons (pv 0) pa_nil))))
        (pss_one ps_never)
        pss_nil)), ?_⟩
    exact ⟨_, rfl, r, b, bl, zs, rfl, R, g, fun H1 s1 => ⟨_, rfl, iteF (kk H1 s1)⟩⟩
end
section
variable {P : Program} {w : World} {K : PySem.W.Frag} {mg : Str → Option Value} {base : Heap}
theorem cutV_nat (xs : List V) (k m : Nat) : cutV xs (some (k : Int)) (some (m : Int)) = (xs.drop k).take (m - k) := by
  unfold cutV
  rw [HT.sIx_nat, HT.sIx_nat]
  by_cases hk : k ≤ xs.length
  · rw [Nat.min_eq_left hk]
    by_cases hm : m ≤ xs.length
    · rw [Nat.min_eq_left hm]
    · rw [Nat.min_eq_right (by omega), List.take_of_length_le (by rw [List.length_drop]; omega), List.take_of_length_le (by rw [List.length_drop]; omega)]
  · rw [List.drop_of_length_le (show xs.length ≤ k by omega), Nat.min_eq_right (show xs.length ≤ k by omega), List.drop_of_length_le (Nat.le_refl _)]
    simp
def sp_stands_within : Sp := fun vs H Q _ => ∃ (sa fa : Addr) (st fs : List Int), vs = [.ref sa, .ref fa] ∧ H sa = some (.lst (st.map V.int)) ∧ H fa = some (.lst (fs.map V.int)) ∧ st ≠ [] ∧ st.length ≤ 1000 ∧ fs.length ≤ 1000 ∧ ∀ H', Same H H' → Q (.bl (hasS st fs)) H'
theorem sc_stands_within : FnScope ["stretch", "figures", "size"] ["stretch", "figures"] (defScope s_stands_within) := ⟨rfl, rfl, rfl, by decide +kernel, rfl, by decide +kernel, by decide +kernel⟩
theorem ok_stands_within {f : Addr} {fd : FuncData} (D : Df K mg "stands_within" s_stands_within ["stretch", "figures"] f fd) (T : Blt mg) : FnOk P w K mg base CX0 1 f fd ["stretch", "figures"] sp_stands_within := by
  refine D.fn.ok sc_stands_within (fun vs H Q E h => ?_) (fun cdv A outer s H vs Q E hr h => ?_)
  · obtain ⟨sa, fa, st, fs, rfl, _⟩ := h; rfl
  · obtain ⟨sa, fa, st, fs, rfl, hs, hf, ne, hl1, hl2, kk⟩ := h
    have HU := HUof hr
    refine ⟨_, (pss_cons (ps_set (i := 2) sc_stands_within.nd rfl (Or.inr rfl) (pe_callB (k_len K) (by rfl) T.n_len PySem.boot_len (pa_cons (pv 0) pa_nil)))
      (pss_one (ps_ret (pe_callB (k_any K rfl) (by rfl) T.n_any boot_any (pa_cons (pe_comp (show CScope (defScope s_stands_within) _ "k" ["stretch", "figures", "size"] ["stretch", "figures", "size"] [0, 1, 2] from ⟨rfl, by decide +kernel, by decide +kernel, rfl, by decide +kernel, rfl, by decide +kernel, by decide +kernel⟩) rfl (pi_range1 rfl T.n_range (pa_cons (pe_op op_add (pe_op op_sub (pe_callB (k_len K) (by rfl) T.n_len PySem.boot_len (pa_cons (pv 1) pa_nil)) (pv 2)) pe_int) pa_nil)) (fun _ _ _ _ => pts_nil) (fun _ _ _ _ => (pe_cmpR (k_eqT K HU) (pe_slice (k_slL K) (pv 2) (po_some (pv 0)) (po_some (pe_op op_add (pv 0) (pv 3)))) (pv 1) (nomark _)))) pa_nil))))), ?_⟩
    refine ⟨_, rfl, sa, _, rfl, .inl (SqL.of hs), ?_⟩
    rw [List.length_map]
    refine ⟨_, rfl, fa, _, rfl, .inl (SqL.of hf), _, rfl, _, _, rfl, rfl, _, _, rfl, rfl, _, rfl, ?_⟩
    rw [List.length_map]
    refine ⟨by omega, by omega, comp_range (lo := 0) (n := ((fs.length : Int) - st.length + 1).toNat) (fun i ys H4 => ys = ((List.range i).map fun k => decide ((fs.drop k).take st.length = st)).map V.bl ∧ Same H H4) ⟨by simp, Same.refl _⟩ ?_ ?_⟩
    · rintro i ys H4 hi ⟨rfl, s4⟩
      refine ⟨by rw [List.length_map, List.length_map, List.length_range]; exact Nat.lt_of_lt_of_le (show i < 2000 by omega) (by decide), ?_⟩
      unfold tYes
      dsimp only
      rw [if_pos rfl]
      refine ⟨_, rfl, _, rfl, _, rfl, _, rfl, _, rfl, _, _, rfl, rfl, _, rfl, fa, _, rfl, SqL.of (s4 _ _ hf), fun p hp => ?_⟩
      have e1 : cutV (fs.map V.int) (some (0 + (i : Int))) (some (0 + (i : Int) + (st.length : Int))) = ((fs.drop i).take st.length).map V.int := by
        have e : (0 + (i : Int) + (st.length : Int)) = ((i + st.length : Nat) : Int) := by omega
        rw [e, Int.zero_add, cutV_nat, List.map_take, List.map_drop, Nat.add_sub_cancel_left]
      rw [e1]
      refine ⟨_, rfl, tInts ((fs.drop i).take st.length), tInts st, TrAt.ints (a := p) (SqL.of upd_same), TrAt.ints (a := sa) (SqL.of (same_upd hp _ _ (s4 _ _ hs))), (by rw [tdep_tInts]; decide), ?_, s4.trans (same_upd hp)⟩
      rw [List.range_succ, List.map_append, List.map_append]
      have e2 := teq_ints ((fs.drop i).take st.length) st
      show _ = _ ++ [V.bl (decide ((fs.drop i).take st.length = st))]
      rw [← e2]; rfl
    · rintro ys H4 ⟨rfl, s4⟩ Dd hD
      refine ⟨Dd, _, rfl, SqL.of upd_same, ?_⟩
      have q := kk _ (s4.trans (same_upd hD (o := .lst (((List.range ((fs.length : Int) - st.length + 1).toNat).map fun k => decide ((fs.drop k).take st.length = st)).map V.bl))))
      rw [hasS_short ne] at q
      rw [List.any_map]
      exact q
def sp_lacks_all : Sp := fun vs H Q _ => ∃ (bl fa : Addr) (zs : List (Addr × List Int)) (fs : List Int), vs = [.ref bl, .ref fa] ∧ H bl = some (.lst (zs.map fun z => V.ref z.1)) ∧ (∀ z ∈ zs, H z.1 = some (.lst (z.2.map V.int))) ∧ H fa = some (.lst (fs.map V.int)) ∧ zs.length ≤ 100 ∧ fs.length ≤ 1000 ∧ (∀ z ∈ zs, z.2 ≠ [] ∧ z.2.length ≤ 1000) ∧ ∀ H', Same H H' → Q (.bl (lacks (zs.map (·.2)) fs)) H'
theorem sc_lacks_all : FnScope ["bad", "figures"] ["bad", "figures"] (defScope s_lacks_all) := ⟨rfl, rfl, rfl, by decide +kernel, rfl, by decide +kernel, by decide +kernel⟩
theorem ok_lacks_all {f f1 : Addr} {fd fd1 : FuncData} (D : Df K mg "lacks_all" s_lacks_all ["bad", "figures"] f fd) (Dstands_within : Df K mg "stands_within" s_stands_within ["stretch", "figures"] f1 fd1) (T : Blt mg) : FnOk P w K mg base CX0 2 f fd ["bad", "figures"] sp_lacks_all := by
  have Gstands_within : FnOk P w K mg base CX0 1 f1 fd1 ["stretch", "figures"] sp_stands_within := ok_stands_within Dstands_within T
  refine D.fn.ok sc_lacks_all (fun vs H Q E h => ?_) (fun cdv A outer s H vs Q E hr h => ?_)
  · obtain ⟨bl, fa, zs, fs, rfl, _⟩ := h; rfl
  · obtain ⟨bl, fa, zs, fs, rfl, hb, hz, hf, hl1, hl2, ne, kk⟩ := h
    refine ⟨_, (pss_one (ps_ret (pe_not (pe_callB (k_any K rfl) (by rfl) T.n_any boot_any (pa_cons (pe_comp (show CScope (defScope s_lacks_all) _ "stretch" ["bad", "figures"] ["figures"] [1] from ⟨rfl, by decide +kernel, by decide +kernel, rfl, by decide +kernel, rfl, by decide +kernel, by decide +kernel⟩) rfl (k_pi K (pv 0)) (fun _ _ _ _ => pts_nil) (fun _ _ _ _ => (pcall Dstands_within Gstands_within (hr.mono (by decide)) (pa_cons (pv 0) (pa_cons (pv 1) pa_nil))))) pa_nil))))), ?_⟩
    refine ⟨_, rfl, bl, rfl, ⟨_, SqL.of hb⟩, comp_list (K := K) (a := bl) (xs := zs.map fun z => V.ref z.1) (fun i ys H4 => ys = ((zs.take i).map fun z => hasS z.2 fs).map V.bl ∧ Same H H4) ⟨by simp, Same.refl _⟩ (fun i ys H4 _ ⟨_, e⟩ => SqL.of (e _ _ hb)) ?_ ?_⟩
    · rintro j x ys H4 hx ⟨rfl, s4⟩
      rw [List.getElem?_map] at hx
      obtain ⟨z, hzj, e⟩ := Option.map_eq_some_iff.mp hx
      subst e
      have hzm := List.mem_of_getElem? hzj
      refine ⟨?_, ?_⟩
      · rw [List.length_map, List.length_map, List.length_take]
        exact Nat.lt_of_le_of_lt (Nat.le_trans (Nat.min_le_right _ _) hl1) (by decide)
      unfold tYes
      dsimp only
      rw [if_pos rfl]
      refine ⟨_, rfl, _, rfl, z.1, fa, z.2, fs, rfl, s4 _ _ (hz z hzm), s4 _ _ hf, (ne z hzm).1, (ne z hzm).2, hl2, fun H5 s5 => ⟨?_, s4.trans s5⟩⟩
      rw [List.take_succ, hzj]
      simp
    · rintro ys H4 ⟨rfl, s4⟩ Dd hD
      refine ⟨Dd, _, rfl, SqL.of upd_same, _, rfl, ?_⟩
      have q := kk _ (s4.trans (same_upd hD (o := .lst (((zs.take (zs.map fun z => V.ref z.1).length).map fun z => hasS z.2 fs).map V.bl))))
      rw [List.length_map, List.take_length] at q ⊢
      unfold lacks at q
      rw [List.any_map] at q ⊢
      exact q
end
section
variable {P : Program} {w : World} {K : PySem.W.Frag} {mg : Str → Option Value} {base : Heap}
def sp_is_good : Sp := fun vs H Q _ => ∃ (r : Addr) (b : Nat) (bl : Addr) (zs : List (Addr × List Int)) (n : Nat), vs = [.ref r, .int n] ∧ RuleAt H r b bl zs ∧ GoodRule b (zs.map (·.2)) ∧ n < 2 ^ 900 ∧ ∀ H', Same H H' → Q (.bl (lacks (zs.map (·.2)) (figs b n))) H'
theorem sc_is_good : FnScope ["rule", "n"] ["rule", "n"] (defScope s_is_good) := ⟨rfl, rfl, rfl, by decide +kernel, rfl, by decide +kernel, by decide +kernel⟩
theorem ok_is_good {f f1 f2 f3 : Addr} {fd fd1 fd2 fd3 : FuncData} (D : Df K mg "is_good" s_is_good ["rule", "n"] f fd) (Dcheck_rule : Df K mg "check_rule" s_check_rule ["thing"] f1 fd1) (Gcheck_rule : FnOk P w K mg base CX0 7 f1 fd1 ["thing"] sp_check_rule)
    (Dlacks_all : Df K mg "lacks_all" s_lacks_all ["bad", "figures"] f2 fd2) (Glacks_all : FnOk P w K mg base CX0 2 f2 fd2 ["bad", "figures"] sp_lacks_all) (Dfigures_of : Df K mg "figures_of" s_figures_of ["base", "n"] f3 fd3) (Gfigures_of : FnOk P w K mg base CX0 4 f3 fd3 ["base", "n"] sp_figures_of) (T : Blt mg) :
    FnOk P w K mg base CX0 8 f fd ["rule", "n"] sp_is_good := by
  refine D.fn.ok sc_is_good (fun vs H Q E h => ?_) (fun cdv A outer s H vs Q E hr h => ?_)
  · obtain ⟨r, b, bl, zs, n, rfl, _⟩ := h; rfl
  · obtain ⟨r, b, bl, zs, n, rfl, R, g, hn, kk⟩ := h
    refine ⟨_, (pss_cons (ps_expr (pcall Dcheck_rule Gcheck_rule (hr.mono (by decide)) (pa_cons (pv 0) pa_nil)))
      (pss_one (ps_ret (pcall Dlacks_all Glacks_all (hr.mono (by decide)) (pa_cons (pe_ix (k_ixT K) (pv 0) pe_int (fun _ _ => rfl)) (pa_cons (pcall Dfigures_of Gfigures_of (hr.mono (by decide)) (pa_cons (pe_ix (k_ixT K) (pv 0) pe_int (fun _ _ => rfl)) (pa_cons (pv 1) pa_nil))) pa_nil)))))), ?_⟩
    refine ⟨_, rfl, r, b, bl, zs, rfl, R, g, fun H1 s1 => ?_⟩
    have R1 := R.same s1
    refine ⟨_, rfl, r, _, _, V.ref bl, rfl, rfl, SqT.of R1.tu, rfl, ?_⟩
    refine ⟨_, rfl, r, _, _, V.int b, rfl, rfl, SqT.of R1.tu, rfl, _, rfl, b, n, rfl, g.b2, g.b16, hn, fun l H2 hl hv s2 => ?_⟩
    have R2 := R1.same s2
    have hfl := figs_len g.b2 900 n hn
    have h4 : zs.length ≤ 4 := by have := g.len; rwa [List.length_map] at this
    exact ⟨bl, l, zs, figs b n, rfl, R2.li, R2.st, hv, by omega, by omega, fun z hz => ⟨(g.st _ (List.mem_map.mpr ⟨z, hz, rfl⟩)).ne, Nat.le_trans (g.st _ (List.mem_map.mpr ⟨z, hz, rfl⟩)).len (by decide)⟩, fun H3 s3 => kk H3 ((s1.trans s2).trans s3)⟩
end
theorem cutV_upto (xs : List V) (m : Nat) : cutV xs none (some (m : Int)) = xs.take m := by
  unfold cutV
  rw [HT.sIx_nat, HT.sIx_none, List.drop_zero, Nat.sub_zero]
  by_cases h : m ≤ xs.length
  · rw [Nat.min_eq_left h]
  · rw [Nat.min_eq_right (by omega), List.take_of_length_le (Nat.le_refl _), List.take_of_length_le (by omega)]
theorem cutV_from (xs : List V) (m : Nat) : cutV xs (some (m : Int)) none = xs.drop m := by
  unfold cutV
  rw [HT.sIx_nat, HT.sIx_none]
  by_cases h : m ≤ xs.length
  · rw [Nat.min_eq_left h, List.take_of_length_le (by rw [List.length_drop]; omega)]
  · rw [Nat.min_eq_right (by omega), List.drop_of_length_le (Nat.le_refl _), List.drop_of_length_le (by omega)]; simp
theorem RuleAt.all {fp : List Addr} {r bl : Addr} {H : Hp} {b : Nat} {zs : List (Addr × List Int)} (R : RuleAt (aw fp H) r b bl zs) : RuleAt H r b bl zs := R.same (aw_same fp H)
theorem notin_any {ls : List (List Int)} {x : List Int} : ((ls.map tInts).any fun t => teq t (tInts x)) = decide (x ∈ ls) := by
  rw [Bool.eq_iff_iff]
  simp only [List.any_eq_true, List.mem_map, decide_eq_true_eq]
  constructor
  · rintro ⟨t, ⟨l, hl, rfl⟩, e⟩
    rw [teq_ints] at e
    rw [← of_decide_eq_true e]; exact hl
  · intro h
    exact ⟨tInts x, ⟨x, h, rfl⟩, teq_refl _⟩
theorem tdeps_tInts : ∀ ls : List (List Int), tdeps (ls.map tInts) ≤ 1
  | [] => by simp [tdeps]
  | l :: ls => by rw [List.map_cons, tdeps, tdep_tInts]; have := tdeps_tInts ls; omega
theorem TrsAt.lists {K : PySem.W.Frag} {H : Hp} : ∀ {zs : List (Addr × List Int)}, (∀ z ∈ zs, H z.1 = some (.lst (z.2.map V.int))) → TrsAt K H ((zs.map (·.2)).map tInts) (zs.map fun z => V.ref z.1)
  | [], _ => by rw [List.map_nil, List.map_nil, TrsAt]; rfl
  | z :: zs, h => by
    rw [List.map_cons, List.map_cons, TrsAt]
    exact ⟨_, _, rfl, TrAt.ints (SqL.of (h z List.mem_cons_self)), TrsAt.lists fun z hz => h z (List.mem_cons_of_mem _ hz)⟩
end Lw
set_option Elab.async false
set_option linter.all false
set_option maxRecDepth 100000
namespace Lw
open PySem L2 PyProof.Rows
def Sto (H : Hp) (s : Addr) : Prop := ∃ g x k : Int, H s = some (.lst [.int g, .int x, .int k])
theorem Sto.ne {H : Hp} {s p : Addr} (S : Sto H s) (h : H p = none) : p ≠ s := fun z => by
  obtain ⟨g, x, k, e⟩ := S
  rw [z, e] at h; cases h
structure Stq (s : Addr) (H H' : Hp) : Prop where
  st : Sto H' s
  sm : ∀ b o, b ≠ s → H b = some o → H' b = some o
theorem Stq.refl {s : Addr} {H : Hp} (S : Sto H s) : Stq s H H := ⟨S, fun _ _ _ e => e⟩
theorem Stq.trans {s : Addr} {H H1 H2 : Hp} (a : Stq s H H1) (b : Stq s H1 H2) : Stq s H H2 := ⟨b.st, fun c o h e => b.sm c o h (a.sm c o h e)⟩
theorem Stq.same {s : Addr} {H H1 H2 : Hp} (a : Stq s H H1) (m : Same H1 H2) : Stq s H H2 := ⟨by obtain ⟨g, x, k, e⟩ := a.st; exact ⟨g, x, k, m _ _ e⟩, fun c o h e => m c o (a.sm c o h e)⟩
theorem Stq.of {s : Addr} {H H' : Hp} (S : Sto H s) (m : Same H H') : Stq s H H' := (Stq.refl S).same m
theorem Stq.free {s p : Addr} {H H' : Hp} (a : Stq s H H') (h : H' p = none) : H p = none := by
  cases e : H p with
  | none => rfl
  | some o =>
    have := a.sm p o (a.st.ne h) e
    rw [h] at this; cases this
theorem Stq.new {s p : Addr} {H H' : Hp} {o : HO} (a : Stq s H H') (h : H' p = none) : Stq s H (upd H' p o) := a.same (same_upd h)
theorem Stq.put {s p : Addr} {H H' : Hp} {o : HO} (a : Stq s H H') (hs : p ≠ s) (h : H p = none) : Stq s H (upd H' p o) := ⟨by
  obtain ⟨g, x, k, e⟩ := a.st
  exact ⟨g, x, k, by rw [upd_ne (Ne.symm hs)]; exact e⟩, fun c u hc e => by
    rw [upd_ne (ne_of_none e h)]; exact a.sm c u hc e⟩
section
variable {P : Program} {w : World} {K : PySem.W.Frag} {mg : Str → Option Value} {base : Heap}
def sp__law_cell (K : PySem.W.Frag) : Sp := fun vs H Q _ => ∃ (a : Addr) (ns : List Int) (k : Nat), vs = [.ref a, .int k] ∧ SqL K H a (ns.map V.int) ∧ ns.length ≤ 63 ∧ k ≤ 1000 ∧ ∀ c : Int, Q (.int c) H
theorem sc__law_cell : FnScope ["script", "k"] ["script", "k"] (defScope s__law_cell) := ⟨rfl, rfl, rfl, by decide +kernel, rfl, by decide +kernel, by decide +kernel⟩
theorem ok__law_cell {f : Addr} {fd : FuncData} (D : Df K mg "_law_cell" s__law_cell ["script", "k"] f fd) (T : Blt mg) : FnOk P w K mg base CX0 1 f fd ["script", "k"] (sp__law_cell K) := by
  refine D.fn.ok sc__law_cell (fun vs H Q E h => ?_) (fun cdv A outer s H vs Q E hr h => ?_)
  · obtain ⟨a, ns, k, rfl, _⟩ := h; rfl
  · obtain ⟨a, ns, k, rfl, hS, hlen, hk, kk⟩ := h
    refine ⟨_, (pss_cons (ps_if (pt_cmpR op_lt (pv 1) (pe_callB (k_len K) (by rfl) T.n_len PySem.boot_len (pa_cons (pv 0) pa_nil)) (nomark _))
        (pss_one (ps_ret (pe_ix (k_ixL K) (pv 0) (pv 1) (fun _ _ => rfl))))
        pss_nil)
      (pss_one (ps_ret (pe_op op_add (pe_op op_add (pe_op op_mul (pe_op op_mul pe_int (pv 1)) (pv 1)) (pe_op op_mul pe_int (pv 1))) pe_int)))), ?_⟩
    refine ⟨_, rfl, _, rfl, a, _, rfl, .inl hS, _, _, rfl, rfl, _, rfl, ?_⟩
    refine ite2 (fun hlt => ?_) (fun _ => ?_)
    · have hlt' : k < ns.length := by
        have := of_decide_eq_true hlt
        rw [List.length_map] at this
        omega
      refine ⟨_, rfl, _, rfl, a, _, _, .int (ns[k]), rfl, rfl, hS, ?_, kk _⟩
      exact atI_nat (by rw [List.getElem?_map, List.getElem?_eq_getElem hlt']; rfl)
    · refine ⟨_, rfl, _, _, rfl, rfl, .inl ⟨by decide, by decide⟩, _, rfl, _, _, rfl, rfl, .inr ⟨by omega, by omega⟩, _, rfl, _, _, rfl, rfl, .inl ⟨by decide, by decide⟩, _, _, rfl, rfl, _, _, rfl, rfl, kk _⟩
def sp__law_store : Sp := fun vs H Q _ => ∃ c : Int, vs = [.int c] ∧ ∀ (s : Addr) (H' : Hp), H s = none → Sto H' s → Same H H' → Q (.ref s) H'
theorem sc__law_store : FnScope ["cell", "great"] ["cell"] (defScope s__law_store) := ⟨rfl, rfl, rfl, by decide +kernel, rfl, by decide +kernel, by decide +kernel⟩
theorem ok__law_store {f : Addr} {fd : FuncData} (D : Df K mg "_law_store" s__law_store ["cell"] f fd) (T : Blt mg) : FnOk P w K mg base CX0 1 f fd ["cell"] sp__law_store := by
  refine D.fn.ok sc__law_store (fun vs H Q E h => ?_) (fun cdv A outer s H vs Q E hr h => ?_)
  · obtain ⟨c, rfl, _⟩ := h; rfl
  · obtain ⟨c, rfl, kk⟩ := h
    refine ⟨_, (pss_cons (ps_set (i := 1) sc__law_store.nd rfl (Or.inl rfl) pe_int)
      (pss_cons (ps_if (pt_cmpR op_ge (pv 0) (pe_op op_pow pe_int pe_int) (nomark _))
        (pss_one (ps_set (i := 1) sc__law_store.nd rfl (Or.inl rfl) (pv 0)))
        pss_nil)
      (pss_one (ps_ret (pe_lst (pa_cons (pv 1) (pa_cons (pe_op op_mod (pv 0) pe_int) (pa_cons pe_int pa_nil)))))))), ?_⟩
    refine ⟨_, rfl, _, _, rfl, rfl, ⟨by decide, by decide, by decide⟩, _, _, rfl, rfl, _, rfl, ?_⟩
    generalize decide ((10 : Int) ^ (18 : Int).toNat ≤ c) = bb
    cases bb with
    | true =>
      refine iteT ?_
      refine ⟨_, rfl, _, rfl, _, rfl, _, _, rfl, rfl, (by decide : (0 : Int) < 2147483629), (by decide : 3 ≤ sizeLine), fun l hl => ?_⟩
      exact kk l _ hl ⟨_, _, _, upd_same⟩ (same_upd hl)
    | false =>
      refine iteF ?_
      refine ⟨_, rfl, _, rfl, _, _, rfl, rfl, (by decide : (0 : Int) < 2147483629), (by decide : 3 ≤ sizeLine), fun l hl => ?_⟩
      exact kk l _ hl ⟨_, _, _, upd_same⟩ (same_upd hl)
def sp__law_take : Sp := fun vs H Q _ => ∃ (s : Addr) (m : Int), vs = [.ref s, .int m] ∧ Sto H s ∧ 0 < m ∧ m < 2 ^ 200 ∧ ∀ (r : Nat) (H' : Hp), (r : Int) < m → Stq s H H' → Q (.int r) H'
theorem sc__law_take : FnScope ["store", "many", "told", "one"] ["store", "many"] (defScope s__law_take) := ⟨rfl, rfl, rfl, by decide +kernel, rfl, by decide +kernel, by decide +kernel⟩
theorem ok__law_take {f : Addr} {fd : FuncData} (D : Df K mg "_law_take" s__law_take ["store", "many"] f fd) (T : Blt mg) : FnOk P w K mg base CX0 1 f fd ["store", "many"] sp__law_take := by
  refine D.fn.ok sc__law_take (fun vs H Q E h => ?_) (fun cdv A outer s H vs Q E hr h => ?_)
  · obtain ⟨s, m, rfl, _⟩ := h; rfl
  · obtain ⟨sa, m, rfl, S, hm0, hm1, kk⟩ := h
    obtain ⟨g, x, k, hs⟩ := id S
    refine ⟨_, (pss_cons (ps_if (pt_cmpR op_gt (pe_ix (k_ixL K) (pv 0) pe_int (fun _ _ => rfl)) pe_int (nomark _))
        (pss_cons (ps_set (i := 2) sc__law_take.nd rfl (Or.inl rfl) (pe_op op_mod (pe_ix (k_ixL K) (pv 0) pe_int (fun _ _ => rfl)) (pv 1)))
        (pss_cons (ps_asg (pe_op op_fdivB (pe_ix (k_ixL K) (pv 0) pe_int (fun _ _ => rfl)) (pv 1)) (pg_sub (pv 0) pe_int set_list))
        (pss_one (ps_ret (pv 2)))))
        pss_nil)
      (pss_cons (ps_asg (pe_op op_add (pe_ix (k_ixL K) (pv 0) pe_int (fun _ _ => rfl)) pe_int) (pg_sub (pv 0) pe_int set_list))
      (pss_cons (ps_set (i := 3) sc__law_take.nd rfl (Or.inl rfl) (pe_op op_mod (pe_op op_mul (pe_op op_add (pe_ix (k_ixL K) (pv 0) pe_int (fun _ _ => rfl)) (pe_op op_mul pe_int (pe_ix (k_ixL K) (pv 0) pe_int (fun _ _ => rfl)))) pe_int) pe_int))
      (pss_cons (ps_set (i := 3) sc__law_take.nd rfl (Or.inl rfl) (pe_op op_mod (pe_op op_mul (pv 3) (pv 3)) pe_int))
      (pss_cons (ps_set (i := 3) sc__law_take.nd rfl (Or.inl rfl) (pe_op op_mod (pe_op op_mul (pe_op op_add (pv 3) (pe_op op_mul pe_int (pe_ix (k_ixL K) (pv 0) pe_int (fun _ _ => rfl)))) pe_int) pe_int))
      (pss_one (ps_ret (pe_op op_mod (pe_op op_fdivB (pv 3) pe_int) (pv 1))))))))), ?_⟩
    have fin : ∀ (H' : Hp) (y : Int) (g x k : Int), H' = upd H sa (.lst [.int g, .int x, .int k]) → Q (.int (y % m)) H' := by
      intro H' y g x k e
      subst e
      have h0 : 0 ≤ y % m := Int.emod_nonneg _ (by omega)
      have h1 : y % m < m := Int.emod_lt_of_pos _ hm0
      obtain ⟨r, hr⟩ : ∃ r : Nat, y % m = (r : Int) := ⟨(y % m).toNat, by omega⟩
      rw [hr]
      exact kk r _ (by omega) ⟨⟨_, _, _, upd_same⟩, fun b o hb e => by rw [upd_ne hb]; exact e⟩
    refine ⟨_, rfl, sa, _, _, _, rfl, rfl, SqL.of hs, rfl, _, _, rfl, rfl, _, rfl, ?_⟩
    refine ite2 (fun _ => ?_) (fun _ => ?_)
    · refine ⟨_, rfl, sa, _, _, V.int g, rfl, rfl, SqL.of hs, rfl, _, rfl, _, _, rfl, rfl, hm0, ?_⟩
      refine ⟨_, rfl, sa, _, _, V.int g, rfl, rfl, SqL.of hs, rfl, _, rfl, _, _, rfl, rfl, ⟨hm0, hm1⟩, _, rfl, sa, _, _, 0, rfl, rfl, hs, rfl, ?_⟩
      refine ⟨_, rfl, ?_⟩
      exact fin _ g (g / m) x k rfl
    · refine ⟨_, rfl, sa, _, _, V.int k, rfl, rfl, SqL.of hs, rfl, _, _, rfl, rfl, _, rfl, sa, _, _, 2, rfl, rfl, hs, rfl, ?_⟩
      have hs1 : upd H sa (.lst [V.int g, V.int x, V.int (k + 1)]) sa = some (.lst [V.int g, V.int x, V.int (k + 1)]) := upd_same
      refine ⟨_, rfl, sa, _, _, V.int x, rfl, rfl, SqL.of hs1, rfl, ?_⟩
      refine ⟨_, rfl, sa, _, _, V.int (k + 1), rfl, rfl, SqL.of hs1, rfl, _, _, rfl, rfl, .inl ⟨by decide, by decide⟩, _, _, rfl, rfl, _, _, rfl, rfl, .inr ⟨by decide, by decide⟩, _, _, rfl, rfl, (by decide : (0 : Int) < 2147483647), ?_⟩
      generalize hn1 : (x + 7919 * (k + 1)) * 48271 % 2147483647 = n1
      have n1b : 0 ≤ n1 ∧ n1 < 2147483647 := by rw [← hn1]; exact ⟨Int.emod_nonneg _ (by decide), Int.emod_lt_of_pos _ (by decide)⟩
      refine ⟨_, rfl, _, rfl, _, _, rfl, rfl, .inl ⟨by omega, by omega⟩, _, _, rfl, rfl, (by decide : (0 : Int) < 2147483629), ?_⟩
      generalize hn2 : n1 * n1 % 2147483629 = n2
      refine ⟨_, rfl, _, rfl, sa, _, _, V.int (k + 1), rfl, rfl, SqL.of hs1, rfl, _, _, rfl, rfl, .inl ⟨by decide, by decide⟩, _, _, rfl, rfl, _, _, rfl, rfl, .inr ⟨by decide, by decide⟩, _, _, rfl, rfl, (by decide : (0 : Int) < 2147483587), ?_⟩
      generalize hn3 : (n2 + 40692 * (k + 1)) * 69621 % 2147483587 = n3
      refine ⟨_, rfl, _, _, rfl, rfl, ⟨by decide, by decide⟩, _, rfl, _, _, rfl, rfl, hm0, ?_⟩
      exact fin _ _ _ _ _ rfl
end
section
variable {P : Program} {w : World} {K : PySem.W.Frag} {mg : Str → Option Value} {base : Heap}
def sp__law_base : Sp := fun vs H Q _ => ∃ s : Addr, vs = [.ref s] ∧ Sto H s ∧ ∀ (b : Nat) (H' : Hp), 2 ≤ b → b ≤ 16 → Stq s H H' → Q (.int b) H'
theorem sc__law_base : FnScope ["store"] ["store"] (defScope s__law_base) := ⟨rfl, rfl, rfl, by decide +kernel, rfl, by decide +kernel, by decide +kernel⟩
set_option maxHeartbeats 2000000 in
theorem ok__law_base {f f1 : Addr} {fd fd1 : FuncData} (D : Df K mg "_law_base" s__law_base ["store"] f fd) (D_law_take : Df K mg "_law_take" s__law_take ["store", "many"] f1 fd1) (T : Blt mg) : FnOk P w K mg base CX0 2 f fd ["store"] sp__law_base := by
  have G_law_take : FnOk P w K mg base CX0 1 f1 fd1 ["store", "many"] sp__law_take := ok__law_take D_law_take T
  refine D.fn.ok sc__law_base (fun vs H Q E h => ?_) (fun cdv A outer s H vs Q E hr h => ?_)
  · obtain ⟨s, rfl, _⟩ := h; rfl
  · obtain ⟨sa, rfl, S, kk⟩ := h
    refine ⟨_, (pss_one (ps_ret (pe_ix (k_ixL K) (pe_lst (pa_cons pe_int (pa_cons pe_int (pa_cons pe_int (pa_cons pe_int (pa_cons (pe_op op_add pe_int (pcall D_law_take G_law_take (hr.mono (by decide)) (pa_cons (pv 0) (pa_cons pe_int pa_nil)))) pa_nil)))))) (pcall D_law_take G_law_take (hr.mono (by decide)) (pa_cons (pv 0) (pa_cons pe_int pa_nil))) (fun _ _ => rfl)))), ?_⟩
    refine ⟨_, rfl, ?_⟩
    refine ⟨sa, 15, rfl, S, (by decide), (by decide), fun x1 H1 hx1 S1 => ?_⟩
    refine ⟨2, x1, rfl, rfl, ?_⟩
    refine ⟨(by show 5 ≤ sizeLine; decide), fun l1 hl1 => ?_⟩
    have n1 := S1.st.ne hl1
    have S2 := S1.new hl1 (o := .lst [.int 2, .int 3, .int 10, .int 16, .int (2 + (x1 : Int))])
    refine ⟨_, rfl, sa, _, rfl, S2.st, (by decide), (by decide), fun x2 H3 hx2 S3 => ?_⟩
    obtain ⟨b, hb, hb2, hb16⟩ : ∃ b : Nat, atI [V.int 2, V.int 3, V.int 10, V.int 16, V.int (2 + (x1 : Int))] (x2 : Int) = some (.int b) ∧ 2 ≤ b ∧ b ≤ 16 := by
      have h5 : x2 < 5 := by omega
      match x2, h5 with
      | 0, _ => exact ⟨2, rfl, by omega, by omega⟩
      | 1, _ => exact ⟨3, rfl, by omega, by omega⟩
      | 2, _ => exact ⟨10, rfl, by omega, by omega⟩
      | 3, _ => exact ⟨16, rfl, by omega, by omega⟩
      | 4, _ => exact ⟨2 + x1, rfl, by omega, by omega⟩
    exact ⟨l1, _, _, _, rfl, rfl, SqL.of (S3.sm _ _ n1 upd_same), hb, kk b H3 hb2 hb16 (S2.trans S3)⟩
def sp__law_stretch : Sp := fun vs H Q _ => ∃ (s : Addr) (b few : Nat), vs = [.ref s, .int b, .int few] ∧ Sto H s ∧ 2 ≤ few ∧ few ≤ b ∧ b ≤ 16 ∧ ∀ (l : Addr) (ms : List Int) (H' : Hp), Stq s H H' → H l = none → H' l = some (.lst (ms.map V.int)) → GoodSt b ms → Q (.ref l) H'
theorem sc__law_stretch : FnScope ["store", "base", "few", "many"] ["store", "base", "few"] (defScope s__law_stretch) := ⟨rfl, rfl, rfl, by decide +kernel, rfl, by decide +kernel, by decide +kernel⟩
theorem ok__law_stretch {f f1 : Addr} {fd fd1 : FuncData} (D : Df K mg "_law_stretch" s__law_stretch ["store", "base", "few"] f fd) (D_law_take : Df K mg "_law_take" s__law_take ["store", "many"] f1 fd1) (T : Blt mg) : FnOk P w K mg base CX0 2 f fd ["store", "base", "few"] sp__law_stretch := by
  have G_law_take : FnOk P w K mg base CX0 1 f1 fd1 ["store", "many"] sp__law_take := ok__law_take D_law_take T
  refine D.fn.ok sc__law_stretch (fun vs H Q E h => ?_) (fun cdv A outer s H vs Q E hr h => ?_)
  · obtain ⟨s, b, few, rfl, _⟩ := h; rfl
  · obtain ⟨sa, b, few, rfl, S, hf2, hfb, hb16, kk⟩ := h
    refine ⟨_, (pss_cons (ps_set (i := 3) sc__law_stretch.nd rfl (Or.inl rfl) (pe_op op_add pe_int (pcall D_law_take G_law_take (hr.mono (by decide)) (pa_cons (pv 0) (pa_cons pe_int pa_nil)))))
      (pss_one (ps_ret (pe_comp (show CScope (defScope s__law_stretch) _ "k" ["store", "base", "few", "many"] ["store", "few", "base"] [0, 2, 1] from ⟨rfl, by decide +kernel, by decide +kernel, rfl, by decide +kernel, rfl, by decide +kernel, by decide +kernel⟩) rfl (pi_range1 rfl T.n_range (pa_cons (pv 3) pa_nil)) (fun _ _ _ _ => pts_nil) (fun _ _ _ _ => (pcall D_law_take G_law_take (hr.mono (by decide)) (pa_cons (pv 1) (pa_cons (pe_ix (k_ixL K) (pe_lst (pa_cons (pv 2) (pa_cons (pv 2) (pa_cons (pv 3) pa_nil)))) (pcall D_law_take G_law_take (hr.mono (by decide)) (pa_cons (pv 1) (pa_cons pe_int pa_nil))) (fun _ _ => rfl)) pa_nil)))))))), ?_⟩
    refine ⟨_, rfl, sa, _, rfl, S, (by decide), (by decide), fun x1 H1 hx1 S1 => ⟨_, _, rfl, rfl, ?_⟩⟩
    refine ⟨_, rfl, (1 + (x1 : Int)), rfl, by omega, by omega, comp_range (lo := 0) (n := (1 + (x1 : Int)).toNat) (fun j ys Hc => Stq sa H Hc ∧ ∃ ms : List Int, ys = ms.map V.int ∧ ms.length = j ∧ ∀ f ∈ ms, 0 ≤ f ∧ f < (b : Int)) ⟨S1, [], rfl, rfl, by simp⟩ ?_ ?_⟩
    · rintro j ys Hc hj ⟨Sc, ms, rfl, hml, hmf⟩
      refine ⟨by rw [List.length_map, hml]; exact Nat.lt_of_lt_of_le (show j < 5 by omega) (by decide), ?_⟩
      unfold tYes
      dsimp only
      rw [if_pos rfl]
      refine ⟨_, rfl, _, rfl, _, rfl, _, rfl, (by show 3 ≤ sizeLine; decide), fun l2 hl2 => ?_⟩
      have n2 := Sc.st.ne hl2
      have S3 := Sc.new hl2 (o := .lst [.int few, .int few, .int b])
      refine ⟨_, rfl, sa, _, rfl, S3.st, (by decide), (by decide), fun x2 H4 hx2 S4 => ?_⟩
      obtain ⟨m, hm, hm1, hm2⟩ : ∃ m : Nat, atI [V.int few, V.int few, V.int b] (x2 : Int) = some (.int m) ∧ 2 ≤ m ∧ m ≤ b := by
        have h3 : x2 < 3 := by omega
        match x2, h3 with
        | 0, _ => exact ⟨few, rfl, by omega, by omega⟩
        | 1, _ => exact ⟨few, rfl, by omega, by omega⟩
        | 2, _ => exact ⟨b, rfl, by omega, by omega⟩
      refine ⟨l2, _, _, _, rfl, rfl, SqL.of (S4.sm _ _ n2 upd_same), hm, sa, _, rfl, S4.st, by omega, by omega, fun x3 H5 hx3 S5 => ⟨(S3.trans S4).trans S5, ms ++ [(x3 : Int)], by simp, by simp [hml], fun f hf => ?_⟩⟩
      rcases List.mem_append.mp hf with hf | hf
      · exact hmf f hf
      · have e : f = (x3 : Int) := by simpa using hf
        omega
    · rintro ys Hc ⟨Sc, ms, rfl, hml, hmf⟩ p hp
      exact kk p ms _ (Sc.new hp) (Sc.free hp) upd_same ⟨fun z => by rw [z] at hml; simp at hml; omega, by omega, hmf⟩
structure BadAt (H0 H : Hp) (bl : Addr) (b : Nat) (zs : List (Addr × List Int)) : Prop where
  li : H bl = some (.lst (zs.map fun z => V.ref z.1))
  st : ∀ z ∈ zs, H z.1 = some (.lst (z.2.map V.int))
  nl : H0 bl = none
  ns : ∀ z ∈ zs, H0 z.1 = none
  len : zs.length ≤ 4
  good : ∀ z ∈ zs, GoodSt b z.2
  up : (zs.map (·.2)).Pairwise fun x y => HT.lexLt x y = true
def sp__law_bad : Sp := fun vs H Q _ => ∃ (s : Addr) (b : Nat), vs = [.ref s, .int b] ∧ Sto H s ∧ 2 ≤ b ∧ b ≤ 16 ∧ ∀ (bl : Addr) (zs : List (Addr × List Int)) (H' : Hp), Stq s H H' → BadAt H H' bl b zs → Q (.ref bl) H'
theorem sc__law_bad : FnScope ["store", "base", "few", "known", "k", "one"] ["store", "base"] (defScope s__law_bad) := ⟨rfl, rfl, rfl, by decide +kernel, rfl, by decide +kernel, by decide +kernel⟩
theorem ok__law_bad {f f1 f2 : Addr} {fd fd1 fd2 : FuncData} (D : Df K mg "_law_bad" s__law_bad ["store", "base"] f fd) (D_law_take : Df K mg "_law_take" s__law_take ["store", "many"] f1 fd1) (D_law_stretch : Df K mg "_law_stretch" s__law_stretch ["store", "base", "few"] f2 fd2) (T : Blt mg) : FnOk P w K mg base CX0 3 f fd ["store", "base"] sp__law_bad := by
  have G_law_take : FnOk P w K mg base CX0 1 f1 fd1 ["store", "many"] sp__law_take := ok__law_take D_law_take T
  have G_law_stretch : FnOk P w K mg base CX0 2 f2 fd2 ["store", "base", "few"] sp__law_stretch := ok__law_stretch D_law_stretch D_law_take T
  refine D.fn.ok sc__law_bad (fun vs H Q E h => ?_) (fun cdv A outer s H vs Q E hr h => ?_)
  · obtain ⟨s, b, rfl, _⟩ := h; rfl
  · obtain ⟨sa, b, rfl, S, hb2, hb16, kk⟩ := h
    refine ⟨_, (pss_cons (ps_set (i := 2) sc__law_bad.nd rfl (Or.inl rfl) (pe_callB (call_min2 rfl) (by rfl) T.n_min boot_min (pa_cons (pv 1) (pa_cons (pe_ix (k_ixL K) (pe_lst (pa_cons pe_int (pa_cons pe_int (pa_cons (pv 1) pa_nil)))) (pcall D_law_take G_law_take (hr.mono (by decide)) (pa_cons (pv 0) (pa_cons pe_int pa_nil))) (fun _ _ => rfl)) pa_nil))))
      (pss_cons (ps_set (i := 3) sc__law_bad.nd rfl (Or.inl rfl) pe_dnewT)
      (pss_cons (ps_for PassesOwn.never rfl (pi_range1 rfl T.n_range (pa_cons (pcall D_law_take G_law_take (hr.mono (by decide)) (pa_cons (pv 0) (pa_cons pe_int pa_nil))) pa_nil)) (pg_name (i := 4) sc__law_bad.nd rfl (Or.inl rfl))
        (pss_cons (ps_set (i := 5) sc__law_bad.nd rfl (Or.inl rfl) (pcall D_law_stretch G_law_stretch (hr.mono (by decide)) (pa_cons (pv 0) (pa_cons (pv 1) (pa_cons (pv 2) pa_nil)))))
        (pss_one (ps_dput (hu_of hr) (pv 3) (pe_callTy call_tuple_of (by rfl) T.n_tuple boot_tuple (pa_cons (pv 5) pa_nil)) pe_bl rfl))))
      (pss_one (ps_ret (pe_comp (show CScope (defScope s__law_bad) _ "one" ["store", "base", "few", "known", "k", "one"] [] [] from ⟨rfl, by decide +kernel, by decide +kernel, rfl, by decide +kernel, rfl, by decide +kernel, by decide +kernel⟩) rfl (k_pi K (pe_callB k_sortD (by rfl) T.n_sorted boot_sorted (pa_cons (pv 3) pa_nil))) (fun _ _ _ _ => pts_nil) (fun _ _ _ _ => (pe_callTy (k_listOf K) (by rfl) T.n_list boot_list (pa_cons (pv 0) pa_nil))))))))), ?_⟩
    refine ⟨_, rfl, _, rfl, (by show 3 ≤ sizeLine; decide), fun l1 hl1 => ?_⟩
    have n1 := S.ne hl1
    have S1 := (Stq.refl S).new hl1 (o := .lst [.int 2, .int 3, .int b])
    refine ⟨_, rfl, sa, _, rfl, S1.st, (by decide), (by decide), fun x1 H2 hx1 S2 => ?_⟩
    obtain ⟨m, hm, hm2⟩ : ∃ m : Nat, atI [V.int 2, V.int 3, V.int b] (x1 : Int) = some (.int m) ∧ 2 ≤ m := by
      have h3 : x1 < 3 := by omega
      match x1, h3 with
      | 0, _ => exact ⟨2, rfl, by omega⟩
      | 1, _ => exact ⟨3, rfl, by omega⟩
      | 2, _ => exact ⟨b, rfl, by omega⟩
    refine ⟨l1, _, _, _, rfl, rfl, SqL.of (S2.sm _ _ n1 upd_same), hm, _, _, rfl, ?_⟩
    obtain ⟨few, hfew, hfew1, hfew2⟩ : ∃ few : Nat, (if (m : Int) < (b : Int) then (m : Int) else (b : Int)) = (few : Int) ∧ 2 ≤ few ∧ few ≤ b := by
      by_cases z : m < b
      · exact ⟨m, by rw [if_pos (by omega)], by omega, by omega⟩
      · exact ⟨b, by rw [if_neg (by omega)], by omega, by omega⟩
    rw [hfew]
    have S12 := S1.trans S2
    intro kd hkd
    have nkd := S12.st.ne hkd
    have hkd0 := S12.free hkd
    have S3 := S12.new hkd (o := .dT [])
    refine ⟨_, rfl, sa, _, rfl, S3.st, (by decide), (by decide), fun x2 H4 hx2 S4 => ?_⟩
    refine ⟨_, rfl, by omega, by omega, for_range (lo := 0) (n := (x2 : Int).toNat) (fun i σ H5 => ∃ (v1 v2 : Option V) (kvs : List (List Key × V)) (ls : List (List Int)), σ = [some (.ref sa), some (.int b), some (.int few), some (.ref kd), v1, v2] ∧ Stq sa H H5 ∧ H5 kd = some (.dT kvs) ∧ kvs.map (·.1) = ls.map kI ∧ ls.length ≤ i ∧ ∀ l ∈ ls, GoodSt b l)
      ⟨none, none, [], [], rfl, S3.trans S4, S4.sm _ _ nkd upd_same, rfl, Nat.le_refl _, by simp⟩ ?_ ?_⟩
    · rintro i σ H5 hi ⟨v1, v2, kvs, ls, rfl, S5, hk5, hks, hll, hgd⟩
      refine ⟨_, rfl, _, rfl, _, rfl, sa, b, few, rfl, S5.st, hfew1, hfew2, hb16, fun l ms H6 S6 hl0 hl6 gms => ?_⟩
      have hk6 := S6.sm _ _ nkd hk5
      refine ⟨_, rfl, _, rfl, l, _, rfl, .inl ⟨SqL.of hl6, fun tp htp => ?_⟩⟩
      have hk7 : upd H6 tp (.tup (ms.map V.int)) kd = some (.dT kvs) := same_upd htp _ _ hk6
      have hkl : kvs.length = ls.length := by have := congrArg List.length hks; rwa [List.length_map, List.length_map] at this
      refine ⟨kd, _, rfl, DPut.t (k := kI ms) hk7 (by rw [kI_V]; exact upd_same) (Nat.lt_of_le_of_lt (show kvs.length ≤ 4 by omega) (by decide)), ?_⟩
      have S7 := ((S5.trans S6).new htp (o := .tup (ms.map V.int))).put (p := kd) (o := .dT (putK kvs (kI ms) (.bl true))) nkd hkd0
      by_cases hin : ms ∈ ls
      · refine ⟨_, _, putK kvs (kI ms) (.bl true), ls, rfl, S7, upd_same, ?_, by omega, hgd⟩
        unfold putK
        rw [if_pos (by
          rw [List.any_eq_true]
          have : kI ms ∈ kvs.map (·.1) := by rw [hks]; exact List.mem_map.mpr ⟨ms, hin, rfl⟩
          obtain ⟨kv, h1, h2⟩ := List.mem_map.mp this
          exact ⟨kv, h1, decide_eq_true h2⟩), List.map_map, ← hks]
        refine List.map_congr_left fun kv _ => ?_
        show (if kv.1 = kI ms then (kv.1, V.bl true) else kv).1 = kv.1
        split <;> rfl
      · refine ⟨_, _, putK kvs (kI ms) (.bl true), ls ++ [ms], rfl, S7, upd_same, ?_, by rw [List.length_append, List.length_singleton]; omega, fun l hl => ?_⟩
        · unfold putK
          rw [if_neg (by
            rw [List.any_eq_true]
            rintro ⟨kv, h1, h2⟩
            have h3 : kI ms ∈ kvs.map (·.1) := List.mem_map.mpr ⟨kv, h1, of_decide_eq_true h2⟩
            rw [hks] at h3
            obtain ⟨l, h4, h5⟩ := List.mem_map.mp h3
            exact hin (kI_inj h5 ▸ h4)), List.map_append, List.map_append, hks]
          rfl
        · rcases List.mem_append.mp hl with hl | hl
          · exact hgd l hl
          · have e : l = ms := by simpa using hl
            rw [e]; exact gms
    · rintro σ H5 ⟨v1, v2, kvs, ls, rfl, S5, hk5, hks, hll, hgd⟩
      refine ⟨_, rfl, kd, kvs, ls, rfl, hk5, hks, by omega, fun l hl => (hgd l hl).ne, fun p zs hp pm pw hz => ?_⟩
      have hzl : zs.length = ls.length := by have := pm.length_eq; rwa [List.length_map] at this
      have S6 := S5.new hp (o := .lst (zs.map fun z => V.ref z.1))
      refine ⟨p, rfl, ⟨_, SqL.of upd_same⟩, comp_list (K := K) (a := p) (xs := zs.map fun z => V.ref z.1) (fun i ys H7 => Same (upd H5 p (.lst (zs.map fun z => V.ref z.1))) H7 ∧ ∃ ws : List (Addr × List Int), ys = ws.map (fun z => V.ref z.1) ∧ ws.map (·.2) = (zs.take i).map (·.2) ∧ ∀ z ∈ ws, H z.1 = none ∧ H7 z.1 = some (.lst (z.2.map V.int))) ⟨Same.refl _, [], rfl, by simp, by simp⟩ (fun i ys H7 _ ⟨m7, _⟩ => SqL.of (m7 _ _ upd_same)) ?_ ?_⟩
      · rintro j x ys H7 hx ⟨m7, ws, rfl, hw2, hws⟩
        rw [List.getElem?_map] at hx
        obtain ⟨z, hzj, e⟩ := Option.map_eq_some_iff.mp hx
        subst e
        have hzm := List.mem_of_getElem? hzj
        have hj : j < zs.length := (List.getElem?_eq_some_iff.mp hzj).1
        have hwl : ws.length ≤ j := by have := congrArg List.length hw2; rw [List.length_map, List.length_map, List.length_take] at this; omega
        refine ⟨by rw [List.length_map]; exact Nat.lt_of_le_of_lt (show ws.length ≤ 4 by omega) (by decide), ?_⟩
        unfold tYes
        dsimp only
        rw [if_pos rfl]
        refine ⟨_, rfl, z.1, _, rfl, .inr (SqT.of (m7 _ _ (same_upd hp _ _ (hz z hzm)))), fun q hq => ⟨m7.trans (same_upd hq), ws ++ [(q, z.2)], by simp, ?_, fun y hy => ?_⟩⟩
        · rw [List.map_append, hw2, List.take_succ, hzj]; simp
        · rcases List.mem_append.mp hy with hy | hy
          · exact ⟨(hws y hy).1, same_upd hq _ _ (hws y hy).2⟩
          · have e : y = (q, z.2) := by simpa using hy
            subst e
            exact ⟨S6.free (m7.free hq), upd_same⟩
      · rintro ys H7 ⟨m7, ws, rfl, hw2, hws⟩ bl hbl
        rw [List.length_map, List.take_length] at hw2
        have hwl : ws.length = zs.length := by have := congrArg List.length hw2; rwa [List.length_map, List.length_map] at this
        have m8 := same_upd hbl (o := .lst (ws.map fun z => V.ref z.1))
        refine kk bl ws _ (S6.same (m7.trans m8)) ⟨upd_same, fun z hz' => m8 _ _ (hws z hz').2, S6.free (m7.free hbl), fun z hz' => (hws z hz').1, by omega, fun z hz' => ?_, ?_⟩
        · refine hgd _ ?_
          have : z.2 ∈ zs.map (·.2) := by rw [← hw2]; exact List.mem_map.mpr ⟨z, hz', rfl⟩
          exact pm.mem_iff.mp this
        · rw [hw2, List.pairwise_map]; exact pw
end
end Lw
set_option Elab.async false
set_option linter.all false
set_option maxRecDepth 100000
namespace Lw
open PySem L2 PyProof.Rows
theorem Stq.aw {s : Addr} {H H' : Hp} (a : Stq s H H') : Same (aw [s] H) (aw [s] H') := fun b o e => by
  have hb : b ∉ [s] := fun hb => by rw [aw_in hb] at e; cases e
  rw [aw_out hb] at e ⊢
  exact a.sm b o (fun z => hb (by simp [z])) e
structure RL where
  r : Addr
  b : Nat
  bl : Addr
  zs : List (Addr × List Int)
def RL.con (x : RL) : Nat × List (List Int) := (x.b, x.zs.map (·.2))
structure RulesAt (H : Hp) (l : Addr) (rs : List RL) : Prop where
  li : H l = some (.lst (rs.map fun x => V.ref x.r))
  ru : ∀ x ∈ rs, RuleAt H x.r x.b x.bl x.zs
theorem RulesAt.same {H H' : Hp} {l : Addr} {rs : List RL} (R : RulesAt H l rs) (s : Same H H') : RulesAt H' l rs := ⟨s _ _ R.li, fun x hx => (R.ru x hx).same s⟩
theorem RulesAt.all {H : Hp} {l : Addr} {rs : List RL} {fp : List Addr} (R : RulesAt (aw fp H) l rs) : RulesAt H l rs := R.same (aw_same fp H)
structure GoodRs (rs : List RL) : Prop where
  ne : rs ≠ []
  len : rs.length ≤ 3
  good : ∀ x ∈ rs, GoodRule x.b (x.zs.map (·.2))
def keepsN (cs : List (Nat × List (List Int))) (n : Nat) : Bool := cs.all fun c => lacks c.2 (figs c.1 n)
theorem GoodRs.z4 {rs : List RL} (g : GoodRs rs) {x : RL} (hx : x ∈ rs) : x.zs.length ≤ 4 := by have := (g.good x hx).len; rwa [List.length_map] at this
section
variable {P : Program} {w : World} {K : PySem.W.Frag} {mg : Str → Option Value} {base : Heap}
def sp__law_rules : Sp := fun vs H Q _ => ∃ s : Addr, vs = [.ref s] ∧ Sto H s ∧ ∀ (l : Addr) (rs : List RL) (H' : Hp), Stq s H H' → RulesAt (aw [s] H') l rs → GoodRs rs → Q (.ref l) H'
theorem sc__law_rules : FnScope ["store", "base", "found", "k", "own"] ["store"] (defScope s__law_rules) := ⟨rfl, rfl, rfl, by decide +kernel, rfl, by decide +kernel, by decide +kernel⟩
theorem ok__law_rules {f f1 f2 f3 f4 : Addr} {fd fd1 fd2 fd3 fd4 : FuncData} (D : Df K mg "_law_rules" s__law_rules ["store"] f fd) (D_law_take : Df K mg "_law_take" s__law_take ["store", "many"] f1 fd1) (D_law_stretch : Df K mg "_law_stretch" s__law_stretch ["store", "base", "few"] f2 fd2) (D_law_base : Df K mg "_law_base" s__law_base ["store"] f3 fd3) (D_law_bad : Df K mg "_law_bad" s__law_bad ["store", "base"] f4 fd4) (T : Blt mg) : FnOk P w K mg base CX0 4 f fd ["store"] sp__law_rules := by
  have G_law_take : FnOk P w K mg base CX0 1 f1 fd1 ["store", "many"] sp__law_take := ok__law_take D_law_take T
  have G_law_base : FnOk P w K mg base CX0 2 f3 fd3 ["store"] sp__law_base := ok__law_base D_law_base D_law_take T
  have G_law_bad : FnOk P w K mg base CX0 3 f4 fd4 ["store", "base"] sp__law_bad := ok__law_bad D_law_bad D_law_take D_law_stretch T
  refine D.fn.ok sc__law_rules (fun vs H Q E h => ?_) (fun cdv A outer s H vs Q E hr h => ?_)
  · obtain ⟨s, rfl, _⟩ := h; rfl
  · obtain ⟨sa, rfl, S, kk⟩ := h
    refine ⟨_, (pss_cons (ps_set (i := 1) sc__law_rules.nd rfl (Or.inl rfl) (pcall D_law_base G_law_base (hr.mono (by decide)) (pa_cons (pv 0) pa_nil)))
      (pss_cons (ps_set (i := 2) sc__law_rules.nd rfl (Or.inl rfl) (pe_lst pa_nil))
      (pss_cons (ps_for PassesOwn.never rfl (pi_range1 rfl T.n_range (pa_cons (pe_op op_add pe_int (pcall D_law_take G_law_take (hr.mono (by decide)) (pa_cons (pv 0) (pa_cons pe_int pa_nil)))) pa_nil)) (pg_name (i := 3) sc__law_rules.nd rfl (Or.inl rfl))
        (pss_cons (ps_set (i := 4) sc__law_rules.nd rfl (Or.inl rfl) (pe_ix (k_ixL K) (pe_lst (pa_cons (pv 1) (pa_cons (pv 1) (pa_cons (pcall D_law_base G_law_base (hr.mono (by decide)) (pa_cons (pv 0) pa_nil)) pa_nil)))) (pcall D_law_take G_law_take (hr.mono (by decide)) (pa_cons (pv 0) (pa_cons pe_int pa_nil))) (fun _ _ => rfl)))
        (pss_one (ps_expr (pe_bm PySem.F.plainAttrs_list PySem.F.slot_list_append PySem.F.type_list_append mt_append (pv 2) (pa_cons (pe_tup (pa_cons (pv 4) (pa_cons (pcall D_law_bad G_law_bad (hr.mono (by decide)) (pa_cons (pv 0) (pa_cons (pv 4) pa_nil))) pa_nil))) pa_nil))))))
      (pss_one (ps_ret (pv 2)))))), ?_⟩
    refine ⟨_, rfl, sa, rfl, S, fun b H1 hb2 hb16 S1 => ?_⟩
    refine ⟨(by decide : 0 ≤ sizeLine), fun fl hfl => ?_⟩
    have nfl := S1.st.ne hfl
    have hfl0 := S1.free hfl
    have S2 := S1.new hfl (o := .lst [])
    refine ⟨_, rfl, sa, _, rfl, S2.st, (by decide), (by decide), fun x1 H3 hx1 S3 => ⟨_, _, rfl, rfl, ?_⟩⟩
    refine ⟨_, rfl, by omega, by omega, for_range (lo := 0) (n := (1 + (x1 : Int)).toNat) (fun i σ H4 => ∃ (v1 v2 : Option V) (rs : List RL), σ = [some (.ref sa), some (.int b), some (.ref fl), v1, v2] ∧ Stq sa H H4 ∧ rs.length = i ∧ H4 fl = some (.lst (rs.map fun x => V.ref x.r)) ∧ (∀ x ∈ rs, RuleAt (aw [sa, fl] H4) x.r x.b x.bl x.zs ∧ GoodRule x.b (x.zs.map (·.2))))
      ⟨none, none, [], rfl, S2.trans S3, rfl, S3.sm _ _ nfl upd_same, by simp⟩ ?_ ?_⟩
    · rintro i σ H4 hi ⟨v1, v2, rs, rfl, S4, hrl, hf4, hru⟩
      refine ⟨_, rfl, _, rfl, _, rfl, sa, rfl, S4.st, fun b2 H5 hc2 hc16 S5 => ?_⟩
      refine ⟨(by show 3 ≤ sizeLine; decide), fun l1 hl1 => ?_⟩
      have n1 := S5.st.ne hl1
      have S6 := S5.new hl1 (o := .lst [.int b, .int b, .int b2])
      refine ⟨_, rfl, sa, _, rfl, S6.st, (by decide), (by decide), fun x2 H7 hx2 S7 => ?_⟩
      obtain ⟨m, hm, hm2, hm16⟩ : ∃ m : Nat, atI [V.int b, V.int b, V.int b2] (x2 : Int) = some (.int m) ∧ 2 ≤ m ∧ m ≤ 16 := by
        have h3 : x2 < 3 := by omega
        match x2, h3 with
        | 0, _ => exact ⟨b, rfl, by omega, by omega⟩
        | 1, _ => exact ⟨b, rfl, by omega, by omega⟩
        | 2, _ => exact ⟨b2, rfl, by omega, by omega⟩
      refine ⟨l1, _, _, _, rfl, rfl, SqL.of (S7.sm _ _ n1 upd_same), hm, ?_⟩
      have S57 := S6.trans S7
      have hf7 := S57.sm _ _ nfl hf4
      refine ⟨_, rfl, .inl ⟨rfl, _, SqL.of hf7⟩, ?_⟩
      refine ⟨_, rfl, _, rfl, _, rfl, sa, m, rfl, S57.st, hm2, hm16, fun bl zs H8 S8 B => ⟨(by show 2 ≤ sizeLine; decide), fun tp htp => ?_⟩⟩
      have hf8 := S8.sm _ _ nfl hf7
      have nbl : bl ≠ fl := fun z => by have := B.nl; rw [z, hf7] at this; cases this
      have nblS : bl ≠ sa := S57.st.ne B.nl
      have ntp : tp ≠ fl := fun z => by rw [z, hf8] at htp; cases htp
      have ntpS : tp ≠ sa := S8.st.ne htp
      have hf9 := same_upd htp (o := .tup [.int m, .ref bl]) _ _ hf8
      refine ⟨fl, _, _, rfl, rfl, hf9, by rw [List.length_map, hrl]; exact Nat.lt_of_lt_of_le (show i < 4 by omega) (by decide), ?_⟩
      have S49 := (S4.trans S57).trans (S8.new htp (o := .tup [.int m, .ref bl]))
      have m2 : Same (aw [sa, fl] H4) (aw [sa, fl] (upd (upd H8 tp (.tup [.int m, .ref bl])) fl (.lst (rs.map (fun x => V.ref x.r) ++ [.ref tp])))) := fun c o e => by
        have hc : c ∉ [sa, fl] := fun hc => by rw [aw_in hc] at e; cases e
        have hc1 : c ≠ sa := fun z => hc (by simp [z])
        have hc2' : c ≠ fl := fun z => hc (by simp [z])
        rw [aw_out hc] at e ⊢
        rw [upd_ne hc2']
        exact (S57.trans (S8.new htp)).sm c o hc1 e
      refine ⟨_, _, rs ++ [⟨tp, m, bl, zs⟩], rfl, S49.put nfl hfl0, by rw [List.length_append, List.length_singleton, hrl], by rw [upd_same]; simp, fun x hx => ?_⟩
      rcases List.mem_append.mp hx with hx | hx
      · exact ⟨(hru x hx).1.same m2, (hru x hx).2⟩
      · have e : x = ⟨tp, m, bl, zs⟩ := by simpa using hx
        subst e
        refine ⟨⟨?_, ?_, fun z hz => ?_⟩, ⟨hm2, hm16, by rw [List.length_map]; exact B.len, fun l hl => ?_, B.up⟩⟩
        · rw [aw_out (by simp [ntp, ntpS]), upd_ne ntp, upd_same]
        · rw [aw_out (by simp [nbl, nblS]), upd_ne nbl]; exact same_upd htp _ _ B.li
        · have nz : z.1 ≠ fl := fun q => by have := B.ns z hz; rw [q, hf7] at this; cases this
          have nzS : z.1 ≠ sa := S57.st.ne (B.ns z hz)
          rw [aw_out (by simp [nz, nzS]), upd_ne nz]; exact same_upd htp _ _ (B.st z hz)
        · obtain ⟨z, hz, rfl⟩ := List.mem_map.mp hl
          exact B.good z hz
    · rintro σ H4 ⟨v1, v2, rs, rfl, S4, hrl, hf4, hru⟩
      refine ⟨_, rfl, kk fl rs H4 S4 ⟨by rw [aw_out (by simp [nfl])]; exact hf4, fun x hx => (hru x hx).1.same fun c o e => ?_⟩ ⟨fun z => by rw [z] at hrl; simp at hrl; omega, by omega, fun x hx => (hru x hx).2⟩⟩
      have hc : c ∉ [sa, fl] := fun hc => by rw [aw_in hc] at e; cases e
      rw [aw_out hc] at e
      rw [aw_out (fun z => hc (by simp at z; simp [z]))]; exact e
end
end Lw
set_option Elab.async false
set_option linter.all false
set_option maxRecDepth 100000
namespace Lw
open PySem L2 PyProof.Rows
section
variable {P : Program} {w : World} {K : PySem.W.Frag} {mg : Str → Option Value} {base : Heap}
def sp_are_rules : Sp := fun vs H Q _ => ∃ (l : Addr) (rs : List RL), vs = [.ref l] ∧ RulesAt H l rs ∧ GoodRs rs ∧ ∀ H', Same H H' → Q (.bl true) H'
theorem sc_are_rules : FnScope ["thing"] ["thing"] (defScope s_are_rules) := ⟨rfl, rfl, rfl, by decide +kernel, rfl, by decide +kernel, by decide +kernel⟩
theorem ok_are_rules {f f1 : Addr} {fd fd1 : FuncData} {t1 : Tok} (D : Df K mg "are_rules" s_are_rules ["thing"] f fd) (Dis_rule : Df K mg "is_rule" s_is_rule ["thing"] f1 fd1) (Gis_rule : FnOk P w K mg base CX0 6 f1 fd1 ["thing"] sp_is_rule) (c_MOST_RULES : mg "MOST_RULES" = some (.int 3 t1)) (T : Blt mg) : FnOk P w K mg base CX0 7 f fd ["thing"] sp_are_rules := by
  refine D.fn.ok sc_are_rules (fun vs H Q E h => ?_) (fun cdv A outer s H vs Q E hr h => ?_)
  · obtain ⟨l, rs, rfl, _⟩ := h; rfl
  · obtain ⟨l, rs, rfl, R, g, kk⟩ := h
    have h3 := g.len
    have h0 : 0 < rs.length := List.length_pos_iff.mpr g.ne
    refine ⟨_, (pss_cons (ps_if (PW.pt (pw_or (pt_not (pt_val (pe_callB (k_isi K) (by rfl) T.n_isinstance boot_isinstance (pa_cons (pv 0) (pa_cons (pe_bltn (v := .ty "list") rfl T.n_list boot_list rfl) pa_nil))))) (pw_or1 (pt_not (pt_chain op_le op_le pe_int (pe_callB (k_len K) (by rfl) T.n_len PySem.boot_len (pa_cons (pv 0) pa_nil)) (pe_glob (v := .int 3) rfl c_MOST_RULES ⟨_, rfl⟩))))))
        (pss_one (ps_ret pe_bl))
        pss_nil)
      (pss_one (ps_ret (pe_callB (k_all K rfl) (by rfl) T.n_all boot_all (pa_cons (pe_comp (show CScope (defScope s_are_rules) _ "each" ["thing"] [] [] from ⟨rfl, by decide +kernel, by decide +kernel, rfl, by decide +kernel, rfl, by decide +kernel, by decide +kernel⟩) rfl (k_pi K (pv 0)) (fun _ _ _ _ => pts_nil) (fun _ _ _ _ => (pcall Dis_rule Gis_rule (hr.mono (by decide)) (pa_cons (pv 0) pa_nil)))) pa_nil))))), ?_⟩
    refine ⟨_, rfl, _, _, _, _, rfl, .lst R.li, kit_list_list, _, rfl, iteF ?_⟩
    refine ⟨_, rfl, l, _, rfl, .inl (SqL.of R.li), _, _, rfl, rfl, _, rfl, ?_⟩
    rw [List.length_map, decide_eq_true (show (1 : Int) ≤ (rs.length : Int) by omega)]
    refine iteT ?_
    refine ⟨_, _, rfl, rfl, _, rfl, ?_⟩
    rw [decide_eq_true (show (rs.length : Int) ≤ 3 by omega)]
    refine iteF ?_
    refine ⟨_, rfl, l, rfl, ⟨_, SqL.of R.li⟩, comp_list (K := K) (a := l) (xs := rs.map fun x => V.ref x.r) (fun i ys H4 => ys = (List.replicate i true).map V.bl ∧ Same H H4) ⟨by simp, Same.refl _⟩ (fun i ys H4 _ ⟨_, m4⟩ => SqL.of (m4 _ _ R.li)) ?_ ?_⟩
    · rintro j y ys H4 hx ⟨rfl, m4⟩
      rw [List.getElem?_map] at hx
      obtain ⟨x, hxj, e⟩ := Option.map_eq_some_iff.mp hx
      subst e
      have hxm := List.mem_of_getElem? hxj
      have hj : j < rs.length := (List.getElem?_eq_some_iff.mp hxj).1
      refine ⟨by rw [List.length_map, List.length_replicate]; exact Nat.lt_of_lt_of_le (show j < 5 by omega) (by decide), ?_⟩
      unfold tYes
      dsimp only
      rw [if_pos rfl]
      refine ⟨_, rfl, x.r, x.b, x.bl, x.zs, rfl, (R.ru x hxm).same m4, g.good x hxm, fun H5 m5 => ⟨?_, m4.trans m5⟩⟩
      rw [List.replicate_succ']; simp
    · rintro ys H4 ⟨rfl, m4⟩ Dd hD
      refine ⟨Dd, _, rfl, SqL.of upd_same, ?_⟩
      rw [all_rep]
      exact kk _ (m4.trans (same_upd hD))
def sp_check_rules : Sp := fun vs H Q _ => ∃ (l : Addr) (rs : List RL), vs = [.ref l] ∧ RulesAt H l rs ∧ GoodRs rs ∧ ∀ H', Same H H' → Q .non H'
theorem sc_check_rules : FnScope ["thing"] ["thing"] (defScope s_check_rules) := ⟨rfl, rfl, rfl, by decide +kernel, rfl, by decide +kernel, by decide +kernel⟩
theorem ok_check_rules {f f1 : Addr} {fd fd1 : FuncData} (D : Df K mg "check_rules" s_check_rules ["thing"] f fd) (Dare_rules : Df K mg "are_rules" s_are_rules ["thing"] f1 fd1) (Gare_rules : FnOk P w K mg base CX0 7 f1 fd1 ["thing"] sp_are_rules) : FnOk P w K mg base CX0 8 f fd ["thing"] sp_check_rules := by
  refine D.fn.ok sc_check_rules (fun vs H Q E h => ?_) (fun cdv A outer s H vs Q E hr h => ?_)
  · obtain ⟨l, rs, rfl, _⟩ := h; rfl
  · obtain ⟨l, rs, rfl, R, g, kk⟩ := h
    refine ⟨_, (pss_one (ps_if (pt_not (pt_val (pcall Dare_rules Gare_rules (hr.mono (by decide)) (pa_cons (pv 0) pa_nil))))
        (pss_one ps_never)
        pss_nil)), ?_⟩
    exact ⟨_, rfl, l, rs, rfl, R, g, fun H1 s1 => ⟨_, rfl, iteF (kk H1 s1)⟩⟩
def sp_is_good_by_each : Sp := fun vs H Q _ => ∃ (l : Addr) (rs : List RL) (n : Nat), vs = [.ref l, .int n] ∧ RulesAt H l rs ∧ GoodRs rs ∧ n < 2 ^ 200 ∧ ∀ H', Same H H' → Q (.bl (keepsN (rs.map RL.con) n)) H'
theorem sc_is_good_by_each : FnScope ["rules", "n"] ["rules", "n"] (defScope s_is_good_by_each) := ⟨rfl, rfl, rfl, by decide +kernel, rfl, by decide +kernel, by decide +kernel⟩
theorem ok_is_good_by_each {f f1 : Addr} {fd fd1 : FuncData} (D : Df K mg "is_good_by_each" s_is_good_by_each ["rules", "n"] f fd) (Dis_good : Df K mg "is_good" s_is_good ["rule", "n"] f1 fd1) (Gis_good : FnOk P w K mg base CX0 8 f1 fd1 ["rule", "n"] sp_is_good) (T : Blt mg) : FnOk P w K mg base CX0 9 f fd ["rules", "n"] sp_is_good_by_each := by
  refine D.fn.ok sc_is_good_by_each (fun vs H Q E h => ?_) (fun cdv A outer s H vs Q E hr h => ?_)
  · obtain ⟨l, rs, n, rfl, _⟩ := h; rfl
  · obtain ⟨l, rs, n, rfl, R, g, hn, kk⟩ := h
    have h3 := g.len
    refine ⟨_, (pss_one (ps_ret (pe_callB (k_all K rfl) (by rfl) T.n_all boot_all (pa_cons (pe_comp (show CScope (defScope s_is_good_by_each) _ "rule" ["rules", "n"] ["n"] [1] from ⟨rfl, by decide +kernel, by decide +kernel, rfl, by decide +kernel, rfl, by decide +kernel, by decide +kernel⟩) rfl (k_pi K (pv 0)) (fun _ _ _ _ => pts_nil) (fun _ _ _ _ => (pcall Dis_good Gis_good (hr.mono (by decide)) (pa_cons (pv 0) (pa_cons (pv 1) pa_nil))))) pa_nil)))), ?_⟩
    refine ⟨_, rfl, l, rfl, ⟨_, SqL.of R.li⟩, comp_list (K := K) (a := l) (xs := rs.map fun x => V.ref x.r) (fun i ys H4 => ys = (((rs.take i).map RL.con).map fun c => lacks c.2 (figs c.1 n)).map V.bl ∧ Same H H4) ⟨by simp, Same.refl _⟩ (fun i ys H4 _ ⟨_, m4⟩ => SqL.of (m4 _ _ R.li)) ?_ ?_⟩
    · rintro j y ys H4 hx ⟨rfl, m4⟩
      rw [List.getElem?_map] at hx
      obtain ⟨x, hxj, e⟩ := Option.map_eq_some_iff.mp hx
      subst e
      have hxm := List.mem_of_getElem? hxj
      refine ⟨?_, ?_⟩
      · rw [List.length_map, List.length_map, List.length_map, List.length_take]
        exact Nat.lt_of_le_of_lt (show min j rs.length ≤ 3 by omega) (by decide)
      unfold tYes
      dsimp only
      rw [if_pos rfl]
      refine ⟨_, rfl, _, rfl, x.r, x.b, x.bl, x.zs, n, rfl, (R.ru x hxm).same m4, g.good x hxm, Nat.lt_trans hn (by decide), fun H5 m5 => ⟨?_, m4.trans m5⟩⟩
      rw [List.take_succ, hxj]
      simp [RL.con]
    · rintro ys H4 ⟨rfl, m4⟩ Dd hD
      refine ⟨Dd, _, rfl, SqL.of upd_same, ?_⟩
      have q := kk _ (m4.trans (same_upd hD (o := .lst ((((rs.take (rs.map fun x => V.ref x.r).length).map RL.con).map fun c => lacks c.2 (figs c.1 n)).map V.bl))))
      rw [List.length_map, List.take_length] at q ⊢
      rw [List.all_map]
      exact q
end
section
variable {P : Program} {w : World} {K : PySem.W.Frag} {mg : Str → Option Value} {base : Heap}
def sp_keeps_all : Sp := fun vs H Q _ => ∃ (l : Addr) (rs : List RL) (n : Nat), vs = [.ref l, .int n] ∧ RulesAt H l rs ∧ GoodRs rs ∧ n < 2 ^ 200 ∧ ∀ H', Same H H' → Q (.bl (keepsN (rs.map RL.con) n)) H'
theorem sc_keeps_all : FnScope ["rules", "n"] ["rules", "n"] (defScope s_keeps_all) := ⟨rfl, rfl, rfl, by decide +kernel, rfl, by decide +kernel, by decide +kernel⟩
theorem ok_keeps_all {f f1 f2 : Addr} {fd fd1 fd2 : FuncData} (D : Df K mg "keeps_all" s_keeps_all ["rules", "n"] f fd) (Dcheck_rules : Df K mg "check_rules" s_check_rules ["thing"] f1 fd1) (Gcheck_rules : FnOk P w K mg base CX0 8 f1 fd1 ["thing"] sp_check_rules) (Dis_good_by_each : Df K mg "is_good_by_each" s_is_good_by_each ["rules", "n"] f2 fd2) (Gis_good_by_each : FnOk P w K mg base CX0 9 f2 fd2 ["rules", "n"] sp_is_good_by_each) : FnOk P w K mg base CX0 10 f fd ["rules", "n"] sp_keeps_all := by
  refine D.fn.ok sc_keeps_all (fun vs H Q E h => ?_) (fun cdv A outer s H vs Q E hr h => ?_)
  · obtain ⟨l, rs, n, rfl, _⟩ := h; rfl
  · obtain ⟨l, rs, n, rfl, R, g, hn, kk⟩ := h
    refine ⟨_, (pss_cons (ps_expr (pcall Dcheck_rules Gcheck_rules (hr.mono (by decide)) (pa_cons (pv 0) pa_nil)))
      (pss_one (ps_ret (pcall Dis_good_by_each Gis_good_by_each (hr.mono (by decide)) (pa_cons (pv 0) (pa_cons (pv 1) pa_nil)))))), ?_⟩
    refine ⟨_, rfl, l, rs, rfl, R, g, fun H1 m1 => ?_⟩
    exact ⟨_, rfl, _, rfl, l, rs, n, rfl, R.same m1, g, hn, fun H2 m2 => kk H2 (m1.trans m2)⟩
def nextK (cs : List (Nat × List (List Int))) (n : Nat) : Option Nat := ((List.range 500).find? fun j => keepsN cs (n + j)).map fun j => n + j
def vOpt : Option Nat → V
  | none => .non
  | some m => .int m
theorem nextK_some {cs : List (Nat × List (List Int))} {n i : Nat} (hi : i < 500) (h1 : ∀ j, j < i → keepsN cs (n + j) = false) (h2 : keepsN cs (n + i) = true) : nextK cs n = some (n + i) := by
  unfold nextK
  have : (List.range 500).find? (fun j => keepsN cs (n + j)) = some i := by
    rw [List.find?_eq_some_iff_getElem]
    refine ⟨h2, i, by rw [List.length_range]; exact hi, by simp, fun j hj => ?_⟩
    simp [h1 j hj]
  rw [this]; rfl
theorem nextK_none {cs : List (Nat × List (List Int))} {n : Nat} (h1 : ∀ j, j < 500 → keepsN cs (n + j) = false) : nextK cs n = none := by
  unfold nextK
  have : (List.range 500).find? (fun j => keepsN cs (n + j)) = none := by
    rw [List.find?_eq_none]
    intro j hj
    rw [h1 j (List.mem_range.mp hj)]; exact Bool.false_ne_true
  rw [this]; rfl
theorem nextK_keeps {cs : List (Nat × List (List Int))} {n m : Nat} (h : nextK cs n = some m) : keepsN cs m = true ∧ m < n + 500 := by
  unfold nextK at h
  obtain ⟨j, hj, rfl⟩ := Option.map_eq_some_iff.mp h
  have h1 := List.find?_some hj
  have h2 := List.mem_range.mp (List.mem_of_find?_eq_some hj)
  exact ⟨h1, by omega⟩
def sp_next_keeping : Sp := fun vs H Q _ => ∃ (l : Addr) (rs : List RL) (n : Nat), vs = [.ref l, .int n] ∧ RulesAt H l rs ∧ GoodRs rs ∧ n < 2 ^ 199 ∧ ∀ H', Same H H' → Q (vOpt (nextK (rs.map RL.con) n)) H'
theorem sc_next_keeping : FnScope ["rules", "n", "each"] ["rules", "n"] (defScope s_next_keeping) := ⟨rfl, rfl, rfl, by decide +kernel, rfl, by decide +kernel, by decide +kernel⟩
theorem ok_next_keeping {f f1 f2 f3 : Addr} {fd fd1 fd2 fd3 : FuncData} {t1 : Tok} (D : Df K mg "next_keeping" s_next_keeping ["rules", "n"] f fd) (Dcheck_rules : Df K mg "check_rules" s_check_rules ["thing"] f1 fd1) (Gcheck_rules : FnOk P w K mg base CX0 8 f1 fd1 ["thing"] sp_check_rules) (Dis_good_by_each : Df K mg "is_good_by_each" s_is_good_by_each ["rules", "n"] f2 fd2) (Gis_good_by_each : FnOk P w K mg base CX0 9 f2 fd2 ["rules", "n"] sp_is_good_by_each)
    (Dcheck_number : Df K mg "check_number" s_check_number ["thing"] f3 fd3) (Gcheck_number : FnOk P w K mg base CX0 3 f3 fd3 ["thing"] sp_check_number) (c_REACH : mg "REACH" = some (.int 500 t1)) (T : Blt mg) : FnOk P w K mg base CX0 10 f fd ["rules", "n"] sp_next_keeping := by
  refine D.fn.ok sc_next_keeping (fun vs H Q E h => ?_) (fun cdv A outer s H vs Q E hr h => ?_)
  · obtain ⟨l, rs, n, rfl, _⟩ := h; rfl
  · obtain ⟨l, rs, n, rfl, R, g, hn, kk⟩ := h
    refine ⟨_, (pss_cons (ps_expr (pcall Dcheck_rules Gcheck_rules (hr.mono (by decide)) (pa_cons (pv 0) pa_nil)))
      (pss_cons (ps_expr (pcall Dcheck_number Gcheck_number (hr.mono (by decide)) (pa_cons (pv 1) pa_nil)))
      (pss_cons (ps_for PassesOwn.never rfl (pi_range2L rfl T.n_range (pa_cons (pv 1) (pa_cons (pe_op op_add (pv 1) (pe_glob (v := .int 500) rfl c_REACH ⟨_, rfl⟩)) pa_nil))) (pg_name (i := 2) sc_next_keeping.nd rfl (Or.inl rfl))
        (pss_one (ps_if (pt_val (pcall Dis_good_by_each Gis_good_by_each (hr.mono (by decide)) (pa_cons (pv 0) (pa_cons (pv 2) pa_nil))))
          (pss_one (ps_ret (pv 2)))
          pss_nil)))
      (pss_one (ps_ret pe_non))))), ?_⟩
    refine ⟨_, rfl, l, rs, rfl, R, g, fun H1 m1 => ?_⟩
    refine ⟨_, rfl, (n : Int), rfl, by omega, ?_⟩
    refine ⟨_, rfl, _, rfl, _, _, rfl, rfl, (n : Int), _, rfl, ?_⟩
    rw [show ((n : Int) + 500 - n).toNat = 500 by omega]
    refine for_range (lo := (n : Int)) (n := 500) (fun i σ H2 => ∃ v1 : Option V, σ = [some (.ref l), some (.int n), v1] ∧ Same H H2 ∧ ∀ j, j < i → keepsN (rs.map RL.con) (n + j) = false) ⟨none, rfl, m1, fun j hj => by omega⟩ ?_ ?_
    · rintro i σ H2 hi ⟨v1, rfl, m2, hno⟩
      refine ⟨_, rfl, _, rfl, l, rs, n + i, by rw [Int.natCast_add]; rfl, R.same m2, g, by omega, fun H3 m3 => ⟨_, rfl, ?_⟩⟩
      cases hk : keepsN (rs.map RL.con) (n + i) with
      | true =>
        refine iteT ⟨_, rfl, ?_⟩
        have q := kk H3 (m2.trans m3)
        rw [nextK_some hi hno hk] at q
        have e : vOpt (some (n + i)) = .int ((n : Int) + i) := by show V.int ((n + i : Nat) : Int) = _; rw [Int.natCast_add]
        rw [e] at q
        exact q
      | false =>
        refine iteF ⟨_, rfl, m2.trans m3, fun j hj => ?_⟩
        by_cases hji : j < i
        · exact hno j hji
        · rw [show j = i by omega]; exact hk
    · rintro σ H2 ⟨v1, rfl, m2, hno⟩
      have q := kk H2 m2
      rw [nextK_none hno] at q
      exact q
end
section
variable {P : Program} {w : World} {K : PySem.W.Frag} {mg : Str → Option Value} {base : Heap}
def sp_check_bound : Sp := fun vs H Q _ => ∃ n : Nat, vs = [.int n] ∧ n ≤ 2000 ∧ Q .non H
theorem sc_check_bound : FnScope ["thing"] ["thing"] (defScope s_check_bound) := ⟨rfl, rfl, rfl, by decide +kernel, rfl, by decide +kernel, by decide +kernel⟩
theorem ok_check_bound {f f1 f2 : Addr} {fd fd1 fd2 : FuncData} {t1 : Tok} (D : Df K mg "check_bound" s_check_bound ["thing"] f fd) (Dis_number : Df K mg "is_number" s_is_number ["thing"] f2 fd2) (Dis_whole : Df K mg "is_whole" s_is_whole ["thing"] f1 fd1) (c_GREATEST_BOUND : mg "GREATEST_BOUND" = some (.int 2000 t1)) (T : Blt mg) : FnOk P w K mg base CX0 3 f fd ["thing"] sp_check_bound := by
  have Gis_number : FnOk P w K mg base CX0 2 f2 fd2 ["thing"] sp_is_number := ok_is_number Dis_number Dis_whole T
  refine D.fn.ok sc_check_bound (fun vs H Q E h => ?_) (fun cdv A outer s H vs Q E hr h => ?_)
  · obtain ⟨n, rfl, _⟩ := h; rfl
  · obtain ⟨n, rfl, hn, kk⟩ := h
    refine ⟨_, (pss_one (ps_if (PW.pt (pw_or (pt_not (pt_val (pcall Dis_number Gis_number (hr.mono (by decide)) (pa_cons (pv 0) pa_nil)))) (pw_or1 (pt_cmpR op_gt (pv 0) (pe_glob (v := .int 2000) rfl c_GREATEST_BOUND ⟨_, rfl⟩) (nomark _)))))
        (pss_one ps_never)
        pss_nil)), ?_⟩
    refine ⟨_, rfl, (n : Int), rfl, _, rfl, ?_⟩
    rw [decide_eq_true (show (0 : Int) ≤ n by omega)]
    refine iteF ?_
    refine ⟨_, rfl, _, _, rfl, rfl, _, rfl, ?_⟩
    rw [decide_eq_false (show ¬ (2000 : Int) < n by omega)]
    exact iteF kk
def keptL (cs : List (Nat × List (List Int))) (n : Nat) : List Int := ((List.range n).filter (keepsN cs)).map fun k : Nat => (k : Int)
def sp_all_keeping : Sp := fun vs H Q _ => ∃ (l : Addr) (rs : List RL) (n : Nat), vs = [.ref l, .int n] ∧ RulesAt H l rs ∧ GoodRs rs ∧ n ≤ 2000 ∧ ∀ (p : Addr) (H' : Hp), H p = none → H' p = some (.lst ((keptL (rs.map RL.con) n).map V.int)) → Same H H' → Q (.ref p) H'
theorem sc_all_keeping : FnScope ["rules", "n"] ["rules", "n"] (defScope s_all_keeping) := ⟨rfl, rfl, rfl, by decide +kernel, rfl, by decide +kernel, by decide +kernel⟩
theorem ok_all_keeping {f f1 f2 f3 : Addr} {fd fd1 fd2 fd3 : FuncData} (D : Df K mg "all_keeping" s_all_keeping ["rules", "n"] f fd) (Dcheck_rules : Df K mg "check_rules" s_check_rules ["thing"] f1 fd1) (Gcheck_rules : FnOk P w K mg base CX0 8 f1 fd1 ["thing"] sp_check_rules) (Dcheck_bound : Df K mg "check_bound" s_check_bound ["thing"] f2 fd2) (Gcheck_bound : FnOk P w K mg base CX0 3 f2 fd2 ["thing"] sp_check_bound)
    (Dis_good_by_each : Df K mg "is_good_by_each" s_is_good_by_each ["rules", "n"] f3 fd3) (Gis_good_by_each : FnOk P w K mg base CX0 9 f3 fd3 ["rules", "n"] sp_is_good_by_each) (T : Blt mg) : FnOk P w K mg base CX0 10 f fd ["rules", "n"] sp_all_keeping := by
  refine D.fn.ok sc_all_keeping (fun vs H Q E h => ?_) (fun cdv A outer s H vs Q E hr h => ?_)
  · obtain ⟨l, rs, n, rfl, _⟩ := h; rfl
  · obtain ⟨l, rs, n, rfl, R, g, hn, kk⟩ := h
    refine ⟨_, (pss_cons (ps_expr (pcall Dcheck_rules Gcheck_rules (hr.mono (by decide)) (pa_cons (pv 0) pa_nil)))
      (pss_cons (ps_expr (pcall Dcheck_bound Gcheck_bound (hr.mono (by decide)) (pa_cons (pv 1) pa_nil)))
      (pss_one (ps_ret (pe_comp (show CScope (defScope s_all_keeping) _ "each" ["rules", "n"] ["rules"] [0] from ⟨rfl, by decide +kernel, by decide +kernel, rfl, by decide +kernel, rfl, by decide +kernel, by decide +kernel⟩) rfl (pi_range1 rfl T.n_range (pa_cons (pv 1) pa_nil)) (fun _ _ _ _ => (pts_one (pt_val (pcall Dis_good_by_each Gis_good_by_each (hr.mono (by decide)) (pa_cons (pv 1) (pa_cons (pv 0) pa_nil)))))) (fun _ _ _ _ => (pv 0))))))), ?_⟩
    refine ⟨_, rfl, l, rs, rfl, R, g, fun H1 m1 => ?_⟩
    refine ⟨_, rfl, n, rfl, hn, ?_⟩
    refine ⟨_, rfl, (n : Int), rfl, by omega, by omega, comp_range (lo := 0) (n := (n : Int).toNat) (fun i ys H4 => ys = (keptL (rs.map RL.con) i).map V.int ∧ Same H H4) ⟨by simp [keptL], m1⟩ ?_ ?_⟩
    · rintro i ys H4 hi ⟨rfl, m4⟩
      refine ⟨by unfold keptL; rw [List.length_map, List.length_map]; exact Nat.lt_of_le_of_lt (Nat.le_trans (List.length_filter_le _ _) (by rw [List.length_range]; exact show i ≤ 2000 by omega)) (by decide), ?_⟩
      refine ⟨_, rfl, _, rfl, l, rs, i, by rw [Int.zero_add]; rfl, R.same m4, g, Nat.lt_of_le_of_lt (show i ≤ 2000 by omega) (by decide), fun H5 m5 => ⟨_, rfl, ?_⟩⟩
      rw [Int.zero_add]
      cases hk : keepsN (rs.map RL.con) i with
      | true =>
        refine iteT ⟨_, rfl, ?_, m4.trans m5⟩
        unfold keptL
        rw [List.range_succ, List.filter_append]
        simp [hk]
      | false =>
        refine iteF ⟨?_, m4.trans m5⟩
        unfold keptL
        rw [List.range_succ, List.filter_append]
        simp [hk]
    · rintro ys H4 ⟨rfl, m4⟩ p hp
      refine kk p _ (m4.free hp) ?_ (m4.trans (same_upd hp))
      rw [upd_same, Int.toNat_natCast]
def sp_count_keeping : Sp := fun vs H Q _ => ∃ (l : Addr) (rs : List RL) (n : Nat), vs = [.ref l, .int n] ∧ RulesAt H l rs ∧ GoodRs rs ∧ n ≤ 2000 ∧ ∀ H' : Hp, Same H H' → Q (.int (keptL (rs.map RL.con) n).length) H'
theorem sc_count_keeping : FnScope ["rules", "n"] ["rules", "n"] (defScope s_count_keeping) := ⟨rfl, rfl, rfl, by decide +kernel, rfl, by decide +kernel, by decide +kernel⟩
theorem ok_count_keeping {f f1 : Addr} {fd fd1 : FuncData} (D : Df K mg "count_keeping" s_count_keeping ["rules", "n"] f fd) (Dall_keeping : Df K mg "all_keeping" s_all_keeping ["rules", "n"] f1 fd1) (Gall_keeping : FnOk P w K mg base CX0 10 f1 fd1 ["rules", "n"] sp_all_keeping) (T : Blt mg) : FnOk P w K mg base CX0 11 f fd ["rules", "n"] sp_count_keeping := by
  refine D.fn.ok sc_count_keeping (fun vs H Q E h => ?_) (fun cdv A outer s H vs Q E hr h => ?_)
  · obtain ⟨l, rs, n, rfl, _⟩ := h; rfl
  · obtain ⟨l, rs, n, rfl, R, g, hn, kk⟩ := h
    refine ⟨_, (pss_one (ps_ret (pe_callB (k_len K) (by rfl) T.n_len PySem.boot_len (pa_cons (pcall Dall_keeping Gall_keeping (hr.mono (by decide)) (pa_cons (pv 0) (pa_cons (pv 1) pa_nil))) pa_nil)))), ?_⟩
    refine ⟨_, rfl, _, rfl, l, rs, n, rfl, R, g, hn, fun p H1 hp hv m1 => ⟨p, _, rfl, .inl (SqL.of hv), ?_⟩⟩
    rw [List.length_map]
    exact kk H1 m1
end
end Lw
set_option Elab.async false
set_option linter.all false
set_option maxRecDepth 100000
namespace Lw
open PySem L2 PyProof.Rows
section
variable {P : Program} {w : World} {K : PySem.W.Frag} {mg : Str → Option Value} {base : Heap}
theorem any_in {ls : List (List Int)} {x : List Int} : ((ls.map tInts).any fun t => teq t (tInts x)) = decide (x ∈ ls) := by
  rw [List.any_map, Bool.eq_iff_iff, List.any_eq_true, decide_eq_true_iff]
  constructor
  · rintro ⟨y, hy, q⟩
    have q' : teq (tInts y) (tInts x) = true := q
    rw [teq_ints] at q'
    rw [← of_decide_eq_true q']; exact hy
  · intro h
    refine ⟨x, h, ?_⟩
    show teq (tInts x) (tInts x) = true
    rw [teq_ints]; exact decide_eq_true rfl
structure NewL (H H' : Hp) (l : Addr) (ws : List (Addr × List Int)) : Prop where
  sm : Same H H'
  nl : H l = none
  li : H' l = some (.lst (ws.map fun z => V.ref z.1))
  st : ∀ z ∈ ws, H z.1 = none ∧ z.1 ≠ l ∧ H' z.1 = some (.lst (z.2.map V.int))
theorem NewL.more {H H' : Hp} {l q : Addr} {ws : List (Addr × List Int)} {ms : List Int} (N : NewL H H' l ws) (hq : H' q = none) : NewL H (upd (upd H' q (.lst (ms.map V.int))) l (.lst (ws.map (fun z => V.ref z.1) ++ [.ref q]))) l (ws ++ [(q, ms)]) := by
  have nq : q ≠ l := fun z => by rw [z, N.li] at hq; cases hq
  refine ⟨fun b o e => ?_, N.nl, by rw [upd_same]; simp, fun z hz => ?_⟩
  · rw [upd_ne (ne_of_none e N.nl)]; exact same_upd hq _ _ (N.sm b o e)
  · rcases List.mem_append.mp hz with hz | hz
    · obtain ⟨h1, h2, h3⟩ := N.st z hz
      exact ⟨h1, h2, by rw [upd_ne h2]; exact same_upd hq _ _ h3⟩
    · have e : z = (q, ms) := by simpa using hz
      subst e
      exact ⟨N.sm.free hq, nq, by rw [upd_ne nq, upd_same]⟩
def sp_unlike_stretches : Sp := fun vs H Q _ => ∃ (l : Addr) (rs : List RL), vs = [.ref l] ∧ RulesAt H l rs ∧ GoodRs rs ∧ ∀ (p : Addr) (zs : List (Addr × List Int)) (H' : Hp), Same H H' → H p = none → (∀ z ∈ zs, H z.1 = none ∧ H' z.1 = some (.lst (z.2.map V.int))) → H' p = some (.lst (zs.map fun z => V.ref z.1)) → zs.map (·.2) = uni (allC (rs.map RL.con)) → zs.length ≤ 12 → Q (.ref p) H'
theorem sc_unlike_stretches : FnScope ["rules", "found", "rule", "stretch"] ["rules"] (defScope s_unlike_stretches) := ⟨rfl, rfl, rfl, by decide +kernel, rfl, by decide +kernel, by decide +kernel⟩
theorem ok_unlike_stretches {f : Addr} {fd : FuncData} (D : Df K mg "unlike_stretches" s_unlike_stretches ["rules"] f fd) (T : Blt mg) : FnOk P w K mg base CX0 1 f fd ["rules"] sp_unlike_stretches := by
  refine D.fn.ok sc_unlike_stretches (fun vs H Q E h => ?_) (fun cdv A outer s H vs Q E hr h => ?_)
  · obtain ⟨l, rs, rfl, _⟩ := h; rfl
  · obtain ⟨l, rs, rfl, R, g, kk⟩ := h
    have HU := HUof hr
    have h3 := g.len
    refine ⟨_, (pss_cons (ps_set (i := 1) sc_unlike_stretches.nd rfl (Or.inl rfl) (pe_lst pa_nil))
      (pss_cons (ps_for PassesOwn.never rfl (k_pi K (pv 0)) (pg_name (i := 2) sc_unlike_stretches.nd rfl (Or.inl rfl))
        (pss_one (ps_for PassesOwn.never rfl (k_pi K (pe_ix (k_ixT K) (pv 2) pe_int (fun _ _ => rfl))) (pg_name (i := 3) sc_unlike_stretches.nd rfl (Or.inl rfl))
          (pss_one (ps_if (pt_cmpR (k_notInT K HU) (pv 3) (pv 1) (by with_unfolding_all rfl))
            (pss_one (ps_expr (pe_bm PySem.F.plainAttrs_list PySem.F.slot_list_append PySem.F.type_list_append mt_append (pv 1) (pa_cons (pe_callTy (k_listOf K) (by rfl) T.n_list boot_list (pa_cons (pv 3) pa_nil)) pa_nil))))
            pss_nil)))))
      (pss_one (ps_ret (pe_callB (k_sortM K HU) (by rfl) T.n_sorted boot_sorted (pa_cons (pv 1) pa_nil)))))), ?_⟩
    refine ⟨(by decide : 0 ≤ sizeLine), fun fl hfl => ?_⟩
    have m1 := same_upd hfl (o := .lst [])
    refine ⟨_, rfl, l, rfl, ⟨_, SqL.of (m1 _ _ R.li)⟩, for_list (K := K) (a := l) (xs := rs.map fun x => V.ref x.r) (fun j σ H2 => ∃ (v1 v2 : Option V) (ws : List (Addr × List Int)), σ = [some (.ref l), some (.ref fl), v1, v2] ∧ NewL H H2 fl ws ∧ (ws.map (·.2)).Nodup ∧ (∀ y, y ∈ ws.map (·.2) ↔ y ∈ allC ((rs.take j).map RL.con)) ∧ ws.length ≤ 4 * j)
      ⟨none, none, [], rfl, ⟨m1, hfl, upd_same, by simp⟩, by simp, by simp [allC], Nat.zero_le _⟩ (fun j σ H2 _ ⟨_, _, _, _, N, _⟩ => SqL.of (N.sm _ _ R.li)) ?_ ?_⟩
    · rintro j y σ H2 hx ⟨v1, v2, ws, rfl, N2, hnd, hmem, hwl⟩
      rw [List.getElem?_map] at hx
      obtain ⟨x, hxj, e⟩ := Option.map_eq_some_iff.mp hx
      subst e
      have hxm := List.mem_of_getElem? hxj
      have hj : j < rs.length := (List.getElem?_eq_some_iff.mp hxj).1
      have h4 := g.z4 hxm
      have Rx := R.ru x hxm
      have R2 := Rx.same N2.sm
      refine ⟨_, rfl, x.r, _, _, V.ref x.bl, rfl, rfl, SqT.of R2.tu, rfl, x.bl, rfl, ⟨_, SqL.of R2.li⟩, for_list (K := K) (a := x.bl) (xs := x.zs.map fun z => V.ref z.1) (fun k σ H3 => ∃ (v2 : Option V) (ws : List (Addr × List Int)), σ = [some (.ref l), some (.ref fl), some (.ref x.r), v2] ∧ NewL H H3 fl ws ∧ (ws.map (·.2)).Nodup ∧ (∀ y, y ∈ ws.map (·.2) ↔ y ∈ allC ((rs.take j).map RL.con) ∨ y ∈ (x.zs.take k).map (·.2)) ∧ ws.length ≤ 4 * j + k)
        ⟨_, ws, rfl, N2, hnd, fun y => by rw [hmem]; simp, by omega⟩ (fun k σ H3 _ ⟨_, _, _, N, _⟩ => SqL.of (N.sm _ _ Rx.li)) ?_ ?_⟩
      · rintro k y σ H3 hx ⟨v2, ws, rfl, N3, hnd, hmem, hwl⟩
        rw [List.getElem?_map] at hx
        obtain ⟨z, hzk, e⟩ := Option.map_eq_some_iff.mp hx
        subst e
        have hzm := List.mem_of_getElem? hzk
        have hk : k < x.zs.length := (List.getElem?_eq_some_iff.mp hzk).1
        have hz3 := N3.sm _ _ (Rx.st z hzm)
        have hstep : ∀ y, (y ∈ allC ((rs.take j).map RL.con) ∨ y ∈ (x.zs.take (k + 1)).map (·.2)) ↔ (y ∈ allC ((rs.take j).map RL.con) ∨ y ∈ (x.zs.take k).map (·.2)) ∨ y = z.2 := fun y => by
          rw [List.take_succ, hzk, List.map_append, List.mem_append]
          simp [or_assoc]
        refine ⟨_, rfl, _, rfl, fl, _, (ws.map (·.2)).map tInts, tInts z.2, rfl, SqL.of N3.li, TrsAt.lists fun z hz => (N3.st z hz).2.2, TrAt.ints (SqL.of hz3), Nat.le_trans (tdeps_tInts _) (by decide), _, rfl, ?_⟩
        rw [any_in]
        by_cases hin : z.2 ∈ ws.map (·.2)
        · rw [decide_eq_true hin]
          refine iteF ⟨_, ws, rfl, N3, hnd, fun y => ?_, by omega⟩
          rw [hstep, ← hmem]
          exact ⟨.inl, fun q => q.elim id fun e => by rw [e]; exact hin⟩
        · rw [decide_eq_false hin]
          refine iteT ⟨_, rfl, .inl ⟨rfl, _, SqL.of N3.li⟩, _, rfl, z.1, _, rfl, .inl (SqL.of hz3), fun q hq => ?_⟩
          refine ⟨fl, _, _, rfl, rfl, same_upd hq _ _ N3.li, by rw [List.length_map]; exact Nat.lt_of_le_of_lt (show ws.length ≤ 16 by omega) (by decide), ?_⟩
          refine ⟨_, ws ++ [(q, z.2)], rfl, N3.more hq, ?_, fun y => ?_, by rw [List.length_append, List.length_singleton]; omega⟩
          · rw [List.map_append]
            refine List.nodup_append.mpr ⟨hnd, by simp, fun a ha c hc => ?_⟩
            have e : c = z.2 := by simpa using hc
            rw [e]; exact fun e2 => hin (by rw [← e2]; exact ha)
          · rw [hstep, ← hmem, List.map_append, List.mem_append]
            simp
      · rintro σ H3 ⟨v2, ws, rfl, N3, hnd, hmem, hwl⟩
        refine ⟨_, _, ws, rfl, N3, hnd, fun y => ?_, by rw [List.length_map] at hwl; omega⟩
        rw [hmem, List.length_map, List.take_length, List.take_succ, hxj]
        unfold allC
        rw [List.map_append, List.flatMap_append, List.mem_append]
        simp [RL.con]
    · rintro σ H2 ⟨v1, v2, ws, rfl, N2, hnd, hmem, hwl⟩
      rw [List.length_map] at hmem hwl
      rw [List.take_length] at hmem
      refine ⟨_, rfl, fl, ws, rfl, SqL.of N2.li, by omega, fun z hz => SqL.of (N2.st z hz).2.2, hnd, fun p zs hp pm pw => ?_⟩
      refine kk p zs _ (N2.sm.trans (same_upd hp)) (N2.sm.free hp) (fun z hz => ?_) upd_same (uni_of ?_ fun y => ?_) (by have := pm.length_eq; omega)
      · obtain ⟨h1, _, h2⟩ := N2.st z (pm.mem_iff.mp hz)
        exact ⟨h1, same_upd hp _ _ h2⟩
      · rw [LPw, List.pairwise_map]; exact pw
      · rw [(pm.map (·.2)).mem_iff]; exact hmem y
def sp_is_needless : Sp := fun vs H Q _ => ∃ (bl sa : Addr) (zs : List (Addr × List Int)) (st : List Int), vs = [.ref bl, .ref sa] ∧ H bl = some (.lst (zs.map fun z => V.ref z.1)) ∧ (∀ z ∈ zs, H z.1 = some (.lst (z.2.map V.int)) ∧ z.2 ≠ [] ∧ z.2.length ≤ 1000) ∧ H sa = some (.lst (st.map V.int)) ∧ zs.length ≤ 100 ∧ st.length ≤ 1000 ∧ ∀ H', Same H H' → Q (.bl (needless (zs.map (·.2)) st)) H'
theorem sc_is_needless : FnScope ["stretches", "stretch"] ["stretches", "stretch"] (defScope s_is_needless) := ⟨rfl, rfl, rfl, by decide +kernel, rfl, by decide +kernel, by decide +kernel⟩
theorem ok_is_needless {f f1 : Addr} {fd fd1 : FuncData} (D : Df K mg "is_needless" s_is_needless ["stretches", "stretch"] f fd) (Dstands_within : Df K mg "stands_within" s_stands_within ["stretch", "figures"] f1 fd1) (T : Blt mg) : FnOk P w K mg base CX0 2 f fd ["stretches", "stretch"] sp_is_needless := by
  have Gstands_within : FnOk P w K mg base CX0 1 f1 fd1 ["stretch", "figures"] sp_stands_within := ok_stands_within Dstands_within T
  refine D.fn.ok sc_is_needless (fun vs H Q E h => ?_) (fun cdv A outer s H vs Q E hr h => ?_)
  · obtain ⟨bl, sa, zs, st, rfl, _⟩ := h; rfl
  · obtain ⟨bl, sa, zs, st, rfl, hb, hz, hs, hl1, hl2, kk⟩ := h
    have HU := HUof hr
    refine ⟨_, (pss_one (ps_ret (pe_callB (k_any K rfl) (by rfl) T.n_any boot_any (pa_cons (pe_comp (show CScope (defScope s_is_needless) _ "other" ["stretches", "stretch"] ["stretch"] [1] from ⟨rfl, by decide +kernel, by decide +kernel, rfl, by decide +kernel, rfl, by decide +kernel, by decide +kernel⟩) rfl (k_pi K (pv 0)) (fun _ _ _ _ => pts_nil) (fun _ _ _ _ => (pe_and (pe_cmpR (k_neT K HU) (pv 0) (pv 1) (nomark _)) (pe_one (pcall Dstands_within Gstands_within (hr.mono (by decide)) (pa_cons (pv 0) (pa_cons (pv 1) pa_nil))))))) pa_nil)))), ?_⟩
    refine ⟨_, rfl, bl, rfl, ⟨_, SqL.of hb⟩, comp_list (K := K) (a := bl) (xs := zs.map fun z => V.ref z.1) (fun i ys H4 => ys = ((zs.take i).map fun z => decide (z.2 ≠ st) && hasS z.2 st).map V.bl ∧ Same H H4) ⟨by simp, Same.refl _⟩ (fun i ys H4 _ ⟨_, e⟩ => SqL.of (e _ _ hb)) ?_ ?_⟩
    · rintro j x ys H4 hx ⟨rfl, s4⟩
      rw [List.getElem?_map] at hx
      obtain ⟨z, hzj, e⟩ := Option.map_eq_some_iff.mp hx
      subst e
      have hzm := List.mem_of_getElem? hzj
      obtain ⟨h1, h2, h3⟩ := hz z hzm
      refine ⟨?_, ?_⟩
      · rw [List.length_map, List.length_map, List.length_take]
        exact Nat.lt_of_le_of_lt (Nat.le_trans (Nat.min_le_right _ _) hl1) (by decide)
      unfold tYes
      dsimp only
      rw [if_pos rfl]
      refine ⟨_, rfl, _, rfl, tInts z.2, tInts st, TrAt.ints (SqL.of (s4 _ _ h1)), TrAt.ints (SqL.of (s4 _ _ hs)), (by rw [tdep_tInts]; decide), _, rfl, ?_⟩
      have hlast : ∀ {b : Bool}, (decide (z.2 ≠ st) && hasS z.2 st) = b → ((zs.take (j + 1)).map fun z => decide (z.2 ≠ st) && hasS z.2 st).map V.bl = ((zs.take j).map fun z => decide (z.2 ≠ st) && hasS z.2 st).map V.bl ++ [V.bl b] := fun {b} hb => by
        rw [List.take_succ, hzj, List.map_append, List.map_append, ← hb]; rfl
      show if (!teq (tInts z.2) (tInts st)) = true then _ else _
      rw [teq_ints]
      by_cases hq : z.2 = st
      · rw [decide_eq_true hq]
        exact iteF ⟨(hlast (by simp [hq])).symm, s4⟩
      · rw [decide_eq_false hq]
        refine iteT ⟨_, rfl, _, rfl, z.1, sa, z.2, st, rfl, s4 _ _ h1, s4 _ _ hs, h2, h3, hl2, fun H5 s5 => ⟨(hlast (by simp [hq])).symm, s4.trans s5⟩⟩
    · rintro ys H4 ⟨rfl, s4⟩ Dd hD
      refine ⟨Dd, _, rfl, SqL.of upd_same, ?_⟩
      have q := kk _ (s4.trans (same_upd hD (o := .lst (((zs.take (zs.map fun z => V.ref z.1).length).map fun z => decide (z.2 ≠ st) && hasS z.2 st).map V.bl))))
      rw [List.length_map, List.take_length] at q ⊢
      unfold needless at q
      rw [List.any_map] at q ⊢
      exact q
def sp_one_rule (CNo CMa : Addr) : Sp := fun vs H Q E => ∃ (l : Addr) (rs : List RL), vs = [.ref l] ∧ RulesAt H l rs ∧ GoodRs rs ∧ (sameB (rs.map RL.con) = false → ∀ H', Same H H' → E (.ref CNo) none H') ∧
  (sameB (rs.map RL.con) = true → 4 < (needC (rs.map RL.con)).length → ∀ H', Same H H' → E (.ref CMa) none H') ∧
  (sameB (rs.map RL.con) = true → (needC (rs.map RL.con)).length ≤ 4 → ∀ (r nl : Addr) (zs : List (Addr × List Int)) (H' : Hp), Same H H' → RuleAt H' r (baseC (rs.map RL.con)) nl zs → zs.map (·.2) = needC (rs.map RL.con) → H r = none → H nl = none → (∀ z ∈ zs, H z.1 = none) → Q (.ref r) H')
theorem sc_one_rule : FnScope ["rules", "base", "stretches", "needed"] ["rules"] (defScope s_one_rule) := ⟨rfl, rfl, rfl, by decide +kernel, rfl, by decide +kernel, by decide +kernel⟩
theorem ok_one_rule {CNoRules CTooMany : Addr} {t1 : Tok} {f f1 f2 f3 f4 : Addr} {fd fd1 fd2 fd3 fd4 : FuncData} (D : Df K mg "one_rule" s_one_rule ["rules"] f fd) (Dcheck_rules : Df K mg "check_rules" s_check_rules ["thing"] f1 fd1) (Gcheck_rules : FnOk P w K mg base CX0 8 f1 fd1 ["thing"] sp_check_rules)
    (Dunlike_stretches : Df K mg "unlike_stretches" s_unlike_stretches ["rules"] f2 fd2) (Dis_needless : Df K mg "is_needless" s_is_needless ["stretches", "stretch"] f3 fd3) (Dstands_within : Df K mg "stands_within" s_stands_within ["stretch", "figures"] f4 fd4) (x_NoRules : ExcC K mg "NoRules" CNoRules) (x_TooMany : ExcC K mg "TooMany" CTooMany)
    (c_MOST_STRETCHES : mg "MOST_STRETCHES" = some (.int 4 t1)) (T : Blt mg) : FnOk P w K mg base (CX1 P w) 9 f fd ["rules"] (sp_one_rule CNoRules CTooMany) := by
  have Gunlike_stretches : FnOk P w K mg base CX0 1 f2 fd2 ["rules"] sp_unlike_stretches := ok_unlike_stretches Dunlike_stretches T
  have Gis_needless : FnOk P w K mg base CX0 2 f3 fd3 ["stretches", "stretch"] sp_is_needless := ok_is_needless Dis_needless Dstands_within T
  refine D.fn.ok1 sc_one_rule (fun vs H Q E h => ?_) (fun cdv A outer s H vs Q E hr h => ?_)
  · obtain ⟨l, rs, rfl, _⟩ := h; rfl
  · obtain ⟨l, rs, rfl, R, g, kNo, kMa, kOk⟩ := h
    have h3 := g.len
    refine ⟨_, (pss_cons (ps_expr (pcall Dcheck_rules Gcheck_rules (hr.mono (by decide)) (pa_cons (pv 0) pa_nil)))
      (pss_cons (ps_set (i := 1) sc_one_rule.nd rfl (Or.inr rfl) (pe_ix (k_ixT K) (pe_ix (k_ixL K) (pv 0) pe_int (fun _ _ => rfl)) pe_int (fun _ _ => rfl)))
      (pss_cons (ps_if (pt_val (pe_callB (k_any K rfl) (by rfl) T.n_any boot_any (pa_cons (pe_comp (show CScope (defScope s_one_rule) _ "rule" ["rules", "base", "stretches", "needed"] ["base"] [1] from ⟨rfl, by decide +kernel, by decide +kernel, rfl, by decide +kernel, rfl, by decide +kernel, by decide +kernel⟩) rfl (k_pi K (pv 0)) (fun _ _ _ _ => pts_nil) (fun _ _ _ _ => (pe_cmpR op_ne (pe_ix (k_ixT K) (pv 0) pe_int (fun _ _ => rfl)) (pv 1) (nomark _)))) pa_nil)))
        (pss_one (ps_raise x_NoRules pass_new rfl (pa_cons pe_str pa_nil)))
        pss_nil)
      (pss_cons (ps_set (i := 2) sc_one_rule.nd rfl (Or.inr rfl) (pcall Dunlike_stretches Gunlike_stretches (hr.mono (by decide)) (pa_cons (pv 0) pa_nil)))
      (pss_cons (ps_setComp (i := 3) (show CScope (defScope s_one_rule) _ "stretch" ["rules", "base", "stretches", "needed"] ["stretches"] [2] from ⟨rfl, by decide +kernel, by decide +kernel, rfl, by decide +kernel, rfl, by decide +kernel, by decide +kernel⟩) rfl sc_one_rule.nd rfl (Or.inl rfl) (k_pi K (pv 2)) (fun _ _ _ _ => (pts_one (pt_not (pt_val (pcall Dis_needless Gis_needless (hr.mono (by decide)) (pa_cons (pv 1) (pa_cons (pv 0) pa_nil))))))) (fun _ _ _ _ => (pv 0)))
      (pss_cons (ps_if (pt_cmpR op_gt (pe_callB (k_len K) (by rfl) T.n_len PySem.boot_len (pa_cons (pv 3) pa_nil)) (pe_glob (v := .int 4) rfl c_MOST_STRETCHES ⟨_, rfl⟩) (nomark _))
        (pss_one (ps_raise x_TooMany pass_new rfl (pa_cons pe_str pa_nil)))
        pss_nil)
      (pss_one (ps_ret (pe_tup (pa_cons (pv 1) (pa_cons (pv 3) pa_nil))))))))))), ?_⟩
    refine ⟨_, rfl, l, rs, rfl, R, g, fun H1 m1 => ?_⟩
    obtain ⟨x0, xr, hrs⟩ : ∃ x0 xr, rs = x0 :: xr := by
      cases rs with
      | nil => exact absurd rfl g.ne
      | cons a b => exact ⟨a, b, rfl⟩
    have hb0 : baseC (rs.map RL.con) = x0.b := by rw [hrs]; rfl
    have hx0 : x0 ∈ rs := by rw [hrs]; exact .head _
    have R1 := R.same m1
    refine ⟨_, rfl, l, _, _, V.ref x0.r, rfl, rfl, SqL.of R1.li, ?_, x0.r, _, _, V.int x0.b, rfl, rfl, SqT.of (R1.ru x0 hx0).tu, rfl, ?_⟩
    · exact atI_nat (j := 0) (by rw [List.getElem?_map, hrs]; rfl)
    refine ⟨_, rfl, l, rfl, ⟨_, SqL.of R1.li⟩, comp_list (K := K) (a := l) (xs := rs.map fun x => V.ref x.r) (fun i ys H4 => ys = ((rs.take i).map fun x => !decide (x.b = x0.b)).map V.bl ∧ H4 = H1) ⟨by simp, rfl⟩ (fun i ys H4 _ ⟨_, e⟩ => by rw [e]; exact SqL.of R1.li) ?_ ?_⟩
    · rintro j y ys H4 hx ⟨rfl, rfl⟩
      rw [List.getElem?_map] at hx
      obtain ⟨x, hxj, e⟩ := Option.map_eq_some_iff.mp hx
      subst e
      have hxm := List.mem_of_getElem? hxj
      refine ⟨?_, ?_⟩
      · rw [List.length_map, List.length_map, List.length_take]
        exact Nat.lt_of_le_of_lt (show min j rs.length ≤ 3 by omega) (by decide)
      unfold tYes
      dsimp only
      rw [if_pos rfl]
      refine ⟨_, rfl, x.r, _, _, V.int x.b, rfl, rfl, SqT.of (R1.ru x hxm).tu, rfl, _, rfl, rfl, ?_, rfl⟩
      rw [List.take_succ, hxj, List.map_append, List.map_append]
      have e : decide (V.int (x.b : Int) = V.int (x0.b : Int)) = decide (x.b = x0.b) := decide_eq_decide.mpr ⟨fun z => by injection z with z; omega, fun z => by rw [z]⟩
      rw [e]; rfl
    · rintro ys H4 ⟨rfl, rfl⟩ Dd hD
      rw [List.length_map, List.take_length]
      refine ⟨Dd, _, rfl, SqL.of upd_same, _, rfl, ?_⟩
      have m2 := m1.trans (same_upd hD (o := .lst ((rs.map fun x => !decide (x.b = x0.b)).map V.bl)))
      have hany : ((rs.map fun x => !decide (x.b = x0.b)).any id) = !sameB (rs.map RL.con) := by
        rw [Bool.eq_iff_iff, List.any_eq_true, Bool.not_eq_true']
        unfold sameB
        rw [hb0, List.all_eq_false]
        constructor
        · rintro ⟨v, hv, q⟩
          obtain ⟨x, hx, rfl⟩ := List.mem_map.mp hv
          refine ⟨x.con, List.mem_map.mpr ⟨x, hx, rfl⟩, ?_⟩
          have q' : (!decide (x.b = x0.b)) = true := q
          show ¬ decide (x.b = x0.b) = true
          intro z
          rw [z] at q'; cases q'
        · rintro ⟨c, hc, q⟩
          obtain ⟨x, hx, rfl⟩ := List.mem_map.mp hc
          refine ⟨_, List.mem_map.mpr ⟨x, hx, rfl⟩, ?_⟩
          have q' : ¬ decide (x.b = x0.b) = true := q
          show (!decide (x.b = x0.b)) = true
          cases z : decide (x.b = x0.b)
          · rfl
          · exact absurd z q'
      rw [hany]
      cases hsb : sameB (rs.map RL.con) with
      | false => exact iteT ⟨by decide, kNo hsb _ m2⟩
      | true =>
        refine iteF ?_
        refine ⟨_, rfl, l, rs, rfl, R.same m2, g, fun p zs H3 m3 hp hz hp3 hU hl12 => ?_⟩
        have gz : ∀ z ∈ zs, z.2 ≠ [] ∧ z.2.length ≤ 4 := fun z hzm => by
          have q : z.2 ∈ uni (allC (rs.map RL.con)) := by rw [← hU]; exact List.mem_map.mpr ⟨z, hzm, rfl⟩
          rw [mem_uni] at q
          obtain ⟨c, hc, hq⟩ := List.mem_flatMap.mp q
          obtain ⟨x, hx, rfl⟩ := List.mem_map.mp hc
          have gs := (g.good x hx).st _ hq
          exact ⟨gs.ne, gs.len⟩
        refine ⟨_, rfl, p, rfl, ⟨_, SqL.of hp3⟩, comp_list (K := K) (a := p) (xs := zs.map fun z => V.ref z.1) (fun i ys H4 => ys = ((zs.take i).filter fun z => !needless (zs.map (·.2)) z.2).map (fun z => V.ref z.1) ∧ Same H3 H4) ⟨by simp, Same.refl _⟩ (fun i ys H4 _ ⟨_, e⟩ => SqL.of (e _ _ hp3)) ?_ ?_⟩
        · rintro j y ys H4 hx ⟨rfl, m4⟩
          rw [List.getElem?_map] at hx
          obtain ⟨z, hzj, e⟩ := Option.map_eq_some_iff.mp hx
          subst e
          have hzm := List.mem_of_getElem? hzj
          refine ⟨?_, ?_⟩
          · rw [List.length_map]
            exact Nat.lt_of_le_of_lt (Nat.le_trans (List.length_filter_le _ _) (show (zs.take j).length ≤ 12 by rw [List.length_take]; omega)) (by decide)
          refine ⟨_, rfl, _, rfl, p, z.1, zs, z.2, rfl, m4 _ _ hp3, fun z hzm => ⟨m4 _ _ (hz z hzm).2, (gz z hzm).1, Nat.le_trans (gz z hzm).2 (by decide)⟩, m4 _ _ (hz z hzm).2, by omega, Nat.le_trans (gz z hzm).2 (by decide), fun H5 m5 => ⟨_, rfl, ?_⟩⟩
          cases hn : needless (zs.map (·.2)) z.2 with
          | true =>
            refine iteF ⟨?_, m4.trans m5⟩
            rw [List.take_succ, hzj, List.filter_append]
            simp [hn]
          | false =>
            refine iteT ⟨_, rfl, ?_, m4.trans m5⟩
            rw [List.take_succ, hzj, List.filter_append]
            simp [hn]
        · rintro ys H4 ⟨rfl, m4⟩ nl hnl
          rw [List.length_map, List.take_length]
          generalize hws : (zs.filter fun z => !needless (zs.map (·.2)) z.2) = ws
          have hw2 : ws.map (·.2) = needC (rs.map RL.con) := by
            unfold needC needed
            rw [← hU, ← hws, List.filter_map]
            rfl
          have hwl : ws.length = (needC (rs.map RL.con)).length := by rw [← hw2, List.length_map]
          have m14 := (m2.trans m3).trans m4
          have m5 := same_upd hnl (o := .lst (ws.map fun z => V.ref z.1))
          refine ⟨_, rfl, nl, _, rfl, .inl (SqL.of upd_same), _, _, rfl, rfl, _, rfl, ?_⟩
          rw [List.length_map, hwl]
          by_cases h4 : 4 < (needC (rs.map RL.con)).length
          · rw [decide_eq_true (show (4 : Int) < ((needC (rs.map RL.con)).length : Int) by omega)]
            exact iteT ⟨by decide, kMa hsb h4 _ (m14.trans m5)⟩
          · rw [decide_eq_false (show ¬ (4 : Int) < ((needC (rs.map RL.con)).length : Int) by omega)]
            refine iteF ⟨_, rfl, _, rfl, (by show 2 ≤ sizeLine; decide), fun tp htp => ?_⟩
            have hwm : ∀ z ∈ ws, z ∈ zs := fun z hzm => by rw [← hws] at hzm; exact (List.mem_filter.mp hzm).1
            have m6 := same_upd htp (o := .tup [.int x0.b, .ref nl])
            refine kOk hsb (by omega) tp nl ws _ ((m14.trans m5).trans m6) ⟨?_, m6 _ _ upd_same, fun z hzm => m6 _ _ (m5 _ _ (m4 _ _ (hz z (hwm z hzm)).2))⟩ hw2 ((m14.trans m5).free htp) (m14.free hnl) fun z hzm => m2.free (hz z (hwm z hzm)).1
            rw [hb0, upd_same]
end
end Lw
set_option Elab.async false
set_option linter.all false
set_option maxRecDepth 100000
namespace Lw
open PySem L2 PyProof.Rows
section
variable {P : Program} {w : World} {K : PySem.W.Frag} {mg : Str → Option Value} {base : Heap}
def sp_begins_one : Sp := fun vs H Q _ => ∃ (bl fa : Addr) (zs : List (Addr × List Int)) (fs : List Int), vs = [.ref bl, .ref fa] ∧ H bl = some (.lst (zs.map fun z => V.ref z.1)) ∧ (∀ z ∈ zs, H z.1 = some (.lst (z.2.map V.int))) ∧ H fa = some (.lst (fs.map V.int)) ∧ zs.length ≤ 100 ∧ ∀ H', Same H H' → Q (.bl (begs (zs.map (·.2)) fs)) H'
theorem sc_begins_one : FnScope ["bad", "figures"] ["bad", "figures"] (defScope s_begins_one) := ⟨rfl, rfl, rfl, by decide +kernel, rfl, by decide +kernel, by decide +kernel⟩
theorem ok_begins_one {f : Addr} {fd : FuncData} (D : Df K mg "begins_one" s_begins_one ["bad", "figures"] f fd) (T : Blt mg) : FnOk P w K mg base CX0 1 f fd ["bad", "figures"] sp_begins_one := by
  refine D.fn.ok sc_begins_one (fun vs H Q E h => ?_) (fun cdv A outer s H vs Q E hr h => ?_)
  · obtain ⟨bl, fa, zs, fs, rfl, _⟩ := h; rfl
  · obtain ⟨bl, fa, zs, fs, rfl, hb, hz, hf, hl1, kk⟩ := h
    have HU := HUof hr
    refine ⟨_, (pss_one (ps_ret (pe_callB (k_any K rfl) (by rfl) T.n_any boot_any (pa_cons (pe_comp (show CScope (defScope s_begins_one) _ "stretch" ["bad", "figures"] ["figures"] [1] from ⟨rfl, by decide +kernel, by decide +kernel, rfl, by decide +kernel, rfl, by decide +kernel, by decide +kernel⟩) rfl (k_pi K (pv 0)) (fun _ _ _ _ => pts_nil) (fun _ _ _ _ => (pe_cmpR (k_eqT K HU) (pe_slice (k_slL K) (pv 0) po_none (po_some (pe_callB (k_len K) (by rfl) T.n_len PySem.boot_len (pa_cons (pv 1) pa_nil)))) (pv 1) (nomark _)))) pa_nil)))), ?_⟩
    refine ⟨_, rfl, bl, rfl, ⟨_, SqL.of hb⟩, comp_list (K := K) (a := bl) (xs := zs.map fun z => V.ref z.1) (fun i ys H4 => ys = ((zs.take i).map fun z => decide (z.2.take fs.length = fs)).map V.bl ∧ Same H H4) ⟨by simp, Same.refl _⟩ (fun i ys H4 _ ⟨_, e⟩ => SqL.of (e _ _ hb)) ?_ ?_⟩
    · rintro j x ys H4 hx ⟨rfl, s4⟩
      rw [List.getElem?_map] at hx
      obtain ⟨z, hzj, e⟩ := Option.map_eq_some_iff.mp hx
      subst e
      have hzm := List.mem_of_getElem? hzj
      refine ⟨?_, ?_⟩
      · rw [List.length_map, List.length_map, List.length_take]
        exact Nat.lt_of_le_of_lt (Nat.le_trans (Nat.min_le_right _ _) hl1) (by decide)
      unfold tYes
      dsimp only
      rw [if_pos rfl]
      refine ⟨_, rfl, _, rfl, fa, _, rfl, .inl (SqL.of (s4 _ _ hf)), _, rfl, z.1, _, rfl, SqL.of (s4 _ _ (hz z hzm)), fun p hp => ?_⟩
      rw [List.length_map, cutV_upto, ← List.map_take]
      refine ⟨_, rfl, tInts (z.2.take fs.length), tInts fs, TrAt.ints (a := p) (SqL.of upd_same), TrAt.ints (a := fa) (SqL.of (same_upd hp _ _ (s4 _ _ hf))), (by rw [tdep_tInts]; decide), ?_, s4.trans (same_upd hp)⟩
      rw [List.take_succ, hzj]
      have e2 := teq_ints (z.2.take fs.length) fs
      show _ ++ [V.bl (teq _ _)] = _
      rw [e2]
      simp
    · rintro ys H4 ⟨rfl, s4⟩ Dd hD
      refine ⟨Dd, _, rfl, SqL.of upd_same, ?_⟩
      have q := kk _ (s4.trans (same_upd hD (o := .lst (((zs.take (zs.map fun z => V.ref z.1).length).map fun z => decide (z.2.take fs.length = fs)).map V.bl))))
      rw [List.length_map, List.take_length] at q ⊢
      unfold begs at q
      rw [List.any_map] at q ⊢
      exact q
def StandV (ls : List (List Int)) (fs : List Int) (H H' : Hp) (v : V) : Prop := (lacks ls fs = false ∧ v = .non) ∨ (lacks ls fs = true ∧ ∃ l, v = .ref l ∧ H l = none ∧ H' l = some (.lst ((tailS ls fs).map V.int)))
def sp_longest_stand : Sp := fun vs H Q _ => ∃ (bl fa : Addr) (zs : List (Addr × List Int)) (fs : List Int), vs = [.ref bl, .ref fa] ∧ H bl = some (.lst (zs.map fun z => V.ref z.1)) ∧ (∀ z ∈ zs, H z.1 = some (.lst (z.2.map V.int))) ∧ H fa = some (.lst (fs.map V.int)) ∧ zs.length ≤ 100 ∧ fs.length ≤ 1000 ∧ (∀ z ∈ zs, z.2 ≠ [] ∧ z.2.length ≤ 1000) ∧
  ∀ v H', StandV (zs.map (·.2)) fs H H' v → Same H H' → Q v H'
theorem sc_longest_stand : FnScope ["bad", "figures", "start"] ["bad", "figures"] (defScope s_longest_stand) := ⟨rfl, rfl, rfl, by decide +kernel, rfl, by decide +kernel, by decide +kernel⟩
theorem ok_longest_stand {f f1 f2 : Addr} {fd fd1 fd2 : FuncData} (D : Df K mg "longest_stand" s_longest_stand ["bad", "figures"] f fd) (Dlacks_all : Df K mg "lacks_all" s_lacks_all ["bad", "figures"] f1 fd1) (Glacks_all : FnOk P w K mg base CX0 2 f1 fd1 ["bad", "figures"] sp_lacks_all)
    (Dbegins_one : Df K mg "begins_one" s_begins_one ["bad", "figures"] f2 fd2) (T : Blt mg) : FnOk P w K mg base CX0 3 f fd ["bad", "figures"] sp_longest_stand := by
  have Gbegins_one : FnOk P w K mg base CX0 1 f2 fd2 ["bad", "figures"] sp_begins_one := ok_begins_one Dbegins_one T
  refine D.fn.ok sc_longest_stand (fun vs H Q E h => ?_) (fun cdv A outer s H vs Q E hr h => ?_)
  · obtain ⟨bl, fa, zs, fs, rfl, _⟩ := h; rfl
  · obtain ⟨bl, fa, zs, fs, rfl, hb, hz, hf, hl1, hl2, ne, kk⟩ := h
    refine ⟨_, (pss_cons (ps_if (pt_not (pt_val (pcall Dlacks_all Glacks_all (hr.mono (by decide)) (pa_cons (pv 0) (pa_cons (pv 1) pa_nil)))))
        (pss_one (ps_ret pe_non))
        pss_nil)
      (pss_cons (ps_for PassesOwn.never rfl (pi_range1 rfl T.n_range (pa_cons (pe_callB (k_len K) (by rfl) T.n_len PySem.boot_len (pa_cons (pv 1) pa_nil)) pa_nil)) (pg_name (i := 2) sc_longest_stand.nd rfl (Or.inl rfl))
        (pss_one (ps_if (pt_val (pcall Dbegins_one Gbegins_one (hr.mono (by decide)) (pa_cons (pv 0) (pa_cons (pe_slice (k_slL K) (pv 1) (po_some (pv 2)) po_none) pa_nil))))
          (pss_one (ps_ret (pe_slice (k_slL K) (pv 1) (po_some (pv 2)) po_none)))
          pss_nil)))
      (pss_one (ps_ret (pe_lst pa_nil))))), ?_⟩
    refine ⟨_, rfl, _, rfl, bl, fa, zs, fs, rfl, hb, hz, hf, hl1, hl2, ne, fun H1 s1 => ⟨_, rfl, ?_⟩⟩
    cases hL : lacks (zs.map (·.2)) fs with
    | false => exact iteT (kk _ _ (.inl ⟨hL, rfl⟩) s1)
    | true =>
      refine iteF ?_
      refine ⟨_, rfl, fa, _, rfl, .inl (SqL.of (s1 _ _ hf)), (((fs.map V.int).length : Nat) : Int), rfl, by rw [List.length_map]; omega, by rw [List.length_map]; omega, for_range (lo := 0) (n := (((fs.map V.int).length : Nat) : Int).toNat) (fun i σ H2 => ∃ v1 : Option V, σ = [some (.ref bl), some (.ref fa), v1] ∧ Same H H2 ∧ ∀ k, k < i → begs (zs.map (·.2)) (fs.drop k) = false) ⟨none, rfl, s1, fun k hk => by omega⟩ ?_ ?_⟩
      · rintro i σ H2 hi ⟨v1, rfl, s2, hno⟩
        have hi' : i < fs.length := by rw [List.length_map] at hi; omega
        refine ⟨_, rfl, _, rfl, _, rfl, _, rfl, fa, _, rfl, SqL.of (s2 _ _ hf), fun p hp => ?_⟩
        rw [Int.zero_add, cutV_from, ← List.map_drop]
        have t := s2.trans (same_upd hp (o := .lst ((fs.drop i).map V.int)))
        refine ⟨bl, p, zs, fs.drop i, rfl, t _ _ hb, fun z hzm => t _ _ (hz z hzm), upd_same, hl1, fun H3 s3 => ⟨_, rfl, ?_⟩⟩
        have t3 := t.trans s3
        cases hB : begs (zs.map (·.2)) (fs.drop i) with
        | true =>
          refine iteT ⟨_, rfl, _, rfl, _, rfl, fa, _, rfl, SqL.of (t3 _ _ hf), fun q hq => ?_⟩
          rw [cutV_from, ← List.map_drop]
          refine kk _ _ (.inr ⟨hL, q, rfl, t3.free hq, ?_⟩) (t3.trans (same_upd hq))
          rw [upd_same, tailS_at (by omega) hno hB]
        | false =>
          refine iteF ⟨_, rfl, t3, fun k hk => ?_⟩
          by_cases e : k < i
          · exact hno k e
          · have : k = i := by omega
            rw [this]; exact hB
      · rintro σ H2 ⟨v1, rfl, s2, hno⟩
        refine ⟨(by decide : 0 ≤ sizeLine), fun q hq => kk _ _ (.inr ⟨hL, q, rfl, s2.free hq, ?_⟩) (s2.trans (same_upd hq))⟩
        rw [upd_same, tailS_none (fun k hk => hno k (by rw [List.length_map]; omega))]
        rfl
end
section
variable {P : Program} {w : World} {K : PySem.W.Frag} {mg : Str → Option Value} {base : Heap} {T0 : Addr}
def lamP : Pos := ⟨138, 29, 138, 59⟩
def lamSc : Scope := match (defBody s_stands_of).getLast? with
  | some (.Return (some (.Call _ _ [⟨_, .Lambda _ _ sc _, _⟩] _)) _) => sc
  | _ => defScope s_stands_of
theorem sc_lam : FnScope ["each"] ["each"] lamSc := ⟨rfl, rfl, rfl, by decide +kernel, rfl, by decide +kernel, by decide +kernel⟩
theorem same_put {H H' : Hp} {p : Addr} {o : HO} (s : Same H H') (h : H p = none) : Same H (upd H' p o) := fun b u e => by rw [upd_ne (ne_of_none e h)]; exact s b u e
def SameL (T : Addr) (H H' : Hp) : Prop := ∀ b u, b ≠ T → H b = some u → H' b = some u
abbrev LT (T : Addr) (H : Hp) : Prop := LamTab T lamP ((("stands_of" : Str) ++ (".<locals>." : Str)) ++ ("<lambda>" : Str)) H
theorem SameL.of {T : Addr} {H H' : Hp} (s : Same H H') : SameL T H H' := fun b u _ e => s b u e
theorem SameL.trans {T : Addr} {H H1 H2 : Hp} (a : SameL T H H1) (b : SameL T H1 H2) : SameL T H H2 := fun c u h e => b c u h (a c u h e)
theorem LT.same {T : Addr} {H H' : Hp} (h : LT T H) (s : Same H H') : LT T H' := by
  rcases h with h | ⟨c, h1, h2⟩
  · exact .inl (s _ _ h)
  · exact .inr ⟨c, s _ _ h1, s _ _ h2⟩
theorem LT.lst {T : Addr} {H : Hp} (h : LT T H) {b : Addr} {xs : List V} (e : H b = some (.lst xs)) : b ≠ T := fun z => by
  rw [z] at e
  rcases h with h | ⟨c, h, _⟩
  · rw [h] at e; cases e
  · rw [h] at e; cases e
theorem LT.tup {T : Addr} {H : Hp} (h : LT T H) {b : Addr} {xs : List V} (e : H b = some (.tup xs)) : b ≠ T := fun z => by
  rw [z] at e
  rcases h with h | ⟨c, h, _⟩
  · rw [h] at e; cases e
  · rw [h] at e; cases e
theorem LT.none {T : Addr} {H : Hp} (h : LT T H) {b : Addr} (e : H b = none) : b ≠ T := fun z => by
  rw [z] at e
  rcases h with h | ⟨c, h, _⟩
  · rw [h] at e; cases e
  · rw [h] at e; cases e
def sp_stands_of (T : Addr) : Sp := fun vs H Q _ => ∃ (bl : Addr) (zs : List (Addr × List Int)), vs = [.ref bl] ∧ H bl = some (.lst (zs.map fun z => V.ref z.1)) ∧ (∀ z ∈ zs, H z.1 = some (.lst (z.2.map V.int))) ∧ zs.length ≤ 4 ∧ (∀ z ∈ zs, z.2 ≠ [] ∧ z.2.length ≤ 4) ∧ LT T H ∧
  ∀ (D : Addr) (ws : List (Addr × List Int)) (H' : Hp), H D = none → H' D = some (.lst (ws.map fun z => V.ref z.1)) → (∀ z ∈ ws, H z.1 = none ∧ H' z.1 = some (.lst (z.2.map V.int)) ∧ z.1 ≠ D) → StandsL (zs.map (·.2)) (ws.map (·.2)) → ws.length ≤ 13 → SameL T H H' → LT T H' → Q (.ref D) H'
theorem sc_stands_of : FnScope ["bad", "found", "stretch", "size", "stand"] ["bad"] (defScope s_stands_of) := ⟨rfl, rfl, rfl, by decide +kernel, rfl, by decide +kernel, by decide +kernel⟩
theorem ok_stands_of {f f1 c : Addr} {fd fd1 : FuncData} (D : Df K mg "stands_of" s_stands_of ["bad"] f fd) (hc : fd.code = .ref c) (hcT : PySem.W.codeHdIn K c T0 = true) (hBM : base.BuiltinsAt mg T0) (hgT : mainGlobals ≠ T0) (Dlacks_all : Df K mg "lacks_all" s_lacks_all ["bad", "figures"] f1 fd1) (Glacks_all : FnOk P w K mg base CX0 2 f1 fd1 ["bad", "figures"] sp_lacks_all) (T : Blt mg) :
    FnOk P w K mg base CX0 6 f fd ["bad"] (sp_stands_of T0) := by
  obtain ⟨oc, od, kV, doc, pm, an, cdv, ct, osl, rfl, lk, hcd⟩ := D.fn.ex
  obtain rfl : cdv = .ref c := hc
  refine fn_of lk hcd sc_stands_of (fun vs H Q E h => ?_) (fun A outer s H vs Q E hr h => ?_)
  · obtain ⟨bl, zs, rfl, _⟩ := h; rfl
  · obtain ⟨bl, zs, rfl, hb, hz, h4, hst, hLT, kk⟩ := h
    have HU := HUof hr
    have lam_body : ∀ (f' c' : Addr) (s' : Shared) (H' : Hp) (z : Addr × List Int), H' z.1 = some (.lst (z.2.map V.int)) → ∃ t, PE (cxOf CX0 P w K mg base ["each"] ((("stands_of" : Str) ++ (".<locals>." : Str)) ++ ("<lambda>" : Str)) lamSc f' (.ref c') (A.deeper (envOfC "stands_of" (defScope s_stands_of) s.heap.objs.size f (.ref c))).in1.in1 (envOfC "stands_of" (defScope s_stands_of) s.heap.objs.size f (.ref c) :: outer) s' H' E0)
        (match (defBody s_stands_of).getLast? with
          | some (.Return (some (.Call _ _ [⟨_, .Lambda _ b _ _, _⟩] _)) _) => b
          | _ => .Constant .none 0 ⟨0, 0, 0, 0⟩) t ∧
        t (start ["each"] [.ref z.1]) H' fun v H2 => ∃ p, v = .ref p ∧ H' p = none ∧ H2 = upd H' p (.tup [.int z.2.length, .ref z.1]) := by
      intro f' c' s' H' z hz'
      refine ⟨_, (pe_tup (pa_cons (pe_callB (k_len K) (by rfl) T.n_len PySem.boot_len (pa_cons (pv 0) pa_nil)) (pa_cons (pv 0) pa_nil))), ?_⟩
      refine ⟨_, rfl, z.1, _, rfl, .inl (SqL.of hz'), _, rfl, (by show 2 ≤ sizeLine; decide), fun p hp => ⟨p, rfl, hp, ?_⟩⟩
      rw [List.length_map]
    refine Exists.elim (?key : ∃ t, PSs (cxOf CX0 P w K mg base ["bad", "found", "stretch", "size", "stand"] "stands_of" (defScope s_stands_of) f (.ref c) A outer s H E).nox (defBody s_stands_of) t ∧ t { nx := fun _ H' => Q .non H', rt := Q } (start ["bad", "found", "stretch", "size", "stand"] [.ref bl]) H) fun t h => ⟨t, h.1.nox, h.2⟩
    refine ⟨_, (pss_cons (ps_set (i := 1) sc_stands_of.nd rfl (Or.inl rfl) (pe_lst (pa_cons (pe_lst pa_nil) pa_nil)))
      (pss_cons (ps_for PassesOwn.never rfl (k_pi K (pv 0)) (pg_name (i := 2) sc_stands_of.nd rfl (Or.inl rfl))
        (pss_one (ps_for PassesOwn.never rfl (pi_range2 rfl T.n_range (pa_cons pe_int (pa_cons (pe_callB (k_len K) (by rfl) T.n_len PySem.boot_len (pa_cons (pv 2) pa_nil)) pa_nil))) (pg_name (i := 3) sc_stands_of.nd rfl (Or.inl rfl))
          (pss_cons (ps_set (i := 4) sc_stands_of.nd rfl (Or.inl rfl) (pe_slice (k_slL K) (pv 2) po_none (po_some (pv 3))))
          (pss_one (ps_if (PW.pt (pw_and (pt_cmpR (k_notInT K HU) (pv 4) (pv 1) (by with_unfolding_all rfl)) (pw_and1 (pt_val (pcall Dlacks_all Glacks_all (hr.mono (by decide)) (pa_cons (pv 0) (pa_cons (pv 4) pa_nil)))))))
            (pss_one (ps_expr (pe_bm PySem.F.plainAttrs_list PySem.F.slot_list_append PySem.F.type_list_append mt_append (pv 1) (pa_cons (pv 4) pa_nil))))
            pss_nil))))))
      (pss_one (ps_ret (pe_sortKey (k := 1) (pv 1) rfl T.n_sorted (hr.mono (by decide)) rfl rfl rfl hcT hBM hgT sc_lam (fun _ _ _ _ => rfl) lam_body))))), ?_⟩
    have hls : ∀ st ∈ zs.map (·.2), st ≠ [] ∧ st.length ≤ 4 := fun st h => by obtain ⟨z, hz, rfl⟩ := List.mem_map.mp h; exact hst z hz
    refine ⟨(by decide : 0 ≤ sizeLine), fun e0 he0 => ⟨(by show 1 ≤ sizeLine; decide), fun fo hfo => ?_⟩⟩
    have hfoH : H fo = none := (same_upd he0).free hfo
    have nef : e0 ≠ fo := fun z => by rw [← z, upd_same] at hfo; cases hfo
    let Inv1 : List (Addr × List Int) → (List Int → Prop) → Hp → Prop := fun ws M H2 => H2 fo = some (.lst (ws.map fun z => V.ref z.1)) ∧ (∀ z ∈ ws, H z.1 = none ∧ H2 z.1 = some (.lst (z.2.map V.int)) ∧ z.1 ≠ fo) ∧ (ws.map (·.2)).Nodup ∧ (∀ x, x ∈ ws.map (·.2) ↔ M x) ∧ Same H H2
    let M1 : Nat → List Int → Prop := fun i x => x = [] ∨ ∃ z ∈ zs.take i, ∃ k, 1 ≤ k ∧ k < z.2.length ∧ x = z.2.take k ∧ lacks (zs.map (·.2)) x = true
    refine ⟨_, rfl, bl, rfl, ⟨_, SqL.of ((same_upd he0).trans (same_upd hfo) _ _ hb)⟩, for_list (K := K) (a := bl) (xs := zs.map fun z => V.ref z.1) (fun i σ H2 => ∃ (v2 v3 v4 : Option V) (ws : List (Addr × List Int)), σ = [some (.ref bl), some (.ref fo), v2, v3, v4] ∧ Inv1 ws (M1 i) H2 ∧ ws.length ≤ 1 + 3 * i)
      ⟨none, none, none, [(e0, [])], rfl, ⟨upd_same, fun z hz' => ?_, by simp, fun x => ?_, (same_upd he0).trans (same_upd hfo)⟩, by simp⟩ (fun i σ H2 _ ⟨_, _, _, _, _, ⟨_, _, _, _, e⟩, _⟩ => SqL.of (e _ _ hb)) ?_ ?_⟩
    · have e : z = (e0, []) := by simpa using hz'
      subst e
      exact ⟨he0, by rw [upd_ne nef, upd_same]; rfl, nef⟩
    · constructor
      · intro hx
        exact .inl (by simpa using hx)
      · rintro (rfl | ⟨z, hz', _⟩)
        · simp
        · simp at hz'
    · rintro i x σ H2 hx ⟨v2, v3, v4, ws, rfl, ⟨hF, hW, ndW, hM, sm⟩, hlen⟩
      rw [List.getElem?_map] at hx
      obtain ⟨z, hzj, e⟩ := Option.map_eq_some_iff.mp hx
      subst e
      have hzm := List.mem_of_getElem? hzj
      have hi4 : i < zs.length := (List.getElem?_eq_some_iff.mp hzj).1
      obtain ⟨hne, hz4⟩ := hst z hzm
      have hpos : 0 < z.2.length := List.length_pos_iff.mpr hne
      refine ⟨_, rfl, z.1, _, rfl, .inl (SqL.of (sm _ _ (hz z hzm))), 1, _, rfl, ?_, ?_⟩
      · rw [List.length_map]; omega
      rw [List.length_map]
      refine for_range (lo := 1) (n := ((z.2.length : Int) - 1).toNat) (fun j σ H3 => ∃ (v3 v4 : Option V) (ws : List (Addr × List Int)), σ = [some (.ref bl), some (.ref fo), some (.ref z.1), v3, v4] ∧ Inv1 ws (fun x => M1 i x ∨ ∃ k, 1 ≤ k ∧ k ≤ j ∧ x = z.2.take k ∧ lacks (zs.map (·.2)) x = true) H3 ∧ ws.length ≤ 1 + 3 * i + j)
        ⟨_, _, ws, rfl, ⟨hF, hW, ndW, fun x => ?_, sm⟩, hlen⟩ ?_ ?_
      · rw [hM]
        constructor
        · exact .inl
        · rintro (h | ⟨k, h1, h2, _⟩)
          · exact h
          · omega
      · rintro j σ H3 hj ⟨v3, v4, ws, rfl, ⟨hF, hW, ndW, hM, sm⟩, hlen⟩
        have hj' : j + 1 < z.2.length := by omega
        refine ⟨_, rfl, _, rfl, _, rfl, z.1, _, rfl, SqL.of (sm _ _ (hz z hzm)), fun p hp => ?_⟩
        rw [show (1 : Int) + (j : Int) = ((j + 1 : Nat) : Int) by omega, cutV_upto, ← List.map_take]
        have sm2 := sm.trans (same_upd hp (o := .lst ((z.2.take (j + 1)).map V.int)))
        have hF2 : (upd H3 p (.lst ((z.2.take (j + 1)).map V.int))) fo = some (.lst (ws.map fun z => V.ref z.1)) := same_upd hp _ _ hF
        have hW2 : ∀ y ∈ ws, H y.1 = none ∧ (upd H3 p (.lst ((z.2.take (j + 1)).map V.int))) y.1 = some (.lst (y.2.map V.int)) ∧ y.1 ≠ fo := fun y hy => ⟨(hW y hy).1, same_upd hp _ _ (hW y hy).2.1, (hW y hy).2.2⟩
        have npf : p ≠ fo := fun y => by rw [y, hF] at hp; cases hp
        have hpH : H p = none := sm.free hp
        generalize hx : z.2.take (j + 1) = x at *
        have hxl : x.length ≤ 4 := by rw [← hx, List.length_take]; omega
        have stay : (x ∈ ws.map (·.2) ∨ lacks (zs.map (·.2)) x = false) → ∀ y, y ∈ ws.map (·.2) ↔ (M1 i y ∨ ∃ k, 1 ≤ k ∧ k ≤ j + 1 ∧ y = z.2.take k ∧ lacks (zs.map (·.2)) y = true) := fun hor y => by
          constructor
          · intro hy
            rcases (hM y).mp hy with h | ⟨k, h1, h2, h3⟩
            · exact .inl h
            · exact .inr ⟨k, h1, by omega, h3⟩
          · rintro (h | ⟨k, h1, h2, h3, h4⟩)
            · exact (hM y).mpr (.inl h)
            · by_cases hk : k ≤ j
              · exact (hM y).mpr (.inr ⟨k, h1, hk, h3, h4⟩)
              · have : k = j + 1 := by omega
                rw [this, hx] at h3
                rw [h3] at h4 ⊢
                rcases hor with h | h
                · exact h
                · rw [h] at h4; cases h4
        refine ⟨_, rfl, _, rfl, fo, _, (ws.map (·.2)).map tInts, tInts x, rfl, SqL.of hF2, TrsAt.lists (fun y hy => (hW2 y hy).2.1), TrAt.ints (a := p) (SqL.of upd_same), Nat.le_trans (tdeps_tInts _) (by decide), _, rfl, ?_⟩
        rw [if_pos rfl, notin_any]
        by_cases hin : x ∈ ws.map (·.2)
        · rw [decide_eq_true hin]
          refine iteF ?_
          exact iteF ⟨_, _, ws, rfl, ⟨hF2, hW2, ndW, stay (.inl hin), sm2⟩, by omega⟩
        · rw [decide_eq_false hin]
          refine iteT ?_
          refine ⟨_, rfl, _, rfl, bl, p, zs, x, rfl, sm2 _ _ hb, fun y hy => sm2 _ _ (hz y hy), upd_same, by omega, by omega, fun y hy => ⟨(hst y hy).1, Nat.le_trans (hst y hy).2 (by decide)⟩, fun H4 s4 => ⟨_, rfl, ?_⟩⟩
          have sm4 := sm2.trans s4
          have hF4 := s4 _ _ hF2
          have hW4 : ∀ y ∈ ws, H y.1 = none ∧ H4 y.1 = some (.lst (y.2.map V.int)) ∧ y.1 ≠ fo := fun y hy => ⟨(hW2 y hy).1, s4 _ _ (hW2 y hy).2.1, (hW2 y hy).2.2⟩
          have hp4 := s4 _ _ (upd_same (H := H3) (a := p) (o := .lst (x.map V.int)))
          cases hLk : lacks (zs.map (·.2)) x with
          | false => exact iteF ⟨_, _, ws, rfl, ⟨hF4, hW4, ndW, stay (.inr hLk), sm4⟩, by omega⟩
          | true =>
            refine iteT ⟨_, rfl, .inl ⟨rfl, _, SqL.of hF4⟩, _, rfl, fo, _, _, rfl, rfl, hF4, by rw [List.length_map]; exact Nat.lt_of_le_of_lt (show ws.length ≤ 100 by omega) (by decide), ?_⟩
            refine ⟨_, _, ws ++ [(p, x)], rfl, ⟨by rw [upd_same, List.map_append]; rfl, fun y hy => ?_, ?_, fun y => ?_, same_put sm4 hfoH⟩, by rw [List.length_append, List.length_singleton]; omega⟩
            · rcases List.mem_append.mp hy with hy | hy
              · obtain ⟨a1, a2, a3⟩ := hW4 y hy
                exact ⟨a1, by rw [upd_ne a3]; exact a2, a3⟩
              · rw [List.mem_singleton.mp hy]
                exact ⟨hpH, by rw [upd_ne npf]; exact hp4, npf⟩
            · rw [List.map_append]
              refine List.nodup_append.mpr ⟨ndW, by simp, fun a ha b hb' => ?_⟩
              have e : b = x := by simpa using hb'
              rw [e]
              exact fun q => hin (q ▸ ha)
            · rw [List.map_append, List.mem_append]
              constructor
              · rintro (h | h)
                · rcases (hM y).mp h with h | ⟨k, h1, h2, h3⟩
                  · exact .inl h
                  · exact .inr ⟨k, h1, by omega, h3⟩
                · have e : y = x := by simpa using h
                  rw [e]
                  exact .inr ⟨j + 1, by omega, Nat.le_refl _, hx.symm, hLk⟩
              · rintro (h | ⟨k, h1, h2, h3, h4⟩)
                · exact .inl ((hM y).mpr (.inl h))
                · by_cases hk : k ≤ j
                  · exact .inl ((hM y).mpr (.inr ⟨k, h1, hk, h3, h4⟩))
                  · have : k = j + 1 := by omega
                    rw [this, hx] at h3
                    exact .inr (by simp [h3])
      · rintro σ H3 ⟨v3, v4, ws, rfl, ⟨hF, hW, ndW, hM, sm⟩, hlen⟩
        refine ⟨_, _, _, ws, rfl, ⟨hF, hW, ndW, fun x => ?_, sm⟩, by omega⟩
        rw [hM]
        constructor
        · rintro ((h | ⟨y, hy, h⟩) | ⟨k, h1, h2, h3⟩)
          · exact .inl h
          · exact .inr ⟨y, by rw [List.take_succ]; exact List.mem_append_left _ hy, h⟩
          · exact .inr ⟨z, by rw [List.take_succ, hzj]; simp, k, h1, by omega, h3⟩
        · rintro (h | ⟨y, hy, k, h1, h2, h3⟩)
          · exact .inl (.inl h)
          · rw [List.take_succ, hzj] at hy
            rcases List.mem_append.mp hy with hy | hy
            · exact .inl (.inr ⟨y, hy, k, h1, h2, h3⟩)
            · have e : y = z := by simpa using hy
              rw [e] at h2 h3
              exact .inr ⟨k, h1, by omega, h3⟩
    · rintro σ H2 ⟨v2, v3, v4, ws, rfl, ⟨hF, hW, ndW, hM, sm⟩, hlen⟩
      rw [List.length_map] at hM hlen
      refine ⟨_, rfl, fo, ws, rfl, hF, fun z hz' => (hW z hz').2.1, ndW, by omega, hLT.same sm, fun D ws' H3 hD hD3 up lt pm pw => ?_⟩
      have lt2 := hLT.same sm
      have inw : ∀ z ∈ ws', z ∈ ws := fun z hz' => pm.mem_iff.mp hz'
      refine kk D ws' _ (sm.free hD) upd_same (fun z hz' => ?_) ⟨fun x => ?_, by rw [List.pairwise_map]; exact pw⟩ (by rw [pm.length_eq]; omega) (fun b u hb' e => ?_) ?_
      · obtain ⟨a1, a2, a3⟩ := hW z (inw z hz')
        have n1 : z.1 ≠ D := ne_of_none a2 hD
        exact ⟨a1, by rw [upd_ne n1]; exact up _ _ (lt2.lst a2) a2, n1⟩
      · have e : x ∈ ws'.map (·.2) ↔ x ∈ ws.map (·.2) := (pm.map (·.2)).mem_iff
        rw [e, hM]
        show (x = [] ∨ _) ↔ (x = [] ∨ _)
        constructor
        · rintro (h | ⟨z, hz', k, h1, h2, h3, h4⟩)
          · exact .inl h
          · rw [List.take_length] at hz'
            exact .inr ⟨z.2, List.mem_map.mpr ⟨z, hz', rfl⟩, k, h1, h2, h3, h4⟩
        · rintro (h | ⟨st, hst', k, h1, h2, h3, h4⟩)
          · exact .inl h
          · obtain ⟨z, hz', rfl⟩ := List.mem_map.mp hst'
            exact .inr ⟨z, by rw [List.take_length]; exact hz', k, h1, h2, h3, h4⟩
      · have q := up b u hb' (sm _ _ e)
        rw [upd_ne (ne_of_none q hD3)]; exact q
      · exact LT.same (show LT T0 H3 from lt) (same_upd hD3)
end
end Lw
set_option Elab.async false
set_option linter.all false
set_option maxRecDepth 100000
namespace Lw
open PySem L2 PyProof.Rows
section
variable {P : Program} {w : World} {K : PySem.W.Frag} {mg : Str → Option Value} {base : Heap} {T0 : Addr}
def plc (ls ws : List (List Int)) (fs : List Int) : V := if lacks ls fs = true then .int ((ws.idxOf (tailS ls fs) : Nat) : Int) else .non
theorem not_of_lt_idxOf {x : List Int} : ∀ {xs : List (List Int)} {m : Nat}, m < xs.idxOf x → ∀ h : m < xs.length, xs[m] ≠ x
  | [], m, h, h' => by simp at h'
  | y :: ys, m, h, h' => by
    rw [List.idxOf_cons] at h
    by_cases e : y = x
    · subst e; simp at h
    · have e' : (y == x) = false := by simpa using e
      rw [e'] at h
      cases m with
      | zero => simpa using e
      | succ m => simpa using not_of_lt_idxOf (x := x) (xs := ys) (m := m) (by simpa using h) (by simpa using h')
def sp_place_behind : Sp := fun vs H Q _ => ∃ (bl Dd fa : Addr) (zs ws : List (Addr × List Int)) (fs : List Int), vs = [.ref bl, .ref Dd, .ref fa] ∧ H bl = some (.lst (zs.map fun z => V.ref z.1)) ∧ (∀ z ∈ zs, H z.1 = some (.lst (z.2.map V.int))) ∧ H Dd = some (.lst (ws.map fun z => V.ref z.1)) ∧ (∀ z ∈ ws, H z.1 = some (.lst (z.2.map V.int))) ∧ H fa = some (.lst (fs.map V.int)) ∧ zs.length ≤ 4 ∧ ws.length ≤ 13 ∧ fs.length ≤ 1000 ∧ (∀ z ∈ zs, z.2 ≠ [] ∧ z.2.length ≤ 4) ∧
  (lacks (zs.map (·.2)) fs = true → tailS (zs.map (·.2)) fs ∈ ws.map (·.2)) ∧ ∀ H', Same H H' → Q (plc (zs.map (·.2)) (ws.map (·.2)) fs) H'
theorem sc_place_behind : FnScope ["bad", "stands", "figures", "stand"] ["bad", "stands", "figures"] (defScope s_place_behind) := ⟨rfl, rfl, rfl, by decide +kernel, rfl, by decide +kernel, by decide +kernel⟩
theorem ok_place_behind {f f1 : Addr} {fd fd1 : FuncData} (D : Df K mg "place_behind" s_place_behind ["bad", "stands", "figures"] f fd) (Dlongest_stand : Df K mg "longest_stand" s_longest_stand ["bad", "figures"] f1 fd1) (Glongest_stand : FnOk P w K mg base CX0 3 f1 fd1 ["bad", "figures"] sp_longest_stand) : FnOk P w K mg base CX0 4 f fd ["bad", "stands", "figures"] sp_place_behind := by
  refine D.fn.ok sc_place_behind (fun vs H Q E h => ?_) (fun cdv A outer s H vs Q E hr h => ?_)
  · obtain ⟨bl, Dd, fa, zs, ws, fs, rfl, _⟩ := h; rfl
  · obtain ⟨bl, Dd, fa, zs, ws, fs, rfl, hb, hz, hD, hw, hf, h4, h13, hl, hst, hin, kk⟩ := h
    have HU := HUof hr
    refine ⟨_, (pss_cons (ps_set (i := 3) sc_place_behind.nd rfl (Or.inl rfl) (pcall Dlongest_stand Glongest_stand (hr.mono (by decide)) (pa_cons (pv 0) (pa_cons (pv 2) pa_nil))))
      (pss_cons (ps_if (pt_cmpR op_isN (pv 3) pe_non (nomark _))
        (pss_one (ps_ret pe_non))
        pss_nil)
      (pss_one (ps_ret (pe_bm PySem.F.plainAttrs_list PySem.F.slot_list_index PySem.F.type_list_index (k_indexT K HU) (pv 1) (pa_cons (pv 3) pa_nil)))))), ?_⟩
    refine ⟨_, rfl, _, rfl, bl, fa, zs, fs, rfl, hb, hz, hf, by omega, hl, fun z hz => ⟨(hst z hz).1, Nat.le_trans (hst z hz).2 (by decide)⟩, fun v H1 sv s1 => ?_⟩
    have q := kk H1 s1
    unfold plc at q
    rcases sv with ⟨hL, rfl⟩ | ⟨hL, l, rfl, hn, hv⟩
    · rw [hL, if_neg (by decide)] at q
      exact ⟨_, rfl, rfl, _, rfl, iteT q⟩
    · rw [if_pos hL] at q
      have hm := hin hL
      have hlt := List.idxOf_lt_length_iff.mpr hm
      refine ⟨_, rfl, rfl, _, rfl, iteF ?_⟩
      refine ⟨_, rfl, .inl ⟨rfl, _, SqL.of (s1 _ _ hD)⟩, _, rfl, Dd, _, _, (ws.map (·.2)).map tInts, tInts (tailS (zs.map (·.2)) fs), (ws.map (·.2)).idxOf (tailS (zs.map (·.2)) fs), rfl, rfl, SqL.of (s1 _ _ hD), TrsAt.lists (fun z hz => s1 _ _ (hw z hz)), TrAt.ints (a := l) (SqL.of hv), Nat.le_trans (tdeps_tInts _) (by decide), by rw [List.length_map]; exact hlt, ?_, ?_, q⟩
      · intro t ht
        rw [List.getElem?_map, List.getElem?_eq_getElem hlt, Option.map_some] at ht
        rw [← Option.some.inj ht, List.getElem_idxOf hlt, teq_ints, decide_eq_true rfl]
      · intro m t hm' ht
        rw [List.getElem?_map, List.getElem?_eq_getElem (Nat.lt_trans hm' hlt), Option.map_some] at ht
        rw [← Option.some.inj ht, teq_ints, decide_eq_false]
        intro e
        have q3 := not_of_lt_idxOf hm' (Nat.lt_trans hm' hlt)
        exact q3 e
def rowV (ls ws : List (List Int)) (b : Nat) (x : List Int) : List V := (List.range b).map fun (c : Nat) => plc ls ws (x ++ [(c : Int)])
def sp_steps_from : Sp := fun vs H Q _ => ∃ (r : Addr) (b : Nat) (bl : Addr) (zs : List (Addr × List Int)) (Dd : Addr) (ws : List (Addr × List Int)) (sa : Addr) (xs : List Int), vs = [.ref r, .ref Dd, .ref sa] ∧ RuleAt H r b bl zs ∧ GoodRule b (zs.map (·.2)) ∧ H Dd = some (.lst (ws.map fun z => V.ref z.1)) ∧ (∀ z ∈ ws, H z.1 = some (.lst (z.2.map V.int))) ∧ StandsL (zs.map (·.2)) (ws.map (·.2)) ∧ ws.length ≤ 13 ∧ H sa = some (.lst (xs.map V.int)) ∧ xs.length ≤ 100 ∧
  ∀ p H', H p = none → Same H H' → H' p = some (.lst (rowV (zs.map (·.2)) (ws.map (·.2)) b xs)) → Q (.ref p) H'
theorem sc_steps_from : FnScope ["rule", "stands", "stand"] ["rule", "stands", "stand"] (defScope s_steps_from) := ⟨rfl, rfl, rfl, by decide +kernel, rfl, by decide +kernel, by decide +kernel⟩
theorem ok_steps_from {f f1 : Addr} {fd fd1 : FuncData} (D : Df K mg "steps_from" s_steps_from ["rule", "stands", "stand"] f fd) (Dplace_behind : Df K mg "place_behind" s_place_behind ["bad", "stands", "figures"] f1 fd1) (Gplace_behind : FnOk P w K mg base CX0 4 f1 fd1 ["bad", "stands", "figures"] sp_place_behind) (T : Blt mg) : FnOk P w K mg base CX0 5 f fd ["rule", "stands", "stand"] sp_steps_from := by
  refine D.fn.ok sc_steps_from (fun vs H Q E h => ?_) (fun cdv A outer s H vs Q E hr h => ?_)
  · obtain ⟨r, b, bl, zs, Dd, ws, sa, xs, rfl, _⟩ := h; rfl
  · obtain ⟨r, b, bl, zs, Dd, ws, sa, xs, rfl, R, g, hD, hw, SL, h13, hs, hl, kk⟩ := h
    have h4 : zs.length ≤ 4 := by have := g.len; rwa [List.length_map] at this
    have ne : ∀ l ∈ zs.map (·.2), l ≠ [] := fun l hl => (g.st l hl).ne
    refine ⟨_, (pss_one (ps_ret (pe_comp (show CScope (defScope s_steps_from) _ "figure" ["rule", "stands", "stand"] ["stands", "rule", "stand"] [1, 0, 2] from ⟨rfl, by decide +kernel, by decide +kernel, rfl, by decide +kernel, rfl, by decide +kernel, by decide +kernel⟩) rfl (pi_range1 rfl T.n_range (pa_cons (pe_ix (k_ixT K) (pv 0) pe_int (fun _ _ => rfl)) pa_nil)) (fun _ _ _ _ => pts_nil) (fun _ _ _ _ => (pcall Dplace_behind Gplace_behind (hr.mono (by decide)) (pa_cons (pe_ix (k_ixT K) (pv 2) pe_int (fun _ _ => rfl)) (pa_cons (pv 1) (pa_cons (pe_op op_cat (pv 3) (pe_lst (pa_cons (pv 0) pa_nil))) pa_nil)))))))), ?_⟩
    have b16 := g.b16
    refine ⟨_, rfl, r, _, _, V.int b, rfl, rfl, SqT.of R.tu, rfl, (b : Int), rfl, by omega, by omega, comp_range (lo := 0) (n := (b : Int).toNat) (fun i ys H4 => ys = rowV (zs.map (·.2)) (ws.map (·.2)) i xs ∧ Same H H4) ⟨rfl, Same.refl _⟩ ?_ ?_⟩
    · rintro i ys H4 hi ⟨rfl, s4⟩
      have hi' : i < b := by omega
      refine ⟨?_, ?_⟩
      · unfold rowV
        rw [List.length_map, List.length_range]
        exact Nat.lt_of_lt_of_le (show i < 16 by omega) (by decide)
      unfold tYes
      dsimp only
      rw [if_pos rfl]
      have R4 := R.same s4
      have hs4 := s4 _ _ hs
      refine ⟨_, rfl, r, _, _, V.ref bl, rfl, rfl, SqT.of R4.tu, rfl, _, rfl, _, rfl, _, rfl, (by show 1 ≤ sizeLine; decide), fun p1 q1 => ?_⟩
      have n1 : sa ≠ p1 := ne_of_none hs4 q1
      refine ⟨sa, p1, _, _, rfl, rfl, by rw [upd_ne n1]; exact hs4, upd_same, by rw [List.length_map]; exact Nat.le_trans (show xs.length + 1 ≤ 101 by omega) (by decide), fun p2 q2 => ?_⟩
      have t2 := s4.trans ((same_upd q1 (o := .lst [V.int (0 + (i : Int))])).trans (same_upd q2 (o := .lst (xs.map V.int ++ [V.int (0 + (i : Int))]))))
      have R5 := R.same t2
      refine ⟨bl, Dd, p2, zs, ws, xs ++ [0 + (i : Int)], rfl, R5.li, R5.st, t2 _ _ hD, fun z hz => t2 _ _ (hw z hz), by rw [upd_same, List.map_append]; rfl, h4, h13, by rw [List.length_append, List.length_singleton]; omega, fun z hz => ⟨(g.st _ (List.mem_map.mpr ⟨z, hz, rfl⟩)).ne, (g.st _ (List.mem_map.mpr ⟨z, hz, rfl⟩)).len⟩, fun h => (SL.mem _).mpr (tailS_isSt ne h), fun H5 s5 => ⟨?_, t2.trans s5⟩⟩
      unfold rowV
      rw [List.range_succ, List.map_append, Int.zero_add]
      rfl
    · rintro ys H4 ⟨rfl, s4⟩ p hp
      refine kk p _ (s4.free hp) (s4.trans (same_upd hp)) ?_
      rw [upd_same, Int.toNat_natCast]
def stepsV (ls ws : List (List Int)) (b : Nat) : List (List V) := ws.map (rowV ls ws b) ++ [V.int (ws.length : Nat) :: (rowV ls ws b []).drop 1]
def sp_all_steps : Sp := fun vs H Q _ => ∃ (r : Addr) (b : Nat) (bl : Addr) (zs : List (Addr × List Int)) (Dd : Addr) (ws : List (Addr × List Int)), vs = [.ref r, .ref Dd] ∧ RuleAt H r b bl zs ∧ GoodRule b (zs.map (·.2)) ∧ H Dd = some (.lst (ws.map fun z => V.ref z.1)) ∧ (∀ z ∈ ws, H z.1 = some (.lst (z.2.map V.int))) ∧ StandsL (zs.map (·.2)) (ws.map (·.2)) ∧ ws.length ≤ 13 ∧
  ∀ (p : Addr) (rs : List (Addr × List V)) (H' : Hp), H p = none → Same H H' → H' p = some (.lst (rs.map fun z => V.ref z.1)) → (∀ z ∈ rs, H z.1 = none ∧ H' z.1 = some (.lst z.2)) → rs.map (·.2) = stepsV (zs.map (·.2)) (ws.map (·.2)) b → Q (.ref p) H'
theorem sc_all_steps : FnScope ["rule", "stands", "steps"] ["rule", "stands"] (defScope s_all_steps) := ⟨rfl, rfl, rfl, by decide +kernel, rfl, by decide +kernel, by decide +kernel⟩
theorem ok_all_steps {f f1 : Addr} {fd fd1 : FuncData} (D : Df K mg "all_steps" s_all_steps ["rule", "stands"] f fd) (Dsteps_from : Df K mg "steps_from" s_steps_from ["rule", "stands", "stand"] f1 fd1) (Gsteps_from : FnOk P w K mg base CX0 5 f1 fd1 ["rule", "stands", "stand"] sp_steps_from) (T : Blt mg) : FnOk P w K mg base CX0 6 f fd ["rule", "stands"] sp_all_steps := by
  refine D.fn.ok sc_all_steps (fun vs H Q E h => ?_) (fun cdv A outer s H vs Q E hr h => ?_)
  · obtain ⟨r, b, bl, zs, Dd, ws, rfl, _⟩ := h; rfl
  · obtain ⟨r, b, bl, zs, Dd, ws, rfl, R, g, hD, hw, SL, h13, kk⟩ := h
    have l3 : ∀ z ∈ ws, z.2.length ≤ 3 := fun z hz => isSt_len (fun st h => (g.st st h).len) ((SL.mem _).mp (List.mem_map.mpr ⟨z, hz, rfl⟩))
    obtain ⟨w1, hw1⟩ := SL.first
    refine ⟨_, (pss_cons (ps_setComp (i := 2) (show CScope (defScope s_all_steps) _ "stand" ["rule", "stands", "steps"] ["rule", "stands"] [0, 1] from ⟨rfl, by decide +kernel, by decide +kernel, rfl, by decide +kernel, rfl, by decide +kernel, by decide +kernel⟩) rfl sc_all_steps.nd rfl (Or.inl rfl) (k_pi K (pv 1)) (fun _ _ _ _ => pts_nil) (fun _ _ _ _ => (pcall Dsteps_from Gsteps_from (hr.mono (by decide)) (pa_cons (pv 1) (pa_cons (pv 2) (pa_cons (pv 0) pa_nil))))))
      (pss_one (ps_ret (pe_op op_cat (pv 2) (pe_lst (pa_cons (pe_op op_cat (pe_lst (pa_cons (pe_callB (k_len K) (by rfl) T.n_len PySem.boot_len (pa_cons (pv 1) pa_nil)) pa_nil)) (pe_slice (k_slL K) (pe_ix (k_ixL K) (pv 2) pe_int (fun _ _ => rfl)) (po_some pe_int) po_none)) pa_nil)))))), ?_⟩
    refine ⟨_, rfl, Dd, rfl, ⟨_, SqL.of hD⟩, comp_list (K := K) (a := Dd) (xs := ws.map fun z => V.ref z.1) (fun i ys H4 => ∃ rs : List (Addr × List V), ys = (rs.map fun z => V.ref z.1) ∧ (∀ z ∈ rs, H z.1 = none ∧ H4 z.1 = some (.lst z.2)) ∧ rs.map (·.2) = (ws.take i).map (fun z => rowV (zs.map (·.2)) (ws.map (·.2)) b z.2) ∧ Same H H4) ⟨[], rfl, fun z hz => (by cases hz), rfl, Same.refl _⟩ (fun i ys H4 _ ⟨_, _, _, _, e⟩ => SqL.of (e _ _ hD)) ?_ ?_⟩
    · rintro j x ys H4 hx ⟨rs, rfl, hrs, hr2, s4⟩
      rw [List.getElem?_map] at hx
      obtain ⟨z, hzj, e⟩ := Option.map_eq_some_iff.mp hx
      subst e
      have hzm := List.mem_of_getElem? hzj
      refine ⟨?_, ?_⟩
      · have e1 := congrArg List.length hr2
        rw [List.length_map, List.length_map, List.length_take] at e1
        rw [List.length_map, e1]
        exact Nat.lt_of_le_of_lt (Nat.le_trans (Nat.min_le_right _ _) h13) (by decide)
      unfold tYes
      dsimp only
      rw [if_pos rfl]
      refine ⟨_, rfl, _, rfl, _, rfl, r, b, bl, zs, Dd, ws, z.1, z.2, rfl, R.same s4, g, s4 _ _ hD, fun z hz => s4 _ _ (hw z hz), SL, h13, s4 _ _ (hw z hzm), Nat.le_trans (l3 z hzm) (by decide), fun p H5 hp s5 hv => ?_⟩
      refine ⟨rs ++ [(p, rowV (zs.map (·.2)) (ws.map (·.2)) b z.2)], by simp, fun y hy => ?_, ?_, s4.trans s5⟩
      · rcases List.mem_append.mp hy with h | h
        · exact ⟨(hrs y h).1, s5 _ _ (hrs y h).2⟩
        · rw [List.mem_singleton] at h
          subst h
          exact ⟨s4.free hp, hv⟩
      · rw [List.map_append, hr2, List.take_succ, hzj]
        simp
    · rintro ys H4 ⟨rs, rfl, hrs, hr2, s4⟩ p hp
      have hl2 := congrArg List.length hr2
      rw [List.length_map, List.take_length] at hr2
      rw [List.length_map, List.length_map, List.length_take, List.length_map, Nat.min_self] at hl2
      obtain ⟨w0, ws', rfl⟩ : ∃ w0 ws', ws = w0 :: ws' := by
        cases ws with
        | nil => simp at hw1
        | cons a b => exact ⟨a, b, rfl⟩
      have hw0 : w0.2 = [] := by
        rw [List.map_cons] at hw1
        exact (List.cons.inj hw1).1
      obtain ⟨r0, rs', rfl⟩ : ∃ r0 rs', rs = r0 :: rs' := by
        cases rs with
        | nil => simp at hl2
        | cons a b => exact ⟨a, b, rfl⟩
      have hr0 : r0.2 = rowV (zs.map (·.2)) ((w0 :: ws').map (·.2)) b [] := by
        have e := (List.cons.inj hr2).1
        rw [← hw0]
        exact e
      have t4 := s4.trans (same_upd hp (o := .lst ((r0 :: rs').map fun z => V.ref z.1)))
      have hr04 : ∀ z ∈ r0 :: rs', upd H4 p (.lst ((r0 :: rs').map fun z => V.ref z.1)) z.1 = some (.lst z.2) := fun z hz => same_upd hp _ _ (hrs z hz).2
      refine ⟨_, rfl, _, rfl, Dd, _, rfl, .inl (SqL.of (t4 _ _ hD)), (by show 1 ≤ sizeLine; decide), fun p1 q1 => ?_⟩
      have u1 := same_upd q1 (o := .lst [V.int (((w0 :: ws').map fun z => V.ref z.1).length : Nat)])
      refine ⟨_, rfl, p, _, _, V.ref r0.1, rfl, rfl, SqL.of (u1 _ _ upd_same), atI_nat (j := 0) rfl, _, rfl, r0.1, _, rfl, SqL.of (u1 _ _ (hr04 r0 List.mem_cons_self)), fun p2 q2 => ?_⟩
      have hb1 : r0.2.length ≤ 16 := by
        rw [hr0]
        unfold rowV
        rw [List.length_map, List.length_range]
        exact g.b16
      have u2 := u1.trans (same_upd q2 (o := .lst (cutV r0.2 (some 1) none)))
      refine ⟨p1, p2, _, _, rfl, rfl, same_upd q2 _ _ upd_same, upd_same, ?_, fun p3 q3 => ?_⟩
      · rw [show (1 : Int) = ((1 : Nat) : Int) from rfl, cutV_from, List.length_drop, List.length_singleton]
        exact Nat.le_trans (show 1 + (r0.2.length - 1) ≤ 100 by omega) (by decide)
      have ev : ([V.int (((w0 :: ws').map fun z => V.ref z.1).length : Nat)] ++ cutV r0.2 (some 1) none) = V.int (((w0 :: ws').map (·.2)).length : Nat) :: (rowV (zs.map (·.2)) ((w0 :: ws').map (·.2)) b []).drop 1 := by
        rw [show (1 : Int) = ((1 : Nat) : Int) from rfl, cutV_from, hr0, List.length_map, List.length_map]
        rfl
      have u3 := u2.trans (same_upd q3 (o := .lst ([V.int (((w0 :: ws').map fun z => V.ref z.1).length : Nat)] ++ cutV r0.2 (some 1) none)))
      refine ⟨(by show 1 ≤ sizeLine; decide), fun p4 q4 => ?_⟩
      have u4 := u3.trans (same_upd q4 (o := .lst [V.ref p3]))
      refine ⟨p, p4, _, _, rfl, rfl, u4 _ _ upd_same, upd_same, ?_, fun p5 q5 => ?_⟩
      · rw [List.length_map, List.length_singleton]
        exact Nat.le_trans (show (r0 :: rs').length + 1 ≤ 100 by omega) (by decide)
      have u5 := u4.trans (same_upd q5 (o := .lst ((r0 :: rs').map (fun z => V.ref z.1) ++ [V.ref p3])))
      refine kk p5 (r0 :: rs' ++ [(p3, [V.int (((w0 :: ws').map fun z => V.ref z.1).length : Nat)] ++ cutV r0.2 (some 1) none)]) _ (t4.free (u4.free q5)) (t4.trans u5) ?_ ?_ ?_
      · rw [upd_same, List.map_append]
        rfl
      · intro z hz
        rcases List.mem_append.mp hz with h | h
        · exact ⟨(hrs z h).1, u5 _ _ (hr04 z h)⟩
        · rw [List.mem_singleton] at h
          subst h
          exact ⟨t4.free (u2.free q3), same_upd q5 _ _ (same_upd q4 _ _ upd_same)⟩
      · rw [List.map_append, hr2, ev]
        unfold stepsV
        rw [List.map_map]
        rfl
end
end Lw
set_option Elab.async false
set_option linter.all false
set_option maxRecDepth 100000
namespace Lw
open PySem L2 PyProof.Rows
structure ClT (K : PySem.W.Frag) (mg : Str → Option Value) (C : Addr) : Prop where
  cl : Cls K C
  nm : mg "Tails" = some (.ref C)
  n_base : NoAttr K C "base"
  n_outset : NoAttr K C "outset"
  n_steps : NoAttr K C "steps"
  n_layers : NoAttr K C "layers"
def fldT (b n : Nat) (sa la : Addr) : List (Str × V) := putF "layers" (.ref la) (putF "steps" (.ref sa) (putF "outset" (.int n) (putF "base" (.int b) [])))
theorem fldT_base (b n : Nat) (sa la : Addr) : (fldT b n sa la).lookup ("base" : Str) = some (.int b) := by
  unfold fldT
  rw [lookup_putF, if_neg (by decide +kernel), lookup_putF, if_neg (by decide +kernel), lookup_putF, if_neg (by decide +kernel), lookup_putF, if_pos rfl]
theorem fldT_outset (b n : Nat) (sa la : Addr) : (fldT b n sa la).lookup ("outset" : Str) = some (.int n) := by
  unfold fldT
  rw [lookup_putF, if_neg (by decide +kernel), lookup_putF, if_neg (by decide +kernel), lookup_putF, if_pos rfl]
theorem fldT_steps (b n : Nat) (sa la : Addr) : (fldT b n sa la).lookup ("steps" : Str) = some (.ref sa) := by
  unfold fldT
  rw [lookup_putF, if_neg (by decide +kernel), lookup_putF, if_pos rfl]
theorem fldT_layers (b n : Nat) (sa la : Addr) : (fldT b n sa la).lookup ("layers" : Str) = some (.ref la) := by
  unfold fldT
  rw [lookup_putF, if_pos rfl]
theorem fldT_no (b n : Nat) (sa la : Addr) {m : Str} (h1 : ¬ m = "layers") (h2 : ¬ m = "steps") (h3 : ¬ m = "outset") (h4 : ¬ m = "base") : (fldT b n sa la).lookup m = none := by
  unfold fldT
  rw [lookup_putF, if_neg h1, lookup_putF, if_neg h2, lookup_putF, if_neg h3, lookup_putF, if_neg h4]
  rfl
def layerV (ls ws : List (List Int)) (b t : Nat) : List Int := (ws.map fun x => ((cnt ls b t x : Nat) : Int)) ++ [((cntO ls b t : Nat) : Int)]
def stepV (ls ws : List (List Int)) : Option (List Int) → Nat → V
  | some x, c => plc ls ws (x ++ [(c : Int)])
  | none, c => if c = 0 then .int (ws.length : Nat) else plc ls ws [(c : Int)]
theorem stepV_none (ls ws : List (List Int)) (c : Nat) : stepV ls ws none c = if c = 0 then .int (ws.length : Nat) else plc ls ws [(c : Int)] := rfl
theorem stepC_some (ls : List (List Int)) (b t : Nat) (x : List Int) (c : Nat) : stepC ls b t (some x) c = if lacks ls (x ++ [(c : Int)]) = true then cnt ls b t (tailS ls (x ++ [(c : Int)])) else 0 := rfl
theorem stepC_none (ls : List (List Int)) (b t : Nat) (c : Nat) : stepC ls b t none c = if c = 0 then cntO ls b t else if lacks ls [(c : Int)] = true then cnt ls b t (tailS ls [(c : Int)]) else 0 := rfl
theorem stepsV_get {ls ws : List (List Int)} {b i : Nat} (hb : 1 ≤ b) (hi : i ≤ ws.length) : (stepsV ls ws b)[i]? = some ((List.range b).map (stepV ls ws ws[i]?)) := by
  unfold stepsV
  by_cases h : i < ws.length
  · rw [List.getElem?_append_left (by rw [List.length_map]; exact h), List.getElem?_map, List.getElem?_eq_getElem h]
    rfl
  · have e : i = ws.length := by omega
    subst e
    rw [List.getElem?_append_right (by rw [List.length_map]; exact Nat.le_refl _), List.length_map, Nat.sub_self, List.getElem?_eq_none (Nat.le_refl _)]
    show some _ = some _
    congr 1
    obtain ⟨k, rfl⟩ : ∃ k, b = k + 1 := ⟨b - 1, by omega⟩
    unfold rowV
    rw [List.range_succ_eq_map, List.map_cons, List.map_cons, List.drop_succ_cons, List.drop_zero]
    rw [List.map_map, List.map_map]
    rfl
structure TailsAt (C : Addr) (H : Hp) (p la : Addr) (b : Nat) (ls ws : List (List Int)) (L : Nat) : Prop where
  ob : ∃ (dx sa : Addr) (srs : List (Addr × List V)), aw [la] H p = some (.ins C dx (fldT b ws.length sa la)) ∧ aw [la] H sa = some (.lst (srs.map fun z => V.ref z.1)) ∧ (∀ z ∈ srs, aw [la] H z.1 = some (.lst z.2)) ∧ srs.map (·.2) = stepsV ls ws b
  ly : ∃ lrs : List (Addr × List Int), H la = some (.lst (lrs.map fun z => V.ref z.1)) ∧ (∀ z ∈ lrs, aw [la] H z.1 = some (.lst (z.2.map V.int))) ∧ lrs.map (·.2) = (List.range L).map (layerV ls ws b)
  l1 : 1 ≤ L
structure GoodT (b : Nat) (ls ws : List (List Int)) : Prop where
  g : GoodRule b ls
  s : StandsL ls ws
  h13 : ws.length ≤ 13
theorem GoodT.ne {b : Nat} {ls ws : List (List Int)} (G : GoodT b ls ws) : ∀ l ∈ ls, l ≠ [] := fun l hl => (G.g.st l hl).ne
theorem TailsAt.same {C p la b : Nat} {H H' : Hp} {ls ws : List (List Int)} {L : Nat} (A : TailsAt C H p la b ls ws L) (m : Same H H') : TailsAt C H' p la b ls ws L := by
  obtain ⟨dx, sa, srs, h1, h2, h3, h4⟩ := A.ob
  obtain ⟨lrs, g1, g2, g3⟩ := A.ly
  have m' := m.aw [la]
  exact ⟨⟨dx, sa, srs, m' _ _ h1, m' _ _ h2, fun z hz => m' _ _ (h3 z hz), h4⟩, ⟨lrs, m _ _ g1, fun z hz => m' _ _ (g2 z hz), g3⟩, A.l1⟩
theorem stepV_cases {ls ws : List (List Int)} {b t : Nat} (G : GoodT b ls ws) {i c : Nat} (hi : i ≤ ws.length) :
    (stepV ls ws ws[i]? c = .non ∧ stepC ls b t ws[i]? c = 0) ∨ ∃ j : Nat, stepV ls ws ws[i]? c = .int j ∧ j ≤ ws.length ∧ (layerV ls ws b t)[j]? = some ((stepC ls b t ws[i]? c : Nat) : Int) := by
  have at_ : ∀ fs : List Int, lacks ls fs = true → ∃ j : Nat, plc ls ws fs = .int j ∧ j ≤ ws.length ∧ (layerV ls ws b t)[j]? = some ((cnt ls b t (tailS ls fs) : Nat) : Int) := by
    intro fs h
    have hm : tailS ls fs ∈ ws := (G.s.mem _).mpr (tailS_isSt G.ne h)
    have hlt := List.idxOf_lt_length_iff.mpr hm
    refine ⟨ws.idxOf (tailS ls fs), by unfold plc; rw [if_pos h], Nat.le_of_lt hlt, ?_⟩
    unfold layerV
    rw [List.getElem?_append_left (by rw [List.length_map]; exact hlt), List.getElem?_map, List.getElem?_eq_getElem hlt, List.getElem_idxOf hlt]
    rfl
  cases hw : ws[i]? with
  | some x =>
    show (plc ls ws (x ++ [(c : Int)]) = .non ∧ (if lacks ls (x ++ [(c : Int)]) = true then _ else 0) = 0) ∨ _
    by_cases h : lacks ls (x ++ [(c : Int)]) = true
    · right
      obtain ⟨j, h1, h2, h3⟩ := at_ _ h
      refine ⟨j, h1, h2, ?_⟩
      rw [h3, stepC_some, if_pos h]
    · left
      exact ⟨by unfold plc; rw [if_neg h], by rw [if_neg h]⟩
  | none =>
    by_cases h0 : c = 0
    · right
      refine ⟨ws.length, by rw [stepV_none, if_pos h0], Nat.le_refl _, ?_⟩
      unfold layerV
      rw [stepC_none, if_pos h0, List.getElem?_append_right (by rw [List.length_map]; exact Nat.le_refl _), List.length_map, Nat.sub_self]
      rfl
    · by_cases h : lacks ls [(c : Int)] = true
      · right
        obtain ⟨j, h1, h2, h3⟩ := at_ _ h
        refine ⟨j, by rw [stepV_none, if_neg h0]; exact h1, h2, ?_⟩
        rw [h3, stepC_none, if_neg h0, if_pos h]
      · left
        refine ⟨?_, ?_⟩
        · rw [stepV_none, if_neg h0]; unfold plc; rw [if_neg h]
        · rw [stepC_none, if_neg h0, if_neg h]
theorem aw_upd_in' {fp : List Addr} {H : Hp} {b : Addr} {o : HO} (h : b ∈ fp) : aw fp (upd H b o) = aw fp H := by
  funext c
  by_cases hc : c ∈ fp
  · rw [aw_in hc, aw_in hc]
  · rw [aw_out hc, aw_out hc, upd_ne (fun z : c = b => hc (by rw [z]; exact h))]
section
variable {P : Program} {w : World} {K : PySem.W.Frag} {mg : Str → Option Value} {base : Heap} {T0 C : Addr}
def sp_many_by (C : Addr) : Sp := fun vs H Q _ => ∃ (p la : Addr) (b : Nat) (ls ws : List (List Int)) (L t : Nat) (lay : Addr) (i s : Nat), vs = [.ref p, .ref lay, .int i, .int s] ∧ TailsAt C H p la b ls ws L ∧ GoodT b ls ws ∧ H lay = some (.lst ((layerV ls ws b t).map V.int)) ∧ i ≤ ws.length ∧ s ≤ b ∧
  ∀ H', Same H H' → Q (.int (under ls b t ws[i]? s : Nat)) H'
theorem sc_Tails_many_by : FnScope ["self", "layer", "place", "stop"] ["self", "layer", "place", "stop"] (defScope s_Tails_many_by) := ⟨rfl, rfl, rfl, by decide +kernel, rfl, by decide +kernel, by decide +kernel⟩
theorem ok_many_by {f : Addr} {fd : FuncData} (D : Mt K C "Tails.many_by" "many_by" s_Tails_many_by ["self", "layer", "place", "stop"] f fd) (cTails : ClT K mg C) (T : Blt mg) (U : Blt2 mg) : FnOk P w K mg base CX0 1 f fd ["self", "layer", "place", "stop"] (sp_many_by C) := by
  refine D.fn.ok sc_Tails_many_by (fun vs H Q E h => ?_) (fun cdv A outer s H vs Q E hr h => ?_)
  · obtain ⟨p, la, b, ls, ws, L, t, lay, i, s, rfl, _⟩ := h; rfl
  · obtain ⟨p, la, b, ls, ws, L, t, lay, i, s, rfl, TA, G, hlay, hi, hs, kk⟩ := h
    obtain ⟨dx, sa, srs, h1, h2, h3, h4⟩ := TA.ob
    have b16 := G.g.b16
    have b2 := G.g.b2
    refine ⟨_, (pss_one (ps_ret (pe_callB (k_sum K rfl) (by rfl) U.n_sum boot_sum (pa_cons (pe_comp (show CScope (defScope s_Tails_many_by) _ "behind" ["self", "layer", "place", "stop"] ["layer"] [1] from ⟨rfl, by decide +kernel, by decide +kernel, rfl, by decide +kernel, rfl, by decide +kernel, by decide +kernel⟩) rfl (k_pi K (pe_slice (k_slL K) (pe_ix (k_ixL K) (k_fld K (pv 0)) (pv 2) (fun _ _ => rfl)) po_none (po_some (pv 3)))) (fun _ _ _ _ => (pts_one (pt_cmpR op_notN (pv 0) pe_non (nomark _)))) (fun _ _ _ _ => (pe_ix (k_ixL K) (pv 1) (pv 0) (fun _ _ => rfl)))) pa_nil)))), ?_⟩
    have hrow := stepsV_get (ls := ls) (b := b) (by omega) hi
    rw [← h4, List.getElem?_map] at hrow
    obtain ⟨z, hz, ez⟩ := Option.map_eq_some_iff.mp hrow
    have hzm := List.mem_of_getElem? hz
    have hz3 := aw_same _ _ _ _ (h3 z hzm)
    refine ⟨_, rfl, p, C, dx, _, _, rfl, aw_same _ _ _ _ h1, cTails.cl, cTails.n_steps, fldT_steps _ _ _ _, _, rfl, sa, _, _, V.ref z.1, rfl, rfl, SqL.of (aw_same _ _ _ _ h2), atI_nat (by rw [List.getElem?_map, hz]; rfl), ?_⟩
    refine ⟨_, rfl, _, rfl, z.1, _, rfl, SqL.of hz3, fun q hq => ?_⟩
    have m1 := same_upd hq (o := .lst (cutV z.2 none (some (s : Int))))
    have ecut : cutV z.2 none (some (s : Int)) = (List.range s).map (stepV ls ws ws[i]?) := by
      rw [cutV_upto, ez, ← List.map_take, List.take_range, Nat.min_eq_left hs]
    rw [ecut] at m1 ⊢
    refine ⟨q, rfl, ⟨_, SqL.of upd_same⟩, comp_list (K := K) (a := q) (xs := (List.range s).map (stepV ls ws ws[i]?)) (fun k ys H4 => H4 = upd H q (.lst ((List.range s).map (stepV ls ws ws[i]?))) ∧ ∃ ms : List Int, ys = ms.map V.int ∧ ms.length ≤ k ∧ ms.sum = ((under ls b t ws[i]? k : Nat) : Int)) ⟨rfl, [], rfl, Nat.le_refl _, by simp [under]⟩ (fun k ys H4 _ ⟨e, _⟩ => by rw [e]; exact SqL.of upd_same) ?_ ?_⟩
    · rintro k x ys H4 hx ⟨rfl, ms, rfl, hml, hms⟩
      rw [List.getElem?_map] at hx
      obtain ⟨c, hc, e⟩ := Option.map_eq_some_iff.mp hx
      have hk : k < s := by have := (List.getElem?_eq_some_iff.mp hc).1; rwa [List.length_range] at this
      have ec : c = k := by
        rw [List.getElem?_range hk] at hc
        exact (Option.some.inj hc).symm
      subst ec
      subst e
      refine ⟨by rw [List.length_map]; exact Nat.lt_of_le_of_lt (show ms.length ≤ 16 by omega) (by decide), ?_⟩
      have hus := under_succ ls b t ws[i]? c
      rcases stepV_cases (t := t) G (c := c) hi with ⟨e1, e2⟩ | ⟨j, e1, e2, e3⟩
      · rw [e1]
        refine ⟨_, rfl, rfl, _, rfl, iteF ⟨rfl, ms, rfl, by omega, ?_⟩⟩
        rw [hus, e2, hms]
        omega
      · rw [e1]
        refine ⟨_, rfl, rfl, _, rfl, iteT ?_⟩
        refine ⟨_, rfl, _, rfl, lay, _, _, V.int ((stepC ls b t ws[i]? c : Nat) : Int), rfl, rfl, SqL.of (m1 _ _ hlay), atI_nat (by rw [List.getElem?_map, e3]; rfl), rfl, ms ++ [((stepC ls b t ws[i]? c : Nat) : Int)], by simp, by rw [List.length_append, List.length_singleton]; omega, ?_⟩
        rw [List.sum_append, hms, hus]
        simp
    · rintro ys H4 ⟨rfl, ms, rfl, hml, hms⟩ Dd hD
      refine ⟨Dd, ms, rfl, SqL.of upd_same, ?_⟩
      rw [hms, List.length_map, List.length_range]
      exact kk _ (m1.trans (same_upd hD))
def TQ (C : Addr) (H : Hp) (p la : Addr) (b : Nat) (ls ws : List (List Int)) (L : Nat) (R : Nat → Hp → Prop) : Prop := ∀ (L' : Nat) (H' : Hp), L ≤ L' → TailsAt C H' p la b ls ws L' → Same (aw [la] H) (aw [la] H') → R L' H'
def sp_layer (C : Addr) : Sp := fun vs H Q _ => ∃ (p la : Addr) (b : Nat) (ls ws : List (List Int)) (L t : Nat), vs = [.ref p, .int t] ∧ TailsAt C H p la b ls ws L ∧ GoodT b ls ws ∧ L ≤ 1000 ∧ t < 1000 ∧
  ∀ lay : Addr, TQ C H p la b ls ws L fun L' H' => L' ≤ max L (t + 1) → aw [la] H' lay = some (.lst ((layerV ls ws b t).map V.int)) → Q (.ref lay) H'
theorem sc_Tails_layer : FnScope ["self", "left", "shorter"] ["self", "left"] (defScope s_Tails_layer) := ⟨rfl, rfl, rfl, by decide +kernel, rfl, by decide +kernel, by decide +kernel⟩
theorem layerV_more {ls ws : List (List Int)} {b t : Nat} : ((List.range (ws.length + 1)).map fun i => ((under ls b t ws[i]? b : Nat) : Int)) = layerV ls ws b (t + 1) := by
  unfold layerV
  apply List.ext_getElem?
  intro i
  rw [List.getElem?_map]
  by_cases h : i < ws.length
  · rw [List.getElem?_range (by omega), List.getElem?_append_left (by rw [List.length_map]; exact h), List.getElem?_map, Option.map_some, List.getElem?_eq_getElem h]
    rfl
  · by_cases h2 : i = ws.length
    · subst h2
      rw [List.getElem?_range (by omega), List.getElem?_append_right (by rw [List.length_map]; exact Nat.le_refl _), List.length_map, Nat.sub_self, Option.map_some, List.getElem?_eq_none (Nat.le_refl _)]
      rfl
    · rw [List.getElem?_eq_none (by rw [List.length_range]; omega), List.getElem?_eq_none (by rw [List.length_append, List.length_map, List.length_singleton]; omega)]
      rfl
theorem ok_layer {f f1 : Addr} {fd fd1 : FuncData} (D : Mt K C "Tails.layer" "layer" s_Tails_layer ["self", "left"] f fd) (MTails_many_by : Mt K C "Tails.many_by" "many_by" s_Tails_many_by ["self", "layer", "place", "stop"] f1 fd1) (cTails : ClT K mg C) (T : Blt mg) (U : Blt2 mg) : FnOk P w K mg base CX0 2 f fd ["self", "left"] (sp_layer C) := by
  have GTails_many_by : FnOk P w K mg base CX0 1 f1 fd1 ["self", "layer", "place", "stop"] (sp_many_by C) := ok_many_by MTails_many_by cTails T U
  refine D.fn.ok sc_Tails_layer (fun vs H Q E h => ?_) (fun cdv A outer s H vs Q E hr h => ?_)
  · obtain ⟨p, la, b, ls, ws, L, t, rfl, _⟩ := h; rfl
  · obtain ⟨p, la, b, ls, ws, L, t, rfl, TA, G, hL, ht, kk⟩ := h
    have h13 := G.h13
    refine ⟨_, (pss_cons (ps_while PassesOwn.never (pt_cmpR op_le (pe_callB (k_len K) (by rfl) T.n_len PySem.boot_len (pa_cons (k_fld K (pv 0)) pa_nil)) (pv 1) (nomark _))
        (pss_cons (ps_set (i := 2) sc_Tails_layer.nd rfl (Or.inr rfl) (pe_ix (k_ixL K) (k_fld K (pv 0)) (pe_un un_neg pe_int) (fun _ _ => rfl)))
        (pss_one (ps_expr (pe_bm PySem.F.plainAttrs_list PySem.F.slot_list_append PySem.F.type_list_append mt_append (k_fld K (pv 0)) (pa_cons (pe_comp (show CScope (defScope s_Tails_layer) _ "place" ["self", "left", "shorter"] ["shorter", "self"] [2, 0] from ⟨rfl, by decide +kernel, by decide +kernel, rfl, by decide +kernel, rfl, by decide +kernel, by decide +kernel⟩) rfl (pi_range1 rfl T.n_range (pa_cons (pe_op op_add (k_fld K (pv 0)) pe_int) pa_nil)) (fun _ _ _ _ => pts_nil) (fun _ _ _ _ => (pmeth MTails_many_by cTails.cl GTails_many_by (hr.mono (by decide)) (pv 2) (pa_cons (pv 1) (pa_cons (pv 0) (pa_cons (k_fld K (pv 2)) pa_nil)))))) pa_nil))))))
      (pss_one (ps_ret (pe_ix (k_ixL K) (k_fld K (pv 0)) (pv 1) (fun _ _ => rfl))))), ?_⟩
    refine while_by (fun σ H2 => ∃ (v : Option V) (L' : Nat), σ = [some (.ref p), some (.int t), v] ∧ L ≤ L' ∧ L' ≤ max L (t + 1) ∧ TailsAt C H2 p la b ls ws L' ∧ Same (aw [la] H) (aw [la] H2))
      (fun σ H2 => match H2 la with | some (.lst xs) => t + 1 - xs.length | _ => 0) ⟨none, L, rfl, Nat.le_refl _, Nat.le_max_left _ _, TA, Same.refl _⟩ ?_ ?_
    · rintro σ H2 ⟨v, L', rfl, hLL, hLm, TA2, m2⟩
      obtain ⟨dx, sa, srs, h1, h2, h3, h4⟩ := TA2.ob
      obtain ⟨lrs, g1, g2, g3⟩ := TA2.ly
      have hl : lrs.length = L' := by have := congrArg List.length g3; rwa [List.length_map, List.length_map, List.length_range] at this
      have hp := aw_same _ _ _ _ h1
      have l1 := TA2.l1
      refine ⟨_, rfl, p, C, dx, _, _, rfl, hp, cTails.cl, cTails.n_layers, fldT_layers _ _ _ _, la, _, rfl, .inl (SqL.of g1), _, rfl, _, _, rfl, rfl, _, rfl, ?_⟩
      rw [List.length_map, hl]
      refine ite2 (fun hc => ?_) (fun hc => ?_)
      · have hc' : L' ≤ t := by have := of_decide_eq_true hc; omega
        have hlast : lrs[L' - 1]? = some lrs[L' - 1] := List.getElem?_eq_getElem (by omega)
        generalize hz : lrs[L' - 1] = z at hlast
        have hzm : z ∈ lrs := List.mem_of_getElem? hlast
        have hz2 : z.2 = layerV ls ws b (L' - 1) := by
          have e := congrArg (fun l => l[L' - 1]?) g3
          simp only [List.getElem?_map, hlast, List.getElem?_range (show L' - 1 < L' by omega), Option.map_some] at e
          exact Option.some.inj e
        have elr : lrs = lrs.take (L' - 1) ++ [z] := by
          have e := (List.take_append_drop (L' - 1) lrs).symm
          rw [List.drop_eq_getElem_cons (show L' - 1 < lrs.length by omega), hz, List.drop_of_length_le (by omega)] at e
          exact e
        have eat : atI (lrs.map fun z => V.ref z.1) (-1) = some (V.ref z.1) := by
          rw [elr, List.map_append]
          exact atI_last _ _
        refine ⟨_, rfl, p, C, dx, _, _, rfl, hp, cTails.cl, cTails.n_layers, fldT_layers _ _ _ _, _, rfl, la, _, _, V.ref z.1, rfl, rfl, SqL.of g1, eat, ?_⟩
        refine ⟨_, rfl, p, C, dx, _, _, rfl, hp, cTails.cl, cTails.n_layers, fldT_layers _ _ _ _, .inl ⟨rfl, _, SqL.of g1⟩, ?_⟩
        refine ⟨_, rfl, p, C, dx, _, _, rfl, hp, cTails.cl, cTails.n_outset, fldT_outset _ _ _ _, _, _, rfl, rfl, ((ws.length : Int) + 1), rfl, by omega, by omega, comp_range (lo := 0) (n := ((ws.length : Int) + 1).toNat) (fun i ys H4 => ys = (((List.range i).map fun i => ((under ls b (L' - 1) ws[i]? b : Nat) : Int))).map V.int ∧ Same H2 H4) ⟨rfl, Same.refl _⟩ ?_ ?_⟩
        · rintro i ys H4 hi ⟨rfl, m4⟩
          refine ⟨by rw [List.length_map, List.length_map, List.length_range]; exact Nat.lt_of_lt_of_le (show i < 20 by omega) (by decide), ?_⟩
          unfold tYes
          dsimp only
          rw [if_pos rfl]
          have TA4 := TA2.same m4
          have hp4 := m4 _ _ hp
          refine ⟨_, rfl, p, dx, _, rfl, hp4, fldT_no _ _ _ _ (by decide +kernel) (by decide +kernel) (by decide +kernel) (by decide +kernel), _, rfl, _, rfl, _, rfl, p, C, dx, _, _, rfl, hp4, cTails.cl, cTails.n_base, fldT_base _ _ _ _, ?_⟩
          refine ⟨p, la, b, ls, ws, L', L' - 1, z.1, i, b, by rw [Int.zero_add]; rfl, TA4, G, ?_, by omega, Nat.le_refl _, fun H5 m5 => ⟨?_, m4.trans m5⟩⟩
          · rw [← hz2]; exact m4 _ _ (aw_same _ _ _ _ (g2 z hzm))
          · rw [List.range_succ, List.map_append, List.map_append]
            rfl
        rintro ys H4 ⟨rfl, m4⟩ q hq
        rw [show ((ws.length : Int) + 1).toNat = ws.length + 1 by omega, layerV_more, show L' - 1 + 1 = L' by omega]
        have m5 := same_upd hq (o := .lst ((layerV ls ws b L').map V.int))
        have gla := m5 _ _ (m4 _ _ g1)
        have nq : q ≠ la := fun e => by rw [e, m4 _ _ g1] at hq; cases hq
        refine ⟨la, _, _, rfl, rfl, gla, by rw [List.length_map, hl]; exact Nat.lt_of_le_of_lt (show L' ≤ 1000 by omega) (by decide), ?_⟩
        have m25 : Same (aw [la] H2) (aw [la] (upd (upd H4 q (.lst ((layerV ls ws b L').map V.int))) la (.lst (lrs.map (fun z => V.ref z.1) ++ [.ref q])))) := by
          rw [aw_upd_in' (by simp)]
          exact (m4.trans m5).aw [la]
        refine ⟨⟨_, L' + 1, rfl, by omega, by omega, ⟨⟨dx, sa, srs, m25 _ _ h1, m25 _ _ h2, fun y hy => m25 _ _ (h3 y hy), h4⟩, ⟨lrs ++ [(q, layerV ls ws b L')], by rw [upd_same]; simp, fun y hy => ?_, ?_⟩, by omega⟩, m2.trans m25⟩, ?_⟩
        · rcases List.mem_append.mp hy with hy | hy
          · exact m25 _ _ (g2 y hy)
          · have e : y = (q, layerV ls ws b L') := by simpa using hy
            subst e
            rw [aw_upd_in' (by simp), aw_out (by simp [nq]), upd_same]
        · rw [List.map_append, g3, List.range_succ, List.map_append]
          rfl
        · show (match (upd (upd H4 q (.lst ((layerV ls ws b L').map V.int))) la (.lst (lrs.map (fun z => V.ref z.1) ++ [.ref q]))) la with | some (.lst xs) => t + 1 - xs.length | _ => 0) < (match H2 la with | some (.lst xs) => t + 1 - xs.length | _ => 0)
          rw [upd_same, g1]
          show t + 1 - (lrs.map (fun z => V.ref z.1) ++ [V.ref q]).length < t + 1 - (lrs.map fun z => V.ref z.1).length
          rw [List.length_append, List.length_map, List.length_singleton]
          omega
      · have hc' : t < L' := by
          by_cases z : t < L'
          · exact z
          · exact absurd (decide_eq_true (by omega : (L' : Int) ≤ t)) hc
        have hlast : lrs[t]? = some lrs[t] := List.getElem?_eq_getElem (by omega)
        generalize hz : lrs[t] = z at hlast
        have hzm : z ∈ lrs := List.mem_of_getElem? hlast
        have hz2 : z.2 = layerV ls ws b t := by
          have e := congrArg (fun l => l[t]?) g3
          simp only [List.getElem?_map, hlast, List.getElem?_range hc', Option.map_some] at e
          exact Option.some.inj e
        refine ⟨_, rfl, p, C, dx, _, _, rfl, hp, cTails.cl, cTails.n_layers, fldT_layers _ _ _ _, _, rfl, la, _, _, V.ref z.1, rfl, rfl, SqL.of g1, atI_nat (by rw [List.getElem?_map, hlast]; rfl), ?_⟩
        exact kk z.1 L' H2 hLL TA2 m2 hLm (by rw [← hz2]; exact g2 z hzm)
    · intro σ H2 Q Q' hq
      rintro ⟨v0, e0, a, C', dx, fs, v, h1, h2, h3, h4, h5, p', ys, h6, h7, v1, e1, i, j, e3, e4, k, e5, q⟩
      exact ⟨v0, e0, a, C', dx, fs, v, h1, h2, h3, h4, h5, p', ys, h6, h7, v1, e1, i, j, e3, e4, k, e5, hq _ _ q⟩
def sp_many_under (C : Addr) : Sp := fun vs H Q _ => ∃ (p la : Addr) (b : Nat) (ls ws : List (List Int)) (L i s t : Nat), vs = [.ref p, .int i, .int s, .int t] ∧ TailsAt C H p la b ls ws L ∧ GoodT b ls ws ∧ L ≤ 1000 ∧ t < 1000 ∧ i ≤ ws.length ∧ s ≤ b ∧ TQ C H p la b ls ws L fun L' H' => L' ≤ max L (t + 1) → Q (.int (under ls b t ws[i]? s : Nat)) H'
theorem sc_Tails_many_under : FnScope ["self", "place", "stop", "left"] ["self", "place", "stop", "left"] (defScope s_Tails_many_under) := ⟨rfl, rfl, rfl, by decide +kernel, rfl, by decide +kernel, by decide +kernel⟩
theorem ok_many_under {f f1 f2 : Addr} {fd fd1 fd2 : FuncData} (D : Mt K C "Tails.many_under" "many_under" s_Tails_many_under ["self", "place", "stop", "left"] f fd) (MTails_layer : Mt K C "Tails.layer" "layer" s_Tails_layer ["self", "left"] f1 fd1) (MTails_many_by : Mt K C "Tails.many_by" "many_by" s_Tails_many_by ["self", "layer", "place", "stop"] f2 fd2) (cTails : ClT K mg C) (T : Blt mg) (U : Blt2 mg) : FnOk P w K mg base CX0 3 f fd ["self", "place", "stop", "left"] (sp_many_under C) := by
  have GTails_many_by : FnOk P w K mg base CX0 1 f2 fd2 ["self", "layer", "place", "stop"] (sp_many_by C) := ok_many_by MTails_many_by cTails T U
  have GTails_layer : FnOk P w K mg base CX0 2 f1 fd1 ["self", "left"] (sp_layer C) := ok_layer MTails_layer MTails_many_by cTails T U
  refine D.fn.ok sc_Tails_many_under (fun vs H Q E h => ?_) (fun cdv A outer s H vs Q E hr h => ?_)
  · obtain ⟨p, la, b, ls, ws, L, i, s, t, rfl, _⟩ := h; rfl
  · obtain ⟨p, la, b, ls, ws, L, i, s, t, rfl, TA, G, hL, ht, hi, hs, kk⟩ := h
    obtain ⟨dx, sa, srs, h1, h2, h3, h4⟩ := TA.ob
    have hp := aw_same _ _ _ _ h1
    refine ⟨_, (pss_one (ps_ret (pmeth MTails_many_by cTails.cl GTails_many_by (hr.mono (by decide)) (pv 0) (pa_cons (pmeth MTails_layer cTails.cl GTails_layer (hr.mono (by decide)) (pv 0) (pa_cons (pv 3) pa_nil)) (pa_cons (pv 1) (pa_cons (pv 2) pa_nil)))))), ?_⟩
    refine ⟨_, rfl, p, dx, _, rfl, hp, fldT_no _ _ _ _ (by decide +kernel) (by decide +kernel) (by decide +kernel) (by decide +kernel), ?_⟩
    refine ⟨_, rfl, p, dx, _, rfl, hp, fldT_no _ _ _ _ (by decide +kernel) (by decide +kernel) (by decide +kernel) (by decide +kernel), _, rfl, p, la, b, ls, ws, L, t, rfl, TA, G, hL, ht, fun lay L' H' hLL TA' m' hm hlay => ?_⟩
    exact ⟨_, rfl, _, rfl, p, la, b, ls, ws, L', t, lay, i, s, rfl, TA', G, aw_same _ _ _ _ hlay, hi, hs, fun H2 m2 => kk L' H2 hLL (TA'.same m2) (m'.trans (m2.aw [la])) hm⟩
def sp_many_within (C : Addr) : Sp := fun vs H Q _ => ∃ (p la : Addr) (b : Nat) (ls ws : List (List Int)) (L t : Nat), vs = [.ref p, .int t] ∧ TailsAt C H p la b ls ws L ∧ GoodT b ls ws ∧ L ≤ 1000 ∧ t < 1000 ∧ TQ C H p la b ls ws L fun L' H' => L' ≤ max L (t + 1) → Q (.int (cntO ls b t : Nat)) H'
theorem sc_Tails_many_within : FnScope ["self", "size"] ["self", "size"] (defScope s_Tails_many_within) := ⟨rfl, rfl, rfl, by decide +kernel, rfl, by decide +kernel, by decide +kernel⟩
theorem ok_many_within {f f1 f2 : Addr} {fd fd1 fd2 : FuncData} (D : Mt K C "Tails.many_within" "many_within" s_Tails_many_within ["self", "size"] f fd) (MTails_layer : Mt K C "Tails.layer" "layer" s_Tails_layer ["self", "left"] f1 fd1) (MTails_many_by : Mt K C "Tails.many_by" "many_by" s_Tails_many_by ["self", "layer", "place", "stop"] f2 fd2) (cTails : ClT K mg C) (T : Blt mg) (U : Blt2 mg) : FnOk P w K mg base CX0 3 f fd ["self", "size"] (sp_many_within C) := by
  have GTails_layer : FnOk P w K mg base CX0 2 f1 fd1 ["self", "left"] (sp_layer C) := ok_layer MTails_layer MTails_many_by cTails T U
  refine D.fn.ok sc_Tails_many_within (fun vs H Q E h => ?_) (fun cdv A outer s H vs Q E hr h => ?_)
  · obtain ⟨p, la, b, ls, ws, L, t, rfl, _⟩ := h; rfl
  · obtain ⟨p, la, b, ls, ws, L, t, rfl, TA, G, hL, ht, kk⟩ := h
    obtain ⟨dx, sa, srs, h1, h2, h3, h4⟩ := TA.ob
    have hp := aw_same _ _ _ _ h1
    refine ⟨_, (pss_one (ps_ret (pe_ix (k_ixL K) (pmeth MTails_layer cTails.cl GTails_layer (hr.mono (by decide)) (pv 0) (pa_cons (pv 1) pa_nil)) (k_fld K (pv 0)) (fun _ _ => rfl)))), ?_⟩
    refine ⟨_, rfl, p, dx, _, rfl, hp, fldT_no _ _ _ _ (by decide +kernel) (by decide +kernel) (by decide +kernel) (by decide +kernel), _, rfl, p, la, b, ls, ws, L, t, rfl, TA, G, hL, ht, fun lay L' H' hLL TA' m' hm hlay => ?_⟩
    obtain ⟨dx', sa', srs', h1', h2', h3', h4'⟩ := TA'.ob
    refine ⟨_, rfl, p, C, dx', _, _, rfl, aw_same _ _ _ _ h1', cTails.cl, cTails.n_outset, fldT_outset _ _ _ _, lay, _, _, V.int ((cntO ls b t : Nat) : Int), rfl, rfl, SqL.of (aw_same _ _ _ _ hlay), atI_nat ?_, kk L' H' hLL TA' m' hm⟩
    unfold layerV
    rw [List.map_append, List.getElem?_append_right (by rw [List.length_map, List.length_map]; exact Nat.le_refl _), List.length_map, List.length_map, Nat.sub_self]
    rfl
end
end Lw
set_option Elab.async false
set_option linter.all false
set_option maxRecDepth 100000
namespace Lw
open PySem L2 PyProof.Rows
theorem stepV_rep {ls ws : List (List Int)} {b m : Nat} (G : GoodT b ls ws) {i c : Nat} (hi : i ≤ ws.length) (R : Rep ls b m ws[i]?) (hc : c < b) :
    (∃ j : Nat, stepV ls ws ws[i]? c = .int j ∧ j ≤ ws.length ∧ Rep ls b (m * b + c) ws[j]?) ∨ (stepV ls ws ws[i]? c = .non ∧ 1 ≤ m * b + c ∧ gd ls b (m * b + c) = false) := by
  have b2 := G.g.b2
  have ep : ∀ h : ¬ (ws[i]? = none ∧ c = 0), stepV ls ws ws[i]? c = plc ls ws (ws[i]?.getD [] ++ [(c : Int)]) := by
    intro h
    cases hw : ws[i]? with
    | some x => rfl
    | none =>
      rw [stepV_none, if_neg (fun z => h ⟨hw, z⟩)]
      rfl
  rcases R.step G.ne b2 hc with ⟨h1, h2, h3⟩ | ⟨h0, ⟨h1, h2⟩ | ⟨h1, h2, h3⟩⟩
  · left
    refine ⟨ws.length, by rw [h1, stepV_none, if_pos h2], Nat.le_refl _, by rw [List.getElem?_eq_none (Nat.le_refl _)]; exact h3⟩
  · left
    have hm : tailS ls (ws[i]?.getD [] ++ [(c : Int)]) ∈ ws := (G.s.mem _).mpr (tailS_isSt G.ne h1)
    have hlt := List.idxOf_lt_length_iff.mpr hm
    refine ⟨ws.idxOf (tailS ls (ws[i]?.getD [] ++ [(c : Int)])), by rw [ep h0]; unfold plc; rw [if_pos h1], Nat.le_of_lt hlt, ?_⟩
    rw [List.getElem?_eq_getElem hlt, List.getElem_idxOf hlt]
    exact h2
  · right
    exact ⟨by rw [ep h0]; unfold plc; rw [if_neg (by rw [h1]; exact Bool.false_ne_true)], h2, h3⟩
section
variable {P : Program} {w : World} {K : PySem.W.Frag} {mg : Str → Option Value} {base : Heap} {T0 C : Addr}
theorem steps_at {H : Hp} {p la b : Nat} {ls ws : List (List Int)} {L i c : Nat} (TA : TailsAt C H p la b ls ws L) (G : GoodT b ls ws) (hi : i ≤ ws.length) (hc : c < b) :
    ∃ (dx sa : Addr) (srs : List (Addr × List V)) (z : Addr × List V), H p = some (.ins C dx (fldT b ws.length sa la)) ∧ H sa = some (.lst (srs.map fun z => V.ref z.1)) ∧ atI (srs.map fun z => V.ref z.1) (i : Int) = some (V.ref z.1) ∧ H z.1 = some (.lst z.2) ∧ atI z.2 (c : Int) = some (stepV ls ws ws[i]? c) := by
  obtain ⟨dx, sa, srs, h1, h2, h3, h4⟩ := TA.ob
  have hrow := stepsV_get (ls := ls) (b := b) (by have := G.g.b2; omega) hi
  rw [← h4, List.getElem?_map] at hrow
  obtain ⟨z, hz, ez⟩ := Option.map_eq_some_iff.mp hrow
  refine ⟨dx, sa, srs, z, aw_same _ _ _ _ h1, aw_same _ _ _ _ h2, atI_nat (by rw [List.getElem?_map, hz]; rfl), aw_same _ _ _ _ (h3 z (List.mem_of_getElem? hz)), atI_nat ?_⟩
  rw [ez, List.getElem?_map, List.getElem?_range hc]
  rfl
theorem TailsAt.obj {H : Hp} {p la b : Nat} {ls ws : List (List Int)} {L : Nat} (TA : TailsAt C H p la b ls ws L) : ∃ dx sa, H p = some (.ins C dx (fldT b ws.length sa la)) := by
  obtain ⟨dx, sa, srs, h1, _⟩ := TA.ob
  exact ⟨dx, sa, aw_same _ _ _ _ h1⟩
def sp_many_below (C : Addr) : Sp := fun vs H Q _ => ∃ (p la : Addr) (b : Nat) (ls ws : List (List Int)) (L : Nat) (fa : Addr) (n : Nat), vs = [.ref p, .ref fa] ∧ TailsAt C H p la b ls ws L ∧ GoodT b ls ws ∧ L ≤ 1000 ∧ aw [la] H fa = some (.lst ((figs b n).map V.int)) ∧ n < 2 ^ 900 ∧ TQ C H p la b ls ws L fun L' H' => L' ≤ 1000 → Q (.int (many (gd ls b) n : Nat)) H'
theorem sc_Tails_many_below : FnScope ["self", "figures", "place", "many", "k"] ["self", "figures"] (defScope s_Tails_many_below) := ⟨rfl, rfl, rfl, by decide +kernel, rfl, by decide +kernel, by decide +kernel⟩
theorem ok_many_below {f f1 : Addr} {fd fd1 : FuncData} (D : Mt K C "Tails.many_below" "many_below" s_Tails_many_below ["self", "figures"] f fd) (MTails_many_under : Mt K C "Tails.many_under" "many_under" s_Tails_many_under ["self", "place", "stop", "left"] f1 fd1) (GTails_many_under : FnOk P w K mg base CX0 3 f1 fd1 ["self", "place", "stop", "left"] (sp_many_under C)) (cTails : ClT K mg C) (T : Blt mg) : FnOk P w K mg base CX0 4 f fd ["self", "figures"] (sp_many_below C) := by
  refine D.fn.ok sc_Tails_many_below (fun vs H Q E h => ?_) (fun cdv A outer s H vs Q E hr h => ?_)
  · obtain ⟨p, la, b, ls, ws, L, fa, n, rfl, _⟩ := h; rfl
  · obtain ⟨p, la, b, ls, ws, L, fa, n, rfl, TA, G, hL, hf, hn, kk⟩ := h
    have b2 := G.g.b2
    have hlen := figs_len b2 900 n hn
    obtain ⟨dx0, sa0, hp0⟩ := TA.obj
    generalize hN : (figs b n).length = N at hlen
    have hnN := figs_lt_pow b2 hN
    refine ⟨_, (pss_cons (ps_set (i := 2) sc_Tails_many_below.nd rfl (Or.inl rfl) (k_fld K (pv 0)))
      (pss_cons (ps_set (i := 3) sc_Tails_many_below.nd rfl (Or.inl rfl) pe_int)
      (pss_cons (ps_for PassesOwn.never rfl (pi_range1 rfl T.n_range (pa_cons (pe_callB (k_len K) (by rfl) T.n_len PySem.boot_len (pa_cons (pv 1) pa_nil)) pa_nil)) (pg_name (i := 4) sc_Tails_many_below.nd rfl (Or.inl rfl))
        (pss_cons (ps_aug (i := 3) sc_Tails_many_below.nd rfl (Or.inl rfl) (pmeth MTails_many_under cTails.cl GTails_many_under (hr.mono (by decide)) (pv 0) (pa_cons (pv 2) (pa_cons (pe_ix (k_ixL K) (pv 1) (pv 4) (fun _ _ => rfl)) (pa_cons (pe_op op_sub (pe_op op_sub (pe_callB (k_len K) (by rfl) T.n_len PySem.boot_len (pa_cons (pv 1) pa_nil)) (pv 4)) pe_int) pa_nil)))) ip_add)
        (pss_cons (ps_set (i := 2) sc_Tails_many_below.nd rfl (Or.inl rfl) (pe_ix (k_ixL K) (pe_ix (k_ixL K) (k_fld K (pv 0)) (pv 2) (fun _ _ => rfl)) (pe_ix (k_ixL K) (pv 1) (pv 4) (fun _ _ => rfl)) (fun _ _ => rfl)))
        (pss_one (ps_if (pt_cmpR op_isN (pv 2) pe_non (nomark _))
          (pss_one (ps_ret (pv 3)))
          pss_nil)))))
      (pss_one (ps_ret (pv 3)))))), ?_⟩
    refine ⟨_, rfl, p, C, dx0, _, _, rfl, hp0, cTails.cl, cTails.n_outset, fldT_outset _ _ _ _, ?_⟩
    refine ⟨_, rfl, fa, _, rfl, .inl (SqL.of (aw_same _ _ _ _ hf)), ?_⟩
    rw [List.length_map, hN]
    refine ⟨_, rfl, by omega, by omega, for_range (lo := 0) (n := (N : Int).toNat) (fun k σ H2 => ∃ (v4 : Option V) (i L' : Nat), σ = [some (.ref p), some (.ref fa), some (.int i), some (.int (many (gd ls b) (n / b ^ (N - k) * b ^ (N - k)) : Nat)), v4] ∧ i ≤ ws.length ∧ Rep ls b (n / b ^ (N - k)) ws[i]? ∧ L ≤ L' ∧ L' ≤ 1000 ∧ TailsAt C H2 p la b ls ws L' ∧ Same (aw [la] H) (aw [la] H2)) ⟨none, ws.length, L, ?_, Nat.le_refl _, ?_, Nat.le_refl _, hL, TA, Same.refl _⟩ ?_ ?_⟩
    · rw [Nat.sub_zero, Nat.div_eq_of_lt hnN, Nat.zero_mul]
      rfl
    · rw [Nat.sub_zero, Nat.div_eq_of_lt hnN, List.getElem?_eq_none (Nat.le_refl _)]
      exact .inl ⟨rfl, rfl⟩
    · rintro k σ H2 hk ⟨v4, i, L', rfl, hi, R, hLL, hL', TA2, m2⟩
      have hkN : k < N := by omega
      obtain ⟨t, ht⟩ : ∃ t, N - k = t + 1 := ⟨N - k - 1, by omega⟩
      have et : N - 1 - k = t := by omega
      have hfk := figs_get b2 hN hkN
      rw [et] at hfk
      rw [ht] at R ⊢
      have hnx := next_top (b := b) (n := n) (t := t) (by omega)
      have hcb : n / b ^ t % b < b := Nat.mod_lt _ (by omega)
      generalize hc : n / b ^ t % b = c at hfk hnx hcb
      have hf2 := m2 _ _ hf
      have hfH2 := aw_same _ _ _ _ hf2
      obtain ⟨dx2, sa2, hp2⟩ := TA2.obj
      have hat : atI ((figs b n).map V.int) (0 + (k : Int)) = some (V.int (c : Nat)) := by rw [Int.zero_add]; exact atI_nat (by rw [List.getElem?_map, hfk]; rfl)
      refine ⟨_, rfl, _, rfl, p, dx2, _, rfl, hp2, fldT_no _ _ _ _ (by decide +kernel) (by decide +kernel) (by decide +kernel) (by decide +kernel), _, rfl, _, rfl, _, rfl, fa, _, _, _, rfl, rfl, SqL.of hfH2, hat, _, rfl, fa, _, rfl, .inl (SqL.of hfH2), _, rfl, _, _, rfl, rfl, _, _, rfl, rfl, ?_⟩
      refine ⟨p, la, b, ls, ws, L', i, c, t, ?_, TA2, G, hL', by omega, hi, by omega, fun L3 H3 hL3 TA3 m3 hmx => ?_⟩
      · rw [List.length_map, hN]
        show [V.ref p, V.int i, V.int c, V.int ((N : Int) - (0 + (k : Int)) - 1)] = _
        rw [show ((N : Int) - (0 + (k : Int)) - 1) = (t : Int) by omega]
      have hL3' : L3 ≤ 1000 := by omega
      have m23 := m2.trans m3
      have hf3 := aw_same _ _ _ _ (m23 _ _ hf)
      refine ⟨_, _, rfl, rfl, ?_⟩
      have eum := under_many G.ne b2 R t (s := c) (by omega)
      rw [← hnx] at eum
      obtain ⟨dx3, sa3, srs3, z3, q1, q2, q3, q4, q5⟩ := steps_at TA3 G hi hcb
      refine ⟨_, rfl, p, C, dx3, _, _, rfl, q1, cTails.cl, cTails.n_steps, fldT_steps _ _ _ _, _, rfl, sa3, _, _, _, rfl, rfl, SqL.of q2, q3, _, rfl, _, rfl, fa, _, _, _, rfl, rfl, SqL.of hf3, hat, z3.1, _, _, _, rfl, rfl, SqL.of q4, q5, ?_⟩
      rcases stepV_rep G hi R hcb with ⟨j, e1, e2, e3⟩ | ⟨e1, e2, e3⟩
      · rw [e1]
        refine ⟨_, rfl, rfl, _, rfl, iteF ⟨some (.int (0 + (k : Int))), j, L3, ?_, e2, ?_, by omega, hL3', TA3, m23⟩⟩
        · rw [show N - (k + 1) = t by omega, ← eum]
          show [_, _, _, some (V.int ((many (gd ls b) (n / b ^ (t + 1) * b ^ (t + 1)) : Nat) + (under ls b t ws[i]? c : Nat) : Int)), _] = [_, _, _, some (V.int ((many (gd ls b) (n / b ^ (t + 1) * b ^ (t + 1)) + under ls b t ws[i]? c : Nat) : Int)), _]
          rw [Int.natCast_add]
        · rw [show N - (k + 1) = t by omega, hnx]; exact e3
      · rw [e1]
        refine ⟨_, rfl, rfl, _, rfl, iteT ⟨_, rfl, ?_⟩⟩
        have q := kk L3 H3 (by omega) TA3 m23 hL3'
        rw [← hnx] at e2 e3
        have ebad := bad_on G.ne b2 e2 e3 t (r := n % b ^ t) (Nat.le_of_lt (Nat.mod_lt _ (Nat.pow_pos (by omega))))
        rw [Nat.mul_comm, Nat.div_add_mod, Nat.mul_comm] at ebad
        rw [ebad, ← eum, Int.natCast_add] at q
        exact q
    · rintro σ H2 ⟨v4, i, L', rfl, hi, R, hLL, hL', TA2, m2⟩
      refine ⟨_, rfl, ?_⟩
      have q := kk L' H2 hLL TA2 m2 hL'
      rw [Int.toNat_natCast, Nat.sub_self, Nat.pow_zero, Nat.div_one, Nat.mul_one]
      exact q
def sp_figure_at (C : Addr) : Sp := fun vs H Q _ => ∃ (p la : Addr) (b : Nat) (ls ws : List (List Int)) (L i k t : Nat), vs = [.ref p, .int i, .int k, .int t] ∧ TailsAt C H p la b ls ws L ∧ GoodT b ls ws ∧ L ≤ 1000 ∧ t < 1000 ∧ i ≤ ws.length ∧ k < under ls b t ws[i]? b ∧
  ∀ c : Nat, c < b → under ls b t ws[i]? c ≤ k → k < under ls b t ws[i]? (c + 1) → TQ C H p la b ls ws L fun L' H' => L' ≤ 1000 → Q (.int c) H'
theorem sc_Tails_figure_at : FnScope ["self", "place", "k", "left", "figure"] ["self", "place", "k", "left"] (defScope s_Tails_figure_at) := ⟨rfl, rfl, rfl, by decide +kernel, rfl, by decide +kernel, by decide +kernel⟩
theorem ok_figure_at {f f1 : Addr} {fd fd1 : FuncData} (D : Mt K C "Tails.figure_at" "figure_at" s_Tails_figure_at ["self", "place", "k", "left"] f fd) (MTails_many_under : Mt K C "Tails.many_under" "many_under" s_Tails_many_under ["self", "place", "stop", "left"] f1 fd1) (GTails_many_under : FnOk P w K mg base CX0 3 f1 fd1 ["self", "place", "stop", "left"] (sp_many_under C)) (cTails : ClT K mg C) (T : Blt mg) : FnOk P w K mg base CX0 4 f fd ["self", "place", "k", "left"] (sp_figure_at C) := by
  refine D.fn.ok sc_Tails_figure_at (fun vs H Q E h => ?_) (fun cdv A outer s H vs Q E hr h => ?_)
  · obtain ⟨p, la, b, ls, ws, L, i, k, t, rfl, _⟩ := h; rfl
  · obtain ⟨p, la, b, ls, ws, L, i, k, t, rfl, TA, G, hL, ht, hi, hk, kk⟩ := h
    refine ⟨_, (pss_cons (ps_set (i := 4) sc_Tails_figure_at.nd rfl (Or.inl rfl) pe_int)
      (pss_cons (ps_while PassesOwn.never (pt_cmpR op_le (pmeth MTails_many_under cTails.cl GTails_many_under (hr.mono (by decide)) (pv 0) (pa_cons (pv 1) (pa_cons (pe_op op_add (pv 4) pe_int) (pa_cons (pv 3) pa_nil)))) (pv 2) (nomark _))
        (pss_one (ps_aug (i := 4) sc_Tails_figure_at.nd rfl (Or.inl rfl) pe_int ip_add)))
      (pss_one (ps_ret (pv 4))))), ?_⟩
    refine while_by (fun σ H2 => ∃ (c L' : Nat), σ = [some (.ref p), some (.int i), some (.int k), some (.int t), some (.int c)] ∧ c < b ∧ under ls b t ws[i]? c ≤ k ∧ L ≤ L' ∧ L' ≤ 1000 ∧ TailsAt C H2 p la b ls ws L' ∧ Same (aw [la] H) (aw [la] H2))
      (fun σ _ => match σ with | [_, _, _, _, some (.int c)] => b - c.toNat | _ => 0) ⟨0, L, rfl, by have := G.g.b2; omega, by rw [under_zero]; exact Nat.zero_le _, Nat.le_refl _, hL, TA, Same.refl _⟩ ?_ ?_
    · rintro σ H2 ⟨c, L', rfl, hc, hu, hLL, hL', TA2, m2⟩
      obtain ⟨dx2, sa2, hp2⟩ := TA2.obj
      refine ⟨_, rfl, p, dx2, _, rfl, hp2, fldT_no _ _ _ _ (by decide +kernel) (by decide +kernel) (by decide +kernel) (by decide +kernel), _, rfl, _, rfl, _, _, rfl, rfl, _, rfl, p, la, b, ls, ws, L', i, c + 1, t, rfl, TA2, G, hL', ht, hi, by omega, fun L3 H3 hL3 TA3 m3 hmx => ?_⟩
      refine ⟨_, rfl, _, _, rfl, rfl, _, rfl, ?_⟩
      refine ite2 (fun h1 => ?_) (fun h1 => ?_)
      · have h1' : under ls b t ws[i]? (c + 1) ≤ k := by have := of_decide_eq_true h1; omega
        have hcb : c + 1 < b := by
          by_cases z : c + 1 < b
          · exact z
          · rw [show c + 1 = b by omega] at h1'; omega
        refine ⟨_, rfl, _, _, rfl, rfl, ⟨c + 1, L3, rfl, hcb, h1', by omega, by omega, TA3, m2.trans m3⟩, ?_⟩
        show b - ((c : Int) + 1).toNat < b - (c : Int).toNat
        omega
      · have h1' : k < under ls b t ws[i]? (c + 1) := by
          by_cases z : k < under ls b t ws[i]? (c + 1)
          · exact z
          · exact absurd (decide_eq_true (by omega : ((under ls b t ws[i]? (c + 1) : Nat) : Int) ≤ k)) h1
        exact ⟨_, rfl, kk c hc hu h1' L3 H3 (by omega) TA3 (m2.trans m3) (by omega)⟩
    · intro σ H2 Q Q' hq
      rintro ⟨v0, e0, a, dx, fs, h1, h2, h3, v1, e1, v4, e4, i4, j4, e5, e6, v3, e3, p', la', b', ls', ws', L', i', s', t', g1, g2, g3, g4, g5, g6, g7, g8⟩
      exact ⟨v0, e0, a, dx, fs, h1, h2, h3, v1, e1, v4, e4, i4, j4, e5, e6, v3, e3, p', la', b', ls', ws', L', i', s', t', g1, g2, g3, g4, g5, g6, g7, fun L2 H3 a1 a2 a3 a4 => by
        obtain ⟨v2, e2, i2, j2, e7, e8, k2, e9, q⟩ := g8 L2 H3 a1 a2 a3 a4
        exact ⟨v2, e2, i2, j2, e7, e8, k2, e9, hq _ _ q⟩⟩
def sp_number_at (C : Addr) : Sp := fun vs H Q _ => ∃ (p la : Addr) (b : Nat) (ls ws : List (List Int)) (L sz k : Nat), vs = [.ref p, .int sz, .int k] ∧ TailsAt C H p la b ls ws L ∧ GoodT b ls ws ∧ L ≤ 1000 ∧ sz < 1000 ∧ k < many (gd ls b) (b ^ sz) ∧
  ∀ n : Nat, gd ls b n = true → many (gd ls b) n = k → n < b ^ sz → TQ C H p la b ls ws L fun L' H' => L' ≤ 1000 → Q (.int n) H'
theorem sc_Tails_number_at : FnScope ["self", "size", "k", "place", "n", "left", "figure"] ["self", "size", "k"] (defScope s_Tails_number_at) := ⟨rfl, rfl, rfl, by decide +kernel, rfl, by decide +kernel, by decide +kernel⟩
theorem ok_number_at {f f1 f2 : Addr} {fd fd1 fd2 : FuncData} (D : Mt K C "Tails.number_at" "number_at" s_Tails_number_at ["self", "size", "k"] f fd) (MTails_many_under : Mt K C "Tails.many_under" "many_under" s_Tails_many_under ["self", "place", "stop", "left"] f1 fd1) (GTails_many_under : FnOk P w K mg base CX0 3 f1 fd1 ["self", "place", "stop", "left"] (sp_many_under C))
    (MTails_figure_at : Mt K C "Tails.figure_at" "figure_at" s_Tails_figure_at ["self", "place", "k", "left"] f2 fd2) (GTails_figure_at : FnOk P w K mg base CX0 4 f2 fd2 ["self", "place", "k", "left"] (sp_figure_at C)) (cTails : ClT K mg C) (T : Blt mg) : FnOk P w K mg base CX0 5 f fd ["self", "size", "k"] (sp_number_at C) := by
  refine D.fn.ok sc_Tails_number_at (fun vs H Q E h => ?_) (fun cdv A outer s H vs Q E hr h => ?_)
  · obtain ⟨p, la, b, ls, ws, L, sz, k, rfl, _⟩ := h; rfl
  · obtain ⟨p, la, b, ls, ws, L, sz, k, rfl, TA, G, hL, hsz, hk, kk⟩ := h
    have b2 := G.g.b2
    have b16 := G.g.b16
    obtain ⟨dx0, sa0, hp0⟩ := TA.obj
    refine ⟨_, (pss_cons (ps_set (i := 3) sc_Tails_number_at.nd rfl (Or.inl rfl) (k_fld K (pv 0)))
      (pss_cons (ps_set (i := 4) sc_Tails_number_at.nd rfl (Or.inl rfl) pe_int)
      (pss_cons (ps_for PassesOwn.never rfl (pi_rangeD rfl T.n_range (pa_cons (pe_op op_sub (pv 1) pe_int) (pa_cons (pe_un un_neg pe_int) (pa_cons (pe_un un_neg pe_int) pa_nil)))) (pg_name (i := 5) sc_Tails_number_at.nd rfl (Or.inl rfl))
        (pss_cons (ps_set (i := 6) sc_Tails_number_at.nd rfl (Or.inl rfl) (pmeth MTails_figure_at cTails.cl GTails_figure_at (hr.mono (by decide)) (pv 0) (pa_cons (pv 3) (pa_cons (pv 2) (pa_cons (pv 5) pa_nil)))))
        (pss_cons (ps_aug (i := 2) sc_Tails_number_at.nd rfl (Or.inl rfl) (pmeth MTails_many_under cTails.cl GTails_many_under (hr.mono (by decide)) (pv 0) (pa_cons (pv 3) (pa_cons (pv 6) (pa_cons (pv 5) pa_nil)))) ip_sub)
        (pss_cons (ps_set (i := 3) sc_Tails_number_at.nd rfl (Or.inl rfl) (pe_ix (k_ixL K) (pe_ix (k_ixL K) (k_fld K (pv 0)) (pv 3) (fun _ _ => rfl)) (pv 6) (fun _ _ => rfl)))
        (pss_one (ps_set (i := 4) sc_Tails_number_at.nd rfl (Or.inl rfl) (pe_op op_add (pe_op op_mul (pv 4) (k_fld K (pv 0))) (pv 6))))))))
      (pss_one (ps_ret (pv 4)))))), ?_⟩
    refine ⟨_, rfl, p, C, dx0, _, _, rfl, hp0, cTails.cl, cTails.n_outset, fldT_outset _ _ _ _, ?_⟩
    refine ⟨_, rfl, _, _, rfl, rfl, _, rfl, _, rfl, ((sz : Int) - 1), rfl, by omega, by omega, ?_⟩
    rw [show ((sz : Int) - 1 + 1).toNat = sz by omega]
    refine for_rangeS (lo := (sz : Int) - 1) (c := -1) (n := sz) (fun j σ H2 => ∃ (v5 v6 : Option V) (i m L' : Nat), σ = [some (.ref p), some (.int sz), some (.int ((k : Int) - (many (gd ls b) (m * b ^ (sz - j)) : Nat))), some (.int i), some (.int m), v5, v6] ∧ i ≤ ws.length ∧ Rep ls b m ws[i]? ∧ many (gd ls b) (m * b ^ (sz - j)) ≤ k ∧ k < many (gd ls b) ((m + 1) * b ^ (sz - j)) ∧ L ≤ L' ∧ L' ≤ 1000 ∧ TailsAt C H2 p la b ls ws L' ∧ Same (aw [la] H) (aw [la] H2)) ⟨none, none, ws.length, 0, L, ?_, Nat.le_refl _, ?_, ?_, ?_, Nat.le_refl _, hL, TA, Same.refl _⟩ ?_ ?_
    · rw [Nat.zero_mul]
      show [_, _, some (V.int k), _, _, _, _] = [_, _, some (V.int ((k : Int) - ((0 : Nat) : Int))), _, _, _, _]
      rw [Int.natCast_zero, Int.sub_zero]
    · rw [List.getElem?_eq_none (Nat.le_refl _)]; exact .inl ⟨rfl, rfl⟩
    · rw [Nat.zero_mul]; exact Nat.zero_le _
    · rw [Nat.sub_zero, Nat.zero_add, Nat.one_mul]; exact hk
    · rintro j σ H2 hj ⟨v5, v6, i, m, L', rfl, hi, R, hlo, hhi, hLL, hL', TA2, m2⟩
      obtain ⟨t, ht⟩ : ∃ t, sz - j = t + 1 := ⟨sz - j - 1, by omega⟩
      rw [ht] at hlo hhi ⊢
      have elft : ((sz : Int) - 1 + (j : Int) * (-1)) = (t : Int) := by omega
      rw [elft]
      have eb := under_many G.ne b2 R t (s := b) (Nat.le_refl _)
      have eb2 : (m * b + b) * b ^ t = (m + 1) * b ^ (t + 1) := by rw [Nat.pow_succ', ← Nat.mul_assoc, Nat.succ_mul]
      rw [eb2] at eb
      obtain ⟨k', hk'⟩ : ∃ k', k = many (gd ls b) (m * b ^ (t + 1)) + k' := ⟨k - many (gd ls b) (m * b ^ (t + 1)), by omega⟩
      have ek : ((k : Int) - (many (gd ls b) (m * b ^ (t + 1)) : Nat)) = (k' : Int) := by omega
      rw [ek]
      obtain ⟨dx2, sa2, hp2⟩ := TA2.obj
      refine ⟨_, rfl, p, dx2, _, rfl, hp2, fldT_no _ _ _ _ (by decide +kernel) (by decide +kernel) (by decide +kernel) (by decide +kernel), _, rfl, _, rfl, _, rfl, p, la, b, ls, ws, L', i, k', t, rfl, TA2, G, hL', by omega, hi, by omega, fun c hc hu1 hu2 L3 H3 hL3 TA3 m3 hL3' => ?_⟩
      obtain ⟨dx3, sa3, hp3⟩ := TA3.obj
      refine ⟨_, rfl, _, rfl, p, dx3, _, rfl, hp3, fldT_no _ _ _ _ (by decide +kernel) (by decide +kernel) (by decide +kernel) (by decide +kernel), _, rfl, _, rfl, _, rfl, p, la, b, ls, ws, L3, i, c, t, rfl, TA3, G, hL3', by omega, hi, by omega, fun L4 H4 hL4 TA4 m4 hmx => ⟨_, _, rfl, rfl, ?_⟩⟩
      have m24 := m2.trans (m3.trans m4)
      obtain ⟨dx4, sa4, srs4, z4, q1, q2, q3, q4, q5⟩ := steps_at TA4 G hi hc
      refine ⟨_, rfl, p, C, dx4, _, _, rfl, q1, cTails.cl, cTails.n_steps, fldT_steps _ _ _ _, _, rfl, sa4, _, _, _, rfl, rfl, SqL.of q2, q3, _, rfl, z4.1, _, _, _, rfl, rfl, SqL.of q4, q5, ?_⟩
      refine ⟨_, rfl, _, rfl, p, C, dx4, _, _, rfl, q1, cTails.cl, cTails.n_base, fldT_base _ _ _ _, _, _, rfl, rfl, .inr ⟨by omega, by omega⟩, _, rfl, _, _, rfl, rfl, ?_⟩
      have e1 := under_many G.ne b2 R t (s := c) (by omega)
      have e2 := under_many G.ne b2 R t (s := c + 1) (by omega)
      have hlo' : many (gd ls b) ((m * b + c) * b ^ t) ≤ k := by omega
      have hhi' : k < many (gd ls b) ((m * b + c + 1) * b ^ t) := by
        rw [show m * b + c + 1 = m * b + (c + 1) by omega]; omega
      rcases stepV_rep G hi R hc with ⟨j', f1, f2, f3⟩ | ⟨f1, f2, f3⟩
      · rw [f1]
        refine ⟨some (.int t), some (.int c), j', m * b + c, L4, ?_, f2, f3, ?_, ?_, by omega, by omega, TA4, m24⟩
        · rw [show sz - (j + 1) = t by omega]
          show [_, _, some (V.int ((k' : Int) - (under ls b t ws[i]? c : Nat))), some (V.int (j' : Nat)), some (V.int ((m : Int) * b + c)), _, _] = [_, _, some (V.int ((k : Int) - (many (gd ls b) ((m * b + c) * b ^ t) : Nat))), some (V.int (j' : Nat)), some (V.int ((m * b + c : Nat) : Int)), _, _]
          rw [show ((k' : Int) - (under ls b t ws[i]? c : Nat)) = ((k : Int) - (many (gd ls b) ((m * b + c) * b ^ t) : Nat)) by omega, Int.natCast_add, Int.natCast_mul]
        · rw [show sz - (j + 1) = t by omega]; exact hlo'
        · rw [show sz - (j + 1) = t by omega]; exact hhi'
      · exfalso
        have eb3 := bad_on G.ne b2 f2 f3 t (r := b ^ t) (Nat.le_refl _)
        rw [← Nat.succ_mul] at eb3
        have : (m * b + c).succ = m * b + c + 1 := rfl
        rw [this] at eb3
        omega
    · rintro σ H2 ⟨v5, v6, i, m, L', rfl, hi, R, hlo, hhi, hLL, hL', TA2, m2⟩
      rw [Nat.sub_self, Nat.pow_zero, Nat.mul_one] at hlo hhi
      have hg : gd ls b m = true := by
        cases e : gd ls b m with
        | true => rfl
        | false =>
          have : many (gd ls b) (m + 1) = many (gd ls b) m := by rw [many, e]; rfl
          omega
      have em : many (gd ls b) m = k := by
        have : many (gd ls b) (m + 1) = many (gd ls b) m + 1 := by rw [many, if_pos hg]
        omega
      refine ⟨_, rfl, kk m hg em ?_ L' H2 hLL TA2 m2 hL'⟩
      by_cases z : m < b ^ sz
      · exact z
      · have := many_mono (gd ls b) (show b ^ sz ≤ m by omega)
        omega
end
end Lw
set_option Elab.async false
set_option linter.all false
set_option maxRecDepth 100000
namespace Lw
open PySem L2 PyProof.Rows
theorem LT.off {T la : Addr} {H H' : Hp} {xs : List V} (h : LT T H) (hla : H la = some (.lst xs)) (m : Same (aw [la] H) (aw [la] H')) : LT T H' := by
  have go : ∀ c o, c ≠ la → H c = some o → H' c = some o := fun c o hc e => by
    have hc' : c ∉ [la] := by simpa using hc
    have := m c o (by rw [aw_out hc']; exact e)
    rwa [aw_out hc'] at this
  have n0 : T ≠ la := Ne.symm (h.lst hla)
  rcases h with h | ⟨c, h1, h2⟩
  · exact .inl (go _ _ n0 h)
  · refine .inr ⟨c, go _ _ n0 h1, go _ _ (fun z => ?_) h2⟩
    rw [z, hla] at h2
    cases h2
theorem rep_one {α : Type} {f : α → V} (h : ∀ a, f a = V.int 1) : ∀ l : List α, (List.replicate l.length [V.int 1]).flatten = l.map f
  | [] => rfl
  | a :: l => by rw [List.length_cons, List.replicate_succ, List.flatten_cons, rep_one h l, List.map_cons, h a]; rfl
section
variable {P : Program} {w : World} {K : PySem.W.Frag} {mg : Str → Option Value} {base : Heap} {T0 C : Addr}
def sp_tails (T0 C : Addr) : Sp := fun vs H Q _ => ∃ (p dx r : Addr) (b : Nat) (bl : Addr) (zs : List (Addr × List Int)), vs = [.ref p, .ref r] ∧ H p = some (.ins C dx []) ∧ RuleAt H r b bl zs ∧ GoodRule b (zs.map (·.2)) ∧ LT T0 H ∧
  ∀ (la : Addr) (ws : List (List Int)) (H' : Hp), TailsAt C H' p la b (zs.map (·.2)) ws 1 → GoodT b (zs.map (·.2)) ws → (∀ c o, c ≠ p → c ≠ T0 → H c = some o → H' c = some o) → LT T0 H' → H la = none → Q .non H'
theorem sc_Tails___init__ : FnScope ["self", "rule", "stands"] ["self", "rule"] (defScope s_Tails___init__) := ⟨rfl, rfl, rfl, by decide +kernel, rfl, by decide +kernel, by decide +kernel⟩
theorem ok_tails {f f1 f2 f3 : Addr} {fd fd1 fd2 fd3 : FuncData} (D : Mt K C "Tails.__init__" "__init__" s_Tails___init__ ["self", "rule"] f fd) (Dstands_of : Df K mg "stands_of" s_stands_of ["bad"] f1 fd1) (Gstands_of : FnOk P w K mg base CX0 6 f1 fd1 ["bad"] (sp_stands_of T0)) (Dall_steps : Df K mg "all_steps" s_all_steps ["rule", "stands"] f2 fd2) (Gall_steps : FnOk P w K mg base CX0 6 f2 fd2 ["rule", "stands"] sp_all_steps)
    (Dlacks_all : Df K mg "lacks_all" s_lacks_all ["bad", "figures"] f3 fd3) (Glacks_all : FnOk P w K mg base CX0 2 f3 fd3 ["bad", "figures"] sp_lacks_all) (cTails : ClT K mg C) (T : Blt mg) : FnOk P w K mg base CX0 7 f fd ["self", "rule"] (sp_tails T0 C) := by
  refine D.fn.ok sc_Tails___init__ (fun vs H Q E h => ?_) (fun cdv A outer s H vs Q E hr h => ?_)
  · obtain ⟨p, dx, r, b, bl, zs, rfl, _⟩ := h; rfl
  · obtain ⟨p, dx, r, b, bl, zs, rfl, hp, R, g, hT, kk⟩ := h
    have h4 : zs.length ≤ 4 := by have := g.len; rwa [List.length_map] at this
    have gz : ∀ z ∈ zs, z.2 ≠ [] ∧ z.2.length ≤ 4 := fun z hz => ⟨(g.st _ (List.mem_map.mpr ⟨z, hz, rfl⟩)).ne, (g.st _ (List.mem_map.mpr ⟨z, hz, rfl⟩)).len⟩
    have npT : p ≠ T0 := fun z => by
      rw [z] at hp
      rcases hT with h | ⟨c, h, _⟩
      · rw [h] at hp; cases hp
      · rw [h] at hp; cases hp
    refine ⟨_, (pss_cons (ps_set (i := 2) sc_Tails___init__.nd rfl (Or.inl rfl) (pcall Dstands_of Gstands_of (hr.mono (by decide)) (pa_cons (pe_ix (k_ixT K) (pv 1) pe_int (fun _ _ => rfl)) pa_nil)))
      (pss_cons (ps_fld (pv 0) (pe_ix (k_ixT K) (pv 1) pe_int (fun _ _ => rfl)) rfl)
      (pss_cons (ps_fld (pv 0) (pe_callB (k_len K) (by rfl) T.n_len PySem.boot_len (pa_cons (pv 2) pa_nil)) rfl)
      (pss_cons (ps_fld (pv 0) (pcall Dall_steps Gall_steps (hr.mono (by decide)) (pa_cons (pv 1) (pa_cons (pv 2) pa_nil))) rfl)
      (pss_one (ps_fld (pv 0) (pe_lst (pa_cons (pe_op op_cat (pe_op op_rep (pe_lst (pa_cons pe_int pa_nil)) (pe_callB (k_len K) (by rfl) T.n_len PySem.boot_len (pa_cons (pv 2) pa_nil))) (pe_lst (pa_cons (pe_ifExp (pt_val (pcall Dlacks_all Glacks_all (hr.mono (by decide)) (pa_cons (pe_ix (k_ixT K) (pv 1) pe_int (fun _ _ => rfl)) (pa_cons (pe_lst (pa_cons pe_int pa_nil)) pa_nil)))) pe_int pe_int) pa_nil))) pa_nil)) rfl)))))), ?_⟩
    refine ⟨_, rfl, r, _, _, V.ref bl, rfl, rfl, SqT.of R.tu, rfl, bl, zs, rfl, R.li, R.st, h4, gz, hT, fun Dd ws H1 hDn hD hws SL h13 mL hT1 => ?_⟩
    have R1 : RuleAt H1 r b bl zs := ⟨mL _ _ (hT.tup R.tu) R.tu, mL _ _ (hT.lst R.li) R.li, fun z hz => mL _ _ (hT.lst (R.st z hz)) (R.st z hz)⟩
    have hp1 := mL _ _ npT hp
    have rp : r ≠ p := ne_of R1.tu hp1 (fun z => nomatch z)
    have lp : ∀ {c : Addr} {xs : List V}, H1 c = some (.lst xs) → c ≠ p := fun h => ne_of h hp1 (fun z => nomatch z)
    refine ⟨_, rfl, r, _, _, V.int b, rfl, rfl, SqT.of R1.tu, rfl, _, rfl, p, C, dx, _, rfl, hp1, cTails.cl, cTails.n_base, (by show 0 < 1000; decide), ?_⟩
    refine ⟨_, rfl, Dd, _, rfl, .inl (SqL.of (by rw [upd_ne (lp hD)]; exact hD)), _, rfl, p, C, dx, _, rfl, upd_same, cTails.cl, cTails.n_outset, (by show 1 < 1000; decide), ?_⟩
    rw [upd_upd, List.length_map]
    generalize hH3 : upd H1 p (.ins C dx (putF "outset" (.int (ws.length : Nat)) (putF "base" (.int b) []))) = H3
    have m3 : ∀ c o, c ≠ p → H1 c = some o → H3 c = some o := fun c o hc e => by rw [← hH3, upd_ne hc]; exact e
    have hp3 : H3 p = some (.ins C dx (putF "outset" (.int (ws.length : Nat)) (putF "base" (.int b) []))) := by rw [← hH3, upd_same]
    have R3 : RuleAt H3 r b bl zs := ⟨m3 _ _ rp R1.tu, m3 _ _ (lp R1.li) R1.li, fun z hz => m3 _ _ (lp (R1.st z hz)) (R1.st z hz)⟩
    refine ⟨_, rfl, _, rfl, r, b, bl, zs, Dd, ws, rfl, R3, g, m3 _ _ (lp hD) hD, fun z hz => m3 _ _ (lp (hws z hz).2.1) (hws z hz).2.1, SL, h13, fun sa srs H4 hsa m4 hsal hsrs hsr2 => ?_⟩
    have hp4 := m4 _ _ hp3
    have len2 : (putF "outset" (.int (ws.length : Nat)) (putF "base" (.int b) [])).length ≤ 2 := Nat.le_trans (length_putF _ _ _) (Nat.succ_le_succ (length_putF _ _ _))
    refine ⟨_, rfl, p, C, dx, _, rfl, hp4, cTails.cl, cTails.n_steps, by omega, ?_⟩
    generalize hH5 : upd H4 p (.ins C dx (putF "steps" (.ref sa) (putF "outset" (.int (ws.length : Nat)) (putF "base" (.int b) [])))) = H5
    have m5 : ∀ c o, c ≠ p → H4 c = some o → H5 c = some o := fun c o hc e => by rw [← hH5, upd_ne hc]; exact e
    have hp5 : H5 p = some (.ins C dx (putF "steps" (.ref sa) (putF "outset" (.int (ws.length : Nat)) (putF "base" (.int b) [])))) := by rw [← hH5, upd_same]
    have lp4 : ∀ {c : Addr} {xs : List V}, H4 c = some (.lst xs) → c ≠ p := fun h => ne_of h hp4 (fun z => nomatch z)
    have R4 := R3.same m4
    have R5 : RuleAt H5 r b bl zs := ⟨m5 _ _ (ne_of R4.tu hp4 (fun z => nomatch z)) R4.tu, m5 _ _ (lp4 R4.li) R4.li, fun z hz => m5 _ _ (lp4 (R4.st z hz)) (R4.st z hz)⟩
    have hD5 : H5 Dd = some (.lst (ws.map fun z => V.ref z.1)) := m5 _ _ (lp4 (m4 _ _ (m3 _ _ (lp hD) hD))) (m4 _ _ (m3 _ _ (lp hD) hD))
    refine ⟨(by show 1 ≤ sizeLine; decide), fun q1 n1 => ?_⟩
    refine ⟨_, rfl, Dd, _, rfl, .inl (SqL.of (same_upd n1 _ _ hD5)), ?_⟩
    rw [List.length_map]
    refine ⟨q1, _, _, rfl, rfl, upd_same, by omega, by omega, ?_, fun q2 n2 => ?_⟩
    · show 1 * (ws.length : Int).toNat ≤ sizeLine
      exact Nat.le_trans (show 1 * (ws.length : Int).toNat ≤ 13 by omega) (by decide)
    have s1 := same_upd n1 (o := .lst [V.int 1])
    have s2 := s1.trans (same_upd n2 (o := .lst (List.replicate (ws.length : Int).toNat [V.int 1]).flatten))
    have R6 := R5.same s2
    refine ⟨_, rfl, r, _, _, V.ref bl, rfl, rfl, SqT.of R6.tu, rfl, (by show 1 ≤ sizeLine; decide), fun q3 n3 => ?_⟩
    have s3 := s2.trans (same_upd n3 (o := .lst [V.int 0]))
    have R7 := R5.same s3
    refine ⟨bl, q3, zs, [0], rfl, R7.li, R7.st, upd_same, by omega, by decide, fun z hz => ⟨(gz z hz).1, Nat.le_trans (gz z hz).2 (by decide)⟩, fun H8 s8 => ⟨_, rfl, ?_⟩⟩
    have s38 := s3.trans s8
    have fin : ∀ x : Int, x = ((cntO (zs.map (·.2)) b 0 : Nat) : Int) → ∀ q4, H8 q4 = none → q2 ≠ q4 → ∀ q5, upd H8 q4 (.lst [V.int x]) q5 = none → ∀ q6, upd (upd H8 q4 (.lst [V.int x])) q5 (.lst ((List.replicate (ws.length : Int).toNat [V.int 1]).flatten ++ [V.int x])) q6 = none →
        Q .non (upd (upd (upd (upd H8 q4 (.lst [V.int x])) q5 (.lst ((List.replicate (ws.length : Int).toNat [V.int 1]).flatten ++ [V.int x]))) q6 (.lst [V.ref q5])) p (.ins C dx (putF "layers" (.ref q6) (putF "steps" (.ref sa) (putF "outset" (.int (ws.length : Nat)) (putF "base" (.int b) [])))))) := by
      intro x hx q4 n4 _ q5 n5 q6 n6
      have t4 := same_upd n4 (o := .lst [V.int x])
      have t5 := same_upd n5 (o := .lst ((List.replicate (ws.length : Int).toNat [V.int 1]).flatten ++ [V.int x]))
      have t6 := same_upd n6 (o := .lst [V.ref q5])
      have t46 := t4.trans (t5.trans t6)
      have s56 := s38.trans t46
      have hp9 := s56 _ _ hp5
      have f5 : ∀ c, H5 c = none → H c = none := fun c hc => by
        have h5 : H4 c = none := by
          rw [← hH5] at hc
          by_cases z : c = p
          · subst z; rw [upd_same] at hc; cases hc
          · rwa [upd_ne z] at hc
        have h3' : H3 c = none := m4.free h5
        have h1' : H1 c = none := by
          rw [← hH3] at h3'
          by_cases z : c = p
          · subst z; rw [upd_same] at h3'; cases h3'
          · rwa [upd_ne z] at h3'
        cases e : H c with
        | none => rfl
        | some o =>
          by_cases z : c = T0
          · subst z
            exact absurd h1' (by
              rcases hT1 with h | ⟨d, h, _⟩
              · rw [h]; simp
              · rw [h]; simp)
          · rw [mL c o z e] at h1'; cases h1'
      have q6H5 : H5 q6 = none := (s38.trans (t4.trans t5)).free n6
      have q6p : q6 ≠ p := fun z => by rw [z, hp5] at q6H5; cases q6H5
      have np5 : q5 ≠ q6 := fun z => by rw [← z, upd_same] at n6; cases n6
      generalize hH9 : upd (upd (upd H8 q4 (.lst [V.int x])) q5 (.lst ((List.replicate (ws.length : Int).toNat [V.int 1]).flatten ++ [V.int x]))) q6 (.lst [V.ref q5]) = H9 at t6 t46 s56 hp9
      have hq6 : H9 q6 = some (.lst [V.ref q5]) := by rw [← hH9, upd_same]
      have hq5 : H9 q5 = some (.lst ((List.replicate (ws.length : Int).toNat [V.int 1]).flatten ++ [V.int x])) := by rw [← hH9, upd_ne np5, upd_same]
      have q5p : q5 ≠ p := ne_of hq5 hp9 (fun z => nomatch z)
      have off : ∀ c o, c ≠ p → H5 c = some o → aw [q6] (upd H9 p (.ins C dx (fldT b ws.length sa q6))) c = some o := fun c o hc e => by
        have hcq : c ≠ q6 := ne_of_none e q6H5
        rw [aw_out (by simpa using hcq), upd_ne hc]
        exact s56 c o e
      have sa4 : H4 sa = some (.lst (srs.map fun z => V.ref z.1)) := hsal
      have l1 : ∀ {c : Addr} {xs : List V}, H4 c = some (.lst xs) → H5 c = some (.lst xs) ∧ c ≠ p := fun h => ⟨m5 _ _ (lp4 h) h, lp4 h⟩
      refine kk q6 (ws.map (·.2)) _ ⟨⟨dx, sa, srs, ?_, off _ _ (l1 hsal).2 (l1 hsal).1, fun z hz => off _ _ (l1 (hsrs z hz).2).2 (l1 (hsrs z hz).2).1, hsr2⟩, ⟨[(q5, layerV (zs.map (·.2)) (ws.map (·.2)) b 0)], by rw [upd_ne q6p]; exact hq6, fun z hz => ?_, rfl⟩, Nat.le_refl _⟩ ⟨g, SL, by rw [List.length_map]; exact h13⟩ (fun c o hc hcT e => ?_) ?_ (f5 _ q6H5)
      · rw [aw_out (by simpa using Ne.symm q6p), List.length_map]
        exact upd_same
      · have e : z = (q5, layerV (zs.map (·.2)) (ws.map (·.2)) b 0) := by simpa using hz
        subst e
        rw [aw_out (by simpa using np5), upd_ne q5p, hq5]
        congr 2
        unfold layerV
        rw [List.map_append, hx, Int.toNat_natCast, List.map_map, List.map_map]
        rw [rep_one (fun _ => rfl) ws]
        rfl
      · rw [upd_ne hc]
        have h1 := mL c o hcT e
        exact s56 c o (m5 c o hc (m4 c o (m3 c o hc h1)))
      · have a1 : LT T0 H3 := by
          rcases hT1 with h | ⟨d, h1, h2⟩
          · exact .inl (m3 _ _ (Ne.symm npT) h)
          · exact .inr ⟨d, m3 _ _ (Ne.symm npT) h1, m3 _ _ (ne_of h2 hp1 (fun z => nomatch z)) h2⟩
        have a2 := a1.same m4
        have a3 : LT T0 H5 := by
          rcases a2 with h | ⟨d, h1, h2⟩
          · exact .inl (m5 _ _ (Ne.symm npT) h)
          · exact .inr ⟨d, m5 _ _ (Ne.symm npT) h1, m5 _ _ (ne_of h2 hp4 (fun z => nomatch z)) h2⟩
        have a4 := a3.same s56
        rcases a4 with h | ⟨d, h1, h2⟩
        · exact .inl (by rw [upd_ne (Ne.symm npT)]; exact h)
        · exact .inr ⟨d, by rw [upd_ne (Ne.symm npT)]; exact h1, by rw [upd_ne (ne_of h2 hp9 (fun z => nomatch z))]; exact h2⟩
    have hq2 : H8 q2 = some (.lst (List.replicate (ws.length : Int).toNat [V.int 1]).flatten) := s8 _ _ (same_upd n3 _ _ upd_same)
    have lenr : (List.replicate (ws.length : Int).toNat [V.int 1]).flatten.length ≤ 13 := by rw [Int.toNat_natCast, rep_one (f := fun _ => V.int 1) (fun _ => rfl) ws, List.length_map]; exact h13
    have len3 : (putF "steps" (.ref sa) (putF "outset" (.int (ws.length : Nat)) (putF "base" (.int b) []))).length ≤ 3 := Nat.le_trans (length_putF _ _ _) (Nat.succ_le_succ len2)
    have tail : ∀ x : Int, x = ((cntO (zs.map (·.2)) b 0 : Nat) : Int) → ∀ q4, H8 q4 = none → ∃ l b' xs zs', V.ref q2 = V.ref l ∧ V.ref q4 = V.ref b' ∧ upd H8 q4 (.lst [V.int x]) l = some (.lst xs) ∧ upd H8 q4 (.lst [V.int x]) b' = some (.lst zs') ∧ xs.length + zs'.length ≤ sizeLine ∧ ∀ q5, upd H8 q4 (.lst [V.int x]) q5 = none →
        1 ≤ sizeLine ∧ ∀ q6, upd (upd H8 q4 (.lst [V.int x])) q5 (.lst (xs ++ zs')) q6 = none → ∃ v, some (some (V.ref p)) = some (some v) ∧ ∃ a C' dx' fs, v = .ref a ∧ upd (upd (upd H8 q4 (.lst [V.int x])) q5 (.lst (xs ++ zs'))) q6 (.lst [V.ref q5]) a = some (.ins C' dx' fs) ∧ Cls K C' ∧ NoAttr K C' "layers" ∧ fs.length < 1000 ∧ Q .non (upd (upd (upd (upd H8 q4 (.lst [V.int x])) q5 (.lst (xs ++ zs'))) q6 (.lst [V.ref q5])) a (.ins C' dx' (putF "layers" (.ref q6) fs))) := by
      intro x hx q4 n4
      have nq : q2 ≠ q4 := ne_of_none hq2 n4
      refine ⟨q2, q4, _, _, rfl, rfl, by rw [upd_ne nq]; exact hq2, upd_same, Nat.le_trans (Nat.add_le_add lenr (Nat.le_refl 1)) (by decide), fun q5 n5 => ⟨(by decide), fun q6 n6 => ?_⟩⟩
      have hp8 := s38 _ _ hp5
      exact ⟨_, rfl, p, C, dx, _, rfl, (same_upd n4).trans ((same_upd n5).trans (same_upd n6)) _ _ hp8, cTails.cl, cTails.n_layers, by omega, fin x hx q4 n4 nq q5 n5 q6 n6⟩
    cases hlk : lacks (zs.map (·.2)) [0] with
    | true =>
      refine iteT ?_
      refine ⟨(by show 1 ≤ sizeLine; decide), fun q4 n4 => ?_⟩
      exact tail 1 (by unfold cntO; rw [hlk]; rfl) q4 n4
    | false =>
      refine iteF ?_
      refine ⟨(by show 1 ≤ sizeLine; decide), fun q4 n4 => ?_⟩
      exact tail 0 (by unfold cntO; rw [hlk]; rfl) q4 n4
end
end Lw
set_option Elab.async false
set_option linter.all false
set_option maxRecDepth 100000
namespace Lw
open PySem L2 PyProof.Rows
theorem mk_same {H : Hp} {x dx : Addr} {C : Addr} (nx : H x = none) (ndx : H dx = none) : Same H (upd (upd H dx (.own x)) x (.ins C dx [])) := fun b o e => by
  rw [upd_ne (ne_of_none e nx), upd_ne (ne_of_none e ndx)]
  exact e
theorem RuleAt.sameL {T0 r bl : Addr} {H H' : Hp} {b : Nat} {zs : List (Addr × List Int)} (R : RuleAt H r b bl zs) (hT : LT T0 H) (m : SameL T0 H H') : RuleAt H' r b bl zs :=
  ⟨m _ _ (hT.tup R.tu) R.tu, m _ _ (hT.lst R.li) R.li, fun z hz => m _ _ (hT.lst (R.st z hz)) (R.st z hz)⟩
theorem sameL_off {T0 la : Addr} {H H1 H2 : Hp} (m : SameL T0 H H1) (hla : H la = none) (a : Same (aw [la] H1) (aw [la] H2)) : SameL T0 H H2 := fun c o hc e => by
  have hcl : c ∉ [la] := by simpa using ne_of_none e hla
  have := a c o (by rw [aw_out hcl]; exact m c o hc e)
  rwa [aw_out hcl] at this
theorem TailsAt.la {C p la b : Nat} {H : Hp} {ls ws : List (List Int)} {L : Nat} (TA : TailsAt C H p la b ls ws L) : ∃ xs, H la = some (.lst xs) := let ⟨_, h, _⟩ := TA.ly; ⟨_, h⟩
section
variable {P : Program} {w : World} {K : PySem.W.Frag} {mg : Str → Option Value} {base : Heap} {T0 C : Addr}
def MadeT (T0 C : Addr) (b : Nat) (ls : List (List Int)) (H : Hp) (x : Addr) (H' : Hp) : Prop := ∃ (la : Addr) (ws : List (List Int)), TailsAt C H' x la b ls ws 1 ∧ GoodT b ls ws ∧ SameL T0 H H' ∧ LT T0 H' ∧ H la = none
theorem made_of {r : Addr} {b : Nat} {bl : Addr} {zs : List (Addr × List Int)} {H : Hp} (R : RuleAt H r b bl zs) (g : GoodRule b (zs.map (·.2))) (hT : LT T0 H) {R' : Addr → Hp → Prop} (k : ∀ x H', MadeT T0 C b (zs.map (·.2)) H x H' → R' x H') :
    ∀ x dx, H x = none → H dx = none → dx ≠ x → sp_tails T0 C (.ref x :: ([.ref r] ++ [])) (upd (upd H dx (.own x)) x (.ins C dx [])) (fun v H2 => v = .non ∧ R' x H2) E0 := by
  intro x dx nx ndx nex
  have s0 := mk_same (C := C) nx ndx
  refine ⟨x, dx, r, b, bl, zs, rfl, upd_same, R.same s0, g, hT.same s0, fun la ws H' TA G fr hT' hla => ⟨rfl, k x H' ⟨la, ws, TA, G, fun c o hc e => fr c o (ne_of_none e nx) hc (s0 c o e), hT', s0.free hla⟩⟩⟩
def sp_count_below (T0 : Addr) : Sp := fun vs H Q _ => ∃ (r : Addr) (b : Nat) (bl : Addr) (zs : List (Addr × List Int)) (n : Nat), vs = [.ref r, .int n] ∧ RuleAt H r b bl zs ∧ GoodRule b (zs.map (·.2)) ∧ n < 2 ^ 900 ∧ LT T0 H ∧ ∀ H', SameL T0 H H' → LT T0 H' → Q (.int (many (gd (zs.map (·.2)) b) n : Nat)) H'
theorem sc_count_below : FnScope ["rule", "n"] ["rule", "n"] (defScope s_count_below) := ⟨rfl, rfl, rfl, by decide +kernel, rfl, by decide +kernel, by decide +kernel⟩
theorem ok_count_below {f f1 f2 f3 f4 : Addr} {fd fd1 fd2 fd3 fd4 : FuncData} (D : Df K mg "count_below" s_count_below ["rule", "n"] f fd) (Dcheck_rule : Df K mg "check_rule" s_check_rule ["thing"] f1 fd1) (Gcheck_rule : FnOk P w K mg base CX0 7 f1 fd1 ["thing"] sp_check_rule) (Dfigures_of : Df K mg "figures_of" s_figures_of ["base", "n"] f2 fd2) (Gfigures_of : FnOk P w K mg base CX0 4 f2 fd2 ["base", "n"] sp_figures_of)
    (KTails : Mk K C f3) (BTails : Binds K fd3 ["self", "rule"] []) (GTails_init : FnOk P w K mg base CX0 7 f3 fd3 ["self", "rule"] (sp_tails T0 C)) (MTails_many_below : Mt K C "Tails.many_below" "many_below" s_Tails_many_below ["self", "figures"] f4 fd4) (GTails_many_below : FnOk P w K mg base CX0 4 f4 fd4 ["self", "figures"] (sp_many_below C)) (cTails : ClT K mg C) : FnOk P w K mg base CX0 9 f fd ["rule", "n"] (sp_count_below T0) := by
  refine D.fn.ok sc_count_below (fun vs H Q E h => ?_) (fun cdv A outer s H vs Q E hr h => ?_)
  · obtain ⟨r, b, bl, zs, n, rfl, _⟩ := h; rfl
  · obtain ⟨r, b, bl, zs, n, rfl, R, g, hn, hT, kk⟩ := h
    refine ⟨_, (pss_cons (ps_expr (pcall Dcheck_rule Gcheck_rule (hr.mono (by decide)) (pa_cons (pv 0) pa_nil)))
      (pss_one (ps_ret (pmeth MTails_many_below cTails.cl GTails_many_below (hr.mono (by decide)) (pe_make KTails GTails_init (hr.mono (by decide)) rfl cTails.nm BTails .nil pass0 (pa_cons (pv 0) pa_nil)) (pa_cons (pcall Dfigures_of Gfigures_of (hr.mono (by decide)) (pa_cons (pe_ix (k_ixT K) (pv 0) pe_int (fun _ _ => rfl)) (pa_cons (pv 1) pa_nil))) pa_nil))))), ?_⟩
    refine ⟨_, rfl, r, b, bl, zs, rfl, R, g, fun H1 m1 => ?_⟩
    refine ⟨_, rfl, ?_⟩
    refine made_of (R.same m1) g (hT.same m1) ?_
    rintro x H2 ⟨la, ws, TA, G, mL, hT2, hla⟩
    obtain ⟨dx2, sa2, hp2⟩ := TA.obj
    have R2 := (R.same m1).sameL (hT.same m1) mL
    refine ⟨x, dx2, _, rfl, hp2, fldT_no _ _ _ _ (by decide +kernel) (by decide +kernel) (by decide +kernel) (by decide +kernel), ?_⟩
    refine ⟨_, rfl, r, _, _, V.int b, rfl, rfl, SqT.of R2.tu, rfl, _, rfl, b, n, rfl, g.b2, g.b16, hn, fun l H3 hl hv m3 => ?_⟩
    obtain ⟨xs, hla2⟩ := TA.la
    have nl : l ≠ la := fun z => by rw [z, hla2] at hl; cases hl
    refine ⟨x, la, b, _, ws, 1, l, n, rfl, TA.same m3, G, by decide, by rw [aw_out (by simpa using nl)]; exact hv, hn, fun L4 H4 hL4 TA4 m4 hL4' => ?_⟩
    have mL3 : SameL T0 H1 H3 := mL.trans (.of m3)
    have mL4 := sameL_off mL3 hla m4
    exact kk H4 ((SameL.of m1).trans mL4) ((hT2.same m3).off (m3 _ _ hla2) m4)
def NextG (ls : List (List Int)) (b n : Nat) (v : V) : Prop := (v = .non ∧ ∀ g, n ≤ g → gd ls b g = false) ∨ ∃ g : Nat, v = .int g ∧ n ≤ g ∧ gd ls b g = true ∧ many (gd ls b) g = many (gd ls b) n ∧ g < 256 * (n + 1)
def sp_ask (T0 : Addr) (pre : List (List Int) → Nat → Nat → Prop) (R : List (List Int) → Nat → Nat → V → Prop) : Sp := fun vs H Q _ => ∃ (r : Addr) (b : Nat) (bl : Addr) (zs : List (Addr × List Int)) (n : Nat), vs = [.ref r, .int n] ∧ RuleAt H r b bl zs ∧ GoodRule b (zs.map (·.2)) ∧ pre (zs.map (·.2)) b n ∧ LT T0 H ∧ ∀ v H', R (zs.map (·.2)) b n v → SameL T0 H H' → LT T0 H' → Q v H'
abbrev sp_next_good (T0 : Addr) : Sp := sp_ask T0 (fun _ _ n => n < 2 ^ 850) NextG
theorem sc_next_good : FnScope ["rule", "n", "figures", "tails", "k", "size"] ["rule", "n"] (defScope s_next_good) := ⟨rfl, rfl, rfl, by decide +kernel, rfl, by decide +kernel, by decide +kernel⟩
theorem ok_next_good {f f1 f2 f3 f4 f5 f6 : Addr} {fd fd1 fd2 fd3 fd4 fd5 fd6 : FuncData} (D : Df K mg "next_good" s_next_good ["rule", "n"] f fd) (Dcheck_rule : Df K mg "check_rule" s_check_rule ["thing"] f1 fd1) (Gcheck_rule : FnOk P w K mg base CX0 7 f1 fd1 ["thing"] sp_check_rule) (Dfigures_of : Df K mg "figures_of" s_figures_of ["base", "n"] f2 fd2) (Gfigures_of : FnOk P w K mg base CX0 4 f2 fd2 ["base", "n"] sp_figures_of)
    (KTails : Mk K C f3) (BTails : Binds K fd3 ["self", "rule"] []) (GTails_init : FnOk P w K mg base CX0 7 f3 fd3 ["self", "rule"] (sp_tails T0 C)) (MTails_many_below : Mt K C "Tails.many_below" "many_below" s_Tails_many_below ["self", "figures"] f4 fd4) (GTails_many_below : FnOk P w K mg base CX0 4 f4 fd4 ["self", "figures"] (sp_many_below C)) (MTails_many_within : Mt K C "Tails.many_within" "many_within" s_Tails_many_within ["self", "size"] f5 fd5) (GTails_many_within : FnOk P w K mg base CX0 3 f5 fd5 ["self", "size"] (sp_many_within C))
    (MTails_number_at : Mt K C "Tails.number_at" "number_at" s_Tails_number_at ["self", "size", "k"] f6 fd6) (GTails_number_at : FnOk P w K mg base CX0 5 f6 fd6 ["self", "size", "k"] (sp_number_at C)) (cTails : ClT K mg C) (T : Blt mg) : FnOk P w K mg base CX0 9 f fd ["rule", "n"] (sp_next_good T0) := by
  refine D.fn.ok sc_next_good (fun vs H Q E h => ?_) (fun cdv A outer s H vs Q E hr h => ?_)
  · obtain ⟨r, b, bl, zs, n, rfl, _⟩ := h; rfl
  · obtain ⟨r, b, bl, zs, n, rfl, R, g, hn, hT, kk⟩ := h
    have hn9 : n < 2 ^ 900 := by omega
    have hlen := figs_len g.b2 850 n hn
    refine ⟨_, (pss_cons (ps_expr (pcall Dcheck_rule Gcheck_rule (hr.mono (by decide)) (pa_cons (pv 0) pa_nil)))
      (pss_cons (ps_set (i := 2) sc_next_good.nd rfl (Or.inl rfl) (pcall Dfigures_of Gfigures_of (hr.mono (by decide)) (pa_cons (pe_ix (k_ixT K) (pv 0) pe_int (fun _ _ => rfl)) (pa_cons (pv 1) pa_nil))))
      (pss_cons (ps_set (i := 3) sc_next_good.nd rfl (Or.inl rfl) (pe_make KTails GTails_init (hr.mono (by decide)) rfl cTails.nm BTails .nil pass0 (pa_cons (pv 0) pa_nil)))
      (pss_cons (ps_set (i := 4) sc_next_good.nd rfl (Or.inl rfl) (pmeth MTails_many_below cTails.cl GTails_many_below (hr.mono (by decide)) (pv 3) (pa_cons (pv 2) pa_nil)))
      (pss_cons (ps_set (i := 5) sc_next_good.nd rfl (Or.inl rfl) (pe_op op_add (pe_callB (k_len K) (by rfl) T.n_len PySem.boot_len (pa_cons (pv 2) pa_nil)) pe_int))
      (pss_cons (ps_if (pt_cmpR op_gt (pmeth MTails_many_within cTails.cl GTails_many_within (hr.mono (by decide)) (pv 3) (pa_cons (pv 5) pa_nil)) (pv 4) (nomark _))
        (pss_one (ps_ret (pmeth MTails_number_at cTails.cl GTails_number_at (hr.mono (by decide)) (pv 3) (pa_cons (pv 5) (pa_cons (pv 4) pa_nil)))))
        pss_nil)
      (pss_one (ps_ret pe_non)))))))), ?_⟩
    refine ⟨_, rfl, r, b, bl, zs, rfl, R, g, fun H1 m1 => ?_⟩
    have R1 := R.same m1
    refine ⟨_, rfl, r, _, _, V.int b, rfl, rfl, SqT.of R1.tu, rfl, _, rfl, b, n, rfl, g.b2, g.b16, hn9, fun l H2 hl hv m2 => ?_⟩
    have m12 := m1.trans m2
    refine ⟨_, rfl, ?_⟩
    refine made_of (R.same m12) g (hT.same m12) ?_
    rintro x H3 ⟨la, ws, TA, G, mL, hT3, hla⟩
    have hl3 := mL _ _ ((hT.same m12).lst hv) hv
    have nl : l ≠ la := fun z => by rw [z, hla] at hv; cases hv
    obtain ⟨xs, hla3⟩ := TA.la
    obtain ⟨dx3, sa3, hp3⟩ := TA.obj
    refine ⟨_, rfl, x, dx3, _, rfl, hp3, fldT_no _ _ _ _ (by decide +kernel) (by decide +kernel) (by decide +kernel) (by decide +kernel), _, rfl, x, la, b, _, ws, 1, l, n, rfl, TA, G, by decide, by rw [aw_out (by simpa using nl)]; exact hl3, hn9, fun L4 H4 hL4 TA4 m4 hL4' => ?_⟩
    have hl4 : aw [la] H4 l = some (.lst ((figs b n).map V.int)) := m4 _ _ (by rw [aw_out (by simpa using nl)]; exact hl3)
    refine ⟨_, rfl, l, _, rfl, .inl (SqL.of (aw_same _ _ _ _ hl4)), _, _, rfl, rfl, ?_⟩
    rw [List.length_map]
    obtain ⟨dx4, sa4, hp4⟩ := TA4.obj
    refine ⟨_, rfl, x, dx4, _, rfl, hp4, fldT_no _ _ _ _ (by decide +kernel) (by decide +kernel) (by decide +kernel) (by decide +kernel), _, rfl, x, la, b, _, ws, L4, (figs b n).length + 1, by rw [Int.natCast_add]; rfl, TA4, G, hL4', by omega, fun L5 H5 hL5 TA5 m5 hmx => ?_⟩
    rw [cntO_many G.ne g.b2]
    refine ⟨_, rfl, _, _, rfl, rfl, _, rfl, ?_⟩
    have m45 := m4.trans m5
    have fin : ∀ H', Same (aw [la] H5) (aw [la] H') → SameL T0 H H' ∧ LT T0 H' := fun H' m' => ⟨sameL_off ((SameL.of m12).trans mL) (m12.free hla) (m45.trans m'), hT3.off hla3 (m45.trans m')⟩
    refine ite2 (fun h1 => ?_) (fun h1 => ?_)
    · have h1' : many (gd (zs.map (·.2)) b) n < many (gd (zs.map (·.2)) b) (b ^ ((figs b n).length + 1)) := by have := of_decide_eq_true h1; omega
      obtain ⟨dx5, sa5, hp5⟩ := TA5.obj
      refine ⟨_, rfl, x, dx5, _, rfl, hp5, fldT_no _ _ _ _ (by decide +kernel) (by decide +kernel) (by decide +kernel) (by decide +kernel), _, rfl, _, rfl, x, la, b, _, ws, L5, (figs b n).length + 1, many (gd (zs.map (·.2)) b) n, by rw [Int.natCast_add]; rfl, TA5, G, by omega, by omega, h1', fun q hg hm hq L6 H6 hL6 TA6 m6 hL6' => ?_⟩
      obtain ⟨a1, a2⟩ := fin H6 m6
      exact kk _ H6 (.inr ⟨q, rfl, ge_of_many hg (by omega), hg, hm, Nat.lt_of_lt_of_le hq (pow_near g.b2 g.b16 rfl)⟩) a1 a2
    · have h1' : many (gd (zs.map (·.2)) b) (b ^ ((figs b n).length + 1)) ≤ many (gd (zs.map (·.2)) b) n := by
        by_cases z : many (gd (zs.map (·.2)) b) (b ^ ((figs b n).length + 1)) ≤ many (gd (zs.map (·.2)) b) n
        · exact z
        · exact absurd (decide_eq_true (by omega : ((many (gd (zs.map (·.2)) b) n : Nat) : Int) < (many (gd (zs.map (·.2)) b) (b ^ ((figs b n).length + 1)) : Nat))) h1
      obtain ⟨a1, a2⟩ := fin H5 (Same.refl _)
      exact kk _ H5 (.inl ⟨rfl, none_more G.ne g.b2 rfl h1'⟩) a1 a2
end
end Lw
set_option Elab.async false
set_option linter.all false
set_option maxRecDepth 100000
namespace L2
open PySem PySem.Spec PyProof.Rows
def tMid (t : TS) : TS := fun D σ H => ∃ P : St → Hp → Prop, t { D with nx := P } σ H ∧ ∀ σ' H', P σ' H' → D.nx σ' H'
theorem ps_mid {X : Cx} {st : Stmt} {t : TS} (h : PS X st t) : PS X st (tMid t) := by
  intro pins s σ H D I hw
  obtain ⟨P, h1, h2⟩ := hw
  refine thn (h pins s σ H _ I h1) fun f s1 q => ?_
  cases f with
  | next => obtain ⟨σ', H', I', q⟩ := q; exact ⟨σ', H', I', h2 _ _ q⟩
  | ret v => exact q
  | brk => exact q
  | cont => exact q
end L2
set_option Elab.async false
set_option linter.all false
set_option maxRecDepth 100000
namespace Lw
open PySem L2 PyProof.Rows
theorem RulesAt.sameL {T0 l : Addr} {H H' : Hp} {rs : List RL} (R : RulesAt H l rs) (hT : LT T0 H) (m : SameL T0 H H') : RulesAt H' l rs := ⟨m _ _ (hT.lst R.li) R.li, fun x hx => (R.ru x hx).sameL hT m⟩
theorem keepsN_eq {cs ds : List (Nat × List (List Int))} (h : ∀ c, c ∈ cs ↔ c ∈ ds) (k : Nat) : keepsN cs k = keepsN ds k := by
  unfold keepsN
  rw [Bool.eq_iff_iff, List.all_eq_true, List.all_eq_true]
  exact ⟨fun q c hc => q c ((h c).mpr hc), fun q c hc => q c ((h c).mp hc)⟩
theorem keptL_eq {cs ds : List (Nat × List (List Int))} (h : ∀ c, c ∈ cs ↔ c ∈ ds) (n : Nat) : keptL cs n = keptL ds n := by
  unfold keptL
  rw [funext (keepsN_eq h)]
theorem many_filter (p : Nat → Bool) : ∀ n : Nat, ((List.range n).filter p).length = many p n
  | 0 => rfl
  | n + 1 => by
    rw [List.range_succ, List.filter_append, List.length_append, many_filter p n, many]
    cases h : p n <;> simp [h]
theorem keptL_many {cs : List (Nat × List (List Int))} {n : Nat} : (keptL cs n).length = many (keepsN cs) n := by
  unfold keptL
  rw [List.length_map, many_filter]
theorem keptL_len {cs : List (Nat × List (List Int))} {n : Nat} : (keptL cs n).length ≤ n := by
  unfold keptL
  rw [List.length_map]
  exact Nat.le_trans (List.length_filter_le _ _) (by rw [List.length_range]; exact Nat.le_refl _)
theorem keptL_one {b : Nat} {ls : List (List Int)} {n : Nat} : (keptL [(b, ls)] n).length = many (gd ls b) n := by
  rw [keptL_many]
  refine many_congr fun k _ => ?_
  simp [keepsN, gd]
theorem keptL_le {cs : List (Nat × List (List Int))} {b : Nat} {ls : List (List Int)} {n : Nat} (h : (b, ls) ∈ cs) : (keptL cs n).length ≤ many (gd ls b) n := by
  rw [keptL_many]
  exact many_sub (fun k q => List.all_eq_true.mp q _ h) n
theorem GoodRs.sub {rs gs : List RL} (g : GoodRs rs) (ne : gs ≠ []) (hl : gs.length ≤ 3) (h : ∀ x ∈ gs, x ∈ rs) : GoodRs gs := ⟨ne, hl, fun x hx => g.good x (h x hx)⟩
theorem RulesAt.pick {H : Hp} {l p : Addr} {rs gs : List RL} (R : RulesAt H l rs) (e : H p = some (.lst (gs.map fun x => V.ref x.r))) (h : ∀ x ∈ gs, x ∈ rs) : RulesAt H p gs := ⟨e, fun x hx => R.ru x (h x hx)⟩
section
variable {P : Program} {w : World} {K : PySem.W.Frag} {mg : Str → Option Value} {base : Heap} {T0 : Addr}
def sp__law_each_right (T0 : Addr) : Sp := fun vs H Q _ => ∃ (l : Addr) (rs : List RL) (n : Nat), vs = [.ref l, .int n] ∧ RulesAt H l rs ∧ GoodRs rs ∧ n ≤ 2000 ∧ LT T0 H ∧ ∀ H', SameL T0 H H' → LT T0 H' → Q (.bl true) H'
theorem sc__law_each_right : FnScope ["rules", "n", "told", "due", "twice", "rule"] ["rules", "n"] (defScope s__law_each_right) := ⟨rfl, rfl, rfl, by decide +kernel, rfl, by decide +kernel, by decide +kernel⟩
set_option maxHeartbeats 1000000 in
theorem ok__law_each_right {f f1 f2 f3 f4 : Addr} {fd fd1 fd2 fd3 fd4 : FuncData} (D : Df K mg "_law_each_right" s__law_each_right ["rules", "n"] f fd) (Dkeeps_all : Df K mg "keeps_all" s_keeps_all ["rules", "n"] f1 fd1) (Gkeeps_all : FnOk P w K mg base CX0 10 f1 fd1 ["rules", "n"] sp_keeps_all)
    (Dall_keeping : Df K mg "all_keeping" s_all_keeping ["rules", "n"] f2 fd2) (Gall_keeping : FnOk P w K mg base CX0 10 f2 fd2 ["rules", "n"] sp_all_keeping) (Dcount_keeping : Df K mg "count_keeping" s_count_keeping ["rules", "n"] f3 fd3) (Gcount_keeping : FnOk P w K mg base CX0 11 f3 fd3 ["rules", "n"] sp_count_keeping)
    (Dcount_below : Df K mg "count_below" s_count_below ["rule", "n"] f4 fd4) (Gcount_below : FnOk P w K mg base CX0 9 f4 fd4 ["rule", "n"] (sp_count_below T0)) (T : Blt mg) : FnOk P w K mg base CX0 12 f fd ["rules", "n"] (sp__law_each_right T0) := by
  refine D.fn.ok sc__law_each_right (fun vs H Q E h => ?_) (fun cdv A outer s H vs Q E hr h => ?_)
  · obtain ⟨l, rs, n, rfl, _⟩ := h; rfl
  · obtain ⟨l, rs, n, rfl, R, g, hn, hT, kk⟩ := h
    have HU := HUof hr
    refine ⟨_, (pss_cons (ps_set (i := 2) sc__law_each_right.nd rfl (Or.inl rfl) (pcall Dall_keeping Gall_keeping (hr.mono (by decide)) (pa_cons (pv 0) (pa_cons (pv 1) pa_nil))))
      (pss_cons (ps_setComp (i := 3) (show CScope (defScope s__law_each_right) _ "number" ["rules", "n", "told", "due", "twice", "rule"] ["rules"] [0] from ⟨rfl, by decide +kernel, by decide +kernel, rfl, by decide +kernel, rfl, by decide +kernel, by decide +kernel⟩) rfl sc__law_each_right.nd rfl (Or.inl rfl) (pi_range1 rfl T.n_range (pa_cons (pv 1) pa_nil)) (fun _ _ _ _ => (pts_one (pt_val (pcall Dkeeps_all Gkeeps_all (hr.mono (by decide)) (pa_cons (pv 1) (pa_cons (pv 0) pa_nil)))))) (fun _ _ _ _ => (pv 0)))
      (pss_cons (ps_if (PW.pt (pw_or (pt_cmpR (k_neT K HU) (pv 2) (pv 3) (nomark _)) (pw_or1 (pt_cmpR op_ne (pcall Dcount_keeping Gcount_keeping (hr.mono (by decide)) (pa_cons (pv 0) (pa_cons (pv 1) pa_nil))) (pe_callB (k_len K) (by rfl) T.n_len PySem.boot_len (pa_cons (pv 2) pa_nil)) (nomark _)))))
        (pss_one (ps_ret pe_bl))
        pss_nil)
      (pss_cons (ps_if (pt_cmpR (k_neT K HU) (pcall Dall_keeping Gall_keeping (hr.mono (by decide)) (pa_cons (pe_revSlice (pv 0)) (pa_cons (pv 1) pa_nil))) (pv 2) (nomark _))
        (pss_one (ps_ret pe_bl))
        pss_nil)
      (pss_cons (ps_set (i := 4) sc__law_each_right.nd rfl (Or.inl rfl) (pe_op op_cat (pe_slice (k_slL K) (pv 0) po_none (po_some pe_int)) (pe_slice (k_slL K) (pv 0) po_none (po_some pe_int))))
      (pss_cons (ps_if (pt_cmpR (k_neT K HU) (pcall Dall_keeping Gall_keeping (hr.mono (by decide)) (pa_cons (pv 4) (pa_cons (pv 1) pa_nil))) (pcall Dall_keeping Gall_keeping (hr.mono (by decide)) (pa_cons (pe_slice (k_slL K) (pv 0) po_none (po_some pe_int)) (pa_cons (pv 1) pa_nil))) (nomark _))
        (pss_one (ps_ret pe_bl))
        pss_nil)
      (pss_cons (ps_for PassesOwn.never rfl (k_pi K (pv 0)) (pg_name (i := 5) sc__law_each_right.nd rfl (Or.inl rfl))
        (pss_one (ps_if (PW.pt (pw_or (pt_cmpR op_ne (pcall Dcount_keeping Gcount_keeping (hr.mono (by decide)) (pa_cons (pe_lst (pa_cons (pv 5) pa_nil)) (pa_cons (pv 1) pa_nil))) (pcall Dcount_below Gcount_below (hr.mono (by decide)) (pa_cons (pv 5) (pa_cons (pv 1) pa_nil))) (nomark _)) (pw_or1 (pt_cmpR op_gt (pe_callB (k_len K) (by rfl) T.n_len PySem.boot_len (pa_cons (pv 2) pa_nil)) (pcall Dcount_below Gcount_below (hr.mono (by decide)) (pa_cons (pv 5) (pa_cons (pv 1) pa_nil))) (nomark _)))))
          (pss_one (ps_ret pe_bl))
          pss_nil)))
      (pss_one (ps_ret pe_bl))))))))), ?_⟩
    have h3 := g.len
    have h1 : 0 < rs.length := by
      cases hq : rs with
      | nil => exact absurd hq g.ne
      | cons _ _ => exact Nat.succ_pos _
    refine ⟨_, rfl, _, rfl, l, rs, n, rfl, R, g, hn, fun tl H1 htl0 htl m1 => ?_⟩
    refine ⟨_, rfl, (n : Int), rfl, by omega, by omega, comp_range (lo := 0) (n := (n : Int).toNat) (fun i ys H4 => ys = (keptL (rs.map RL.con) i).map V.int ∧ Same H1 H4) ⟨by simp [keptL], Same.refl _⟩ ?_ ?_⟩
    · rintro i ys H4 hi ⟨rfl, m4⟩
      refine ⟨by rw [List.length_map]; exact Nat.lt_of_le_of_lt (Nat.le_trans keptL_len (show i ≤ 2000 by omega)) (by decide), ?_⟩
      refine ⟨_, rfl, _, rfl, l, rs, i, by rw [Int.zero_add]; rfl, (R.same m1).same m4, g, Nat.lt_of_le_of_lt (show i ≤ 2000 by omega) (by decide), fun H5 m5 => ⟨_, rfl, ?_⟩⟩
      rw [Int.zero_add]
      cases hk : keepsN (rs.map RL.con) i with
      | true =>
        refine iteT ⟨_, rfl, ?_, m4.trans m5⟩
        unfold keptL
        rw [List.range_succ, List.filter_append]
        simp [hk]
      | false =>
        refine iteF ⟨?_, m4.trans m5⟩
        unfold keptL
        rw [List.range_succ, List.filter_append]
        simp [hk]
    rintro ys H4 ⟨rfl, m4⟩ du hdu
    rw [Int.toNat_natCast]
    have md := same_upd hdu (o := .lst ((keptL (rs.map RL.con) n).map V.int))
    have m15 := m4.trans md
    have m05 := m1.trans m15
    have htl5 := m15 _ _ htl
    have hdu5 : upd H4 du (.lst ((keptL (rs.map RL.con) n).map V.int)) du = _ := upd_same
    generalize hH5 : upd H4 du (.lst ((keptL (rs.map RL.con) n).map V.int)) = H5 at md m15 m05 htl5 hdu5
    have de : tdep (tInts (keptL (rs.map RL.con) n)) ≤ 8 := by rw [tdep_tInts]; decide
    refine ⟨_, rfl, _, rfl, tInts (keptL (rs.map RL.con) n), tInts (keptL (rs.map RL.con) n), TrAt.ints (SqL.of htl5), TrAt.ints (SqL.of hdu5), de, _, rfl, ?_⟩
    rw [teq_refl]
    refine iteF ?_
    refine ⟨_, rfl, _, rfl, l, rs, n, rfl, R.same m05, g, hn, fun H6 m6 => ?_⟩
    have m06 := m05.trans m6
    refine ⟨_, rfl, tl, _, rfl, .inl (SqL.of (m6 _ _ htl5)), rfl, _, rfl, ?_⟩
    rw [List.length_map, decide_eq_true rfl]
    refine iteF ?_
    have R6 := R.same m06
    refine ⟨_, rfl, l, _, rfl, SqL.of R6.li, fun rv hrv => ?_⟩
    have m7 := same_upd hrv (o := .lst (rs.map fun x => V.ref x.r).reverse)
    have R7 : RulesAt (upd H6 rv (.lst (rs.map fun x => V.ref x.r).reverse)) rv rs.reverse := (R6.same m7).pick (by rw [upd_same, List.map_reverse]) fun x hx => List.mem_reverse.mp hx
    refine ⟨_, rfl, rv, rs.reverse, n, rfl, R7, g.sub (fun z => g.ne (List.reverse_eq_nil_iff.mp z)) (by rw [List.length_reverse]; exact h3) (fun x hx => List.mem_reverse.mp hx), hn, fun p1 H8 hp1 hv1 m8 => ?_⟩
    rw [List.map_reverse, keptL_eq (ds := rs.map RL.con) (fun c => List.mem_reverse)] at hv1
    have m08 := m06.trans (m7.trans m8)
    have htl8 := (m6.trans (m7.trans m8)) _ _ htl5
    refine ⟨_, rfl, tInts (keptL (rs.map RL.con) n), tInts (keptL (rs.map RL.con) n), TrAt.ints (SqL.of hv1), TrAt.ints (SqL.of htl8), de, _, rfl, ?_⟩
    rw [teq_refl]
    refine iteF ?_
    have R8 := R.same m08
    refine ⟨_, rfl, 1, rfl, l, _, rfl, SqL.of R8.li, fun q1 hq1 => ?_⟩
    have e1 : cutV (rs.map fun x => V.ref x.r) none (some 1) = (rs.take 1).map fun x => V.ref x.r := (cutV_upto _ 1).trans List.map_take.symm
    have e2 : cutV (rs.map fun x => V.ref x.r) none (some 2) = (rs.take 2).map fun x => V.ref x.r := (cutV_upto _ 2).trans List.map_take.symm
    rw [e1]
    have m9 := same_upd hq1 (o := .lst ((rs.take 1).map fun x => V.ref x.r))
    have R9 := R8.same m9
    refine ⟨_, rfl, 2, rfl, l, _, rfl, SqL.of R9.li, fun q2 hq2 => ?_⟩
    rw [e2]
    have m10 := same_upd hq2 (o := .lst ((rs.take 2).map fun x => V.ref x.r))
    refine ⟨q1, q2, _, _, rfl, rfl, m10 _ _ upd_same, upd_same, ?_, fun tw htw => ?_⟩
    · rw [List.length_map, List.length_map, List.length_take, List.length_take]; exact Nat.le_trans (show min 1 rs.length + min 2 rs.length ≤ 3 by omega) (by decide)
    rw [← List.map_append]
    have m11 := same_upd htw (o := .lst ((rs.take 1 ++ rs.take 2).map fun x => V.ref x.r))
    have mt : ∀ x ∈ rs.take 1 ++ rs.take 2, x ∈ rs := fun x hx => by
      rcases List.mem_append.mp hx with hx | hx <;> exact List.mem_of_mem_take hx
    have m911 := m9.trans (m10.trans m11)
    have R11 := (R8.same m911).pick (gs := rs.take 1 ++ rs.take 2) upd_same mt
    have m011 := m08.trans m911
    have htl11 := m911 _ _ htl8
    generalize hH11 : upd (upd (upd H8 q1 (.lst ((rs.take 1).map fun x => V.ref x.r))) q2 (.lst ((rs.take 2).map fun x => V.ref x.r))) tw (.lst ((rs.take 1 ++ rs.take 2).map fun x => V.ref x.r)) = H11 at R11 m011 htl11
    have nt2 : rs.take 2 ≠ [] := fun z => by
      cases hq : rs with
      | nil => exact g.ne hq
      | cons a t => rw [hq] at z; cases z
    refine ⟨_, rfl, _, rfl, tw, rs.take 1 ++ rs.take 2, n, rfl, R11, g.sub (fun z => nt2 (List.append_eq_nil_iff.mp z).2) (by rw [List.length_append, List.length_take, List.length_take]; omega) mt, hn, fun p2 H12 hp2 hv2 m12 => ?_⟩
    have m012 := m011.trans m12
    have R12 := R.same m012
    refine ⟨_, rfl, 2, rfl, l, _, rfl, SqL.of R12.li, fun q3 hq3 => ?_⟩
    rw [e2]
    have m13 := same_upd hq3 (o := .lst ((rs.take 2).map fun x => V.ref x.r))
    refine ⟨_, rfl, q3, rs.take 2, n, rfl, (R12.same m13).pick upd_same fun x hx => List.mem_of_mem_take hx, g.sub nt2 (by rw [List.length_take]; omega) (fun x hx => List.mem_of_mem_take hx), hn, fun p3 H14 hp3 hv3 m14 => ?_⟩
    have m1314 := m13.trans m14
    have m014 := m012.trans m1314
    have htl14 := (m12.trans m1314) _ _ htl11
    have hE : keptL ((rs.take 1 ++ rs.take 2).map RL.con) n = keptL ((rs.take 2).map RL.con) n := keptL_eq (fun c => by
      rw [List.map_append, List.mem_append]
      constructor
      · rintro (z | z)
        · obtain ⟨x, hx, rfl⟩ := List.mem_map.mp z
          refine List.mem_map.mpr ⟨x, ?_, rfl⟩
          have : rs.take 1 = (rs.take 2).take 1 := by rw [List.take_take]; rfl
          rw [this] at hx
          exact List.mem_of_mem_take hx
        · exact z
      · exact .inr) n
    rw [hE] at hv2
    refine ⟨tInts (keptL ((rs.take 2).map RL.con) n), tInts (keptL ((rs.take 2).map RL.con) n), TrAt.ints (SqL.of (m1314 _ _ hv2)), TrAt.ints (SqL.of hv3), (by rw [tdep_tInts]; decide), _, rfl, ?_⟩
    rw [teq_refl]
    refine iteF ?_
    have R14 := R.same m014
    have T14 := hT.same m014
    refine ⟨_, rfl, l, rfl, ⟨_, SqL.of R14.li⟩, for_list (K := K) (a := l) (xs := rs.map fun x => V.ref x.r) (fun j σ H15 => ∃ v5 : Option V, σ = [some (.ref l), some (.int n), some (.ref tl), some (.ref du), some (.ref tw), v5] ∧ SameL T0 H14 H15 ∧ LT T0 H15) ⟨none, rfl, fun _ _ _ e => e, T14⟩ (fun j σ H15 _ ⟨_, _, m, _⟩ => SqL.of (m _ _ (T14.lst R14.li) R14.li)) ?_ ?_⟩
    · rintro j y σ H15 hx ⟨v5, rfl, m15', T15⟩
      rw [List.getElem?_map] at hx
      obtain ⟨x, hxj, e⟩ := Option.map_eq_some_iff.mp hx
      subst e
      have hxm := List.mem_of_getElem? hxj
      have R15 := R14.sameL T14 m15'
      refine ⟨_, rfl, (by show 1 ≤ sizeLine; decide), fun o1 ho1 => ?_⟩
      have m16 := same_upd ho1 (o := .lst [V.ref x.r])
      refine ⟨_, rfl, o1, [x], n, rfl, (R15.same m16).pick upd_same fun y hy => by rw [List.mem_singleton.mp hy]; exact hxm, g.sub (by simp) (by simp) (fun y hy => by rw [List.mem_singleton.mp hy]; exact hxm), hn, fun H17 m17 => ?_⟩
      have R17 := R15.same (m16.trans m17)
      have T17 := T15.same (m16.trans m17)
      refine ⟨_, rfl, _, rfl, x.r, x.b, x.bl, x.zs, n, rfl, R17.ru x hxm, g.good x hxm, Nat.lt_of_le_of_lt hn (by decide), T17, fun H18 m18 T18 => ?_⟩
      have m1418 := m15'.trans ((SameL.of (m16.trans m17)).trans m18)
      refine ⟨rfl, _, rfl, ?_⟩
      have k1 : (keptL ([x].map RL.con) n).length = many (gd (x.zs.map (·.2)) x.b) n := keptL_one
      rw [k1, show (!decide (V.int (many (gd (x.zs.map (·.2)) x.b) n : Nat) = V.int (many (gd (x.zs.map (·.2)) x.b) n : Nat))) = false by rw [decide_eq_true rfl]; rfl]
      refine iteF ?_
      have htl18 := m1418 _ _ (T14.lst htl14) htl14
      have R18 := R14.sameL T14 m1418
      refine ⟨_, rfl, tl, _, rfl, .inl (SqL.of htl18), _, rfl, _, rfl, x.r, x.b, x.bl, x.zs, n, rfl, R18.ru x hxm, g.good x hxm, Nat.lt_of_le_of_lt hn (by decide), T18, fun H19 m19 T19 => ?_⟩
      refine ⟨_, _, rfl, rfl, _, rfl, ?_⟩
      have k2 := keptL_le (n := n) (show (x.b, x.zs.map (·.2)) ∈ rs.map RL.con from List.mem_map.mpr ⟨x, hxm, rfl⟩)
      rw [List.length_map, show (decide (((many (gd (x.zs.map (·.2)) x.b) n : Nat) : Int) < ((keptL (rs.map RL.con) n).length : Nat))) = false from decide_eq_false (by omega)]
      refine iteF ?_
      exact ⟨_, rfl, m1418.trans m19, T19⟩
    · rintro σ H15 ⟨v5, rfl, m15', T15⟩
      exact kk H15 ((SameL.of m014).trans m15') T15
end
end Lw
set_option Elab.async false
set_option linter.all false
set_option maxRecDepth 100000
namespace Lw
open PySem L2 PyProof.Rows
theorem TrsAt.boolsL {K : PySem.W.Frag} {H : Hp} : ∀ {bs : List Bool}, TrsAt K H (bs.map Tr.bl) (bs.map V.bl)
  | [] => by rw [List.map_nil, List.map_nil, TrsAt]
  | b :: bs => by
    rw [List.map_cons, List.map_cons, TrsAt]
    exact ⟨_, _, rfl, by rw [TrAt], TrsAt.boolsL⟩
theorem no_false {bs : List Bool} : (!(bs.map Tr.bl).any fun t => teq t (.bl false)) = bs.all id := by
  induction bs with
  | nil => rfl
  | cons b bs ih =>
    rw [List.map_cons, List.any_cons, Bool.not_or, ih, List.all_cons]
    cases b
    · rfl
    · rfl
theorem tdeps_boolsL : ∀ bs : List Bool, tdeps (bs.map Tr.bl) ≤ 8
  | [] => by simp [tdeps]
  | b :: bs => by
    rw [List.map_cons, tdeps]
    have := tdeps_boolsL bs
    have e : tdep (Tr.bl b) = 0 := rfl
    omega
theorem keepsN_one {x : RL} {k : Nat} : keepsN ([x].map RL.con) k = gd (x.zs.map (·.2)) x.b k := by simp [keepsN, gd, RL.con]
theorem keepsN_all {rs : List RL} {n : Nat} : (rs.map fun x => lacks (x.zs.map (·.2)) (figs x.b n)).all id = keepsN (rs.map RL.con) n := by
  unfold keepsN
  rw [List.all_map, List.all_map]
  rfl
theorem nextK_ge {cs : List (Nat × List (List Int))} {n m : Nat} (h : nextK cs n = some m) : n ≤ m := by
  unfold nextK at h
  obtain ⟨j, hj, rfl⟩ := Option.map_eq_some_iff.mp h
  omega
section
variable {P : Program} {w : World} {K : PySem.W.Frag} {mg : Str → Option Value} {base : Heap} {T0 : Addr}
def sp__law_number_right (T0 : Addr) : Sp := fun vs H Q _ => ∃ (l : Addr) (rs : List RL) (n : Nat), vs = [.ref l, .int n] ∧ RulesAt H l rs ∧ GoodRs rs ∧ n < 2 ^ 100 ∧ LT T0 H ∧ ∀ H', SameL T0 H H' → LT T0 H' → Q (.bl true) H'
theorem sc__law_number_right : FnScope ["rules", "n", "near", "good"] ["rules", "n"] (defScope s__law_number_right) := ⟨rfl, rfl, rfl, by decide +kernel, rfl, by decide +kernel, by decide +kernel⟩
set_option maxHeartbeats 1000000 in
theorem ok__law_number_right {f f1 f2 f3 f4 : Addr} {fd fd1 fd2 fd3 fd4 : FuncData} (D : Df K mg "_law_number_right" s__law_number_right ["rules", "n"] f fd) (Dkeeps_all : Df K mg "keeps_all" s_keeps_all ["rules", "n"] f1 fd1) (Gkeeps_all : FnOk P w K mg base CX0 10 f1 fd1 ["rules", "n"] sp_keeps_all)
    (Dis_good : Df K mg "is_good" s_is_good ["rule", "n"] f2 fd2) (Gis_good : FnOk P w K mg base CX0 8 f2 fd2 ["rule", "n"] sp_is_good) (Dnext_keeping : Df K mg "next_keeping" s_next_keeping ["rules", "n"] f3 fd3) (Gnext_keeping : FnOk P w K mg base CX0 10 f3 fd3 ["rules", "n"] sp_next_keeping)
    (Dnext_good : Df K mg "next_good" s_next_good ["rule", "n"] f4 fd4) (Gnext_good : FnOk P w K mg base CX0 9 f4 fd4 ["rule", "n"] (sp_next_good T0)) (T : Blt mg) : FnOk P w K mg base CX0 11 f fd ["rules", "n"] (sp__law_number_right T0) := by
  refine D.fn.ok sc__law_number_right (fun vs H Q E h => ?_) (fun cdv A outer s H vs Q E hr h => ?_)
  · obtain ⟨l, rs, n, rfl, _⟩ := h; rfl
  · obtain ⟨l, rs, n, rfl, R, g, hn, hT, kk⟩ := h
    have HU := HUof hr
    refine ⟨_, (pss_cons (ps_if (pt_cmpR op_ne (pcall Dkeeps_all Gkeeps_all (hr.mono (by decide)) (pa_cons (pv 0) (pa_cons (pv 1) pa_nil))) (pe_cmpR (k_notInT K HU) pe_bl (pe_comp (show CScope (defScope s__law_number_right) _ "rule" ["rules", "n", "near", "good"] ["n"] [1] from ⟨rfl, by decide +kernel, by decide +kernel, rfl, by decide +kernel, rfl, by decide +kernel, by decide +kernel⟩) rfl (k_pi K (pv 0)) (fun _ _ _ _ => pts_nil) (fun _ _ _ _ => (pcall Dis_good Gis_good (hr.mono (by decide)) (pa_cons (pv 0) (pa_cons (pv 1) pa_nil))))) (by with_unfolding_all rfl)) (nomark _))
        (pss_one (ps_ret pe_bl))
        pss_nil)
      (pss_cons (ps_set (i := 2) sc__law_number_right.nd rfl (Or.inl rfl) (pcall Dnext_keeping Gnext_keeping (hr.mono (by decide)) (pa_cons (pv 0) (pa_cons (pv 1) pa_nil))))
      (pss_cons (ps_mid (ps_if (PW.pt (pw_and (pt_cmpR op_notN (pv 2) pe_non (nomark _)) (pw_and1 (PW.pt (pw_or (pt_not (pt_chain op_le op_lt (pv 1) (pv 2) (pe_op op_add (pv 1) pe_int))) (pw_or1 (pt_not (pt_val (pcall Dkeeps_all Gkeeps_all (hr.mono (by decide)) (pa_cons (pv 0) (pa_cons (pv 2) pa_nil)))))))))))
        (pss_one (ps_ret pe_bl))
        pss_nil))
      (pss_cons (ps_mid (ps_if (PW.pt (pw_and (pt_val (pcall Dkeeps_all Gkeeps_all (hr.mono (by decide)) (pa_cons (pv 0) (pa_cons (pv 1) pa_nil)))) (pw_and1 (pt_cmpR op_ne (pv 2) (pv 1) (nomark _)))))
        (pss_one (ps_ret pe_bl))
        pss_nil))
      (pss_cons (ps_set (i := 3) sc__law_number_right.nd rfl (Or.inl rfl) (pcall Dnext_good Gnext_good (hr.mono (by decide)) (pa_cons (pe_ix (k_ixL K) (pv 0) pe_int (fun _ _ => rfl)) (pa_cons (pv 1) pa_nil))))
      (pss_cons (ps_mid (ps_if (PW.pt (pw_and (pt_cmpR op_notN (pv 3) pe_non (nomark _)) (pw_and1 (pt_cmpR op_ge (pv 3) (pe_op op_add (pv 1) pe_int) (nomark _)))))
        (pss_one (ps_set (i := 3) sc__law_number_right.nd rfl (Or.inl rfl) pe_non))
        pss_nil))
      (pss_one (ps_ret (pe_cmpR op_eq (pcall Dnext_keeping Gnext_keeping (hr.mono (by decide)) (pa_cons (pe_slice (k_slL K) (pv 0) po_none (po_some pe_int)) (pa_cons (pv 1) pa_nil))) (pv 3) (nomark _)))))))))), ?_⟩
    have h3 := g.len
    obtain ⟨x0, xr, hrs⟩ : ∃ x0 xr, rs = x0 :: xr := by
      cases hq : rs with
      | nil => exact absurd hq g.ne
      | cons a t => exact ⟨a, t, rfl⟩
    have hx0 : x0 ∈ rs := by rw [hrs]; exact .head _
    have n200 : n < 2 ^ 200 := Nat.lt_trans hn (by decide)
    have n199 : n < 2 ^ 199 := Nat.lt_trans hn (by decide)
    refine ⟨_, rfl, _, rfl, l, rs, n, rfl, R, g, n200, fun H1 m1 => ?_⟩
    have R1 := R.same m1
    refine ⟨_, rfl, l, rfl, ⟨_, SqL.of R1.li⟩, comp_list (K := K) (a := l) (xs := rs.map fun x => V.ref x.r) (fun i ys H4 => ys = ((rs.take i).map fun x => lacks (x.zs.map (·.2)) (figs x.b n)).map V.bl ∧ Same H1 H4) ⟨by simp, Same.refl _⟩ (fun i ys H4 _ ⟨_, m⟩ => SqL.of (m _ _ R1.li)) ?_ ?_⟩
    · rintro j y ys H4 hx ⟨rfl, m4⟩
      rw [List.getElem?_map] at hx
      obtain ⟨x, hxj, e⟩ := Option.map_eq_some_iff.mp hx
      subst e
      have hxm := List.mem_of_getElem? hxj
      refine ⟨?_, ?_⟩
      · rw [List.length_map, List.length_map, List.length_take]
        exact Nat.lt_of_le_of_lt (show min j rs.length ≤ 3 by omega) (by decide)
      unfold tYes
      dsimp only
      rw [if_pos rfl]
      refine ⟨_, rfl, _, rfl, x.r, x.b, x.bl, x.zs, n, rfl, (R1.ru x hxm).same m4, g.good x hxm, Nat.lt_trans hn (by decide), fun H5 m5 => ⟨?_, m4.trans m5⟩⟩
      rw [List.take_succ, hxj]; simp
    rintro ys H4 ⟨rfl, m4⟩ Dd hD
    rw [List.length_map, List.take_length]
    generalize hbs : (rs.map fun x => lacks (x.zs.map (·.2)) (figs x.b n)) = bs
    have m5 := m4.trans (same_upd hD (o := .lst (bs.map V.bl)))
    refine ⟨Dd, _, bs.map Tr.bl, .bl false, rfl, SqL.of upd_same, TrsAt.boolsL, by rw [TrAt], tdeps_boolsL _, ?_⟩
    rw [show (if true = true then !((bs.map Tr.bl).any fun t => teq t (.bl false)) else (bs.map Tr.bl).any fun t => teq t (.bl false)) = keepsN (rs.map RL.con) n by rw [if_pos rfl, no_false, ← hbs, keepsN_all]]
    refine ⟨rfl, _, rfl, ?_⟩
    rw [show (!decide (V.bl (keepsN (rs.map RL.con) n) = V.bl (keepsN (rs.map RL.con) n))) = false by rw [decide_eq_true rfl]; rfl]
    refine iteF ?_
    have m05 := m1.trans m5
    refine ⟨_, rfl, _, rfl, l, rs, n, rfl, R.same m05, g, n199, fun H6 m6 => ?_⟩
    have m06 := m05.trans m6
    refine ⟨fun σ H' => σ = [some (.ref l), some (.int n), some (vOpt (nextK (rs.map RL.con) n)), none] ∧ Same H H', ?_, ?_⟩
    · cases hK : nextK (rs.map RL.con) n with
      | none => exact ⟨_, rfl, rfl, _, rfl, iteF (iteF ⟨rfl, m06⟩)⟩
      | some m =>
        obtain ⟨hk1, hk2⟩ := nextK_keeps hK
        have hk3 := nextK_ge hK
        refine ⟨_, rfl, rfl, _, rfl, iteT ?_⟩
        refine ⟨_, rfl, _, rfl, _, _, rfl, rfl, _, rfl, ?_⟩
        rw [decide_eq_true (show (n : Int) ≤ (m : Int) by omega)]
        refine iteT ⟨_, rfl, _, _, rfl, rfl, _, _, rfl, rfl, _, rfl, ?_⟩
        rw [decide_eq_true (show (m : Int) < (n : Int) + 500 by omega)]
        refine iteF ?_
        refine ⟨_, rfl, _, rfl, l, rs, m, rfl, R.same m06, g, Nat.lt_of_lt_of_le (show m < n + 500 by omega) (Nat.le_trans (show n + 500 ≤ 2 ^ 100 + 500 by omega) (by decide)), fun H8 m8 => ⟨_, rfl, ?_⟩⟩
        rw [hk1]
        exact iteF ⟨rfl, m06.trans m8⟩
    rintro σ H7 ⟨rfl, m7⟩
    refine ⟨fun σ H' => σ = [some (.ref l), some (.int n), some (vOpt (nextK (rs.map RL.con) n)), none] ∧ Same H H', ?_, ?_⟩
    · refine ⟨_, rfl, _, rfl, l, rs, n, rfl, R.same m7, g, n200, fun H8 m8 => ⟨_, rfl, ?_⟩⟩
      cases hk : keepsN (rs.map RL.con) n with
      | false => exact iteF (iteF ⟨rfl, m7.trans m8⟩)
      | true =>
        refine iteT ?_
        rw [show nextK (rs.map RL.con) n = some (n + 0) from nextK_some (by decide) (fun j hj => absurd hj (by omega)) hk]
        refine ⟨_, rfl, _, rfl, rfl, _, rfl, ?_⟩
        rw [show (!decide (vOpt (some (n + 0)) = V.int n)) = false by rw [decide_eq_true (show vOpt (some (n + 0)) = V.int n from rfl)]; rfl]
        exact iteF ⟨rfl, m7.trans m8⟩
    rintro σ H8 ⟨rfl, m8⟩
    have R8 := R.same m8
    have at0 : atI (rs.map fun x => V.ref x.r) 0 = some (.ref x0.r) := atI_nat (xs := rs.map fun x => V.ref x.r) (j := 0) (by rw [List.getElem?_map, hrs]; rfl)
    refine ⟨_, rfl, l, _, _, V.ref x0.r, rfl, rfl, SqL.of R8.li, at0, _, rfl, x0.r, x0.b, x0.bl, x0.zs, n, rfl, R8.ru x0 hx0, g.good x0 hx0, Nat.lt_trans hn (by decide), hT.same m8, fun v H9 hv m9 T9 => ?_⟩
    have m09 := (SameL.of m8).trans m9
    have hK1 : (rs.take 1).map RL.con = [x0].map RL.con := by rw [hrs]; rfl
    refine ⟨fun σ H' => σ = [some (.ref l), some (.int n), some (vOpt (nextK (rs.map RL.con) n)), some (vOpt (nextK ([x0].map RL.con) n))] ∧ H' = H9, ?_, ?_⟩
    · rcases hv with ⟨rfl, hno⟩ | ⟨q, rfl, hq1, hq2, hq3, _⟩
      · rw [nextK_none (cs := [x0].map RL.con) (n := n) fun j _ => by rw [keepsN_one]; exact hno _ (by omega)]
        exact ⟨_, rfl, rfl, _, rfl, iteF (iteF ⟨rfl, rfl⟩)⟩
      · have hlow : ∀ j, n + j < q → keepsN ([x0].map RL.con) (n + j) = false := fun j hj => by
          rw [keepsN_one]
          cases hg : gd (x0.zs.map (·.2)) x0.b (n + j) with
          | false => rfl
          | true =>
            have h1 := many_lt _ hj hg
            have h2 := many_mono (gd (x0.zs.map (·.2)) x0.b) (show n ≤ n + j by omega)
            omega
        refine ⟨_, rfl, rfl, _, rfl, iteT ?_⟩
        refine ⟨_, rfl, _, rfl, _, _, rfl, rfl, _, _, rfl, rfl, _, rfl, ?_⟩
        by_cases h5 : n + 500 ≤ q
        · rw [decide_eq_true (show (n : Int) + 500 ≤ (q : Int) by omega), nextK_none (cs := [x0].map RL.con) (n := n) fun j hj => hlow j (by omega)]
          exact iteT ⟨rfl, rfl⟩
        · rw [decide_eq_false (show ¬ (n : Int) + 500 ≤ (q : Int) by omega), nextK_some (cs := [x0].map RL.con) (n := n) (i := q - n) (by omega) (fun j hj => hlow j (by omega)) (by rw [show n + (q - n) = q by omega, keepsN_one]; exact hq2), show n + (q - n) = q by omega]
          exact iteF ⟨rfl, rfl⟩
    rintro σ H10 ⟨rfl, rfl⟩
    have R10 := R8.sameL (hT.same m8) m9
    refine ⟨_, rfl, 1, rfl, l, _, rfl, SqL.of R10.li, fun q1 hq1 => ?_⟩
    have e1 : cutV (rs.map fun x => V.ref x.r) none (some 1) = ([x0].map fun x => V.ref x.r) := by
      rw [show (some (1 : Int)) = some ((1 : Nat) : Int) from rfl, cutV_upto, ← List.map_take, hrs]; rfl
    rw [e1]
    have m11 := same_upd hq1 (o := .lst ([x0].map fun x => V.ref x.r))
    refine ⟨_, rfl, q1, [x0], n, rfl, (R10.same m11).pick upd_same fun y hy => by rw [List.mem_singleton.mp hy]; exact hx0, g.sub (by simp) (by simp) (fun y hy => by rw [List.mem_singleton.mp hy]; exact hx0), n199, fun H12 m12 => ?_⟩
    refine ⟨_, rfl, ?_, ?_⟩
    · cases nextK ([x0].map RL.con) n <;> rfl
    · rw [decide_eq_true rfl]
      exact kk H12 (m09.trans (.of (m11.trans m12))) (T9.same (m11.trans m12))
end
end Lw
set_option Elab.async false
set_option linter.all false
set_option maxRecDepth 100000
namespace L2
open Lw
theorem hasS_trans {a b f : List Int} (ha : a ≠ []) (hb : b ≠ []) (h1 : hasS a b = true) (h2 : hasS b f = true) : hasS a f = true := by
  obtain ⟨k, hk⟩ := (hasS_iff ha).mp h1
  obtain ⟨j, hj⟩ := (hasS_iff hb).mp h2
  refine (hasS_iff ha).mpr ⟨j + k, ?_⟩
  have e : (f.drop (j + k)).take (b.length - k) = b.drop k := by
    rw [← List.drop_drop, ← List.drop_take, hj]
  rw [← e, List.take_take] at hk
  have hl : a.length ≤ min a.length (b.length - k) := by
    have := congrArg List.length hk
    rw [List.length_take] at this
    omega
  rw [show min a.length (b.length - k) = a.length by omega] at hk
  exact hk
theorem hasS_less {a b : List Int} (ha : a ≠ []) (ne : a ≠ b) (h : hasS a b = true) : a.length < b.length := by
  obtain ⟨k, hk⟩ := (hasS_iff ha).mp h
  have hl := congrArg List.length hk
  rw [List.length_take, List.length_drop] at hl
  by_cases hlt : a.length < b.length
  · exact hlt
  · exfalso
    have hb : b.length ≠ 0 := fun z => by
      have : a.length ≠ 0 := fun q => ha (List.length_eq_zero_iff.mp q)
      omega
    have k0 : k = 0 := by
      have : a.length ≠ 0 := fun q => ha (List.length_eq_zero_iff.mp q)
      omega
    rw [k0, List.drop_zero, show a.length = b.length by omega, List.take_length] at hk
    exact ne hk.symm
theorem needed_has {U : List (List Int)} (ne : ∀ l ∈ U, l ≠ []) {f : List Int} : ∀ (n : Nat) (st : List Int), st.length ≤ n → st ∈ U → hasS st f = true → ∃ o ∈ needed U, hasS o f = true
  | 0, st, hl, hm, _ => absurd (List.length_eq_zero_iff.mp (Nat.le_zero.mp hl)) (ne st hm)
  | n + 1, st, hl, hm, hs => by
    cases hq : needless U st with
    | false => exact ⟨st, List.mem_filter.mpr ⟨hm, by rw [hq]; rfl⟩, hs⟩
    | true =>
      obtain ⟨o, ho, hq2⟩ := List.any_eq_true.mp hq
      rw [Bool.and_eq_true] at hq2
      have hne := of_decide_eq_true hq2.1
      have := hasS_less (ne o ho) hne hq2.2
      exact needed_has ne n o (by omega) ho (hasS_trans (ne o ho) (ne st hm) hq2.2 hs)
theorem lacks_iff {ls : List (List Int)} {f : List Int} : lacks ls f = true ↔ ∀ st ∈ ls, hasS st f = false := by
  unfold lacks
  rw [Bool.not_eq_true', List.any_eq_false]
  exact ⟨fun h st hs => by have := h st hs; cases q : hasS st f with | false => rfl | true => exact absurd q this, fun h st hs => by rw [h st hs]; exact Bool.false_ne_true⟩
theorem lacks_needed {U : List (List Int)} (ne : ∀ l ∈ U, l ≠ []) {f : List Int} : lacks (needed U) f = lacks U f := by
  rw [Bool.eq_iff_iff, lacks_iff, lacks_iff]
  constructor
  · intro h st hs
    cases q : hasS st f with
    | false => rfl
    | true =>
      obtain ⟨o, ho, hq⟩ := needed_has ne st.length st (Nat.le_refl _) hs q
      rw [h o ho] at hq; cases hq
  · exact fun h st hs => h st (mem_needed hs)
theorem lacks_needC {cs : List CN} (ne : ∀ l ∈ allC cs, l ≠ []) {f : List Int} : lacks (needC cs) f = cs.all fun c => lacks c.2 f := by
  unfold needC
  rw [lacks_needed fun l hl => ne l (mem_uni.mp hl), Bool.eq_iff_iff, lacks_iff, List.all_eq_true]
  constructor
  · intro h c hc
    rw [lacks_iff]
    exact fun st hs => h st (mem_uni.mpr (List.mem_flatMap.mpr ⟨c, hc, hs⟩))
  · intro h st hs
    obtain ⟨c, hc, hq⟩ := List.mem_flatMap.mp (mem_uni.mp hs)
    exact lacks_iff.mp (h c hc) st hq
theorem uni_self {ls : List (List Int)} (h : LPw ls) : uni ls = ls := (uni_of h fun _ => Iff.rfl).symm
theorem needed_needed {U : List (List Int)} : needed (needed U) = needed U := by
  show (needed U).filter (fun st => !needless (needed U) st) = needed U
  rw [List.filter_eq_self]
  intro st hs
  have h := (List.mem_filter.mp hs).2
  cases q : needless (needed U) st with
  | false => rfl
  | true =>
    obtain ⟨o, ho, hq⟩ := List.any_eq_true.mp q
    have : needless U st = true := List.any_eq_true.mpr ⟨o, mem_needed ho, hq⟩
    rw [this] at h; cases h
theorem allC_one {b : Nat} {ls : List (List Int)} : allC [(b, ls)] = ls := by
  unfold allC; simp
theorem needC_again {b : Nat} {cs : List CN} : needC [(b, needC cs)] = needC cs := by
  show needed (uni (allC [(b, needC cs)])) = _
  rw [allC_one, uni_self (show LPw (needC cs) from pw_needed pw_uni)]
  exact needed_needed
theorem needC_eq {cs ds : List CN} (h : ∀ c, c ∈ cs ↔ c ∈ ds) : needC cs = needC ds := by
  unfold needC
  rw [show uni (allC cs) = uni (allC ds) from uni_of pw_uni fun l => by
    rw [mem_uni]
    unfold allC
    rw [List.mem_flatMap, List.mem_flatMap]
    exact ⟨fun ⟨c, hc, q⟩ => ⟨c, (h c).mp hc, q⟩, fun ⟨c, hc, q⟩ => ⟨c, (h c).mpr hc, q⟩⟩]
theorem needC_one {b : Nat} {ls : List (List Int)} (h : LPw ls) : (needC [(b, ls)]).length ≤ ls.length := by
  unfold needC
  rw [allC_one, uni_self h]
  exact List.length_filter_le _ _
theorem sameB_one {c : CN} : sameB [c] = true := by
  unfold sameB baseC
  simp
theorem sameB_iff {cs : List CN} : sameB cs = true ↔ ∀ c ∈ cs, c.1 = baseC cs := by
  unfold sameB
  rw [List.all_eq_true]
  exact ⟨fun h c hc => of_decide_eq_true (h c hc), fun h c hc => decide_eq_true (h c hc)⟩
theorem baseC_mem {cs : List CN} (ne : cs ≠ []) : ∃ c ∈ cs, c.1 = baseC cs := by
  cases cs with
  | nil => exact absurd rfl ne
  | cons c t => exact ⟨c, .head _, rfl⟩
theorem sameB_rev {cs : List CN} (ne : cs ≠ []) (h : sameB cs = true) : sameB cs.reverse = true ∧ baseC cs.reverse = baseC cs := by
  have h' := sameB_iff.mp h
  obtain ⟨c, hc, e⟩ := baseC_mem (cs := cs.reverse) (fun z => ne (List.reverse_eq_nil_iff.mp z))
  have eb : baseC cs.reverse = baseC cs := by rw [← e]; exact h' c (List.mem_reverse.mp hc)
  refine ⟨sameB_iff.mpr fun d hd => ?_, eb⟩
  rw [eb]
  exact h' d (List.mem_reverse.mp hd)
end L2
set_option Elab.async false
set_option linter.all false
set_option maxRecDepth 100000
namespace Lw
open PySem L2 PyProof.Rows
theorem op_notB {X : Cx} : OpR X (compareOp .IsNot) (rIsB true) := by
  intro pins s σ H x y v u Q I rx ry h
  obtain ⟨a, b, rfl, rfl, q⟩ := h
  cases rx
  cases ry
  exact isnot_bool (fin_bl I q (by show (!decide (a = b)) = (a != b); cases a <;> cases b <;> rfl))
def tRule (c : Nat × List (List Int)) : Tr := .tup [.int c.1, .lst (c.2.map tInts)]
theorem tRule_dep (c : Nat × List (List Int)) : tdep (tRule c) ≤ 3 := by
  unfold tRule
  rw [tdep, tdeps, tdeps, tdeps, tdep, tdep]
  · have := tdeps_tInts c.2; omega
  all_goals (intros; rename_i z; cases z)
theorem TrAt.rule {K : PySem.W.Frag} {H : Hp} {x : RL} (R : RuleAt H x.r x.b x.bl x.zs) : TrAt K H (tRule x.con) (.ref x.r) := by
  unfold tRule RL.con
  rw [TrAt]
  refine ⟨x.r, _, rfl, SqT.of R.tu, ?_⟩
  rw [TrsAt]
  refine ⟨_, _, rfl, by rw [TrAt], ?_⟩
  rw [TrsAt]
  refine ⟨_, _, rfl, ?_, by rw [TrsAt]⟩
  rw [TrAt]
  exact ⟨x.bl, _, rfl, SqL.of R.li, TrsAt.lists R.st⟩
theorem LT.stq {T s : Addr} {H H' : Hp} (h : LT T H) (S : Sto H s) (m : ∀ c o, c ≠ s → H c = some o → H' c = some o) : LT T H' := by
  obtain ⟨g, x, k, e⟩ := S
  have n0 : T ≠ s := Ne.symm (h.lst e)
  rcases h with h | ⟨c, h1, h2⟩
  · exact .inl (m _ _ n0 h)
  · refine .inr ⟨c, m _ _ n0 h1, m _ _ (fun z => ?_) h2⟩
    rw [z, e] at h2
    cases h2
theorem GoodRs.need {rs : List RL} (g : GoodRs rs) (hs : sameB (rs.map RL.con) = true) (h4 : (needC (rs.map RL.con)).length ≤ 4) : GoodRule (baseC (rs.map RL.con)) (needC (rs.map RL.con)) := by
  have hb := sameB_iff.mp hs
  obtain ⟨c, hc, e⟩ := baseC_mem (cs := rs.map RL.con) (fun z => g.ne (List.map_eq_nil_iff.mp z))
  obtain ⟨x, hx, rfl⟩ := List.mem_map.mp hc
  have gx := g.good x hx
  refine ⟨by rw [← e]; exact gx.b2, by rw [← e]; exact gx.b16, h4, fun l hl => ?_, pw_needed pw_uni⟩
  obtain ⟨d, hd, hq⟩ := List.mem_flatMap.mp (mem_uni.mp (List.mem_filter.mp hl).1)
  have e2 := hb d hd
  obtain ⟨y, hy, rfl⟩ := List.mem_map.mp hd
  rw [← e2]
  exact (g.good y hy).st _ hq
theorem GoodRs.nes {rs : List RL} (g : GoodRs rs) : ∀ l ∈ allC (rs.map RL.con), l ≠ [] := fun l hl => by
  obtain ⟨d, hd, hq⟩ := List.mem_flatMap.mp hl
  obtain ⟨y, hy, rfl⟩ := List.mem_map.mp hd
  exact ((g.good y hy).st _ hq).ne
theorem GoodRs.keeps {rs : List RL} (g : GoodRs rs) (hs : sameB (rs.map RL.con) = true) (k : Nat) : gd (needC (rs.map RL.con)) (baseC (rs.map RL.con)) k = keepsN (rs.map RL.con) k := by
  unfold gd keepsN
  rw [lacks_needC g.nes, Bool.eq_iff_iff, List.all_eq_true, List.all_eq_true]
  have hb := sameB_iff.mp hs
  constructor
  · intro h c hc; rw [hb c hc]; exact h c hc
  · intro h c hc; have := h c hc; rwa [hb c hc] at this
theorem GoodRs.one {rs : List RL} (g : GoodRs rs) (h : sameB (rs.map RL.con) = false ∨ 4 < (needC (rs.map RL.con)).length) : 1 < rs.length := by
  match rs, g with
  | [], g => exact absurd rfl g.ne
  | [x], g =>
    exfalso
    rcases h with h | h
    · have q : sameB ([x].map RL.con) = true := sameB_one
      rw [q] at h; cases h
    · have gx := g.good x (.head _)
      have q : (needC ([x].map RL.con)).length ≤ (x.zs.map (·.2)).length := needC_one gx.up
      have := gx.len
      omega
  | x :: y :: t, _ => rw [List.length_cons, List.length_cons]; omega
section
variable {P : Program} {w : World} {K : PySem.W.Frag} {mg : Str → Option Value} {base : Heap} {T0 : Addr}
def sp__law_number : Sp := fun vs H Q _ => ∃ s : Addr, vs = [.ref s] ∧ Sto H s ∧ ∀ (n : Nat) (H' : Hp), n < 2 ^ 100 → Stq s H H' → Q (.int n) H'
theorem sc__law_number : FnScope ["store", "found", "k"] ["store"] (defScope s__law_number) := ⟨rfl, rfl, rfl, by decide +kernel, rfl, by decide +kernel, by decide +kernel⟩
theorem ok__law_number {f f1 : Addr} {fd fd1 : FuncData} (D : Df K mg "_law_number" s__law_number ["store"] f fd) (D_law_take : Df K mg "_law_take" s__law_take ["store", "many"] f1 fd1) (T : Blt mg) : FnOk P w K mg base CX0 2 f fd ["store"] sp__law_number := by
  have G_law_take : FnOk P w K mg base CX0 1 f1 fd1 ["store", "many"] sp__law_take := ok__law_take D_law_take T
  refine D.fn.ok sc__law_number (fun vs H Q E h => ?_) (fun cdv A outer s H vs Q E hr h => ?_)
  · obtain ⟨s, rfl, _⟩ := h; rfl
  · obtain ⟨sa, rfl, S, kk⟩ := h
    refine ⟨_, (pss_cons (ps_set (i := 1) sc__law_number.nd rfl (Or.inl rfl) pe_int)
      (pss_cons (ps_for PassesOwn.never rfl (pi_range1 rfl T.n_range (pa_cons (pe_op op_add pe_int (pcall D_law_take G_law_take (hr.mono (by decide)) (pa_cons (pv 0) (pa_cons (pe_ix (k_ixL K) (pe_lst (pa_cons pe_int (pa_cons pe_int (pa_cons pe_int (pa_cons pe_int pa_nil))))) (pcall D_law_take G_law_take (hr.mono (by decide)) (pa_cons (pv 0) (pa_cons pe_int pa_nil))) (fun _ _ => rfl)) pa_nil)))) pa_nil)) (pg_name (i := 2) sc__law_number.nd rfl (Or.inl rfl))
        (pss_one (ps_set (i := 1) sc__law_number.nd rfl (Or.inl rfl) (pe_op op_add (pe_op op_mul (pv 1) pe_int) (pcall D_law_take G_law_take (hr.mono (by decide)) (pa_cons (pv 0) (pa_cons pe_int pa_nil)))))))
      (pss_one (ps_ret (pv 1))))), ?_⟩
    refine ⟨_, rfl, ?_⟩
    refine ⟨(by show 4 ≤ sizeLine; decide), fun l1 hl1 => ?_⟩
    have n1 := S.ne hl1
    have S1 := (Stq.refl S).new hl1 (o := .lst [.int 2, .int 4, .int 9, .int 26])
    refine ⟨_, rfl, sa, _, rfl, S1.st, (by decide), (by decide), fun x1 H2 hx1 S2 => ?_⟩
    obtain ⟨m, hm, hm1, hm2⟩ : ∃ m : Nat, atI [V.int 2, V.int 4, V.int 9, V.int 26] (x1 : Int) = some (.int m) ∧ 2 ≤ m ∧ m ≤ 26 := by
      have h4 : x1 < 4 := by omega
      match x1, h4 with
      | 0, _ => exact ⟨2, rfl, by omega, by omega⟩
      | 1, _ => exact ⟨4, rfl, by omega, by omega⟩
      | 2, _ => exact ⟨9, rfl, by omega, by omega⟩
      | 3, _ => exact ⟨26, rfl, by omega, by omega⟩
    refine ⟨l1, _, _, _, rfl, rfl, SqL.of (S2.sm _ _ n1 upd_same), hm, ?_⟩
    refine ⟨sa, _, rfl, S2.st, by omega, by omega, fun x2 H3 hx2 S3 => ?_⟩
    refine ⟨1, x2, rfl, rfl, ?_⟩
    refine ⟨(1 + (x2 : Int)), rfl, by omega, by omega, for_range (lo := 0) (n := (1 + (x2 : Int)).toNat) (fun i σ H4 => ∃ (v1 : Option V) (n : Nat), σ = [some (.ref sa), some (.int n), v1] ∧ n < 10 ^ i ∧ Stq sa H H4) ⟨none, 0, rfl, by decide, (S1.trans S2).trans S3⟩ ?_ ?_⟩
    · rintro i σ H4 hi ⟨v1, n, rfl, hn, S4⟩
      refine ⟨_, rfl, _, _, rfl, rfl, .inr ⟨by decide, by decide⟩, _, rfl, sa, _, rfl, S4.st, (by decide), (by decide), fun x3 H5 hx3 S5 => ⟨_, _, rfl, rfl, some (.int (0 + (i : Int))), n * 10 + x3, ?_, ?_, S4.trans S5⟩⟩
      · show [some (V.ref sa), some (V.int ((n : Int) * 10 + x3)), some (V.int (0 + (i : Int)))] = _
        rw [show ((n : Int) * 10 + x3) = ((n * 10 + x3 : Nat) : Int) by omega]
      · rw [Nat.pow_succ]; omega
    · rintro σ H4 ⟨v1, n, rfl, hn, S4⟩
      refine ⟨_, rfl, kk n H4 ?_ S4⟩
      have h1 : (10 : Nat) ^ (1 + (x2 : Int)).toNat ≤ 10 ^ 26 := Nat.pow_le_pow_right (by decide) (by omega)
      have h2 : (10 : Nat) ^ 26 < 2 ^ 100 := by decide
      omega
structure StL (T0 s : Addr) (H H' : Hp) : Prop where
  st : Sto H' s
  lt : LT T0 H'
  sm : ∀ c o, c ≠ s → c ≠ T0 → H c = some o → H' c = some o
def sp__law_one_right (T0 : Addr) : Sp := fun vs H Q _ => ∃ (s l : Addr) (rs : List RL) (n : Nat), vs = [.ref s, .ref l, .int n] ∧ Sto H s ∧ RulesAt (aw [s] H) l rs ∧ GoodRs rs ∧ n ≤ 2000 ∧ LT T0 H ∧ ∀ H', StL T0 s H H' → Q (.bl true) H'
theorem sc__law_one_right : FnScope ["store", "rules", "n", "one", "far"] ["store", "rules", "n"] (defScope s__law_one_right) := ⟨rfl, rfl, rfl, by decide +kernel, rfl, by decide +kernel, by decide +kernel⟩
set_option maxHeartbeats 1000000 in
theorem ok__law_one_right {CNoRules CTooMany CLackError : Addr} {f f1 f2 f3 f4 f5 f6 f7 f8 f9 : Addr} {fd fd1 fd2 fd3 fd4 fd5 fd6 fd7 fd8 fd9 : FuncData} (D : Df K mg "_law_one_right" s__law_one_right ["store", "rules", "n"] f fd) (Dkeeps_all : Df K mg "keeps_all" s_keeps_all ["rules", "n"] f1 fd1) (Gkeeps_all : FnOk P w K mg base CX0 10 f1 fd1 ["rules", "n"] sp_keeps_all)
    (Dis_good : Df K mg "is_good" s_is_good ["rule", "n"] f2 fd2) (Gis_good : FnOk P w K mg base CX0 8 f2 fd2 ["rule", "n"] sp_is_good) (Dall_keeping : Df K mg "all_keeping" s_all_keeping ["rules", "n"] f3 fd3) (Gall_keeping : FnOk P w K mg base CX0 10 f3 fd3 ["rules", "n"] sp_all_keeping) (Dcount_keeping : Df K mg "count_keeping" s_count_keeping ["rules", "n"] f4 fd4) (Gcount_keeping : FnOk P w K mg base CX0 11 f4 fd4 ["rules", "n"] sp_count_keeping)
    (Dcount_below : Df K mg "count_below" s_count_below ["rule", "n"] f5 fd5) (Gcount_below : FnOk P w K mg base CX0 9 f5 fd5 ["rule", "n"] (sp_count_below T0)) (Dis_rule : Df K mg "is_rule" s_is_rule ["thing"] f6 fd6) (Gis_rule : FnOk P w K mg base CX0 6 f6 fd6 ["thing"] sp_is_rule) (Done_rule : Df K mg "one_rule" s_one_rule ["rules"] f7 fd7) (Gone_rule : FnOk P w K mg base (CX1 P w) 9 f7 fd7 ["rules"] (sp_one_rule CNoRules CTooMany))
    (D_law_number : Df K mg "_law_number" s__law_number ["store"] f8 fd8) (D_law_take : Df K mg "_law_take" s__law_take ["store", "many"] f9 fd9) (h_LackError : CatchC K mg "LackError" CLackError) (kt_NoRules : PySem.W.kitCls K (.ref CNoRules) (.ref CLackError) = some true) (kt_TooMany : PySem.W.kitCls K (.ref CTooMany) (.ref CLackError) = some true) (T : Blt mg) : FnOk P w K mg base CX0 12 f fd ["store", "rules", "n"] (sp__law_one_right T0) := by
  have G_law_number : FnOk P w K mg base CX0 2 f8 fd8 ["store"] sp__law_number := ok__law_number D_law_number D_law_take T
  refine D.fn.ok sc__law_one_right (fun vs H Q E h => ?_) (fun cdv A outer s H vs Q E hr h => ?_)
  · obtain ⟨s, l, rs, n, rfl, _⟩ := h; rfl
  · obtain ⟨sa, l, rs, n, rfl, S, RA, g, hn, hT, kk⟩ := h
    have HU := HUof hr
    refine ⟨_, (pss_cons (ps_set (i := 3) sc__law_one_right.nd rfl (Or.inr rfl) pe_non)
      (pss_cons (ps_tryNo h_LackError rfl rfl (fun _ _ _ hS =>
        (pss_one (ps_set (i := 3) sc__law_one_right.nd rfl (Or.inr rfl) (pcallX Done_rule Gone_rule (hr.mono (by decide)) hS (pa_cons (pv 1) pa_nil))))) (fun _ =>
        (pss_one (ps_set (i := 3) sc__law_one_right.nd rfl (Or.inr rfl) pe_non))))
      (pss_cons (ps_if (pt_cmpR op_isN (pv 3) pe_non (nomark _))
        (pss_one (ps_ret (pe_cmpR op_gt (pe_callB (k_len K) (by rfl) T.n_len PySem.boot_len (pa_cons (pv 1) pa_nil)) pe_int (nomark _))))
        pss_nil)
      (pss_cons (ps_if (PW.pt (pw_or (pt_cmpR op_notB (pcall Dis_rule Gis_rule (hr.mono (by decide)) (pa_cons (pv 3) pa_nil)) pe_bl (nomark _)) (pw_or (pt_cmpR (k_neT K HU) (pcallX Done_rule Gone_rule (hr.mono (by decide)) passF (pa_cons (pe_lst (pa_cons (pv 3) pa_nil)) pa_nil)) (pv 3) (nomark _)) (pw_or1 (pt_cmpR (k_neT K HU) (pcallX Done_rule Gone_rule (hr.mono (by decide)) passF (pa_cons (pe_revSlice (pv 1)) pa_nil)) (pv 3) (nomark _))))))
        (pss_one (ps_ret pe_bl))
        pss_nil)
      (pss_cons (ps_if (pt_cmpR (k_neT K HU) (pe_comp (show CScope (defScope s__law_one_right) _ "number" ["store", "rules", "n", "one", "far"] ["one"] [3] from ⟨rfl, by decide +kernel, by decide +kernel, rfl, by decide +kernel, rfl, by decide +kernel, by decide +kernel⟩) rfl (k_pi K (pcall Dall_keeping Gall_keeping (hr.mono (by decide)) (pa_cons (pv 1) (pa_cons (pv 2) pa_nil)))) (fun _ _ _ _ => (pts_one (pt_not (pt_val (pcall Dis_good Gis_good (hr.mono (by decide)) (pa_cons (pv 1) (pa_cons (pv 0) pa_nil))))))) (fun _ _ _ _ => (pv 0))) (pe_lst pa_nil) (nomark _))
        (pss_one (ps_ret pe_bl))
        pss_nil)
      (pss_cons (ps_set (i := 4) sc__law_one_right.nd rfl (Or.inl rfl) (pcall D_law_number G_law_number (hr.mono (by decide)) (pa_cons (pv 0) pa_nil)))
      (pss_one (ps_ret (pe_and (pe_cmpR op_eq (pcall Dcount_below Gcount_below (hr.mono (by decide)) (pa_cons (pv 3) (pa_cons (pv 2) pa_nil))) (pcall Dcount_keeping Gcount_keeping (hr.mono (by decide)) (pa_cons (pv 1) (pa_cons (pv 2) pa_nil))) (nomark _)) (pe_one (pe_cmpR op_eq (pcall Dis_good Gis_good (hr.mono (by decide)) (pa_cons (pv 3) (pa_cons (pv 4) pa_nil))) (pcall Dkeeps_all Gkeeps_all (hr.mono (by decide)) (pa_cons (pv 1) (pa_cons (pv 4) pa_nil))) (nomark _)))))))))))), ?_⟩
    have R := RA.all
    have h3 := g.len
    have none_case : ∀ H' : Hp, Same H H' → 1 < rs.length → StL T0 sa H H' ∧ decide ((1 : Int) < ((rs.map fun x => V.ref x.r).length : Nat)) = true := fun H' m h => by
      refine ⟨⟨?_, hT.same m, fun c o _ _ e => m c o e⟩, by rw [List.length_map]; exact decide_eq_true (by omega)⟩
      obtain ⟨a, b, c, e⟩ := S
      exact ⟨a, b, c, m _ _ e⟩
    refine ⟨_, rfl, l, rs, rfl, R, g, fun hs H1 m1 => ⟨CNoRules, rfl, kt_NoRules, fun e he => ?_⟩, fun hs h4 H1 m1 => ⟨CTooMany, rfl, kt_TooMany, fun e he => ?_⟩, fun hs h4 r nl zs H1 m1 R1 hz hr0 hn0 hz0 => ?_⟩
    · have m2 := m1.trans (same_upd he (o := excO e CNoRules))
      obtain ⟨z1, z2⟩ := none_case _ m2 (g.one (.inl hs))
      refine ⟨_, rfl, rfl, _, rfl, iteT ?_⟩
      refine ⟨_, rfl, l, _, rfl, .inl (SqL.of (R.same m2).li), _, _, rfl, rfl, ?_⟩
      show Q (V.bl (decide ((1 : Int) < ((rs.map fun x => V.ref x.r).length : Nat)))) _
      rw [z2]
      exact kk _ z1
    · have m2 := m1.trans (same_upd he (o := excO e CTooMany))
      obtain ⟨z1, z2⟩ := none_case _ m2 (g.one (.inr h4))
      refine ⟨_, rfl, rfl, _, rfl, iteT ?_⟩
      refine ⟨_, rfl, l, _, rfl, .inl (SqL.of (R.same m2).li), _, _, rfl, rfl, ?_⟩
      show Q (V.bl (decide ((1 : Int) < ((rs.map fun x => V.ref x.r).length : Nat)))) _
      rw [z2]
      exact kk _ z1
    refine ⟨_, rfl, rfl, _, rfl, iteF ?_⟩
    have gN := g.need hs h4
    have gZ : GoodRule (baseC (rs.map RL.con)) (zs.map (·.2)) := by rw [hz]; exact gN
    refine ⟨_, rfl, r, _, nl, zs, rfl, R1, gZ, fun H2 m2 => ?_⟩
    refine ⟨_, _, rfl, rfl, _, rfl, iteF ?_⟩
    have tr : ∀ {H' : Hp} {r nl : Addr} {zs : List (Addr × List Int)} {b : Nat} {ls : List (List Int)}, zs.map (·.2) = ls → RuleAt H' r b nl zs → TrAt K H' (tRule (b, ls)) (.ref r) := fun {H' r nl zs b ls} e Rr => by
      have q := TrAt.rule (K := K) (x := ⟨r, b, nl, zs⟩) Rr
      unfold RL.con at q
      rw [e] at q
      exact q
    have m02 := m1.trans m2
    have R2 := R1.same m2
    refine ⟨_, rfl, (by show 1 ≤ sizeLine; decide), fun o1 ho1 => ?_⟩
    have m3 := same_upd ho1 (o := .lst [V.ref r])
    let y : RL := ⟨r, baseC (rs.map RL.con), nl, zs⟩
    have yc : [y].map RL.con = [(baseC (rs.map RL.con), needC (rs.map RL.con))] := by
      show [(baseC (rs.map RL.con), zs.map (·.2))] = _
      rw [hz]
    have gy : GoodRs [y] := ⟨by simp, by simp, fun x hx => by rw [List.mem_singleton.mp hx]; exact gZ⟩
    have Ry : RulesAt (upd H2 o1 (.lst [V.ref r])) o1 [y] := ⟨upd_same, fun x hx => by rw [List.mem_singleton.mp hx]; exact R2.same m3⟩
    have ys : sameB ([y].map RL.con) = true := sameB_one
    have yn : needC ([y].map RL.con) = needC (rs.map RL.con) := by rw [yc]; exact needC_again
    have yb : baseC ([y].map RL.con) = baseC (rs.map RL.con) := rfl
    refine ⟨o1, [y], rfl, Ry, gy, fun z => absurd z (by rw [ys]; exact fun z => Bool.false_ne_true z.symm), fun _ z => absurd z (by rw [yn]; omega), fun _ _ r3 nl3 zs3 H4 m4 R4 hz3 _ _ _ => ?_⟩
    rw [yb] at R4
    rw [yn] at hz3
    have m24 := m3.trans m4
    have R24 := R2.same m24
    have dR : tdep (tRule (baseC (rs.map RL.con), needC (rs.map RL.con))) ≤ 8 := Nat.le_trans (tRule_dep _) (by decide)
    refine ⟨_, rfl, _, _, tr hz3 R4, tr hz R24, dR, _, rfl, ?_⟩
    rw [teq_refl]
    refine iteF ?_
    have m04 := m02.trans m24
    have Rr4 := R.same m04
    refine ⟨_, rfl, l, _, rfl, SqL.of Rr4.li, fun rv hrv => ?_⟩
    have m5 := same_upd hrv (o := .lst (rs.map fun x => V.ref x.r).reverse)
    have Rv : RulesAt (upd H4 rv (.lst (rs.map fun x => V.ref x.r).reverse)) rv rs.reverse := (Rr4.same m5).pick (by rw [upd_same, List.map_reverse]) fun x hx => List.mem_reverse.mp hx
    have gv : GoodRs rs.reverse := g.sub (fun z => g.ne (List.reverse_eq_nil_iff.mp z)) (by rw [List.length_reverse]; exact h3) (fun x hx => List.mem_reverse.mp hx)
    obtain ⟨vs, vb⟩ := sameB_rev (fun z => g.ne (List.map_eq_nil_iff.mp z)) hs
    rw [← List.map_reverse] at vs vb
    have vn : needC (rs.reverse.map RL.con) = needC (rs.map RL.con) := needC_eq fun c => by rw [List.map_reverse, List.mem_reverse]
    refine ⟨rv, rs.reverse, rfl, Rv, gv, fun z => absurd z (by rw [vs]; exact fun z => Bool.false_ne_true z.symm), fun _ z => absurd z (by rw [vn]; omega), fun _ _ r5 nl5 zs5 H6 m6 R6 hz5 _ _ _ => ?_⟩
    rw [vb] at R6
    rw [vn] at hz5
    have m46 := m5.trans m6
    have R26 := R24.same m46
    refine ⟨_, rfl, _, _, tr hz5 R6, tr hz R26, dR, _, rfl, ?_⟩
    rw [teq_refl]
    refine iteF ?_
    have m06 := m04.trans m46
    have Rr6 := R.same m06
    refine ⟨_, rfl, _, rfl, l, rs, n, rfl, Rr6, g, hn, fun pl H7 hpl hv7 m7 => ?_⟩
    have R27 := R26.same m7
    refine ⟨pl, rfl, ⟨_, SqL.of hv7⟩, comp_list (K := K) (a := pl) (xs := (keptL (rs.map RL.con) n).map V.int) (fun i ys H8 => ys = [] ∧ Same H7 H8) ⟨rfl, Same.refl _⟩ (fun i ys H8 _ ⟨_, m⟩ => SqL.of (m _ _ hv7)) ?_ ?_⟩
    · rintro j v ys H8 hx ⟨rfl, m8⟩
      rw [List.getElem?_map] at hx
      obtain ⟨q, hqj, e⟩ := Option.map_eq_some_iff.mp hx
      subst e
      have hqm := List.mem_of_getElem? hqj
      obtain ⟨k, hk, rfl⟩ := List.mem_map.mp hqm
      obtain ⟨hk1, hk2⟩ := List.mem_filter.mp hk
      have hk3 := List.mem_range.mp hk1
      refine ⟨by decide, ?_⟩
      refine ⟨_, rfl, _, rfl, r, _, nl, zs, k, rfl, R27.same m8, gZ, Nat.lt_of_lt_of_le (show k < 2001 by omega) (by decide), fun H9 m9 => ⟨_, rfl, ?_⟩⟩
      rw [hz, show lacks (needC (rs.map RL.con)) (figs (baseC (rs.map RL.con)) k) = true from (g.keeps hs k).trans hk2]
      exact iteF ⟨rfl, m8.trans m9⟩
    rintro ys H8 ⟨rfl, m8⟩ Dd hD
    have m9 := same_upd hD (o := .lst [])
    refine ⟨(by decide : 0 ≤ sizeLine), fun p0 hp0 => ?_⟩
    have m10 := same_upd hp0 (o := .lst [])
    refine ⟨.lst [], .lst [], by rw [TrAt]; exact ⟨Dd, _, rfl, SqL.of (m10 _ _ upd_same), by rw [TrsAt]⟩, by rw [TrAt]; exact ⟨p0, _, rfl, SqL.of upd_same, by rw [TrsAt]⟩, (by decide), _, rfl, ?_⟩
    rw [teq_refl]
    refine iteF ?_
    have m710 := m7.trans (m8.trans (m9.trans m10))
    have m010 := m06.trans m710
    have R210 := R26.same m710
    generalize hH10 : upd (upd H8 Dd (.lst [])) p0 (.lst []) = H10 at m710 m010 R210
    have S10 : Sto H10 sa := by
      obtain ⟨a, b, c, e⟩ := S
      exact ⟨a, b, c, m010 _ _ e⟩
    refine ⟨_, rfl, sa, rfl, S10, fun fr H11 hfr S11 => ?_⟩
    have ns : ∀ {c : Addr}, H c = none → c ≠ sa := fun {c} hc => S.ne hc
    have R211 : RuleAt H11 r (baseC (rs.map RL.con)) nl zs := ⟨S11.sm _ _ (ns hr0) R210.tu, S11.sm _ _ (ns hn0) R210.li, fun z hzm => S11.sm _ _ (ns (hz0 z hzm)) (R210.st z hzm)⟩
    have SQ := (Stq.of S m010).trans S11
    have RA11 : RulesAt (aw [sa] H11) l rs := RA.same SQ.aw
    have T11 : LT T0 H11 := hT.stq S SQ.sm
    refine ⟨_, rfl, _, rfl, r, _, nl, zs, n, rfl, R211, gZ, Nat.lt_of_le_of_lt hn (by decide), T11, fun H12 m12 T12 => ?_⟩
    have RA12 := RA11.all.sameL T11 m12
    have R212 := R211.sameL T11 m12
    refine ⟨_, rfl, _, rfl, l, rs, n, rfl, RA12, g, hn, fun H13 m13 => ?_⟩
    refine ⟨rfl, _, rfl, ?_⟩
    have eM : many (gd (zs.map (·.2)) (baseC (rs.map RL.con))) n = (keptL (rs.map RL.con) n).length := by
      rw [keptL_many, hz]
      exact many_congr fun k _ => g.keeps hs k
    rw [eM, decide_eq_true rfl]
    refine iteT ?_
    have R213 := R212.same m13
    have fr2 : fr < 2 ^ 200 := Nat.lt_trans hfr (by decide)
    refine ⟨_, rfl, _, rfl, r, _, nl, zs, fr, rfl, R213, gZ, Nat.lt_trans hfr (by decide), fun H14 m14 => ?_⟩
    refine ⟨_, rfl, _, rfl, l, rs, fr, rfl, RA12.same (m13.trans m14), g, fr2, fun H15 m15 => ?_⟩
    refine ⟨rfl, ?_⟩
    rw [hz, show lacks (needC (rs.map RL.con)) (figs (baseC (rs.map RL.con)) fr) = keepsN (rs.map RL.con) fr from g.keeps hs fr, decide_eq_true rfl]
    have m1215 := m13.trans (m14.trans m15)
    refine kk H15 ⟨?_, T12.same m1215, fun c o h1 h2 e => m1215 _ _ (m12 c o h2 (SQ.sm c o h1 e))⟩
    obtain ⟨a, b, c, e⟩ := S11.st
    exact ⟨a, b, c, m1215 _ _ (m12 _ _ (T11.lst e) e)⟩
end
end Lw
set_option Elab.async false
set_option linter.all false
set_option maxRecDepth 100000
namespace Lw
open PySem L2 PyProof.Rows
theorem LT.sq {K : PySem.W.Frag} {T a : Addr} {H H' : Hp} {xs : List V} (h : LT T H) (m : SameL T H H') (q : SqL K H a xs) : SqL K H' a xs := by
  rcases q with (q | ⟨o, q⟩) | q
  · exact .inl (.inl (m _ _ (h.lst q) q))
  · refine .inl (.inr ⟨o, m _ _ (fun z => ?_) q⟩)
    rw [z] at q
    rcases h with h | ⟨c, h, _⟩
    · rw [h] at q; cases q
    · rw [h] at q; cases q
  · exact .inr q
theorem RulesAt.stl {T0 s l : Addr} {H H' : Hp} {rs : List RL} (R : RulesAt (aw [s] H) l rs) (hT : LT T0 H) (m : ∀ c o, c ≠ s → c ≠ T0 → H c = some o → H' c = some o) : RulesAt (aw [s] H') l rs := by
  have k1 : ∀ {p : Addr} {xs : List V}, aw [s] H p = some (.lst xs) → aw [s] H' p = some (.lst xs) := fun {p xs} e => by
    have hp : p ∉ [s] := fun z => by rw [aw_in z] at e; cases e
    rw [aw_out hp] at e ⊢
    exact m p _ (by simpa using hp) (hT.lst e) e
  have k2 : ∀ {p : Addr} {xs : List V}, aw [s] H p = some (.tup xs) → aw [s] H' p = some (.tup xs) := fun {p xs} e => by
    have hp : p ∉ [s] := fun z => by rw [aw_in z] at e; cases e
    rw [aw_out hp] at e ⊢
    exact m p _ (by simpa using hp) (hT.tup e) e
  exact ⟨k1 R.li, fun x hx => ⟨k2 (R.ru x hx).tu, k1 (R.ru x hx).li, fun z hz => k1 ((R.ru x hx).st z hz)⟩⟩
section
variable {P : Program} {w : World} {K : PySem.W.Frag} {mg : Str → Option Value} {base : Heap} {T0 : Addr}
def sp_law (K : PySem.W.Frag) (T : Addr) : Sp := fun vs H Q _ => ∃ (a : Addr) (ns : List Int), vs = [.ref a] ∧ SqL K H a (ns.map V.int) ∧ ns.length ≤ 63 ∧ LT T H ∧ ∀ H', Q (.bl true) H'
theorem sc_law : FnScope ["script", "at", "store", "rules", "n"] ["script"] (defScope s_law) := ⟨rfl, rfl, rfl, by decide +kernel, rfl, by decide +kernel, by decide +kernel⟩
set_option maxHeartbeats 1000000 in
theorem ok_law {f f1 f2 f3 f4 f5 f6 f7 f8 f9 f10 f11 : Addr} {fd fd1 fd2 fd3 fd4 fd5 fd6 fd7 fd8 fd9 fd10 fd11 : FuncData} (D : Df K mg "law" s_law ["script"] f fd) (D_law_cell : Df K mg "_law_cell" s__law_cell ["script", "k"] f1 fd1) (D_law_store : Df K mg "_law_store" s__law_store ["cell"] f2 fd2) (D_law_take : Df K mg "_law_take" s__law_take ["store", "many"] f3 fd3)
    (D_law_stretch : Df K mg "_law_stretch" s__law_stretch ["store", "base", "few"] f4 fd4) (D_law_bad : Df K mg "_law_bad" s__law_bad ["store", "base"] f5 fd5) (D_law_base : Df K mg "_law_base" s__law_base ["store"] f6 fd6) (D_law_rules : Df K mg "_law_rules" s__law_rules ["store"] f7 fd7) (D_law_number : Df K mg "_law_number" s__law_number ["store"] f8 fd8)
    (D_law_each_right : Df K mg "_law_each_right" s__law_each_right ["rules", "n"] f9 fd9) (G_law_each_right : FnOk P w K mg base CX0 12 f9 fd9 ["rules", "n"] (sp__law_each_right T0)) (D_law_one_right : Df K mg "_law_one_right" s__law_one_right ["store", "rules", "n"] f10 fd10) (G_law_one_right : FnOk P w K mg base CX0 12 f10 fd10 ["store", "rules", "n"] (sp__law_one_right T0))
    (D_law_number_right : Df K mg "_law_number_right" s__law_number_right ["rules", "n"] f11 fd11) (G_law_number_right : FnOk P w K mg base CX0 11 f11 fd11 ["rules", "n"] (sp__law_number_right T0)) (T : Blt mg) : FnOk P w K mg base CX0 13 f fd ["script"] (sp_law K T0) := by
  have G_law_cell : FnOk P w K mg base CX0 1 f1 fd1 ["script", "k"] (sp__law_cell K) := ok__law_cell D_law_cell T
  have G_law_store : FnOk P w K mg base CX0 1 f2 fd2 ["cell"] sp__law_store := ok__law_store D_law_store T
  have G_law_take : FnOk P w K mg base CX0 1 f3 fd3 ["store", "many"] sp__law_take := ok__law_take D_law_take T
  have G_law_rules : FnOk P w K mg base CX0 4 f7 fd7 ["store"] sp__law_rules := ok__law_rules D_law_rules D_law_take D_law_stretch D_law_base D_law_bad T
  have G_law_number : FnOk P w K mg base CX0 2 f8 fd8 ["store"] sp__law_number := ok__law_number D_law_number D_law_take T
  refine D.fn.ok sc_law (fun vs H Q E h => ?_) (fun cdv A outer s H vs Q E hr h => ?_)
  · obtain ⟨a, ns, rfl, _⟩ := h; rfl
  · obtain ⟨a, ns, rfl, hS, hlen, hT, kk⟩ := h
    have HU := HUof hr
    refine ⟨_, (pss_cons (ps_for PassesOwn.never rfl (pi_range1 rfl T.n_range (pa_cons (pe_callB (call_min2 rfl) (by rfl) T.n_min boot_min (pa_cons (pe_callB (call_max2 rfl) (by rfl) T.n_max boot_max (pa_cons (pe_callB (k_len K) (by rfl) T.n_len PySem.boot_len (pa_cons (pv 0) pa_nil)) (pa_cons pe_int pa_nil))) (pa_cons pe_int pa_nil))) pa_nil)) (pg_name (i := 1) sc_law.nd rfl (Or.inl rfl))
        (pss_cons (ps_set (i := 2) sc_law.nd rfl (Or.inl rfl) (pcall D_law_store G_law_store (hr.mono (by decide)) (pa_cons (pcall D_law_cell G_law_cell (hr.mono (by decide)) (pa_cons (pv 0) (pa_cons (pv 1) pa_nil))) pa_nil)))
        (pss_cons (ps_set (i := 3) sc_law.nd rfl (Or.inl rfl) (pcall D_law_rules G_law_rules (hr.mono (by decide)) (pa_cons (pv 2) pa_nil)))
        (pss_cons (ps_mid (ps_set (i := 4) sc_law.nd rfl (Or.inl rfl) (pe_ix (k_ixL K) (pe_lst (pa_cons (pcall D_law_take G_law_take (hr.mono (by decide)) (pa_cons (pv 2) (pa_cons pe_int pa_nil))) (pa_cons (pcall D_law_take G_law_take (hr.mono (by decide)) (pa_cons (pv 2) (pa_cons pe_int pa_nil))) pa_nil))) (pe_callTy call_int1 (by rfl) T.n_int boot_int (pa_cons (pe_and (pe_cmpR op_eq (pv 1) pe_int (nomark _)) (pe_one (pe_cmpR op_eq (pcall D_law_take G_law_take (hr.mono (by decide)) (pa_cons (pv 2) (pa_cons pe_int pa_nil))) pe_int (nomark _)))) pa_nil)) (fun _ _ => rfl))))
        (pss_cons (ps_if (PW.pt (pw_or (pt_not (pt_val (pcall D_law_each_right G_law_each_right (hr.mono (by decide)) (pa_cons (pv 3) (pa_cons (pv 4) pa_nil))))) (pw_or1 (pt_not (pt_val (pcall D_law_one_right G_law_one_right (hr.mono (by decide)) (pa_cons (pv 2) (pa_cons (pv 3) (pa_cons (pv 4) pa_nil)))))))))
          (pss_one (ps_ret pe_bl))
          pss_nil)
        (pss_one (ps_if (PW.pt (pw_or (pt_not (pt_val (pcall D_law_number_right G_law_number_right (hr.mono (by decide)) (pa_cons (pv 3) (pa_cons (pcall D_law_number G_law_number (hr.mono (by decide)) (pa_cons (pv 2) pa_nil)) pa_nil))))) (pw_or1 (pt_not (pt_val (pcall D_law_number_right G_law_number_right (hr.mono (by decide)) (pa_cons (pv 3) (pa_cons (pcall D_law_take G_law_take (hr.mono (by decide)) (pa_cons (pv 2) (pa_cons pe_int pa_nil))) pa_nil))))))))
          (pss_one (ps_ret pe_bl))
          pss_nil)))))))
      (pss_one (ps_ret pe_bl))), ?_⟩
    refine ⟨_, rfl, a, _, rfl, .inl hS, _, _, rfl, _, _, rfl, ?_⟩
    generalize hM : (if (5 : Int) < (if (3 : Int) > ((ns.map V.int).length : Int) then 3 else ((ns.map V.int).length : Int)) then (5 : Int) else (if (3 : Int) > ((ns.map V.int).length : Int) then 3 else ((ns.map V.int).length : Int))) = M
    have hM1 : 0 ≤ M ∧ M ≤ 5 := by
      rw [← hM]; split <;> split <;> omega
    refine ⟨M, rfl, by omega, by omega, for_range (lo := 0) (n := M.toNat) (fun i σ H2 => ∃ v1 v2 v3 v4 : Option V, σ = [some (.ref a), v1, v2, v3, v4] ∧ SameL T0 H H2 ∧ LT T0 H2) ⟨none, none, none, none, rfl, fun _ _ _ e => e, hT⟩ ?_ ?_⟩
    case refine_2 =>
      rintro σ H2 ⟨v1, v2, v3, v4, rfl, m2, T2⟩
      exact kk H2
    rintro i σ H2 hi ⟨v1, v2, v3, v4, rfl, m2, T2⟩
    refine ⟨_, rfl, _, rfl, a, ns, i, by rw [Int.zero_add]; rfl, hT.sq m2 hS, hlen, by omega, fun c => ⟨c, rfl, fun sa H3 hsa St m3 => ?_⟩⟩
    have T3 := T2.same m3
    have sT : sa ≠ T0 := by obtain ⟨_, _, _, e⟩ := St; exact T3.lst e
    refine ⟨_, rfl, sa, rfl, St, fun l rs H4 S4 R4 g => ?_⟩
    have T4 := T3.stq St S4.sm
    refine ⟨fun σ H5 => ∃ n : Nat, σ = [some (.ref a), some (.int (0 + (i : Int))), some (.ref sa), some (.ref l), some (.int n)] ∧ n ≤ 2000 ∧ Stq sa H4 H5, ?_, ?_⟩
    · refine ⟨_, rfl, sa, _, rfl, S4.st, (by decide), (by decide), fun x1 H5 hx1 S5 => ?_⟩
      refine ⟨_, rfl, sa, _, rfl, S5.st, (by decide), (by decide), fun x2 H6 hx2 S6 => ?_⟩
      refine ⟨(by show 2 ≤ sizeLine; decide), fun l1 hl1 => ?_⟩
      have S7 := (S5.trans S6).new hl1 (o := .lst [.int x1, .int x2])
      have nl1 : l1 ≠ sa := S6.st.ne hl1
      refine ⟨_, rfl, rfl, _, rfl, ?_⟩
      refine ite2 (fun _ => ?_) (fun _ => ?_)
      · refine ⟨_, rfl, sa, _, rfl, S7.st, (by decide), (by decide), fun x3 H8 hx3 S8 => ?_⟩
        refine ⟨rfl, .inr ⟨_, rfl, ?_⟩⟩
        by_cases hb : decide (V.int (x3 : Int) = V.int 0) = true
        · rw [if_pos hb]
          exact ⟨l1, _, _, .int x2, rfl, rfl, SqL.of (S8.sm _ _ nl1 upd_same), rfl, x2, rfl, by omega, S7.trans S8⟩
        · rw [if_neg hb]
          exact ⟨l1, _, _, .int x1, rfl, rfl, SqL.of (S8.sm _ _ nl1 upd_same), rfl, x1, rfl, by omega, S7.trans S8⟩
      · refine .inr ⟨_, rfl, ?_⟩
        rw [if_neg Bool.false_ne_true]
        exact ⟨l1, _, _, .int x1, rfl, rfl, SqL.of upd_same, rfl, x1, rfl, by omega, S7⟩
    rintro σ H5 ⟨n, rfl, hn, S5⟩
    have T5 := T4.stq S4.st S5.sm
    have R5 := R4.same S5.aw
    refine ⟨_, rfl, _, rfl, l, rs, n, rfl, R5.all, g, hn, T5, fun H6 m6 T6 => ⟨_, rfl, iteF ?_⟩⟩
    have St6 : Sto H6 sa := by obtain ⟨x, y, z, e⟩ := S5.st; exact ⟨x, y, z, m6 _ _ sT e⟩
    have R6 := R5.stl T5 fun c o _ h2 e => m6 c o h2 e
    refine ⟨_, rfl, _, rfl, _, rfl, sa, l, rs, n, rfl, St6, R6, g, hn, T6, fun H7 S7 => ⟨_, rfl, iteF ?_⟩⟩
    have R7 := R6.stl T6 S7.sm
    refine ⟨_, rfl, _, rfl, sa, rfl, S7.st, fun q H8 hq S8 => ?_⟩
    have T8 := S7.lt.stq S7.st S8.sm
    have R8 := R7.same S8.aw
    refine ⟨l, rs, q, rfl, R8.all, g, hq, T8, fun H9 m9 T9 => ⟨_, rfl, iteF ?_⟩⟩
    have St9 : Sto H9 sa := by obtain ⟨x, y, z, e⟩ := S8.st; exact ⟨x, y, z, m9 _ _ sT e⟩
    have R9 := R8.stl T8 fun c o _ h2 e => m9 c o h2 e
    refine ⟨_, rfl, _, rfl, sa, _, rfl, St9, (by decide), (by decide), fun q2 H10 hq2 S10 => ?_⟩
    have T10 := T9.stq St9 S10.sm
    have R10 := R9.same S10.aw
    refine ⟨l, rs, q2, rfl, R10.all, g, Nat.lt_of_lt_of_le (show q2 < 300 by omega) (by decide), T10, fun H11 m11 T11 => ⟨_, rfl, iteF ?_⟩⟩
    refine ⟨_, _, _, _, rfl, fun c o hc e => ?_, T11⟩
    have e2 := m2 c o hc e
    have hcs : c ≠ sa := fun z => by rw [z, hsa] at e2; cases e2
    exact m11 c o hc (S10.sm c o hcs (m9 c o hc (S8.sm c o hcs (S7.sm c o hcs hc (m6 c o hc (S5.sm c o hcs (S4.sm c o hcs (m3 c o e2))))))))
end
end Lw
set_option Elab.async false
set_option linter.all false
set_option maxRecDepth 100000
namespace Lw
open PySem L2
def FF (K : PySem.W.Frag) (n q : Str) (st : Stmt) (f : Addr) (cd : Value) : Prop := ∃ (od an : Option Addr) (sl : Array (Option Value)) (oc kV dc pm ct : Value), K.lookup f = some ⟨oc, od, .func (PySem.W.fnOf n q (defArgs st) (defBody st) (defScope st) .none kV dc pm an cd ct), sl⟩ ∧ PySem.W.codeIn K cd q = true ∧ PySem.W.keepIn K (.ref f) = true
def FD (K : PySem.W.Frag) (n : Str) (st : Stmt) : Prop := ∃ (f : Addr) (cd : Value), PySem.W.nsIn K mainGlobals n = some (some (.ref f)) ∧ FF K n n st f cd
def FM (K : PySem.W.Frag) (C : Addr) (n q : Str) (st : Stmt) : Prop := ∃ (f : Addr) (cd : Value), PySem.W.findIn K (.ref C) n = some (some (.ref f)) ∧ PySem.W.isFn K (.ref f) = true ∧ FF K n q st f cd
section
variable {K : PySem.W.Frag} {n q : Str} {st : Stmt} {f C : Addr} {cd : Value} {od an : Option Addr} {sl : Array (Option Value)} {oc kV dc pm ct : Value}
theorem fdm (a : PySem.W.nsIn K mainGlobals n = some (some (.ref f))) (l : K.lookup f = some ⟨oc, od, .func (PySem.W.fnOf n n (defArgs st) (defBody st) (defScope st) .none kV dc pm an cd ct), sl⟩) (e : PySem.W.codeIn K cd n = true) (k : PySem.W.keepIn K (.ref f) = true) : FD K n st := ⟨f, cd, a, od, an, sl, oc, kV, dc, pm, ct, l, e, k⟩
theorem fmm (a : PySem.W.findIn K (.ref C) n = some (some (.ref f))) (i : PySem.W.isFn K (.ref f) = true) (l : K.lookup f = some ⟨oc, od, .func (PySem.W.fnOf n q (defArgs st) (defBody st) (defScope st) .none kV dc pm an cd ct), sl⟩) (e : PySem.W.codeIn K cd q = true) (k : PySem.W.keepIn K (.ref f) = true) : FM K C n q st := ⟨f, cd, a, i, od, an, sl, oc, kV, dc, pm, ct, l, e, k⟩
def FB (n q : Str) (st : Stmt) (ps : List Str) : Prop := ∀ (kV doc pm : Value) (an : Option Addr) (cdv ct : Value) (us : List Value), us.length = ps.length → bindArgs (PySem.W.fnOf n q (defArgs st) (defBody st) (defScope st) .none kV doc pm an cdv ct) ⟨us, []⟩ = pure (ps.zip us)
theorem FD.df {h : Heap} {mg : Str → Option Value} {ps : List Str} (x : FD K n st) (X : K.In h) (G : h.Ns mainGlobals mg) (b : FB n n st ps) : ∃ f fd, Df K mg n st ps f fd := by
  obtain ⟨f, cd, a, od, an, sl, oc, kV, dc, pm, ct, l, e, k⟩ := x
  exact ⟨_, _, df_mk X G a l e k b⟩
theorem FM.mt {ps : List Str} (x : FM K C n q st) (b : FB n q st ps) : ∃ f fd, Mt K C q n st ps f fd := by
  obtain ⟨f, cd, a, i, od, an, sl, oc, kV, dc, pm, ct, l, e, k⟩ := x
  exact ⟨_, _, ⟨fun_mk (st := st) l e k, (fun_mk (st := st) l e k).binds b, ⟨a, i, k⟩⟩⟩
end
structure CF (K : PySem.W.Frag) (n : Str) (C : Addr) : Prop where
  g : PySem.W.nsIn K mainGlobals n = some (some (.ref C))
  m : PySem.W.mroIn K C (.type "object") = some true
  t : PySem.W.typeIn K (.ref C) = some (.type "type")
theorem CF.cls {K : PySem.W.Frag} {n : Str} {C D : Addr} {b : Bool} (x : CF K n D) (e : PySem.W.mroIn K C (.ref D) = some b) : PySem.W.kitCls K (.ref C) (.ref D) = some b := by
  obtain ⟨cd, h, _⟩ := Option.bind_eq_some_iff.mp x.m
  show (if ((PySem.W.clsIn K D).isSome && PySem.W.typeIn K (.ref D) == some (.type "type")) = true then PySem.W.subIn K (.ref C) (.ref D) else none) = _
  rw [if_pos (by rw [h, x.t, Option.isSome_some, Bool.true_and]; exact beq_self_eq_true _)]
  exact e
set_option maxHeartbeats 0 in
theorem all_mk {l : PySem.W.OpenLaw} {w : World} {K : PySem.W.Frag} {h : Heap} {mg : Str → Option Value} {fa T0 c0 : Addr} (X : K.In h) (G : h.Ns mainGlobals mg) (hfa : mg "law" = some (.ref fa)) (hcT : PySem.W.codeHdIn K c0 T0 = true) (hgT : mainGlobals ≠ T0)
    (x0 : FD K "_wall" s__wall)
    (x1 : FD K "is_whole" s_is_whole)
    (x2 : FD K "is_number" s_is_number)
    (x3 : FD K "is_base" s_is_base)
    (x4 : FD K "is_figure" s_is_figure)
    (x5 : FD K "are_figures" s_are_figures)
    (x6 : FD K "is_stretch" s_is_stretch)
    (x7 : FD K "is_rising" s_is_rising)
    (x8 : FD K "is_bad_list" s_is_bad_list)
    (x9 : FD K "is_rule" s_is_rule)
    (x10 : FD K "check_base" s_check_base)
    (x11 : FD K "check_number" s_check_number)
    (x12 : FD K "check_rule" s_check_rule)
    (x13 : FD K "stands_within" s_stands_within)
    (x14 : FD K "lacks_all" s_lacks_all)
    (x15 : FD K "figures_of" s_figures_of)
    (x16 : FD K "is_good" s_is_good)
    (x17 : FD K "are_rules" s_are_rules)
    (x18 : FD K "check_rules" s_check_rules)
    (x19 : FD K "check_bound" s_check_bound)
    (x20 : FD K "is_good_by_each" s_is_good_by_each)
    (x21 : FD K "keeps_all" s_keeps_all)
    (x22 : FD K "all_keeping" s_all_keeping)
    (x23 : FD K "count_keeping" s_count_keeping)
    (x24 : FD K "next_keeping" s_next_keeping)
    (x25 : FD K "unlike_stretches" s_unlike_stretches)
    (x26 : FD K "is_needless" s_is_needless)
    (x27 : FD K "one_rule" s_one_rule)
    (x28 : FD K "begins_one" s_begins_one)
    (x29 : FD K "longest_stand" s_longest_stand)
    {f30 : Addr} {od30 an30 : Option Addr} {sl30 : Array (Option Value)} {oc30 kV30 dc30 pm30 ct30 : Value} (a30 : PySem.W.nsIn K mainGlobals "stands_of" = some (some (.ref f30)))
    (l30 : K.lookup f30 = some ⟨oc30, od30, .func (PySem.W.fnOf "stands_of" "stands_of" (defArgs s_stands_of) (defBody s_stands_of) (defScope s_stands_of) .none kV30 dc30 pm30 an30 (.ref c0) ct30), sl30⟩) (e30 : PySem.W.codeIn K (.ref c0) "stands_of" = true) (k30 : PySem.W.keepIn K (.ref f30) = true)
    (x31 : FD K "place_behind" s_place_behind)
    (x32 : FD K "steps_from" s_steps_from)
    (x33 : FD K "all_steps" s_all_steps)
    (x34 : FD K "count_below" s_count_below)
    (x35 : FD K "next_good" s_next_good)
    (x36 : FD K "_law_cell" s__law_cell)
    (x37 : FD K "_law_store" s__law_store)
    (x38 : FD K "_law_take" s__law_take)
    (x39 : FD K "_law_stretch" s__law_stretch)
    (x40 : FD K "_law_bad" s__law_bad)
    (x41 : FD K "_law_base" s__law_base)
    (x42 : FD K "_law_rules" s__law_rules)
    (x43 : FD K "_law_number" s__law_number)
    (x44 : FD K "_law_each_right" s__law_each_right)
    (x45 : FD K "_law_number_right" s__law_number_right)
    (x46 : FD K "_law_one_right" s__law_one_right)
    (x47 : FD K "law" s_law)
    {CNoRules : Addr} (qNoRules : CF K "NoRules" CNoRules)
    {CTooMany : Addr} (qTooMany : CF K "TooMany" CTooMany)
    {CLackError : Addr} (qLackError : CF K "LackError" CLackError)
    (mLE : PySem.W.mroIn K CLackError (.type "BaseException") = some true)
    (pNoRules : PySem.W.excIn K CNoRules veT "ValueError.__new__" = true) (lNoRules : PySem.W.mroIn K CNoRules (.ref CLackError) = some true)
    (pTooMany : PySem.W.excIn K CTooMany veT "ValueError.__new__" = true) (lTooMany : PySem.W.mroIn K CTooMany (.ref CLackError) = some true)
    {C : Addr} (aC : PySem.W.nsIn K mainGlobals "Tails" = some (some (.ref C)))
    (yC0 : FM K C "__init__" "Tails.__init__" s_Tails___init__)
    (yC1 : FM K C "layer" "Tails.layer" s_Tails_layer)
    (yC2 : FM K C "many_by" "Tails.many_by" s_Tails_many_by)
    (yC3 : FM K C "many_under" "Tails.many_under" s_Tails_many_under)
    (yC4 : FM K C "many_below" "Tails.many_below" s_Tails_many_below)
    (yC5 : FM K C "many_within" "Tails.many_within" s_Tails_many_within)
    (yC6 : FM K C "figure_at" "Tails.figure_at" s_Tails_figure_at)
    (yC7 : FM K C "number_at" "Tails.number_at" s_Tails_number_at)
    (yC8 : FM K C "are_endless" "Tails.are_endless" s_Tails_are_endless)
    (pgC : PySem.W.plainGet K C Str.empty = true) (hdC : PySem.W.hasDictIn K C = true) (poC : PySem.W.plainOver K C = true) (saC : PySem.W.findIn K (.ref C) "__setattr__" = some (some (.builtin "object.__setattr__"))) (mkC : PySem.W.makesIn K C = true) (kcC : PySem.W.keepIn K (.ref C) = true)
    (nC_base : PySem.W.findIn K (.ref C) "base" = some none)
    (nC_outset : PySem.W.findIn K (.ref C) "outset" = some none)
    (nC_steps : PySem.W.findIn K (.ref C) "steps" = some none)
    (nC_layers : PySem.W.findIn K (.ref C) "layers" = some none)
    {t0 : Tok} (g0 : PySem.W.nsIn K mainGlobals "LEAST_BASE" = some (some (.int 2 t0)))
    {t1 : Tok} (g1 : PySem.W.nsIn K mainGlobals "GREATEST_BASE" = some (some (.int 16 t1)))
    {t2 : Tok} (g2 : PySem.W.nsIn K mainGlobals "MOST_STRETCHES" = some (some (.int 4 t2)))
    {t3 : Tok} (g3 : PySem.W.nsIn K mainGlobals "LONGEST_STRETCH" = some (some (.int 4 t3)))
    {t4 : Tok} (g4 : PySem.W.nsIn K mainGlobals "MOST_RULES" = some (some (.int 3 t4)))
    {t5 : Tok} (g5 : PySem.W.nsIn K mainGlobals "GREATEST_BOUND" = some (some (.int 2000 t5)))
    {t6 : Tok} (g6 : PySem.W.nsIn K mainGlobals "REACH" = some (some (.int 500 t6)))
    (z0 : PySem.W.nsIn K mainGlobals "isinstance" = some none)
    (z1 : PySem.W.nsIn K mainGlobals "int" = some none)
    (z2 : PySem.W.nsIn K mainGlobals "bool" = some none)
    (z3 : PySem.W.nsIn K mainGlobals "list" = some none)
    (z4 : PySem.W.nsIn K mainGlobals "tuple" = some none)
    (z5 : PySem.W.nsIn K mainGlobals "reversed" = some none)
    (z6 : PySem.W.nsIn K mainGlobals "len" = some none)
    (z7 : PySem.W.nsIn K mainGlobals "max" = some none)
    (z8 : PySem.W.nsIn K mainGlobals "min" = some none)
    (z9 : PySem.W.nsIn K mainGlobals "range" = some none)
    (z10 : PySem.W.nsIn K mainGlobals "all" = some none)
    (z11 : PySem.W.nsIn K mainGlobals "any" = some none)
    (z12 : PySem.W.nsIn K mainGlobals "sorted" = some none)
    (z13 : PySem.W.nsIn K mainGlobals "enumerate" = some none)
    (z14 : PySem.W.nsIn K mainGlobals "repr" = some none)
    (z15 : PySem.W.nsIn K mainGlobals "sum" = some none)
    (z16 : PySem.W.nsIn K mainGlobals "abs" = some none)
    (z17 : PySem.W.nsIn K mainGlobals "zip" = some none)
    (z18 : PySem.W.nsIn K mainGlobals "str" = some none)
    : ∃ fd : FuncData, (∀ (s : Shared) (v : Value), BindsTo s fd ⟨[v], []⟩ [("script", v)]) ∧ ∀ base : Heap, K.In base → base.Ns mainGlobals mg → base.BuiltinsAt mg T0 → FnOk l.prog w K mg base CX0 13 fa fd ["script"] (sp_law K T0) := by
  obtain ⟨fL, cd47, aL, od47, an47, sl47, oc47, kV47, dc47, pm47, ct47, lL, eL, kL⟩ := x47
  have e := hfa.symm.trans (PySem.W.mg_of X G aL)
  cases e
  have T : Blt mg := ⟨PySem.W.mg_none_of X G z0, PySem.W.mg_none_of X G z1, PySem.W.mg_none_of X G z2, PySem.W.mg_none_of X G z3, PySem.W.mg_none_of X G z4, PySem.W.mg_none_of X G z5, PySem.W.mg_none_of X G z6, PySem.W.mg_none_of X G z7, PySem.W.mg_none_of X G z8, PySem.W.mg_none_of X G z9, PySem.W.mg_none_of X G z10, PySem.W.mg_none_of X G z11, PySem.W.mg_none_of X G z12, PySem.W.mg_none_of X G z13, PySem.W.mg_none_of X G z14⟩
  have U : Blt2 mg := ⟨PySem.W.mg_none_of X G z15, PySem.W.mg_none_of X G z16, PySem.W.mg_none_of X G z17, PySem.W.mg_none_of X G z18⟩
  have c_LEAST_BASE := PySem.W.mg_of X G g0
  have c_GREATEST_BASE := PySem.W.mg_of X G g1
  have c_MOST_STRETCHES := PySem.W.mg_of X G g2
  have c_LONGEST_STRETCH := PySem.W.mg_of X G g3
  have c_MOST_RULES := PySem.W.mg_of X G g4
  have c_GREATEST_BOUND := PySem.W.mg_of X G g5
  have c_REACH := PySem.W.mg_of X G g6
  obtain ⟨_, _, D_wall⟩ := x0.df (ps := ["k"]) X G fun _ _ _ _ _ _ us hl => match us, hl with | [_], _ => rfl
  obtain ⟨_, _, Dis_whole⟩ := x1.df (ps := ["thing"]) X G fun _ _ _ _ _ _ us hl => match us, hl with | [_], _ => rfl
  obtain ⟨_, _, Dis_number⟩ := x2.df (ps := ["thing"]) X G fun _ _ _ _ _ _ us hl => match us, hl with | [_], _ => rfl
  obtain ⟨_, _, Dis_base⟩ := x3.df (ps := ["thing"]) X G fun _ _ _ _ _ _ us hl => match us, hl with | [_], _ => rfl
  obtain ⟨_, _, Dis_figure⟩ := x4.df (ps := ["base", "thing"]) X G fun _ _ _ _ _ _ us hl => match us, hl with | [_, _], _ => rfl
  obtain ⟨_, _, Dare_figures⟩ := x5.df (ps := ["base", "thing"]) X G fun _ _ _ _ _ _ us hl => match us, hl with | [_, _], _ => rfl
  obtain ⟨_, _, Dis_stretch⟩ := x6.df (ps := ["base", "thing"]) X G fun _ _ _ _ _ _ us hl => match us, hl with | [_, _], _ => rfl
  obtain ⟨_, _, Dis_rising⟩ := x7.df (ps := ["stretches"]) X G fun _ _ _ _ _ _ us hl => match us, hl with | [_], _ => rfl
  obtain ⟨_, _, Dis_bad_list⟩ := x8.df (ps := ["base", "thing"]) X G fun _ _ _ _ _ _ us hl => match us, hl with | [_, _], _ => rfl
  obtain ⟨_, _, Dis_rule⟩ := x9.df (ps := ["thing"]) X G fun _ _ _ _ _ _ us hl => match us, hl with | [_], _ => rfl
  obtain ⟨_, _, Dcheck_base⟩ := x10.df (ps := ["thing"]) X G fun _ _ _ _ _ _ us hl => match us, hl with | [_], _ => rfl
  obtain ⟨_, _, Dcheck_number⟩ := x11.df (ps := ["thing"]) X G fun _ _ _ _ _ _ us hl => match us, hl with | [_], _ => rfl
  obtain ⟨_, _, Dcheck_rule⟩ := x12.df (ps := ["thing"]) X G fun _ _ _ _ _ _ us hl => match us, hl with | [_], _ => rfl
  obtain ⟨_, _, Dstands_within⟩ := x13.df (ps := ["stretch", "figures"]) X G fun _ _ _ _ _ _ us hl => match us, hl with | [_, _], _ => rfl
  obtain ⟨_, _, Dlacks_all⟩ := x14.df (ps := ["bad", "figures"]) X G fun _ _ _ _ _ _ us hl => match us, hl with | [_, _], _ => rfl
  obtain ⟨_, _, Dfigures_of⟩ := x15.df (ps := ["base", "n"]) X G fun _ _ _ _ _ _ us hl => match us, hl with | [_, _], _ => rfl
  obtain ⟨_, _, Dis_good⟩ := x16.df (ps := ["rule", "n"]) X G fun _ _ _ _ _ _ us hl => match us, hl with | [_, _], _ => rfl
  obtain ⟨_, _, Dare_rules⟩ := x17.df (ps := ["thing"]) X G fun _ _ _ _ _ _ us hl => match us, hl with | [_], _ => rfl
  obtain ⟨_, _, Dcheck_rules⟩ := x18.df (ps := ["thing"]) X G fun _ _ _ _ _ _ us hl => match us, hl with | [_], _ => rfl
  obtain ⟨_, _, Dcheck_bound⟩ := x19.df (ps := ["thing"]) X G fun _ _ _ _ _ _ us hl => match us, hl with | [_], _ => rfl
  obtain ⟨_, _, Dis_good_by_each⟩ := x20.df (ps := ["rules", "n"]) X G fun _ _ _ _ _ _ us hl => match us, hl with | [_, _], _ => rfl
  obtain ⟨_, _, Dkeeps_all⟩ := x21.df (ps := ["rules", "n"]) X G fun _ _ _ _ _ _ us hl => match us, hl with | [_, _], _ => rfl
  obtain ⟨_, _, Dall_keeping⟩ := x22.df (ps := ["rules", "n"]) X G fun _ _ _ _ _ _ us hl => match us, hl with | [_, _], _ => rfl
  obtain ⟨_, _, Dcount_keeping⟩ := x23.df (ps := ["rules", "n"]) X G fun _ _ _ _ _ _ us hl => match us, hl with | [_, _], _ => rfl
  obtain ⟨_, _, Dnext_keeping⟩ := x24.df (ps := ["rules", "n"]) X G fun _ _ _ _ _ _ us hl => match us, hl with | [_, _], _ => rfl
  obtain ⟨_, _, Dunlike_stretches⟩ := x25.df (ps := ["rules"]) X G fun _ _ _ _ _ _ us hl => match us, hl with | [_], _ => rfl
  obtain ⟨_, _, Dis_needless⟩ := x26.df (ps := ["stretches", "stretch"]) X G fun _ _ _ _ _ _ us hl => match us, hl with | [_, _], _ => rfl
  obtain ⟨_, _, Done_rule⟩ := x27.df (ps := ["rules"]) X G fun _ _ _ _ _ _ us hl => match us, hl with | [_], _ => rfl
  obtain ⟨_, _, Dbegins_one⟩ := x28.df (ps := ["bad", "figures"]) X G fun _ _ _ _ _ _ us hl => match us, hl with | [_, _], _ => rfl
  obtain ⟨_, _, Dlongest_stand⟩ := x29.df (ps := ["bad", "figures"]) X G fun _ _ _ _ _ _ us hl => match us, hl with | [_, _], _ => rfl
  have Dstands_of : Df K mg "stands_of" s_stands_of ["bad"] _ _ := df_mk X G a30 l30 e30 k30 fun _ _ _ _ _ _ us hl => match us, hl with | [_], _ => rfl
  obtain ⟨_, _, Dplace_behind⟩ := x31.df (ps := ["bad", "stands", "figures"]) X G fun _ _ _ _ _ _ us hl => match us, hl with | [_, _, _], _ => rfl
  obtain ⟨_, _, Dsteps_from⟩ := x32.df (ps := ["rule", "stands", "stand"]) X G fun _ _ _ _ _ _ us hl => match us, hl with | [_, _, _], _ => rfl
  obtain ⟨_, _, Dall_steps⟩ := x33.df (ps := ["rule", "stands"]) X G fun _ _ _ _ _ _ us hl => match us, hl with | [_, _], _ => rfl
  obtain ⟨_, _, Dcount_below⟩ := x34.df (ps := ["rule", "n"]) X G fun _ _ _ _ _ _ us hl => match us, hl with | [_, _], _ => rfl
  obtain ⟨_, _, Dnext_good⟩ := x35.df (ps := ["rule", "n"]) X G fun _ _ _ _ _ _ us hl => match us, hl with | [_, _], _ => rfl
  obtain ⟨_, _, D_law_cell⟩ := x36.df (ps := ["script", "k"]) X G fun _ _ _ _ _ _ us hl => match us, hl with | [_, _], _ => rfl
  obtain ⟨_, _, D_law_store⟩ := x37.df (ps := ["cell"]) X G fun _ _ _ _ _ _ us hl => match us, hl with | [_], _ => rfl
  obtain ⟨_, _, D_law_take⟩ := x38.df (ps := ["store", "many"]) X G fun _ _ _ _ _ _ us hl => match us, hl with | [_, _], _ => rfl
  obtain ⟨_, _, D_law_stretch⟩ := x39.df (ps := ["store", "base", "few"]) X G fun _ _ _ _ _ _ us hl => match us, hl with | [_, _, _], _ => rfl
  obtain ⟨_, _, D_law_bad⟩ := x40.df (ps := ["store", "base"]) X G fun _ _ _ _ _ _ us hl => match us, hl with | [_, _], _ => rfl
  obtain ⟨_, _, D_law_base⟩ := x41.df (ps := ["store"]) X G fun _ _ _ _ _ _ us hl => match us, hl with | [_], _ => rfl
  obtain ⟨_, _, D_law_rules⟩ := x42.df (ps := ["store"]) X G fun _ _ _ _ _ _ us hl => match us, hl with | [_], _ => rfl
  obtain ⟨_, _, D_law_number⟩ := x43.df (ps := ["store"]) X G fun _ _ _ _ _ _ us hl => match us, hl with | [_], _ => rfl
  obtain ⟨_, _, D_law_each_right⟩ := x44.df (ps := ["rules", "n"]) X G fun _ _ _ _ _ _ us hl => match us, hl with | [_, _], _ => rfl
  obtain ⟨_, _, D_law_number_right⟩ := x45.df (ps := ["rules", "n"]) X G fun _ _ _ _ _ _ us hl => match us, hl with | [_, _], _ => rfl
  obtain ⟨_, _, D_law_one_right⟩ := x46.df (ps := ["store", "rules", "n"]) X G fun _ _ _ _ _ _ us hl => match us, hl with | [_, _, _], _ => rfl
  have Dlaw : Df K mg "law" s_law ["script"] _ _ := df_mk X G aL lL eL kL fun _ _ _ _ _ _ us hl => match us, hl with | [_], _ => rfl
  obtain ⟨_, _, MTails___init__⟩ := yC0.mt (ps := ["self", "rule"]) fun _ _ _ _ _ _ us hl => match us, hl with | [_, _], _ => rfl
  have KTails : Mk K C _ := let ⟨a, i, _⟩ := MTails___init__.m; ⟨mkC, a, i, kcC⟩
  have BTails := MTails___init__.b
  obtain ⟨_, _, MTails_layer⟩ := yC1.mt (ps := ["self", "left"]) fun _ _ _ _ _ _ us hl => match us, hl with | [_, _], _ => rfl
  obtain ⟨_, _, MTails_many_by⟩ := yC2.mt (ps := ["self", "layer", "place", "stop"]) fun _ _ _ _ _ _ us hl => match us, hl with | [_, _, _, _], _ => rfl
  obtain ⟨_, _, MTails_many_under⟩ := yC3.mt (ps := ["self", "place", "stop", "left"]) fun _ _ _ _ _ _ us hl => match us, hl with | [_, _, _, _], _ => rfl
  obtain ⟨_, _, MTails_many_below⟩ := yC4.mt (ps := ["self", "figures"]) fun _ _ _ _ _ _ us hl => match us, hl with | [_, _], _ => rfl
  obtain ⟨_, _, MTails_many_within⟩ := yC5.mt (ps := ["self", "size"]) fun _ _ _ _ _ _ us hl => match us, hl with | [_, _], _ => rfl
  obtain ⟨_, _, MTails_figure_at⟩ := yC6.mt (ps := ["self", "place", "k", "left"]) fun _ _ _ _ _ _ us hl => match us, hl with | [_, _, _, _], _ => rfl
  obtain ⟨_, _, MTails_number_at⟩ := yC7.mt (ps := ["self", "size", "k"]) fun _ _ _ _ _ _ us hl => match us, hl with | [_, _, _], _ => rfl
  obtain ⟨_, _, MTails_are_endless⟩ := yC8.mt (ps := ["self"]) fun _ _ _ _ _ _ us hl => match us, hl with | [_], _ => rfl
  have cTails : ClT K mg C := ⟨⟨pgC, hdC, poC, saC⟩, PySem.W.mg_of X G aC, nC_base, nC_outset, nC_steps, nC_layers⟩
  refine ⟨PySem.W.fnOf "law" "law" (defArgs s_law) (defBody s_law) (defScope s_law) .none kV47 dc47 pm47 an47 cd47 ct47, fun s v => .of_eq rfl, fun base _ _ hBM => ?_⟩
  have h_LackError : CatchC K mg "LackError" CLackError := ⟨PySem.W.mg_of X G qLackError.g, mLE⟩
  have x_NoRules : ExcC K mg "NoRules" CNoRules := ⟨PySem.W.mg_of X G qNoRules.g, pNoRules⟩
  have kt_NoRules : PySem.W.kitCls K (.ref CNoRules) (.ref CLackError) = some true := qLackError.cls lNoRules
  have x_TooMany : ExcC K mg "TooMany" CTooMany := ⟨PySem.W.mg_of X G qTooMany.g, pTooMany⟩
  have kt_TooMany : PySem.W.kitCls K (.ref CTooMany) (.ref CLackError) = some true := qLackError.cls lTooMany
  have Gis_whole : FnOk l.prog w K mg base CX0 1 _ _ ["thing"] sp_is_whole := ok_is_whole Dis_whole T
  have Gis_base : FnOk l.prog w K mg base CX0 2 _ _ ["thing"] sp_is_base := ok_is_base Dis_base Dis_whole T c_LEAST_BASE c_GREATEST_BASE
  have Gcheck_base : FnOk l.prog w K mg base CX0 3 _ _ ["thing"] sp_check_base := ok_check_base Dcheck_base Dis_base Gis_base
  have Gis_number : FnOk l.prog w K mg base CX0 2 _ _ ["thing"] sp_is_number := ok_is_number Dis_number Dis_whole T
  have Gcheck_number : FnOk l.prog w K mg base CX0 3 _ _ ["thing"] sp_check_number := ok_check_number Dcheck_number Dis_number Dis_whole T
  have Gfigures_of : FnOk l.prog w K mg base CX0 4 _ _ ["base", "n"] sp_figures_of := ok_figures_of Dfigures_of Dcheck_base Gcheck_base Dcheck_number Gcheck_number T
  have Gis_figure : FnOk l.prog w K mg base CX0 2 _ _ ["base", "thing"] sp_is_figure := ok_is_figure Dis_figure Dis_whole T
  have Gare_figures : FnOk l.prog w K mg base CX0 3 _ _ ["base", "thing"] sp_are_figures := ok_are_figures Dare_figures Dis_figure Gis_figure T
  have Gis_stretch : FnOk l.prog w K mg base CX0 4 _ _ ["base", "thing"] sp_is_stretch := ok_is_stretch Dis_stretch Dare_figures Gare_figures c_LONGEST_STRETCH T
  have Gis_rising : FnOk l.prog w K mg base CX0 1 _ _ ["stretches"] sp_is_rising := ok_is_rising Dis_rising T
  have Gis_bad_list : FnOk l.prog w K mg base CX0 5 _ _ ["base", "thing"] sp_is_bad_list := ok_is_bad_list Dis_bad_list Dis_stretch Gis_stretch Dis_rising c_MOST_STRETCHES T
  have Gis_rule : FnOk l.prog w K mg base CX0 6 _ _ ["thing"] sp_is_rule := ok_is_rule Dis_rule Dis_base Gis_base Dis_bad_list Gis_bad_list T
  have Gcheck_rule : FnOk l.prog w K mg base CX0 7 _ _ ["thing"] sp_check_rule := ok_check_rule Dcheck_rule Dis_rule Gis_rule
  have Gstands_within : FnOk l.prog w K mg base CX0 1 _ _ ["stretch", "figures"] sp_stands_within := ok_stands_within Dstands_within T
  have Glacks_all : FnOk l.prog w K mg base CX0 2 _ _ ["bad", "figures"] sp_lacks_all := ok_lacks_all Dlacks_all Dstands_within T
  have Gis_good : FnOk l.prog w K mg base CX0 8 _ _ ["rule", "n"] sp_is_good := ok_is_good Dis_good Dcheck_rule Gcheck_rule Dlacks_all Glacks_all Dfigures_of Gfigures_of T
  have G_law_cell : FnOk l.prog w K mg base CX0 1 _ _ ["script", "k"] (sp__law_cell K) := ok__law_cell D_law_cell T
  have G_law_store : FnOk l.prog w K mg base CX0 1 _ _ ["cell"] sp__law_store := ok__law_store D_law_store T
  have G_law_take : FnOk l.prog w K mg base CX0 1 _ _ ["store", "many"] sp__law_take := ok__law_take D_law_take T
  have G_law_base : FnOk l.prog w K mg base CX0 2 _ _ ["store"] sp__law_base := ok__law_base D_law_base D_law_take T
  have G_law_stretch : FnOk l.prog w K mg base CX0 2 _ _ ["store", "base", "few"] sp__law_stretch := ok__law_stretch D_law_stretch D_law_take T
  have G_law_bad : FnOk l.prog w K mg base CX0 3 _ _ ["store", "base"] sp__law_bad := ok__law_bad D_law_bad D_law_take D_law_stretch T
  have G_law_rules : FnOk l.prog w K mg base CX0 4 _ _ ["store"] sp__law_rules := ok__law_rules D_law_rules D_law_take D_law_stretch D_law_base D_law_bad T
  have Gare_rules : FnOk l.prog w K mg base CX0 7 _ _ ["thing"] sp_are_rules := ok_are_rules Dare_rules Dis_rule Gis_rule c_MOST_RULES T
  have Gcheck_rules : FnOk l.prog w K mg base CX0 8 _ _ ["thing"] sp_check_rules := ok_check_rules Dcheck_rules Dare_rules Gare_rules
  have Gis_good_by_each : FnOk l.prog w K mg base CX0 9 _ _ ["rules", "n"] sp_is_good_by_each := ok_is_good_by_each Dis_good_by_each Dis_good Gis_good T
  have Gkeeps_all : FnOk l.prog w K mg base CX0 10 _ _ ["rules", "n"] sp_keeps_all := ok_keeps_all Dkeeps_all Dcheck_rules Gcheck_rules Dis_good_by_each Gis_good_by_each
  have Gnext_keeping : FnOk l.prog w K mg base CX0 10 _ _ ["rules", "n"] sp_next_keeping := ok_next_keeping Dnext_keeping Dcheck_rules Gcheck_rules Dis_good_by_each Gis_good_by_each Dcheck_number Gcheck_number c_REACH T
  have Gcheck_bound : FnOk l.prog w K mg base CX0 3 _ _ ["thing"] sp_check_bound := ok_check_bound Dcheck_bound Dis_number Dis_whole c_GREATEST_BOUND T
  have Gall_keeping : FnOk l.prog w K mg base CX0 10 _ _ ["rules", "n"] sp_all_keeping := ok_all_keeping Dall_keeping Dcheck_rules Gcheck_rules Dcheck_bound Gcheck_bound Dis_good_by_each Gis_good_by_each T
  have Gcount_keeping : FnOk l.prog w K mg base CX0 11 _ _ ["rules", "n"] sp_count_keeping := ok_count_keeping Dcount_keeping Dall_keeping Gall_keeping T
  have Gunlike_stretches : FnOk l.prog w K mg base CX0 1 _ _ ["rules"] sp_unlike_stretches := ok_unlike_stretches Dunlike_stretches T
  have Gis_needless : FnOk l.prog w K mg base CX0 2 _ _ ["stretches", "stretch"] sp_is_needless := ok_is_needless Dis_needless Dstands_within T
  have Gone_rule : FnOk l.prog w K mg base (CX1 l.prog w) 9 _ _ ["rules"] (sp_one_rule CNoRules CTooMany) := ok_one_rule Done_rule Dcheck_rules Gcheck_rules Dunlike_stretches Dis_needless Dstands_within x_NoRules x_TooMany c_MOST_STRETCHES T
  have Gbegins_one : FnOk l.prog w K mg base CX0 1 _ _ ["bad", "figures"] sp_begins_one := ok_begins_one Dbegins_one T
  have Glongest_stand : FnOk l.prog w K mg base CX0 3 _ _ ["bad", "figures"] sp_longest_stand := ok_longest_stand Dlongest_stand Dlacks_all Glacks_all Dbegins_one T
  have Gstands_of : FnOk l.prog w K mg base CX0 6 _ _ ["bad"] (sp_stands_of T0) := ok_stands_of Dstands_of rfl hcT hBM hgT Dlacks_all Glacks_all T
  have Gplace_behind : FnOk l.prog w K mg base CX0 4 _ _ ["bad", "stands", "figures"] sp_place_behind := ok_place_behind Dplace_behind Dlongest_stand Glongest_stand
  have Gsteps_from : FnOk l.prog w K mg base CX0 5 _ _ ["rule", "stands", "stand"] sp_steps_from := ok_steps_from Dsteps_from Dplace_behind Gplace_behind T
  have Gall_steps : FnOk l.prog w K mg base CX0 6 _ _ ["rule", "stands"] sp_all_steps := ok_all_steps Dall_steps Dsteps_from Gsteps_from T
  have GTails_many_by : FnOk l.prog w K mg base CX0 1 _ _ ["self", "layer", "place", "stop"] (sp_many_by C) := ok_many_by MTails_many_by cTails T U
  have GTails_layer : FnOk l.prog w K mg base CX0 2 _ _ ["self", "left"] (sp_layer C) := ok_layer MTails_layer MTails_many_by cTails T U
  have GTails_many_under : FnOk l.prog w K mg base CX0 3 _ _ ["self", "place", "stop", "left"] (sp_many_under C) := ok_many_under MTails_many_under MTails_layer MTails_many_by cTails T U
  have GTails_many_within : FnOk l.prog w K mg base CX0 3 _ _ ["self", "size"] (sp_many_within C) := ok_many_within MTails_many_within MTails_layer MTails_many_by cTails T U
  have GTails_many_below : FnOk l.prog w K mg base CX0 4 _ _ ["self", "figures"] (sp_many_below C) := ok_many_below MTails_many_below MTails_many_under GTails_many_under cTails T
  have GTails_figure_at : FnOk l.prog w K mg base CX0 4 _ _ ["self", "place", "k", "left"] (sp_figure_at C) := ok_figure_at MTails_figure_at MTails_many_under GTails_many_under cTails T
  have GTails_number_at : FnOk l.prog w K mg base CX0 5 _ _ ["self", "size", "k"] (sp_number_at C) := ok_number_at MTails_number_at MTails_many_under GTails_many_under MTails_figure_at GTails_figure_at cTails T
  have GTails_init : FnOk l.prog w K mg base CX0 7 _ _ ["self", "rule"] (sp_tails T0 C) := ok_tails MTails___init__ Dstands_of Gstands_of Dall_steps Gall_steps Dlacks_all Glacks_all cTails T
  have Gcount_below : FnOk l.prog w K mg base CX0 9 _ _ ["rule", "n"] (sp_count_below T0) := ok_count_below Dcount_below Dcheck_rule Gcheck_rule Dfigures_of Gfigures_of KTails BTails GTails_init MTails_many_below GTails_many_below cTails
  have Gnext_good : FnOk l.prog w K mg base CX0 9 _ _ ["rule", "n"] (sp_next_good T0) := ok_next_good Dnext_good Dcheck_rule Gcheck_rule Dfigures_of Gfigures_of KTails BTails GTails_init MTails_many_below GTails_many_below MTails_many_within GTails_many_within MTails_number_at GTails_number_at cTails T
  have G_law_each_right : FnOk l.prog w K mg base CX0 12 _ _ ["rules", "n"] (sp__law_each_right T0) := ok__law_each_right D_law_each_right Dkeeps_all Gkeeps_all Dall_keeping Gall_keeping Dcount_keeping Gcount_keeping Dcount_below Gcount_below T
  have G_law_number_right : FnOk l.prog w K mg base CX0 11 _ _ ["rules", "n"] (sp__law_number_right T0) := ok__law_number_right D_law_number_right Dkeeps_all Gkeeps_all Dis_good Gis_good Dnext_keeping Gnext_keeping Dnext_good Gnext_good T
  have G_law_number : FnOk l.prog w K mg base CX0 2 _ _ ["store"] sp__law_number := ok__law_number D_law_number D_law_take T
  have G_law_one_right : FnOk l.prog w K mg base CX0 12 _ _ ["store", "rules", "n"] (sp__law_one_right T0) := ok__law_one_right D_law_one_right Dkeeps_all Gkeeps_all Dis_good Gis_good Dall_keeping Gall_keeping Dcount_keeping Gcount_keeping Dcount_below Gcount_below Dis_rule Gis_rule Done_rule Gone_rule D_law_number D_law_take h_LackError kt_NoRules kt_TooMany T
  exact ok_law Dlaw D_law_cell D_law_store D_law_take D_law_stretch D_law_bad D_law_base D_law_rules D_law_number D_law_each_right G_law_each_right D_law_one_right G_law_one_right D_law_number_right G_law_number_right T
theorem walk2 {l : PySem.W.OpenLaw} {q : Program} {loose : List Str} {XP : (Str → Option Value) → Heap → Prop} {YP : World → Heap → Prop} {d : DefRec} {K : Params → PySem.W.Frag} {c T0 : Addr} (hn : l.most = some 63) (hdf : d.params.defaults = [])
    (hY : ∀ (w : World) (h : Heap), YP w h → (K w.params).In h) (hYT : ∀ (w : World) (h : Heap), YP w h → h.get? T0 = some (PySem.W.tabObj #[])) (hKT : ∀ w : World, (K w.params).lookup T0 = none) (hcT : ∀ w : World, PySem.W.codeHdIn (K w.params) c T0 = true)
    (F : ∀ (w : World) (mg : Str → Option Value) (fa : Addr) (h : Heap), (K w.params).In h → h.Ns mainGlobals mg → mg d.name = some (.ref fa) →
      ∃ fd : FuncData, (∀ (s : Shared) (u : Value), BindsTo s fd ⟨[u], []⟩ [("script", u)]) ∧ ∀ base : Heap, (K w.params).In base → base.Ns mainGlobals mg → base.BuiltinsAt mg T0 → FnOk l.prog w (K w.params) mg base CX0 13 fa fd ["script"] (sp_law (K w.params) T0)) :
    PySem.W.WalkO q loose XP YP l.row.toRowW d [] (fun f vs => PySem.call f vs) :=
  L2.walkP (n := 63) (k := 13) (x := "script") (sp := fun w => sp_law (K w.params) T0) hn (by decide) hdf ⟨rfl, by decide, by decide⟩ hY hYT hKT hcT F (fun w H a ns hl hT hS => ⟨a, ns, rfl, hS, hl, .inl hT, fun _ => rfl⟩)
end Lw
open PySem PySem.W PyProof.Rows
set_option maxRecDepth 100000 in
set_option maxHeartbeats 0 in
theorem PySem.Challenge.cw_lackstretch_k31_whole_together_and_each_holds : PySem.Challenge.rw_lackstretch_k31_whole_together_and_each.Holds := by
  w_on; o_law; k_head; (case hw => w_witness2)
  k_fill
  refine Lw.walk2 (l := PySem.Challenge.rw_lackstretch_k31_whole_together_and_each) (c := 281) (T0 := 277) rfl rfl (fun w h Y => PySem.W.km_in_of Y) (fun w h Y => PySem.W.km_tabs_of Y 277 (by decide)) (fun w => by kernel_rfl) (fun w => by kernel_rfl) ?F
  case F =>
    intro w mg fa h KX G hmg
    refine' Lw.all_mk (c0 := 281) (T0 := 277) KX G hmg (by kernel_rfl) (by decide) ?yyx0 ?yyx1 ?yyx2 ?yyx3 ?yyx4 ?yyx5 ?yyx6 ?yyx7 ?yyx8 ?yyx9 ?yyx10 ?yyx11 ?yyx12 ?yyx13 ?yyx14 ?yyx15 ?yyx16 ?yyx17 ?yyx18 ?yyx19 ?yyx20 ?yyx21 ?yyx22 ?yyx23 ?yyx24 ?yyx25 ?yyx26 ?yyx27 ?yyx28 ?yyx29 ?yya30 ?yyl30 ?yye30 ?yyk30 ?yyx31 ?yyx32 ?yyx33 ?yyx34 ?yyx35 ?yyx36 ?yyx37 ?yyx38 ?yyx39 ?yyx40 ?yyx41 ?yyx42 ?yyx43 ?yyx44 ?yyx45 ?yyx46 ?yyx47 ?yyqNoRules ?yyqTooMany ?yyqLackError ?yymLE ?yypNoRules ?yylNoRules ?yypTooMany ?yylTooMany ?yyaC ?yyyC0 ?yyyC1 ?yyyC2 ?yyyC3 ?yyyC4 ?yyyC5 ?yyyC6 ?yyyC7 ?yyyC8 ?yypgC ?yyhdC ?yypoC ?yysaC ?yymkC ?yykcC ?yynC_base ?yynC_outset ?yynC_steps ?yynC_layers ?yyg0 ?yyg1 ?yyg2 ?yyg3 ?yyg4 ?yyg5 ?yyg6 ?yyz0 ?yyz1 ?yyz2 ?yyz3 ?yyz4 ?yyz5 ?yyz6 ?yyz7 ?yyz8 ?yyz9 ?yyz10 ?yyz11 ?yyz12 ?yyz13 ?yyz14 ?yyz15 ?yyz16 ?yyz17 ?yyz18
    (case yyx0 => refine' Lw.fdm ?_ ?_ ?_ ?_ <;> try k_is)
    (case yyx1 => refine' Lw.fdm ?_ ?_ ?_ ?_ <;> try k_is)
    (case yyx2 => refine' Lw.fdm ?_ ?_ ?_ ?_ <;> try k_is)
    (case yyx3 => refine' Lw.fdm ?_ ?_ ?_ ?_ <;> try k_is)
    (case yyx4 => refine' Lw.fdm ?_ ?_ ?_ ?_ <;> try k_is)
    (case yyx5 => refine' Lw.fdm ?_ ?_ ?_ ?_ <;> try k_is)
    (case yyx6 => refine' Lw.fdm ?_ ?_ ?_ ?_ <;> try k_is)
    (case yyx7 => refine' Lw.fdm ?_ ?_ ?_ ?_ <;> try k_is)
    (case yyx8 => refine' Lw.fdm ?_ ?_ ?_ ?_ <;> try k_is)
    (case yyx9 => refine' Lw.fdm ?_ ?_ ?_ ?_ <;> try k_is)
    (case yyx10 => refine' Lw.fdm ?_ ?_ ?_ ?_ <;> try k_is)
    (case yyx11 => refine' Lw.fdm ?_ ?_ ?_ ?_ <;> try k_is)
    (case yyx12 => refine' Lw.fdm ?_ ?_ ?_ ?_ <;> try k_is)
    (case yyx13 => refine' Lw.fdm ?_ ?_ ?_ ?_ <;> try k_is)
    (case yyx14 => refine' Lw.fdm ?_ ?_ ?_ ?_ <;> try k_is)
    (case yyx15 => refine' Lw.fdm ?_ ?_ ?_ ?_ <;> try k_is)
    (case yyx16 => refine' Lw.fdm ?_ ?_ ?_ ?_ <;> try k_is)
    (case yyx17 => refine' Lw.fdm ?_ ?_ ?_ ?_ <;> try k_is)
    (case yyx18 => refine' Lw.fdm ?_ ?_ ?_ ?_ <;> try k_is)
    (case yyx19 => refine' Lw.fdm ?_ ?_ ?_ ?_ <;> try k_is)
    (case yyx20 => refine' Lw.fdm ?_ ?_ ?_ ?_ <;> try k_is)
    (case yyx21 => refine' Lw.fdm ?_ ?_ ?_ ?_ <;> try k_is)
    (case yyx22 => refine' Lw.fdm ?_ ?_ ?_ ?_ <;> try k_is)
    (case yyx23 => refine' Lw.fdm ?_ ?_ ?_ ?_ <;> try k_is)
    (case yyx24 => refine' Lw.fdm ?_ ?_ ?_ ?_ <;> try k_is)
    (case yyx25 => refine' Lw.fdm ?_ ?_ ?_ ?_ <;> try k_is)
    (case yyx26 => refine' Lw.fdm ?_ ?_ ?_ ?_ <;> try k_is)
    (case yyx27 => refine' Lw.fdm ?_ ?_ ?_ ?_ <;> try k_is)
    (case yyx28 => refine' Lw.fdm ?_ ?_ ?_ ?_ <;> try k_is)
    (case yyx29 => refine' Lw.fdm ?_ ?_ ?_ ?_ <;> try k_is)
    (case yya30 => k_is)
    (case yyl30 => k_is)
    (case yye30 => k_is)
    (case yyk30 => k_is)
    (case yyx31 => refine' Lw.fdm ?_ ?_ ?_ ?_ <;> try k_is)
    (case yyx32 => refine' Lw.fdm ?_ ?_ ?_ ?_ <;> try k_is)
    (case yyx33 => refine' Lw.fdm ?_ ?_ ?_ ?_ <;> try k_is)
    (case yyx34 => refine' Lw.fdm ?_ ?_ ?_ ?_ <;> try k_is)
    (case yyx35 => refine' Lw.fdm ?_ ?_ ?_ ?_ <;> try k_is)
    (case yyx36 => refine' Lw.fdm ?_ ?_ ?_ ?_ <;> try k_is)
    (case yyx37 => refine' Lw.fdm ?_ ?_ ?_ ?_ <;> try k_is)
    (case yyx38 => refine' Lw.fdm ?_ ?_ ?_ ?_ <;> try k_is)
    (case yyx39 => refine' Lw.fdm ?_ ?_ ?_ ?_ <;> try k_is)
    (case yyx40 => refine' Lw.fdm ?_ ?_ ?_ ?_ <;> try k_is)
    (case yyx41 => refine' Lw.fdm ?_ ?_ ?_ ?_ <;> try k_is)
    (case yyx42 => refine' Lw.fdm ?_ ?_ ?_ ?_ <;> try k_is)
    (case yyx43 => refine' Lw.fdm ?_ ?_ ?_ ?_ <;> try k_is)
    (case yyx44 => refine' Lw.fdm ?_ ?_ ?_ ?_ <;> try k_is)
    (case yyx45 => refine' Lw.fdm ?_ ?_ ?_ ?_ <;> try k_is)
    (case yyx46 => refine' Lw.fdm ?_ ?_ ?_ ?_ <;> try k_is)
    (case yyx47 => refine' Lw.fdm ?_ ?_ ?_ ?_ <;> try k_is)
    (case yyqNoRules => refine' ⟨?_, ?_, ?_⟩ <;> try k_is)
    (case yyqTooMany => refine' ⟨?_, ?_, ?_⟩ <;> try k_is)
    (case yyqLackError => refine' ⟨?_, ?_, ?_⟩ <;> try k_is)
    (case yymLE => k_is)
    (case yypNoRules => k_exc)
    (case yylNoRules => k_is)
    (case yypTooMany => k_exc)
    (case yylTooMany => k_is)
    (case yyaC => k_is)
    (case yyyC0 => refine' Lw.fmm ?_ ?_ ?_ ?_ ?_ <;> try k_is)
    (case yyyC1 => refine' Lw.fmm ?_ ?_ ?_ ?_ ?_ <;> try k_is)
    (case yyyC2 => refine' Lw.fmm ?_ ?_ ?_ ?_ ?_ <;> try k_is)
    (case yyyC3 => refine' Lw.fmm ?_ ?_ ?_ ?_ ?_ <;> try k_is)
    (case yyyC4 => refine' Lw.fmm ?_ ?_ ?_ ?_ ?_ <;> try k_is)
    (case yyyC5 => refine' Lw.fmm ?_ ?_ ?_ ?_ ?_ <;> try k_is)
    (case yyyC6 => refine' Lw.fmm ?_ ?_ ?_ ?_ ?_ <;> try k_is)
    (case yyyC7 => refine' Lw.fmm ?_ ?_ ?_ ?_ ?_ <;> try k_is)
    (case yyyC8 => refine' Lw.fmm ?_ ?_ ?_ ?_ ?_ <;> try k_is)
    (case yypgC => k_is)
    (case yyhdC => k_is)
    (case yypoC => k_is)
    (case yysaC => k_is)
    (case yymkC => k_is)
    (case yykcC => k_is)
    (case yynC_base => k_is)
    (case yynC_outset => k_is)
    (case yynC_steps => k_is)
    (case yynC_layers => k_is)
    (case yyg0 => k_is)
    (case yyg1 => k_is)
    (case yyg2 => k_is)
    (case yyg3 => k_is)
    (case yyg4 => k_is)
    (case yyg5 => k_is)
    (case yyg6 => k_is)
    (case yyz0 => k_is)
    (case yyz1 => k_is)
    (case yyz2 => k_is)
    (case yyz3 => k_is)
    (case yyz4 => k_is)
    (case yyz5 => k_is)
    (case yyz6 => k_is)
    (case yyz7 => k_is)
    (case yyz8 => k_is)
    (case yyz9 => k_is)
    (case yyz10 => k_is)
    (case yyz11 => k_is)
    (case yyz12 => k_is)
    (case yyz13 => k_is)
    (case yyz14 => k_is)
    (case yyz15 => k_is)
    (case yyz16 => k_is)
    (case yyz17 => k_is)
    (case yyz18 => k_is)
