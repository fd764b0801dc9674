import PyProof.Rows.All
import Wide.All
import OpenK.AllK
import Wide.FinOn
import Lean
import PyProof.EqAt
import PyProof.EqKinds
import PyProof.TupleCall
import PyProof.NeKinds
import KE.KRevSl
import KE.KRevIter
import PyProof.ConsumeWalk
import KE.KSortAsk
import KE.KSortTup
import KE.KDictSum
import PyProof.Rows.SumAny
import PyProof.EnumStmt
import PyProof.EnumMake
import PyProof.Rows.EnumRows
import PyProof.Rows.FactsN_abs
import KE.KLam
import PySem.Challenge.RW_lackstretch_k36_whole_there_and_back
set_option Elab.async false
set_option linter.all false
set_option maxRecDepth 100000
namespace L2
open PySem PySem.Spec PyProof.Rows
abbrev Key := Sum Int Str
def keyIs : Key → Value → Bool
  | .inl k, v => Value.isInt k v
  | .inr x, v => Value.isStrOf x v
def keyH (w : World) : Key → Int
  | .inl k => hashInt k
  | .inr x => hashStr w x
theorem keyIs_shape : ∀ {k : Key} {v : Value}, keyIs k v = true → (∃ i t, k = Sum.inl i ∧ v = Value.int i t) ∨ (∃ x t, k = Sum.inr x ∧ v = Value.str x t)
  | .inl i, v, h => by
    obtain ⟨t, e⟩ := Value.isInt_shape (k := i) (v := v) h
    exact .inl ⟨i, t, rfl, e⟩
  | .inr x, v, h => by
    obtain ⟨t, e⟩ := Value.isStrOf_shape (x := x) (v := v) h
    exact .inr ⟨x, t, rfl, e⟩
theorem keyIs_int (i : Int) (t : Tok) : keyIs (.inl i) (.int i t) = true := by simp [keyIs, Value.isInt]
theorem keyIs_str (x : Str) (t : Tok) : keyIs (.inr x) (.str x t) = true := by simp [keyIs, Value.isStrOf]
theorem key_ll (a b : Int) : decide ((Sum.inl a : Key) = Sum.inl b) = (a == b) := by
  by_cases e : a = b
  · subst e; simp
  · have h : ¬ (Sum.inl a : Key) = Sum.inl b := fun q => e (Sum.inl.inj q)
    rw [decide_eq_false h]
    exact (beq_eq_false_iff_ne.mpr e).symm
theorem key_rr (a b : Str) : decide ((Sum.inr a : Key) = Sum.inr b) = decide (a = b) := by
  by_cases e : a = b
  · subst e; simp
  · have h : ¬ (Sum.inr a : Key) = Sum.inr b := fun q => e (Sum.inr.inj q)
    rw [decide_eq_false h, decide_eq_false e]
theorem key_lr (a : Int) (b : Str) : decide ((Sum.inl a : Key) = Sum.inr b) = false := decide_eq_false (fun q => nomatch q)
theorem key_rl (a : Str) (b : Int) : decide ((Sum.inr a : Key) = Sum.inl b) = false := decide_eq_false (fun q => nomatch q)
def mixKind (prog : Program) (w : World) : PySem.KeyKind prog w Key where
  is := keyIs
  hash := keyH w
  inj := fun v a b ha hb => by
    rcases keyIs_shape ha with ⟨i, t, rfl, rfl⟩ | ⟨x, t, rfl, rfl⟩
    · rcases keyIs_shape hb with ⟨j, u, rfl, e⟩ | ⟨y, u, rfl, e⟩
      · injection e with e1 _; rw [e1]
      · exact nomatch e
    · rcases keyIs_shape hb with ⟨j, u, rfl, e⟩ | ⟨y, u, rfl, e⟩
      · exact nomatch e
      · injection e with e1 _; rw [e1]
  byValue := fun k v h => by
    rcases keyIs_shape h with ⟨i, t, rfl, rfl⟩ | ⟨x, t, rfl, rfl⟩ <;> rfl
  pyHash := fun hv h => by
    rcases keyIs_shape hv with ⟨i, t, rfl, rfl⟩ | ⟨x, t, rfl, rfl⟩
    · exact wpAny_pyHash_int h
    · exact wpAny_pyHash_str h
  eqBool := fun hu hv h => by
    rcases keyIs_shape hu with ⟨i, t, rfl, rfl⟩ | ⟨x, t, rfl, rfl⟩
    · rcases keyIs_shape hv with ⟨j, u, rfl, rfl⟩ | ⟨y, u, rfl, rfl⟩
      · rw [key_ll] at h; exact wpAny_eqBool_int h
      · rw [key_lr] at h; exact SeqAt.EqAt.int_str i t y u _ _ _ _ h
    · rcases keyIs_shape hv with ⟨j, u, rfl, rfl⟩ | ⟨y, u, rfl, rfl⟩
      · rw [key_rl] at h; exact SeqAt.EqAt.str_int x t j u _ _ _ _ h
      · rw [key_rr] at h; exact wpAny_eqBool_str h
  «strs» := fun k x t v h => by
    rcases keyIs_shape h with ⟨i, u, rfl, e⟩ | ⟨y, u, rfl, e⟩
    · exact nomatch e
    · injection e with e1 _
      subst e1
      cases v <;> rfl
theorem mixKind_int (prog : Program) (w : World) (i : Int) (t : Tok) : (mixKind prog w).is (.inl i) (.int i t) = true := keyIs_int i t
theorem mixKind_str (prog : Program) (w : World) (x : Str) (t : Tok) : (mixKind prog w).is (.inr x) (.str x t) = true := keyIs_str x t
end L2
namespace L2
open PySem PySem.Spec PyProof.Rows
inductive V where
  | non | bl (b : Bool) | int (i : Int) | str (x : Str) | byt (b : Array UInt8) | flt (b : UInt64) | ref (a : Addr) | ty (n : String)
  deriving DecidableEq
def RelV : V → Value → Prop
  | .non, u => u = Value.none
  | .bl b, u => u = Value.bool b
  | .int i, u => ∃ t, u = Value.int i t
  | .str x, u => ∃ t, u = Value.str x t
  | .byt b, u => ∃ t, u = Value.bytes b t
  | .flt b, u => ∃ t, u = Value.float b t
  | .ref a, u => u = Value.ref a
  | .ty n, u => u = Value.type n
abbrev Vals : List V → List Value → Prop := Paired RelV
theorem Vals.length {xs : List V} {us : List Value} (r : Vals xs us) : xs.length = us.length := Paired.length r
theorem Vals.get : ∀ {xs : List V} {us : List Value} {i : Nat} {x : V}, Vals xs us → xs[i]? = some x → ∃ u, us[i]? = some u ∧ RelV x u
  | _, _, _, _, .nil, e => by simp at e
  | _, _, 0, _, .cons r _, e => by simp at e; subst e; exact ⟨_, rfl, r⟩
  | _, _, i + 1, x, .cons _ t, e => by
    obtain ⟨u, h1, h2⟩ := Vals.get (i := i) (x := x) t (by simpa using e)
    exact ⟨u, by simpa using h1, h2⟩
theorem Vals.set {x : V} {u : Value} (r : RelV x u) : ∀ {xs : List V} {us : List Value} (i : Nat), Vals xs us → Vals (xs.set i x) (us.set i u)
  | _, _, _, .nil => .nil
  | _, _, 0, .cons _ t => .cons r t
  | _, _, i + 1, .cons q t => .cons q (Vals.set r i t)
theorem Vals.append : ∀ {xs ys : List V} {us ws : List Value}, Vals xs us → Vals ys ws → Vals (xs ++ ys) (us ++ ws)
  | _, _, _, _, .nil, s => s
  | _, _, _, _, .cons r t, s => .cons r (Vals.append t s)
theorem Vals.take : ∀ {xs : List V} {us : List Value} (n : Nat), Vals xs us → Vals (xs.take n) (us.take n)
  | _, _, 0, _ => .nil
  | _, _, _ + 1, .nil => .nil
  | _, _, n + 1, .cons r t => .cons r (Vals.take n t)
theorem Vals.drop : ∀ {xs : List V} {us : List Value} (n : Nat), Vals xs us → Vals (xs.drop n) (us.drop n)
  | _, _, 0, r => r
  | _, _, _ + 1, .nil => .nil
  | _, _, n + 1, .cons _ t => Vals.drop n t
theorem Vals.none_of : ∀ {xs : List V} {us : List Value} {i : Nat}, Vals xs us → xs[i]? = none → us[i]? = none := fun {xs us i} r e => by
  have h1 := r.length
  have h2 : xs.length ≤ i := List.getElem?_eq_none_iff.mp e
  exact List.getElem?_eq_none_iff.mpr (by omega)
def RelO : Option V → Option Value → Prop
  | some v, some u => RelV v u
  | none, none => True
  | _, _ => False
def KV {κ : Type} : List (κ × V) → List (κ × Value) → Prop := Paired fun (p : κ × V) (q : κ × Value) => p.1 = q.1 ∧ RelV p.2 q.2
def kV : Key → V
  | .inl i => .int i
  | .inr x => .str x
inductive HO where
  | lst (xs : List V)
  | tup (xs : List V)
  | dK (kvs : List (Key × V)) | dT (kvs : List (List Key × V))
  | set (S : Int → Bool) (n : Nat)
  | ins (C dx : Addr) (fs : List (Str × V))
  | own (x : Addr)
  | xd (fs : List (Str × V))
  | met (f x : Addr)
  | rng (lo hi : Int)
  | frz (o : Obj) (u : HO)
  | tbl (ps : Array Value)
  | ext (φ : Heap → Prop)
abbrev Hp := Addr → Option HO
def upd (H : Hp) (a : Addr) (o : HO) : Hp := fun b => if b = a then some o else H b
theorem upd_same {H : Hp} {a : Addr} {o : HO} : upd H a o a = some o := by unfold upd; rw [if_pos rfl]
theorem upd_ne {H : Hp} {a b : Addr} {o : HO} (h : b ≠ a) : upd H a o b = H b := by unfold upd; rw [if_neg h]
theorem upd_upd {H : Hp} {a : Addr} {o u : HO} : upd (upd H a o) a u = upd H a u := by
  funext b; unfold upd; split <;> rfl
theorem ne_of {H : Hp} {a b : Addr} {o u : HO} (h : H a = some o) (h' : H b = some u) (d : o ≠ u) : a ≠ b := by
  intro e; subst e; rw [h] at h'; exact d (Option.some.inj h')
theorem ne_of_none {H : Hp} {a b : Addr} {o : HO} (h : H a = some o) (h' : H b = none) : a ≠ b := by
  intro e; subst e; rw [h] at h'; cases h'
section
variable (P : Program) (w : World)
def ObjOk (H : Hp) (h : Heap) (a : Addr) : HO → Prop
  | .lst xs => xs.length ≤ sizeLine ∧ ∃ (its : List Value) (n : Nat), Vals xs its ∧ h.get? a = some { cls := .type "list", data := .seq its.toArray n }
  | .tup xs => xs.length ≤ sizeLine ∧ ∃ its : List Value, Vals xs its ∧ IsTup h a its.toArray
  | .dK kvs => kvs.length ≤ sizeLine ∧ (a == sysModules) = false ∧ ∃ vs, KV kvs vs ∧ h.DictOf (mixKind P w) a vs
  | .dT kvs => kvs.length ≤ sizeLine ∧ (a == sysModules) = false ∧ ∃ xs : List (List Key × Addr × Value),
      Paired (fun (p : List Key × V) (q : List Key × Addr × Value) => p.1 = q.1 ∧ H q.2.1 = some (.tup (p.1.map kV)) ∧ RelV p.2 q.2.2) kvs xs ∧
      ∃ o es ep, h.get? a = some o ∧ o.ExactDict ∧ o.data = .dict es ep ∧ es.toList = xs.map (entryOfKey (tupleKind (mixKind P w))) ∧ (xs.map (·.1)).Nodup
  | .set S n => h.SetOf (intKind P w) a S n
  | .ins C dx fs => H dx = some (.own a) ∧ fs.length ≤ 1000 ∧ dx ≠ a ∧ h.get? a = some (PySem.W.instObj C dx) ∧
      ∃ mA, h.Ns1 dx mA ∧ (∀ f, RelO (fs.lookup f) (mA f)) ∧ PySem.Within mA (fs.map (·.1))
  | .own _ => ∃ o, h.get? a = some o
  | .xd fs => ∃ mA, h.Ns1 a mA ∧ ∀ f, RelO (fs.lookup f) (mA f)
  | .rng lo hi => ∃ t u v, h.get? a = some { cls := .type "range", data := .fields #[.int lo t, .int hi u, .int 1 v] }
  | .frz o u => h.get? a = some o ∧ ObjOk H h a u
  | .tbl ps => h.get? a = some { cls := .none, data := .fields ps }
  | .met f x => h.get? a = some (PySem.W.methodObj (.ref f) (.ref x))
  | .ext φ => φ h ∧ (∃ o, h.get? a = some o) ∧ ∀ h1 h2 : Heap, φ h1 → (∀ o, h1.get? a = some o → h2.get? a = some o) → φ h2
def HOk (H : Hp) (h : Heap) : Prop := ∀ a o, H a = some o → ObjOk P w H h a o
end
section
variable {P : Program} {w : World} {H H' : Hp} {h h' : Heap} {a : Addr} {o : HO}
theorem ObjOk.lt (x : ObjOk P w H h a o) : a < h.objs.size := by
  cases o with
  | lst xs => obtain ⟨_, _, _, _, e⟩ := x; exact Heap.lt_size e
  | tup xs => obtain ⟨_, _, _, p⟩ := x; exact p.lt
  | dK kvs => obtain ⟨_, _, _, _, o, _, _, e, _⟩ := x; exact Heap.lt_size e
  | dT kvs => obtain ⟨_, _, _, _, o, _, _, e, _⟩ := x; exact Heap.lt_size e
  | set S n => obtain ⟨o, _, _, _, e, _⟩ := x; exact Heap.lt_size e
  | ins C dx fs => obtain ⟨_, _, _, e, _⟩ := x; exact Heap.lt_size e
  | own y => obtain ⟨_, e⟩ := x; exact Heap.lt_size e
  | xd fs => obtain ⟨_, ⟨_, _, _, e, _⟩, _⟩ := x; exact Heap.lt_size e
  | rng lo hi => obtain ⟨_, _, _, e⟩ := x; exact Heap.lt_size e
  | frz ob u => obtain ⟨e, _⟩ := x; exact Heap.lt_size e
  | tbl ps => exact Heap.lt_size (show h.get? a = some _ from x)
  | met f y => exact Heap.lt_size (show h.get? a = some _ from x)
  | ext φ => obtain ⟨_, ⟨_, e⟩, _⟩ := x; exact Heap.lt_size e
theorem Paired.mapP {α β : Type} {F G : α → β → Prop} : ∀ {l₁ : List α} {l₂ : List β}, Paired F l₁ l₂ → (∀ a b, F a b → G a b) → Paired G l₁ l₂
  | _, _, .nil, _ => .nil
  | _, _, .cons r t, f => .cons (f _ _ r) (Paired.mapP t f)
theorem ObjOk.stay (x : ObjOk P w H h a o) (k : ∀ b u, (b = a ∨ H b = some (.own a)) → h.get? b = some u → h'.get? b = some u)
    (ho : ∀ b, H b = some (.own a) → H' b = some (.own a)) (ht : ∀ b xs, H b = some (.tup xs) → H' b = some (.tup xs)) : ObjOk P w H' h' a o := by
  induction o with
  | lst xs => obtain ⟨z, its, n, r, e⟩ := x; exact ⟨z, its, n, r, k _ _ (.inl rfl) e⟩
  | tup xs => obtain ⟨z, its, r, ob, e, c⟩ := x; exact ⟨z, its, r, ob, k _ _ (.inl rfl) e, c⟩
  | dK kvs => obtain ⟨z, y, vs, r, ob, es, ep, e, c⟩ := x; exact ⟨z, y, vs, r, ob, es, ep, k _ _ (.inl rfl) e, c⟩
  | dT kvs =>
    obtain ⟨z, y, xs, r, ob, es, ep, e, c⟩ := x
    exact ⟨z, y, xs, Paired.mapP r fun p q z => ⟨z.1, ht _ _ z.2.1, z.2.2⟩, ob, es, ep, k _ _ (.inl rfl) e, c⟩
  | set S n => obtain ⟨ob, es, ep, t, e, c⟩ := x; exact ⟨ob, es, ep, t, k _ _ (.inl rfl) e, c⟩
  | ins C dx fs =>
    obtain ⟨d, z, ne, e, mA, ⟨od, es, ep, e2, c⟩, r⟩ := x
    exact ⟨ho _ d, z, ne, k _ _ (.inl rfl) e, mA, ⟨od, es, ep, k _ _ (.inr d) e2, c⟩, r⟩
  | own y => obtain ⟨ob, e⟩ := x; exact ⟨ob, k _ _ (.inl rfl) e⟩
  | xd fs => obtain ⟨mA, ⟨od, es, ep, e, c⟩, r⟩ := x; exact ⟨mA, ⟨od, es, ep, k _ _ (.inl rfl) e, c⟩, r⟩
  | rng lo hi => obtain ⟨t, u, v, e⟩ := x; exact ⟨t, u, v, k _ _ (.inl rfl) e⟩
  | frz ob u ih => obtain ⟨e, q⟩ := x; exact ⟨k _ _ (.inl rfl) e, ih q⟩
  | tbl ps =>
    have e : h.get? a = some { cls := .none, data := .fields ps } := x
    show h'.get? a = some { cls := .none, data := .fields ps }
    exact k a _ (.inl rfl) e
  | met f y =>
    have e : h.get? a = some (PySem.W.methodObj (.ref f) (.ref y)) := x
    show h'.get? a = some (PySem.W.methodObj (.ref f) (.ref y))
    exact k a _ (.inl rfl) e
  | ext φ => obtain ⟨p, ⟨o, e⟩, st⟩ := x; exact ⟨st _ _ p fun o q => k _ _ (.inl rfl) q, ⟨o, k _ _ (.inl rfl) e⟩, st⟩
theorem HOk.lt (x : HOk P w H h) (e : H a = some o) : a < h.objs.size := (x a o e).lt
theorem HOk.fresh (x : HOk P w H h) (e : h.objs.size ≤ a) : H a = none := by
  cases q : H a with
  | none => rfl
  | some u => exact absurd (Nat.lt_of_lt_of_le (x.lt q) e) (Nat.lt_irrefl _)
theorem HOk.kept (x : HOk P w H h) (k : ∀ b u, h.get? b = some u → h'.get? b = some u) : HOk P w H h' := fun a o e =>
  (x a o e).stay (fun b u _ q => k b u q) (fun _ q => q) fun _ _ q => q
theorem HOk.laid (x : HOk P w H h) (k : ∀ b u, h.get? b = some u → h'.get? b = some u) (hp : h.objs.size ≤ a) (new : ObjOk P w (upd H a o) h' a o) : HOk P w (upd H a o) h' := fun b u e => by
  have hn := x.fresh hp
  by_cases hb : b = a
  · subst hb; rw [upd_same] at e; cases e; exact new
  · rw [upd_ne hb] at e
    exact (x b u e).stay (fun c v _ q => k c v q) (fun c q => by rw [upd_ne (ne_of_none q hn)]; exact q) fun c xs q => by rw [upd_ne (ne_of_none q hn)]; exact q
end
def Rd (H : Hp) (a : Addr) (u : HO) : Prop := H a = some u ∨ ∃ o, H a = some (.frz o u)
theorem Rd.of {H : Hp} {a : Addr} {u : HO} (h : H a = some u) : Rd H a u := .inl h
theorem Rd.ok {P : Program} {w : World} {H : Hp} {h : Heap} {a : Addr} {u : HO} (r : Rd H a u) (x : HOk P w H h) : ObjOk P w H h a u := by
  rcases r with r | ⟨o, r⟩
  · exact x a u r
  · obtain ⟨_, q⟩ := x a _ r
    exact q
def Mut : Option HO → Prop
  | some (.lst _) => True
  | some (.dK _) => True
  | some (.dT _) => True
  | some (.set _ _) => True
  | some (.ins _ _ _) => True
  | some (.ext _) => True
  | _ => False
section
variable {P : Program} {w : World} {H : Hp} {h h' : Heap} {x e : Addr} {o' : HO}
theorem HOk.write (ok : HOk P w H h) (mu : Mut (H x)) (he : e = x ∨ H e = some (.own x)) (k : ∀ b u, b ≠ e → h.get? b = some u → h'.get? b = some u) (heo : ∃ u, h'.get? e = some u)
    (new : ObjOk P w (upd H x o') h' x o') : HOk P w (upd H x o') h' := fun b u q => by
  have nown : ∀ c y, H c = some (.own y) → c ≠ x := fun c y r z => by subst z; rw [r] at mu; exact mu
  have ntup : ∀ c xs, H c = some (.tup xs) → c ≠ x := fun c xs r z => by subst z; rw [r] at mu; exact mu
  by_cases hb : b = x
  · subst hb; rw [upd_same] at q; cases q; exact new
  · rw [upd_ne hb] at q
    by_cases hbe : b = e
    · have q' : H b = some (.own x) := by
        rcases he with z | z
        · exact absurd (hbe.trans z) hb
        · rw [hbe]; exact z
      rw [q] at q'; cases q'
      obtain ⟨v, hv⟩ := heo
      exact ⟨v, by rw [hbe]; exact hv⟩
    · refine (ok b u q).stay (fun c v hc r => k c v ?_ r) (fun c r => by rw [upd_ne (nown c b r)]; exact r) fun c xs r => by rw [upd_ne (ntup c xs r)]; exact r
      rcases hc with rfl | hc
      · exact hbe
      · rintro rfl
        rcases he with z | z
        · exact nown c b hc z
        · rw [hc] at z; cases z; exact hb rfl
end
structure Un (fs ex : List Addr) (H H' : Hp) (h h' : Heap) : Prop where
  keep : ∀ b o, h.get? b = some o → H b = none → b ∉ fs → b ∉ ex → h'.get? b = some o
  slot : ∀ b o, h.get? b = some o → H b = none → b ∈ fs → b ∉ ex → ∃ sl, h'.get? b = some { o with slots := sl }
  free : ∀ b o, h.get? b = some o → H b = none → b ∉ ex → H' b = none
  there : ∀ b o, h.get? b = some o → b ∉ ex → ∃ o', h'.get? b = some o'
  tups : ∀ b xs, H b = some (.tup xs) → H' b = some (.tup xs)
  frzs : ∀ b o u, H b = some (.frz o u) → H' b = some (.frz o u)
  tbls : ∀ b ps, H b = some (.tbl ps) → ∃ more, H' b = some (.tbl (ps ++ more))
section
variable {fs fs' ex ex' : List Addr} {H H1 H2 : Hp} {h h1 h2 h' : Heap} {a x e : Addr} {o : HO}
theorem Un.any (u : Un fs ex H H1 h h1) {b : Addr} {ob : Obj} (q : h.get? b = some ob) (n : H b = none) (hx : b ∉ ex) : ∃ sl, h1.get? b = some { ob with slots := sl } := by
  by_cases hb : b ∈ fs
  · exact u.slot b ob q n hb hx
  · exact ⟨ob.slots, u.keep b ob q n hb hx⟩
theorem Un.trans (a : Un fs ex H H1 h h1) (b : Un fs ex H1 H2 h1 h2) : Un fs ex H H2 h h2 where
  keep := fun c ob q n hc hx => b.keep c ob (a.keep c ob q n hc hx) (a.free c ob q n hx) hc hx
  slot := fun c ob q n hc hx => by
    obtain ⟨sl, e1⟩ := a.slot c ob q n hc hx
    obtain ⟨sl', e2⟩ := b.slot c _ e1 (a.free c ob q n hx) hc hx
    exact ⟨sl', e2⟩
  free := fun c ob q n hx => by
    obtain ⟨o', e1⟩ := a.there c ob q hx
    exact b.free c o' e1 (a.free c ob q n hx) hx
  there := fun c ob q hx => by
    obtain ⟨o', e1⟩ := a.there c ob q hx
    exact b.there c o' e1 hx
  tups := fun c xs q => b.tups c xs (a.tups c xs q)
  frzs := fun c ob xs q => b.frzs c ob xs (a.frzs c ob xs q)
  tbls := fun c ps q => by
    obtain ⟨m1, e1⟩ := a.tbls c ps q
    obtain ⟨m2, e2⟩ := b.tbls c _ e1
    exact ⟨m1 ++ m2, by rw [e2, Array.append_assoc]⟩
theorem Un.kept (k : ∀ b u, h.get? b = some u → h'.get? b = some u) : Un fs ex H H h h' :=
  ⟨fun b ob q _ _ _ => k b ob q, fun b ob q _ _ _ => ⟨ob.slots, k b ob q⟩, fun _ _ _ n _ => n, fun b ob q _ => ⟨ob, k b ob q⟩, fun _ _ q => q, fun _ _ _ q => q, fun _ ps q => ⟨#[], by rw [q]; simp⟩⟩
theorem Un.refl : Un fs ex H H h h := Un.kept fun _ _ q => q
theorem Un.laid (k : ∀ b u, h.get? b = some u → h'.get? b = some u) (hp : h.objs.size ≤ a) (hn : H a = none) : Un fs ex H (upd H a o) h h' where
  keep := fun b u q _ _ _ => k b u q
  slot := fun b u q _ _ _ => ⟨u.slots, k b u q⟩
  free := fun b u q n _ => by rw [upd_ne (Nat.ne_of_lt (Nat.lt_of_lt_of_le (Heap.lt_size q) hp))]; exact n
  there := fun b u q _ => ⟨u, k b u q⟩
  tups := fun b xs q => by rw [upd_ne (ne_of_none q hn)]; exact q
  frzs := fun b u xs q => by rw [upd_ne (ne_of_none q hn)]; exact q
  tbls := fun b ps q => ⟨#[], by rw [upd_ne (ne_of_none q hn), q]; simp⟩
theorem Un.write (mu : Mut (H x)) (he : e = x ∨ H e = some (.own x)) (k : ∀ b u, b ≠ e → h.get? b = some u → h'.get? b = some u) (heo : ∃ u, h'.get? e = some u) : Un fs ex H (upd H x o) h h' := by
  have hx : ∀ b, H b = none → b ≠ x := fun b n z => by subst z; rw [n] at mu; exact mu
  have hb : ∀ b, H b = none → b ≠ e := fun b n z => by
    subst z
    rcases he with r | r
    · exact hx b n r
    · rw [n] at r; cases r
  have hm : ∀ b u, H b = some u → ¬ Mut (some u) → b ≠ x := fun b u q nm z => by subst z; rw [q] at mu; exact nm mu
  refine ⟨fun b u q n _ _ => k b u (hb b n) q, fun b u q n _ _ => ⟨u.slots, k b u (hb b n) q⟩, fun b u q n _ => by rw [upd_ne (hx b n)]; exact n, fun b u q _ => ?_,
    fun b xs q => by rw [upd_ne (hm b _ q fun z => z)]; exact q, fun b u xs q => by rw [upd_ne (hm b _ q fun z => z)]; exact q, fun b ps q => ⟨#[], by rw [upd_ne (hm b _ q fun z => z), q]; simp⟩⟩
  by_cases hbe : b = e
  · subst hbe; exact heo
  · exact ⟨u, k b u hbe q⟩
theorem Un.mono (u : Un fs ex H H1 h h1) (hs : ∀ b ∈ fs, b ∈ fs') (hx : ∀ b ∈ ex, b ∈ ex') : Un fs' ex' H H1 h h1 :=
  ⟨fun b ob q n hb he => u.keep b ob q n (fun z => hb (hs b z)) fun z => he (hx b z), fun _ _ q n _ he => u.any q n fun z => he (hx _ z), fun b ob q n he => u.free b ob q n fun z => he (hx b z), fun b ob q he => u.there b ob q fun z => he (hx b z), u.tups, u.frzs, u.tbls⟩
end
def trk (h : Heap) (H : Hp) : List Addr := (List.range h.objs.size).filter fun a => (H a).isSome
def hidT (h : Heap) (H : Hp) : Heap := PySem.W.hideAll h (trk h H)
theorem hidT_size (h : Heap) (H : Hp) : (hidT h H).objs.size = h.objs.size := PySem.W.hideAll_size _ _
theorem hidT_get {h : Heap} {H : Hp} {b : Addr} {o : Obj} (e : h.get? b = some o) (n : H b = none) : (hidT h H).get? b = some o :=
  PySem.W.hideAll_get _ e fun hm => by
    have q : (H b).isSome = true := (List.mem_filter.mp hm).2
    rw [n] at q; simp at q
theorem of_hidT {h : Heap} {H : Hp} {b : Addr} {o : Obj} (e : (hidT h H).get? b = some o) : h.get? b = some o ∧ H b = none := by
  have e' : h.get? b = some o := PySem.W.of_hideAll (trk h H) e
  refine ⟨e', ?_⟩
  cases q : H b with
  | none => rfl
  | some x =>
    have hm : b ∈ trk h H := List.mem_filter.mpr ⟨List.mem_range.mpr (Heap.lt_size e'), by simp [q]⟩
    have z : (hidT h H).get? b = none := PySem.W.hideAll_none (trk h H) hm
    rw [z] at e; cases e
def allNews (g h : Heap) (L : Addr) : List (Addr × Obj) := (List.range h.objs.size).filterMap fun a => if a = L ∨ (g.get? a).isSome = true then none else (h.get? a).map fun o => (a, o)
def rest (g h : Heap) (L d : Addr) : List (Addr × Obj) := (allNews g h L).filter fun p => decide (p.1 ≠ d)
end L2
namespace L2
open PySem PySem.Spec PyProof.Rows
structure Mod (K : PySem.W.Frag) (mg : Str → Option Value) (base : Heap) : Prop where
  kin : K.In base
  glob : base.Ns mainGlobals mg
  blt : ∃ mb, base.Ns builtinsNs mb ∧ ∀ x : Str, x ≠ "__name__" → mb x = bootBuiltins x
  nolimit : base.NoLimit
structure Cx where
  prog : Program
  w : World
  K : PySem.W.Frag
  mg : Str → Option Value
  base : Heap
  A : Around
  N : List Str
  s₀ : Shared
  H₀ : Hp
  env : Env
  outer : List Env
  stack : List Env
  ex : List Addr
  fn : Str → Bool
  calm : Bool
  pn : List (Addr × Obj)
  xe : Value → Shared → Prop
def frs (l : List Env) : List Addr := l.filterMap (·.frame)
abbrev Cx.fs (X : Cx) : List Addr := frs X.outer
def Vis (sc : Scope) (x : Str) : Prop := sc.names.lookup x = some .local ∨ sc.names.lookup x = some .cell ∨ sc.names.lookup x = some .free
def Loc (sc : Scope) (x : Str) : Prop := sc.names.lookup x = some .local ∨ sc.names.lookup x = some .cell
def Look (env : Env) (h : Heap) (m : Str → Option Value) (x : Str) (u : Value) : Prop :=
  (env.kindOf x = some .local ∧ m x = some u) ∨ ((env.kindOf x = some .cell ∨ env.kindOf x = some .free) ∧ ∃ c, env.cells.lookup x = some c ∧ h.IsCell c (some u))
structure Cx.Ok (X : Cx) : Prop where
  mod : Mod X.K X.mg X.base
  kind : X.env.scope.kind = .function
  glob : X.env.globals = mainGlobals
  blt : X.env.builtins = builtinsNs
  above : X.s₀.heap.objs.size ≤ X.env.locals
  inj : ∀ x y c, X.env.cells.lookup x = some c → X.env.cells.lookup y = some c → x = y
  has : ∀ x, (X.env.kindOf x = some .cell ∨ X.env.kindOf x = some .free) → ∃ c, X.env.cells.lookup x = some c
  cab : ∀ x c, X.fn x = true → X.env.cells.lookup x = some c → X.s₀.heap.objs.size ≤ c
  hd : X.calm = true → X.A.handled = none
  frames : X.A.frames = some X.stack
  stk : X.stack = X.outer ∨ (X.stack = X.env :: X.outer ∧ X.env.frame = some X.env.locals)
  exf : ∀ b ∈ X.ex, b ≠ X.env.locals ∧ ∀ x c, X.env.cells.lookup x = some c → c ≠ b
  bs : ∀ b o, X.base.get? b = some o → X.s₀.heap.get? b = some o ∧ X.H₀ b = none
  bsz : X.base.objs.size ≤ X.s₀.heap.objs.size
  noex : ∀ b o, X.base.get? b = some o → b ∉ X.ex
  exfs : ∀ b ∈ X.ex, b ∉ X.fs
  funs : X.s₀.heap.FunFrames X.base X.outer
  frf : ∀ b ∈ X.fs, X.H₀ b = none
structure Inv (X : Cx) (pins : List (Addr × Obj)) (σ : List (Option V)) (H : Hp) (s : Shared) : Prop where
  ok : X.Ok
  os : s.os = X.s₀.os
  bare : AllBare s.gens
  base : Un X.fs X.ex X.H₀ H X.s₀.heap s.heap
  loc : ∃ m, s.heap.Ns X.env.locals m ∧ ∀ (i : Nat) (x : Str) (v : V), X.N[i]? = some x → σ[i]? = some (some v) → Vis X.env.scope x → ∃ u, RelV v u ∧ Look X.env s.heap m x u
  cell : ∀ x c, X.env.cells.lookup x = some c → ∃ v, s.heap.IsCell c v
  free : H X.env.locals = none
  freeC : ∀ x c, X.env.cells.lookup x = some c → H c = none
  pin : ∀ p ∈ X.pn ++ pins, s.heap.get? p.1 = some p.2 ∧ H p.1 = none ∧ p.1 ≠ X.env.locals ∧ p.1 ∉ X.fs ∧ ∀ v, p.2.data ≠ .cell v
  hok : HOk X.prog X.w H s.heap
  len : σ.length = X.N.length
section
variable {X : Cx} {pins : List (Addr × Obj)} {σ : List (Option V)} {H H' : Hp} {s : Shared} {h' : Heap}
theorem Cx.Ok.nofr (ok : X.Ok) {b : Addr} {o : Obj} (e : X.base.get? b = some o) : b ∉ X.fs := fun hb => by
  have := (ok.funs.mem hb).1
  rw [e] at this; cases this
theorem Inv.bs (I : Inv X pins σ H s) : ∀ b o, X.base.get? b = some o → s.heap.get? b = some o ∧ H b = none := fun b o e =>
  ⟨I.base.keep b o (I.ok.bs b o e).1 (I.ok.bs b o e).2 (I.ok.nofr e) (I.ok.noex b o e), I.base.free b o (I.ok.bs b o e).1 (I.ok.bs b o e).2 (I.ok.noex b o e)⟩
theorem Inv.bk (I : Inv X pins σ H s) : ∀ b o, X.base.get? b = some o → s.heap.get? b = some o := fun b o e => (I.bs b o e).1
theorem Inv.mod (I : Inv X pins σ H s) : Mod X.K X.mg X.base := I.ok.mod
theorem Inv.kIn (I : Inv X pins σ H s) : X.K.In s.heap := I.ok.mod.kin.keeps I.bk
theorem Inv.nolimit (I : Inv X pins σ H s) : s.heap.NoLimit := I.ok.mod.nolimit.keeps I.bk
theorem Inv.fr (I : Inv X pins σ H s) : ∃ m, Fr X.base X.env.locals s.heap m :=
  let ⟨m, hn, _⟩ := I.loc
  ⟨m, hn, I.bk, Nat.le_trans I.ok.bsz I.ok.above⟩
theorem Inv.lt (I : Inv X pins σ H s) : X.env.locals < s.heap.objs.size := let ⟨_, hn, _⟩ := I.loc; hn.lt
theorem Inv.sz (I : Inv X pins σ H s) : X.s₀.heap.objs.size ≤ s.heap.objs.size := Nat.le_trans I.ok.above (Nat.le_of_lt I.lt)
theorem Inv.nofs (I : Inv X pins σ H s) {a : Addr} (h : s.heap.objs.size ≤ a) : a ∉ X.fs := fun hb => by
  obtain ⟨_, o, ho, _⟩ := I.ok.funs.mem hb
  exact absurd (Nat.lt_of_lt_of_le (Heap.lt_size ho) (Nat.le_trans I.sz h)) (Nat.lt_irrefl _)
theorem Inv.cne (I : Inv X pins σ H s) : ∀ x c, X.env.cells.lookup x = some c → c ≠ X.env.locals := fun x c e z => by
  obtain ⟨v, o, ho, hd⟩ := I.cell x c e
  obtain ⟨m, ⟨o', es, ep, ho', hd', _⟩, _⟩ := I.loc
  rw [z, ho'] at ho; cases ho; rw [hd'] at hd; cases hd
theorem Inv.funs (I : Inv X pins σ H s) : s.heap.FunFrames X.base X.outer := by
  have all : ∀ (l : List Env), (∀ b ∈ frs l, b ∈ X.fs) → X.s₀.heap.FunFrames X.base l → s.heap.FunFrames X.base l := by
    intro l
    induction l with
    | nil => intro _ _; trivial
    | cons env r ih =>
      intro hs hl
      obtain ⟨hk, ⟨L, o, hf, hn, ho, hd⟩, hr⟩ := hl
      have hL : L ∈ X.fs := hs L (by unfold frs; rw [List.filterMap_cons, hf]; exact List.mem_cons_self)
      obtain ⟨sl, e⟩ := I.base.slot L o ho (I.ok.frf L hL) hL fun z => I.ok.exfs L z hL
      exact ⟨hk, ⟨L, _, hf, hn, e, hd⟩, ih (fun b hb => hs b (by unfold frs; rw [List.filterMap_cons, hf]; exact List.mem_cons_of_mem _ hb)) hr⟩
  exact all X.outer (fun _ hb => hb) I.ok.funs
theorem Inv.stack (I : Inv X pins σ H s) : s.heap.FunFrames X.base X.stack := by
  rcases I.ok.stk with e | ⟨e, hf⟩
  · rw [e]; exact I.funs
  · rw [e]
    obtain ⟨m, hn, _⟩ := I.loc
    refine .cons (by rw [I.ok.kind]; decide) hf hn ?_ I.funs
    exact Heap.get?_none_of_le (Nat.le_trans I.ok.bsz I.ok.above)
theorem Inv.stkSub (I : Inv X pins σ H s) : ∀ b ∈ frs X.stack, b ∈ X.env.locals :: X.fs := fun b hb => by
  rcases I.ok.stk with e | ⟨e, hf⟩
  · rw [e] at hb; exact List.mem_cons_of_mem _ hb
  · rw [e] at hb
    unfold frs at hb
    rw [List.filterMap_cons, hf] at hb
    exact hb
theorem Inv.stkFree (I : Inv X pins σ H s) : ∀ b ∈ frs X.stack, H b = none := fun b hb => by
  rcases List.mem_cons.mp (I.stkSub b hb) with e | hb
  · rw [e]; exact I.free
  · obtain ⟨_, o, ho, _⟩ := I.ok.funs.mem hb
    exact I.base.free b o ho (I.ok.frf b hb) fun z => I.ok.exfs b z hb
theorem Inv.step {g' : Array GenState} {t' : Nat} {d' : Drawn} {ch : List Addr} (I : Inv X pins σ H s)
    (hch : ∀ b ∈ ch, (b ∈ X.ex ∨ X.s₀.heap.objs.size ≤ b) ∧ b ≠ X.env.locals ∧ (∀ x c, X.env.cells.lookup x = some c → c ≠ b) ∧ ∀ p ∈ X.pn ++ pins, p.1 ≠ b)
    (keep : ∀ b o, b ≠ X.env.locals → b ∉ X.fs → b ∉ ch → s.heap.get? b = some o → H b = none → h'.get? b = some o)
    (slot : ∀ b o, b ≠ X.env.locals → b ∈ X.fs → b ∉ ch → s.heap.get? b = some o → H b = none → ∃ sl, h'.get? b = some { o with slots := sl }) (free : ∀ b o, b ∉ ch → s.heap.get? b = some o → H b = none → H' b = none)
    (there : ∀ b o, b ∉ ch → s.heap.get? b = some o → ∃ o', h'.get? b = some o')
    (tups : ∀ b xs, H b = some (.tup xs) → H' b = some (.tup xs)) (frzs : ∀ b o u, H b = some (.frz o u) → H' b = some (.frz o u)) (tbls : ∀ b ps, H b = some (.tbl ps) → ∃ more, H' b = some (.tbl (ps ++ more)))
    (ns : ∀ m, s.heap.Ns X.env.locals m → h'.Ns X.env.locals m) (hok : HOk X.prog X.w H' h') (hg : AllBare g') :
    Inv X pins σ H' { s with heap := h', gens := g', drawn := d', toks := t' } := by
  have neL : ∀ b o, X.s₀.heap.get? b = some o → b ≠ X.env.locals := fun b o e => Nat.ne_of_lt (Nat.lt_of_lt_of_le (Heap.lt_size e) I.ok.above)
  have neC : ∀ b o, X.s₀.heap.get? b = some o → b ∉ X.ex → b ∉ ch := fun b o e hx hb => by
    rcases (hch b hb).1 with z | z
    · exact hx z
    · exact absurd (Nat.lt_of_lt_of_le (Heap.lt_size e) z) (Nat.lt_irrefl _)
  have cellK : ∀ x c, X.env.cells.lookup x = some c → ∀ v, s.heap.IsCell c v → h'.IsCell c v := fun x c e v ⟨o, ho, hd⟩ => by
    have nch : c ∉ ch := fun z => (hch c z).2.2.1 x c e rfl
    by_cases hc : c ∈ X.fs
    · obtain ⟨sl, q⟩ := slot c o (I.cne x c e) hc nch ho (I.freeC x c e)
      exact ⟨_, q, hd⟩
    · exact ⟨o, keep c o (I.cne x c e) hc nch ho (I.freeC x c e), hd⟩
  refine ⟨I.ok, I.os, hg, ⟨fun b o e n hb hx => ?_, fun b o e n hb hx => ?_, fun b o e n hx => ?_, fun b o e hx => ?_, fun b xs e => tups b xs (I.base.tups b xs e), fun b o xs e => frzs b o xs (I.base.frzs b o xs e), fun b ps e => ?_⟩, ?_, fun x c e => ?_, ?_, fun x c e => ?_, fun p hp => ?_, hok, I.len⟩
  · exact keep b o (neL b o e) hb (neC b o e hx) (I.base.keep b o e n hb hx) (I.base.free b o e n hx)
  · obtain ⟨sl, e1⟩ := I.base.slot b o e n hb hx
    obtain ⟨sl', e2⟩ := slot b _ (neL b o e) hb (neC b o e hx) e1 (I.base.free b o e n hx)
    exact ⟨sl', e2⟩
  · obtain ⟨o', e1⟩ := I.base.there b o e hx
    exact free b o' (neC b o e hx) e1 (I.base.free b o e n hx)
  · obtain ⟨o', e1⟩ := I.base.there b o e hx
    exact there b o' (neC b o e hx) e1
  · obtain ⟨m1, e1⟩ := I.base.tbls b ps e
    obtain ⟨m2, e2⟩ := tbls b _ e1
    exact ⟨m1 ++ m2, by rw [e2, Array.append_assoc]⟩
  · obtain ⟨m, hn, hl⟩ := I.loc
    refine ⟨m, ns m hn, fun i x v e1 e2 e3 => ?_⟩
    obtain ⟨u, r, l⟩ := hl i x v e1 e2 e3
    refine ⟨u, r, ?_⟩
    rcases l with l | ⟨k, c, e, z⟩
    · exact .inl l
    · exact .inr ⟨k, c, e, cellK x c e _ z⟩
  · obtain ⟨v, z⟩ := I.cell x c e
    exact ⟨v, cellK x c e v z⟩
  · obtain ⟨m, ⟨o, _, _, ho, _⟩, _⟩ := I.loc
    exact free _ o (fun z => (hch _ z).2.1 rfl) ho I.free
  · obtain ⟨v, o, ho, hd⟩ := I.cell x c e
    exact free c o (fun z => (hch c z).2.2.1 x c e rfl) ho (I.freeC x c e)
  · obtain ⟨e, n, ne, nf, d⟩ := I.pin p hp
    have nch : p.1 ∉ ch := fun z => (hch p.1 z).2.2.2 p hp rfl
    exact ⟨keep p.1 p.2 ne nf nch e n, free p.1 p.2 nch e n, ne, nf, d⟩
theorem Inv.un {t' : Nat} (I : Inv X pins σ H s) (u : Un X.fs [] H H' s.heap h') (hok : HOk X.prog X.w H' h') : Inv X pins σ H' { s with heap := h', toks := t' } := by
  obtain ⟨m, ⟨o, es, ep, ho, r⟩, _⟩ := id I.loc
  obtain ⟨sl, hL⟩ := u.any ho I.free (by simp)
  exact I.step (g' := s.gens) (d' := s.drawn) (ch := []) (fun _ z => nomatch z) (fun b o _ hb _ e n => u.keep b o e n hb (by simp)) (fun b o _ hb _ e n => u.slot b o e n hb (by simp)) (fun b o _ e n => u.free b o e n (by simp)) (fun b o _ e => u.there b o e (by simp)) u.tups u.frzs u.tbls (fun m' hm => by
    obtain ⟨o', es', ep', ho', r'⟩ := hm
    rw [ho] at ho'; cases ho'
    exact ⟨_, es', ep', hL, r'⟩) hok I.bare
theorem Inv.call {g' : Array GenState} {t' : Nat} {d' : Drawn} {ch : List Addr} (I : Inv X pins σ H s) (u : Un (frs X.stack) ch H H' s.heap h') (hok : HOk X.prog X.w H' h') (hg : AllBare g')
    (hch : ∀ b ∈ ch, (b ∈ X.ex ∨ X.s₀.heap.objs.size ≤ b) ∧ b ≠ X.env.locals ∧ (∀ x c, X.env.cells.lookup x = some c → c ≠ b) ∧ ∀ p ∈ X.pn ++ pins, p.1 ≠ b) :
    Inv X pins σ H' { s with heap := h', gens := g', drawn := d', toks := t' } := by
  obtain ⟨m, ⟨o, es, ep, ho, r⟩, _⟩ := id I.loc
  obtain ⟨sl, hL⟩ := u.any ho I.free fun z => (hch _ z).2.1 rfl
  exact I.step (ch := ch) hch (fun b o hL hb hc e n => u.keep b o e n (fun z => (List.mem_cons.mp (I.stkSub b z)).elim hL hb) hc) (fun b o _ _ hc e n => u.any e n hc) (fun b o hc e n => u.free b o e n hc) (fun b o hc e => u.there b o e hc) u.tups u.frzs u.tbls (fun m' hm => by
    obtain ⟨o', es', ep', ho', r'⟩ := hm
    rw [ho] at ho'; cases ho'
    exact ⟨_, es', ep', hL, r'⟩) hok hg
theorem Inv.turned {t' : Nat} {it : Addr} (I : Inv X pins σ H s) (k : ∀ b o, b ≠ it → s.heap.get? b = some o → h'.get? b = some o) (hn : H it = none) (hL : it ≠ X.env.locals)
    (h1 : it ∈ X.ex ∨ X.s₀.heap.objs.size ≤ it) (h2 : ∀ x c, X.env.cells.lookup x = some c → c ≠ it) (h3 : ∀ p ∈ X.pn ++ pins, p.1 ≠ it) : Inv X pins σ H { s with heap := h', toks := t' } := by
  have nit : ∀ b u, H b = some u → b ≠ it := fun b u e z => by rw [z, hn] at e; cases e
  refine I.step (g' := s.gens) (d' := s.drawn) (ch := [it]) (fun b hb => ?_) (fun b o _ _ hc e _ => k b o (fun z => hc (by simp [z])) e) (fun b o _ _ hc e _ => ⟨o.slots, k b o (fun z => hc (by simp [z])) e⟩) (fun _ _ _ _ n => n)
    (fun b o hc e => ⟨o, k b o (fun z => hc (by simp [z])) e⟩) (fun _ _ e => e) (fun _ _ _ e => e) (fun b ps e => ⟨#[], by rw [e]; simp⟩) (fun m hm => ?_) (fun b u e => ?_) I.bare
  · have e : b = it := by simpa using hb
    subst e
    exact ⟨h1, hL, h2, h3⟩
  · obtain ⟨o, es, ep, ho, r⟩ := hm
    exact ⟨o, es, ep, k _ o (Ne.symm hL) ho, r⟩
  · refine (I.hok b u e).stay (fun c v hc q => k c v ?_ q) (fun _ q => q) fun _ _ q => q
    rcases hc with z | z
    · rw [z]; exact nit b u e
    · exact nit c _ z
theorem Inv.tok (I : Inv X pins σ H s) (t : Nat) : Inv X pins σ H { s with toks := t } := I.un (h' := s.heap) (t' := t) Un.refl I.hok
theorem Inv.kept {t' : Nat} (I : Inv X pins σ H s) (k : ∀ b u, s.heap.get? b = some u → h'.get? b = some u) : Inv X pins σ H { s with heap := h', toks := t' } := I.un (Un.kept k) (I.hok.kept k)
theorem Inv.laid {a : Addr} {o : HO} {t' : Nat} (I : Inv X pins σ H s) (k : ∀ b u, s.heap.get? b = some u → h'.get? b = some u) (hp : s.heap.objs.size ≤ a) (new : ObjOk X.prog X.w (upd H a o) h' a o) :
    Inv X pins σ (upd H a o) { s with heap := h', toks := t' } := I.un (Un.laid k hp (I.hok.fresh hp)) (I.hok.laid k hp new)
theorem Inv.write {x e : Addr} {o : HO} {t' : Nat} (I : Inv X pins σ H s) (mu : Mut (H x)) (he : e = x ∨ H e = some (.own x)) (k : ∀ b u, b ≠ e → s.heap.get? b = some u → h'.get? b = some u) (heo : ∃ u, h'.get? e = some u)
    (new : ObjOk X.prog X.w (upd H x o) h' x o) : Inv X pins σ (upd H x o) { s with heap := h', toks := t' } := I.un (Un.write mu he k heo) (I.hok.write mu he k heo new)
theorem Inv.weak {σ' : List (Option V)} (I : Inv X pins σ H s) (hl : σ'.length = σ.length) (w : ∀ (i : Nat) v, σ'[i]? = some (some v) → σ[i]? = some (some v)) : Inv X pins σ' H s :=
  ⟨I.ok, I.os, I.bare, I.base, let ⟨m, hn, hl'⟩ := I.loc; ⟨m, hn, fun i x v e1 e2 e3 => hl' i x v e1 (w i v e2) e3⟩, I.cell, I.free, I.freeC, I.pin, I.hok, hl.trans I.len⟩
theorem Inv.pins_of {pins' : List (Addr × Obj)} (I : Inv X pins σ H s) (h : ∀ p ∈ pins', s.heap.get? p.1 = some p.2 ∧ H p.1 = none ∧ p.1 ≠ X.env.locals ∧ p.1 ∉ X.fs ∧ ∀ v, p.2.data ≠ .cell v) : Inv X pins' σ H s :=
  ⟨I.ok, I.os, I.bare, I.base, I.loc, I.cell, I.free, I.freeC, fun p hp => (List.mem_append.mp hp).elim (fun z => I.pin p (List.mem_append_left _ z)) (h p), I.hok, I.len⟩
theorem nodup_ix {N : List Str} (hN : N.Nodup) {i j : Nat} {x : Str} (a : N[i]? = some x) (b : N[j]? = some x) : i = j := by
  obtain ⟨h1, e1⟩ := List.getElem?_eq_some_iff.mp a
  obtain ⟨h2, e2⟩ := List.getElem?_eq_some_iff.mp b
  exact (List.getElem_inj hN).mp (e1.trans e2.symm)
theorem store_ok2 {M : Model} {A : Around} {E : Value → Shared → Prop} {i : Nat} {x : Str} {v : V} {u : Value} {Q : Unit → Shared → Prop} (I : Inv X pins σ H s) (hN : X.N.Nodup) (hi : X.N[i]? = some x) (hx : Loc X.env.scope x) (r : RelV v u)
    (h : ∀ s', Inv X pins (σ.set i (some v)) H s' → (∃ a, Heap.SameBut a s.heap s'.heap ∧ (a = X.env.locals ∨ X.env.cells.lookup x = some a)) → Q () s') (hf : X.fn x = true ∨ X.env.scope.names.lookup x = some .local := by first | exact .inl rfl | exact .inr rfl | assumption) : wpAny M A (storeName X.env x u) Q E s := by
  obtain ⟨m, hn, hl⟩ := id I.loc
  have hcls : (X.env.scope.kind == .class || (X.env.scope.kind == .module && X.env.locals != X.env.globals)) = false := by rw [I.ok.kind]; rfl
  have hiσ : i < σ.length := by rw [I.len]; exact (List.getElem?_eq_some_iff.mp hi).1
  have cne := I.cne
  have tracked : ∀ {a : Addr} {h' : Heap}, (∃ o, s.heap.get? a = some o ∧ H a = none) → Heap.SameBut a s.heap h' → HOk X.prog X.w H h' := fun {a h'} ha hs b ob e => by
    obtain ⟨_, _, hfree⟩ := ha
    refine (I.hok b ob e).stay (fun c w' hc q => (hs.2 c ?_).trans q) (fun _ q => q) fun _ _ q => q
    rintro rfl
    rcases hc with rfl | hc
    · rw [hfree] at e; cases e
    · rw [hfree] at hc; cases hc
  rcases hx with hk | hk
  · refine wpAny_storeName_local hk hn (fun h' hn' hs => ?_) hcls
    obtain ⟨oL, _, _, hoL, _⟩ := id hn
    refine h _ ⟨I.ok, I.os, I.bare, ⟨fun b o e n hb hx => ?_, fun b o e n hb hx => ?_, I.base.free, fun b o e hx => ?_, I.base.tups, I.base.frzs, I.base.tbls⟩, ⟨_, hn', fun j y v' e1 e2 e3 => ?_⟩, fun y c e => ?_, I.free, I.freeC, fun p hp => ?_, tracked ⟨oL, hoL, I.free⟩ hs, by simpa using I.len⟩ ⟨_, hs, .inl rfl⟩
    · exact (hs.2 b (Nat.ne_of_lt (Nat.lt_of_lt_of_le (Heap.lt_size e) I.ok.above))).trans (I.base.keep b o e n hb hx)
    · obtain ⟨sl, e1⟩ := I.base.slot b o e n hb hx
      exact ⟨sl, (hs.2 b (Nat.ne_of_lt (Nat.lt_of_lt_of_le (Heap.lt_size e) I.ok.above))).trans e1⟩
    · obtain ⟨o', e1⟩ := I.base.there b o e hx
      exact ⟨o', (hs.2 b (Nat.ne_of_lt (Nat.lt_of_lt_of_le (Heap.lt_size e) I.ok.above))).trans e1⟩
    · by_cases hj : j = i
      · subst hj
        rw [hi] at e1; cases e1
        rw [List.getElem?_set_self hiσ] at e2
        cases e2
        exact ⟨u, r, .inl ⟨hk, by simp⟩⟩
      · rw [List.getElem?_set_ne (Ne.symm hj)] at e2
        obtain ⟨u', r', q⟩ := hl j y v' e1 e2 e3
        refine ⟨u', r', ?_⟩
        rcases q with ⟨k, e⟩ | ⟨k, c, e, z⟩
        · refine .inl ⟨k, ?_⟩
          have : y ≠ x := fun e => hj (nodup_ix hN e1 (e ▸ hi))
          simp [this, e]
        · exact .inr ⟨k, c, e, z.sameBut hs (cne y c e)⟩
    · obtain ⟨w', z⟩ := I.cell y c e
      exact ⟨w', z.sameBut hs (cne y c e)⟩
    · obtain ⟨e, n, ne, nf, d⟩ := I.pin p hp
      exact ⟨(hs.2 p.1 ne).trans e, n, ne, nf, d⟩
  · have hfn : X.fn x = true := by
      rcases hf with z | z
      · exact z
      · rw [z] at hk; cases hk
    obtain ⟨c, hc⟩ := I.ok.has x (.inl hk)
    obtain ⟨w', z⟩ := I.cell x c hc
    refine wpAny_storeName_cell I.ok.kind hk hc z (fun h' hc' hs => ?_)
    obtain ⟨oc, hoc, hocd⟩ := id z
    refine h { s with heap := h' } ⟨I.ok, I.os, I.bare, ⟨fun b o e n hb hx => ?_, fun b o e n hb hx => ?_, I.base.free, fun b o e hx => ?_, I.base.tups, I.base.frzs, I.base.tbls⟩, ⟨m, hn.sameBut hs (Ne.symm (cne x c hc)), fun j y v' e1 e2 e3 => ?_⟩, fun y c' e => ?_, I.free, I.freeC, fun p hp => ?_, tracked ⟨oc, hoc, I.freeC x c hc⟩ hs, by simpa using I.len⟩ ⟨c, hs, .inr hc⟩
    · exact (hs.2 b (Nat.ne_of_lt (Nat.lt_of_lt_of_le (Heap.lt_size e) (I.ok.cab x c hfn hc)))).trans (I.base.keep b o e n hb hx)
    · obtain ⟨sl, e1⟩ := I.base.slot b o e n hb hx
      exact ⟨sl, (hs.2 b (Nat.ne_of_lt (Nat.lt_of_lt_of_le (Heap.lt_size e) (I.ok.cab x c hfn hc)))).trans e1⟩
    · obtain ⟨o', e1⟩ := I.base.there b o e hx
      exact ⟨o', (hs.2 b (Nat.ne_of_lt (Nat.lt_of_lt_of_le (Heap.lt_size e) (I.ok.cab x c hfn hc)))).trans e1⟩
    · by_cases hj : j = i
      · subst hj
        rw [hi] at e1; cases e1
        rw [List.getElem?_set_self hiσ] at e2
        cases e2
        exact ⟨u, r, .inr ⟨.inl hk, c, hc, hc'⟩⟩
      · rw [List.getElem?_set_ne (Ne.symm hj)] at e2
        obtain ⟨u', r', q⟩ := hl j y v' e1 e2 e3
        refine ⟨u', r', ?_⟩
        rcases q with q | ⟨k, c', e, z'⟩
        · exact .inl q
        · refine .inr ⟨k, c', e, z'.sameBut hs ?_⟩
          rintro rfl
          exact hj (nodup_ix hN e1 (I.ok.inj _ _ _ e hc ▸ hi))
    · by_cases hcc : c' = c
      · subst hcc; exact ⟨_, hc'⟩
      · obtain ⟨w2, z2⟩ := I.cell y c' e
        exact ⟨w2, z2.sameBut hs hcc⟩
    · obtain ⟨e, n, ne, nf, d⟩ := I.pin p hp
      refine ⟨(hs.2 p.1 ?_).trans e, n, ne, nf, d⟩
      intro q
      rw [q, hoc] at e
      have q' : oc = p.2 := Option.some.inj e
      exact d w' (by rw [← q']; exact hocd)
theorem store_ok {M : Model} {A : Around} {E : Value → Shared → Prop} {i : Nat} {x : Str} {v : V} {u : Value} {Q : Unit → Shared → Prop} (I : Inv X pins σ H s) (hN : X.N.Nodup) (hi : X.N[i]? = some x) (hx : Loc X.env.scope x) (r : RelV v u)
    (h : ∀ s', Inv X pins (σ.set i (some v)) H s' → Q () s') (hf : X.fn x = true ∨ X.env.scope.names.lookup x = some .local := by first | exact .inl rfl | exact .inr rfl | assumption) : wpAny M A (storeName X.env x u) Q E s :=
  store_ok2 I hN hi hx r (fun s' I' _ => h s' I') hf
theorem Inv.call' {s' : Shared} {ch : List Addr} (I : Inv X pins σ H s) (ho : s'.os = s.os) (u : Un (frs X.stack) ch H H' s.heap s'.heap) (hok : HOk X.prog X.w H' s'.heap) (hg : AllBare s'.gens)
    (hch : ∀ b ∈ ch, (b ∈ X.ex ∨ X.s₀.heap.objs.size ≤ b) ∧ b ≠ X.env.locals ∧ (∀ x c, X.env.cells.lookup x = some c → c ≠ b) ∧ ∀ p ∈ X.pn ++ pins, p.1 ≠ b) : Inv X pins σ H' s' := by
  obtain ⟨h', g', d', t', o'⟩ := s'
  have e : o' = s.os := ho
  subst e
  exact I.call (g' := g') (t' := t') (d' := d') u hok hg hch
end
abbrev XK := Value → Option Addr → Hp → Prop
abbrev St := List (Option V)
abbrev VK := V → Hp → Prop
abbrev TE := St → Hp → VK → Prop
abbrev TT := St → Hp → (Bool → Hp → Prop) → Prop
abbrev TA := St → Hp → (List V → Hp → Prop) → Prop
structure Ends where
  nx : St → Hp → Prop
  rt : VK
  bk : St → Hp → Prop := fun _ _ => False
  ct : St → Hp → Prop := fun _ _ => False
abbrev TS := Ends → St → Hp → Prop
def EP (X : Cx) (pins : List (Addr × Obj)) (σ : St) (Q : VK) (u : Value) (s' : Shared) : Prop := ∃ v H', Inv X pins σ H' s' ∧ RelV v u ∧ Q v H'
def TP (X : Cx) (pins : List (Addr × Obj)) (σ : St) (Q : Bool → Hp → Prop) (b : Bool) (s' : Shared) : Prop := ∃ H', Inv X pins σ H' s' ∧ Q b H'
def AP (X : Cx) (pins : List (Addr × Obj)) (σ : St) (Q : List V → Hp → Prop) (us : List Value) (s' : Shared) : Prop := ∃ vs H', Inv X pins σ H' s' ∧ Vals vs us ∧ Q vs H'
def SP (X : Cx) (pins : List (Addr × Obj)) (D : Ends) (f : Flow) (s' : Shared) : Prop :=
  match f with
  | .next => ∃ σ' H', Inv X pins σ' H' s' ∧ D.nx σ' H'
  | .brk => ∃ σ' H', Inv X pins σ' H' s' ∧ D.bk σ' H'
  | .cont => ∃ σ' H', Inv X pins σ' H' s' ∧ D.ct σ' H'
  | .ret u => ∃ v σ' H', Inv X pins σ' H' s' ∧ RelV v u ∧ D.rt v H'
def PE (X : Cx) (e : Expr) (t : TE) : Prop :=
  ∀ (pins : List (Addr × Obj)) (s : Shared) (σ : St) (H : Hp) (Q : VK), Inv X pins σ H s → t σ H Q → wpAny (model X.prog X.w) X.A (eval e X.env) (EP X pins σ Q) X.xe s
def PT (X : Cx) (e : Expr) (t : TT) : Prop :=
  ∀ (pins : List (Addr × Obj)) (s : Shared) (σ : St) (H : Hp) (Q : Bool → Hp → Prop), Inv X pins σ H s → t σ H Q → wpAny (model X.prog X.w) X.A (isTrue e X.env (eval e X.env)) (TP X pins σ Q) X.xe s
def PW (X : Cx) (e : Expr) (t : TT) : Prop :=
  ∀ (whole : Sem Value) (pins : List (Addr × Obj)) (s : Shared) (σ : St) (H : Hp) (Q : Bool → Hp → Prop), Inv X pins σ H s → t σ H Q → wpAny (model X.prog X.w) X.A (isTrue e X.env whole) (TP X pins σ Q) X.xe s
theorem PW.pt {X : Cx} {e : Expr} {t : TT} (h : PW X e t) : PT X e t := h _
def PA (X : Cx) (es : List Expr) (t : TA) : Prop :=
  ∀ (pos : Pos) (pins : List (Addr × Obj)) (s : Shared) (σ : St) (H : Hp) (Q : List V → Hp → Prop), Inv X pins σ H s → t σ H Q → wpAny (model X.prog X.w) X.A (spliced (backTo pos (starEach es X.env))) (AP X pins σ Q) X.xe s
def PS (X : Cx) (st : Stmt) (t : TS) : Prop :=
  ∀ (pins : List (Addr × Obj)) (s : Shared) (σ : St) (H : Hp) (D : Ends), Inv X pins σ H s → t D σ H → wpAny (model X.prog X.w) X.A (exec st X.env) (SP X pins D) X.xe s
def PSs (X : Cx) (st : List Stmt) (t : TS) : Prop :=
  ∀ (pins : List (Addr × Obj)) (s : Shared) (σ : St) (H : Hp) (D : Ends), Inv X pins σ H s → t D σ H → wpAny (model X.prog X.w) X.A (execs st X.env) (SP X pins D) X.xe s
theorem thn {α : Type} {t : Sem α} {Q Q' : α → Shared → Prop} {M : Model} {A : Around} {E : Value → Shared → Prop} {s : Shared} (h : wpAny M A t Q E s) (hQ : ∀ a s, Q a s → Q' a s) : wpAny M A t Q' E s := wpAny_mono h hQ fun _ _ x => x
end L2
namespace L2
open PySem PySem.Spec PyProof.Rows
section
variable {X : Cx}
def tVar (i : Nat) : TE := fun σ H Q => ∃ v, σ[i]? = some (some v) ∧ Q v H
def tC (v : V) : TE := fun _ H Q => Q v H
theorem pe_var {i : Nat} {x : Str} {pos : Pos} (hN : X.N[i]? = some x) (hv : Vis X.env.scope x) (hd : (x == ("__debug__" : Str)) = false := by decide) (hcd : (x == ("__classdict__" : Str)) = false := by decide) : PE X (.Name x pos) (tVar i) := by
  intro pins s σ H Q I h
  obtain ⟨v, e, h⟩ := h
  obtain ⟨m, hn, hl⟩ := I.loc
  obtain ⟨u, r, l⟩ := hl i x v hN e hv
  have fin : EP X pins σ Q u s := ⟨v, H, I, r, h⟩
  rcases l with ⟨hk, hm⟩ | ⟨hk, c, hc, hcell⟩
  · exact wpAny_Name (wpAny_loadName_local I.ok.kind hk hn hm fin) hd
  · rcases hk with hk | hk
    · exact wpAny_Name (wpAny_loadName_cell I.ok.kind hk hc hcell fin) hd
    · exact wpAny_Name (wpAny_loadName_free I.ok.kind hk hc hcell fin hcd) hd
theorem pe_int {i j pos} : PE X (.Constant (.int i) j pos) (tC (.int i)) := fun _ _ _ H _ I h => wpAny_Constant_int ⟨.int i, H, I.tok _, ⟨_, rfl⟩, h⟩
theorem pe_bl {b j pos} : PE X (.Constant (.bool b) j pos) (tC (.bl b)) := fun _ _ _ H _ I h => Constant_bool ⟨.bl b, H, I, rfl, h⟩
theorem pe_non {j pos} : PE X (.Constant .none j pos) (tC .non) := fun _ _ _ H _ I h => Constant_none ⟨.non, H, I, rfl, h⟩
def Gl (X : Cx) (x : Str) : Prop := X.env.kindOf x = some .globalImplicit
theorem ld_glob {E : Value → Shared → Prop} {pins : List (Addr × Obj)} {s : Shared} {σ : St} {H : Hp} {x : Str} {u : Value} {pos : Pos} {Q : Value → Shared → Prop} (I : Inv X pins σ H s) (hg : Gl X x) (hm : X.mg x = some u) (h : Q u s)
    (hd : (x == ("__debug__" : Str)) = false := by decide) : wpAny (model X.prog X.w) X.A (eval (.Name x pos) X.env) Q E s :=
  Calls.Name_function_global I.ok.kind hg (Calls.loadGlobal_global (by rw [I.ok.glob]; exact I.mod.glob.keeps I.bk) hm h) hd
theorem ld_blt {E : Value → Shared → Prop} {pins : List (Addr × Obj)} {s : Shared} {σ : St} {H : Hp} {x : Str} {u : Value} {pos : Pos} {Q : Value → Shared → Prop} (I : Inv X pins σ H s) (hg : Gl X x) (hm : X.mg x = none) (hv : bootBuiltins x = some u) (h : Q u s)
    (hn : x ≠ "__name__" := by decide) (hd : (x == ("__debug__" : Str)) = false := by decide) : wpAny (model X.prog X.w) X.A (eval (.Name x pos) X.env) Q E s := by
  obtain ⟨mb, h1, h2⟩ := I.mod.blt
  exact Calls.Name_function_global I.ok.kind hg (Calls.loadGlobal_builtin (by rw [I.ok.glob]; exact I.mod.glob.keeps I.bk) hm (by rw [I.ok.blt]; exact h1.keeps I.bk) ((h2 x hn).trans hv) h) hd
theorem pe_glob {x : Str} {v : V} {u : Value} {pos : Pos} (hg : Gl X x) (hm : X.mg x = some u) (r : RelV v u) (hd : (x == ("__debug__" : Str)) = false := by decide) : PE X (.Name x pos) (tC v) :=
  fun _ _ _ H _ I h => ld_glob I hg hm ⟨v, H, I, r, h⟩ hd
theorem pe_bltn {x : Str} {v : V} {u : Value} {pos : Pos} (hg : Gl X x) (hm : X.mg x = none) (hv : bootBuiltins x = some u) (r : RelV v u) (hn : x ≠ "__name__" := by decide) (hd : (x == ("__debug__" : Str)) = false := by decide) : PE X (.Name x pos) (tC v) :=
  fun _ _ _ H _ I h => ld_blt I hg hm hv ⟨v, H, I, r, h⟩ hn hd
variable {a b : Expr} {ta tb : TE} {pos : Pos}
def tB (t : TE) : TT := fun σ H Q => t σ H fun x H1 => ∃ c, x = .bl c ∧ Q c H1
theorem pt_val {e : Expr} {t : TE} (h : PE X e t) (he : ∀ whole, isTrue e X.env whole = (do let v ← whole; standAt e.pos; holding [v] (truthy v)) := by intro _; rfl) : PT X e (tB t) := by
  intro pins s σ H Q I hw
  refine isTrue_plain (thn (h pins s σ H _ I hw) fun v s1 ⟨x, H1, I1, r1, q1⟩ => ?_) (he _)
  obtain ⟨d, rfl, q⟩ := q1
  cases r1
  exact wpAny_truthy_bool ⟨H1, I1, q⟩
variable {tA tB' : TT} {rest : List Expr}
def tAnd (t u : TT) : TT := fun σ H Q => t σ H fun c H1 => if c = true then u σ H1 Q else Q false H1
def tOr (t u : TT) : TT := fun σ H Q => t σ H fun c H1 => if c = true then Q true H1 else u σ H1 Q
def tNot (t : TT) : TT := fun σ H Q => t σ H fun c H1 => Q (!c) H1
theorem pw_and1 (ha : PT X a tA) : PW X (.BoolOp .And [a] pos) tA := by
  intro wh pins s σ H Q I h
  refine isTrue_and (thn (ha pins s σ H Q I h) fun c s1 e => ?_)
  cases c with
  | true => exact isTrue_and_nil e
  | false => exact e
theorem pw_or1 (ha : PT X a tA) : PW X (.BoolOp .Or [a] pos) tA := by
  intro wh pins s σ H Q I h
  refine isTrue_or (thn (ha pins s σ H Q I h) fun c s1 e => ?_)
  cases c with
  | false => exact isTrue_or_nil e
  | true => exact e
theorem pw_and (ha : PT X a tA) (hb : PW X (.BoolOp .And (b :: rest) pos) tB') : PW X (.BoolOp .And (a :: b :: rest) pos) (tAnd tA tB') := by
  intro wh pins s σ H Q I h
  refine isTrue_and (thn (ha pins s σ H _ I h) fun c s1 ⟨H1, I1, q1⟩ => ?_)
  cases c with
  | true => exact hb wh pins s1 σ H1 Q I1 q1
  | false => exact ⟨H1, I1, q1⟩
theorem pw_or (ha : PT X a tA) (hb : PW X (.BoolOp .Or (b :: rest) pos) tB') : PW X (.BoolOp .Or (a :: b :: rest) pos) (tOr tA tB') := by
  intro wh pins s σ H Q I h
  refine isTrue_or (thn (ha pins s σ H _ I h) fun c s1 ⟨H1, I1, q1⟩ => ?_)
  cases c with
  | true => exact ⟨H1, I1, q1⟩
  | false => exact hb wh pins s1 σ H1 Q I1 q1
theorem pt_not (ha : PT X a tA) : PT X (.UnaryOp .Not a pos) (tNot tA) := by
  intro pins s σ H Q I h
  exact isTrue_not (ha pins s σ H (fun c H1 => Q (!c) H1) I h)
def tAndV (ta tb : TE) : TE := fun σ H Q => ta σ H fun x H1 => ∃ c, x = .bl c ∧ if c = true then tb σ H1 Q else Q (.bl false) H1
def tNotV (ta : TE) : TE := fun σ H Q => ta σ H fun x H1 => ∃ c, x = .bl c ∧ Q (.bl (!c)) H1
theorem pe_one {op} {t : TE} (h : PE X a t) : PE X (.BoolOp op [a] pos) t := fun pins s σ H Q I hw => BoolOp_one (h pins s σ H Q I hw)
theorem pe_and (ha : PE X a ta) (hb : PE X (.BoolOp .And (b :: rest) pos) tb) : PE X (.BoolOp .And (a :: b :: rest) pos) (tAndV ta tb) := by
  intro pins s σ H Q I h
  refine BoolOp_and (thn (ha pins s σ H _ I h) fun v s1 ⟨x, H1, I1, r1, q1⟩ => ?_)
  obtain ⟨c, rfl, q1⟩ := q1
  cases r1
  refine wpAny_truthy_bool ?_
  cases c with
  | true => exact hb pins s1 σ H1 Q I1 q1
  | false => exact ⟨.bl false, H1, I1, rfl, q1⟩
theorem pe_not (ha : PE X a ta) : PE X (.UnaryOp .Not a pos) (tNotV ta) := by
  intro pins s σ H Q I h
  refine UnaryOp_ (thn (ha pins s σ H _ I h) fun v s1 ⟨x, H1, I1, r1, q1⟩ => ?_)
  obtain ⟨c, rfl, q1⟩ := q1
  cases r1
  exact not_of (wpAny_truthy_bool ⟨.bl (!c), H1, I1, rfl, q1⟩)
def tIf (t : TT) (ta tb : TE) : TE := fun σ H Q => t σ H fun c H1 => if c = true then ta σ H1 Q else tb σ H1 Q
theorem pe_ifExp {c : Expr} (hc : PT X c tA) (ha : PE X a ta) (hb : PE X b tb) : PE X (.IfExp c a b pos) (tIf tA ta tb) := by
  intro pins s σ H Q I h
  refine wpAny_IfExp (thn (hc pins s σ H _ I h) fun d s1 ⟨H1, I1, q1⟩ => ?_)
  cases d with
  | true => exact ha pins s1 σ H1 Q I1 q1
  | false => exact hb pins s1 σ H1 Q I1 q1
end
end L2
namespace L2
open PySem PySem.Spec PyProof.Rows
def SqL (K : PySem.W.Frag) (H : Hp) (a : Addr) (xs : List V) : Prop :=
  Rd H a (.lst xs) ∨
    ∃ (o : Obj) (its : Array Value) (n : Nat), K.lookup a = some o ∧ o.cls = .type "list" ∧ o.dict = none ∧ o.data = .seq its n ∧ its.size ≤ sizeLine ∧ Vals xs its.toList
def SqT (K : PySem.W.Frag) (H : Hp) (a : Addr) (xs : List V) : Prop :=
  Rd H a (.tup xs) ∨
    ∃ (o : Obj) (its : Array Value) (n : Nat), K.lookup a = some o ∧ o.cls = .type "tuple" ∧ o.data = .seq its n ∧ its.size ≤ sizeLine ∧ Vals xs its.toList
def absV : Value → Option V
  | .none => some .non
  | .bool b => some (.bl b)
  | .int i _ => some (.int i)
  | .str x _ => some (.str x)
  | .bytes b _ => some (.byt b)
  | .float b _ => some (.flt b)
  | .ref a => some (.ref a)
  | .type n => some (.ty n)
  | _ => none
theorem RelV.abs {x : V} {u : Value} (r : RelV x u) : absV u = some x := by
  cases x with
  | non => cases r; rfl
  | bl _ => cases r; rfl
  | int _ => obtain ⟨t, rfl⟩ := r; rfl
  | str _ => obtain ⟨t, rfl⟩ := r; rfl
  | byt _ => obtain ⟨t, rfl⟩ := r; rfl
  | flt _ => obtain ⟨t, rfl⟩ := r; rfl
  | ref _ => cases r; rfl
  | ty _ => cases r; rfl
theorem RelV.inj {x y : V} {u : Value} (r : RelV x u) (q : RelV y u) : x = y := Option.some.inj (r.abs.symm.trans q.abs)
theorem Vals.inj : ∀ {xs ys : List V} {us : List Value}, Vals xs us → Vals ys us → xs = ys
  | _, _, _, .nil, .nil => rfl
  | _, _, _, .cons r t, .cons r' t' => by rw [r.inj r', Vals.inj t t']
section
variable {X : Cx} {pins : List (Addr × Obj)} {σ : St} {H : Hp} {s : Shared} {a : Addr} {xs ys : List V}
theorem SqL.of {K : PySem.W.Frag} (h : H a = some (.lst xs)) : SqL K H a xs := .inl (.inl h)
theorem SqT.of {K : PySem.W.Frag} (h : H a = some (.tup xs)) : SqT K H a xs := .inl (.inl h)
theorem Inv.list (I : Inv X pins σ H s) (h : SqL X.K H a xs) : ∃ its : List Value, Vals xs its ∧ PlainL s.heap a its.toArray ∧ xs.length ≤ sizeLine := by
  rcases h with h | ⟨o, its, n, hk, hc, hd, hs, hz, r⟩
  · obtain ⟨z, its, n, r, e⟩ := h.ok I.hok
    exact ⟨its, r, ⟨_, n, e, rfl, rfl, rfl⟩, z⟩
  · refine ⟨its.toList, r, ⟨o, n, I.kIn a o hk, hc, hd, by simpa using hs⟩, ?_⟩
    have e := r.length
    simp only [Array.length_toList] at e
    omega
theorem Inv.tuple (I : Inv X pins σ H s) (h : SqT X.K H a xs) : ∃ its : List Value, Vals xs its ∧ IsTup s.heap a its.toArray ∧ xs.length ≤ sizeLine := by
  rcases h with h | ⟨o, its, n, hk, hc, hs, hz, r⟩
  · obtain ⟨z, its, r, p⟩ := h.ok I.hok
    exact ⟨its, r, p, z⟩
  · refine ⟨its.toList, r, ⟨o, I.kIn a o hk, hc, n, by simpa using hs⟩, ?_⟩
    have e := r.length
    simp only [Array.length_toList] at e
    omega
theorem Inv.list_inj (I : Inv X pins σ H s) (h : SqL X.K H a xs) (h' : SqL X.K H a ys) : xs = ys := by
  obtain ⟨its, r, ⟨o, n, e, _, _, d⟩, _⟩ := I.list h
  obtain ⟨its', r', ⟨o', n', e', _, _, d'⟩, _⟩ := I.list h'
  rw [e] at e'; cases e'
  rw [d] at d'
  injection d' with d1 _
  have : its = its' := by simpa using congrArg Array.toList d1
  subst this
  exact r.inj r'
theorem Inv.tuple_inj (I : Inv X pins σ H s) (h : SqT X.K H a xs) (h' : SqT X.K H a ys) : xs = ys := by
  obtain ⟨its, r, ⟨o, e, _, n, d⟩, _⟩ := I.tuple h
  obtain ⟨its', r', ⟨o', e', _, n', d'⟩, _⟩ := I.tuple h'
  rw [e] at e'; cases e'
  rw [d] at d'
  injection d' with d1 _
  have : its = its' := by simpa using congrArg Array.toList d1
  subst this
  exact r.inj r'
end
abbrev Cx.wish (X : Cx) (E : Value → Shared → Prop) : Cx := { X with xe := E }
abbrev Cx.nox (X : Cx) : Cx := X.wish fun _ _ => False
theorem Cx.Ok.wish {X : Cx} (ok : X.Ok) (E : Value → Shared → Prop) : (X.wish E).Ok :=
  ⟨ok.mod, ok.kind, ok.glob, ok.blt, ok.above, ok.inj, ok.has, ok.cab, ok.hd, ok.frames, ok.stk, ok.exf, ok.bs, ok.bsz, ok.noex, ok.exfs, ok.funs, ok.frf⟩
theorem Cx.Ok.unwish {X : Cx} {E : Value → Shared → Prop} (ok : (X.wish E).Ok) : X.Ok :=
  ⟨ok.mod, ok.kind, ok.glob, ok.blt, ok.above, ok.inj, ok.has, ok.cab, ok.hd, ok.frames, ok.stk, ok.exf, ok.bs, ok.bsz, ok.noex, ok.exfs, ok.funs, ok.frf⟩
section
variable {X : Cx} {pins : List (Addr × Obj)} {σ : St} {H : Hp} {s : Shared} {E : Value → Shared → Prop}
theorem Inv.wish (I : Inv X pins σ H s) (E : Value → Shared → Prop) : Inv (X.wish E) pins σ H s := ⟨I.ok.wish E, I.os, I.bare, I.base, I.loc, I.cell, I.free, I.freeC, I.pin, I.hok, I.len⟩
theorem Inv.unwish (I : Inv (X.wish E) pins σ H s) : Inv X pins σ H s := ⟨I.ok.unwish, I.os, I.bare, I.base, I.loc, I.cell, I.free, I.freeC, I.pin, I.hok, I.len⟩
theorem SP.unwish {D : Ends} {f : Flow} {s' : Shared} (h : SP (X.wish E) pins D f s') : SP X pins D f s' := by
  cases f with
  | next => obtain ⟨σ', H', I, q⟩ := h; exact ⟨σ', H', I.unwish, q⟩
  | brk => obtain ⟨σ', H', I, q⟩ := h; exact ⟨σ', H', I.unwish, q⟩
  | cont => obtain ⟨σ', H', I, q⟩ := h; exact ⟨σ', H', I.unwish, q⟩
  | ret u => obtain ⟨v, σ', H', I, r, q⟩ := h; exact ⟨v, σ', H', I.unwish, r, q⟩
theorem PE.nox {e : Expr} {t : TE} (h : PE X.nox e t) : PE X e t := fun pins s σ H Q I hw =>
  wpAny_mono (h pins s σ H Q (I.wish _) hw) (fun _ _ ⟨v, H', I', r, q⟩ => ⟨v, H', I'.unwish, r, q⟩) fun _ _ z => False.elim z
theorem PT.nox {e : Expr} {t : TT} (h : PT X.nox e t) : PT X e t := fun pins s σ H Q I hw =>
  wpAny_mono (h pins s σ H Q (I.wish _) hw) (fun _ _ ⟨H', I', q⟩ => ⟨H', I'.unwish, q⟩) fun _ _ z => False.elim z
theorem PSs.nox {st : List Stmt} {t : TS} (h : PSs X.nox st t) : PSs X st t := fun pins s σ H D I hw =>
  wpAny_mono (h pins s σ H D (I.wish _) hw) (fun _ _ q => q.unwish) fun _ _ z => False.elim z
end
section
variable {X : Cx} {st : Stmt} {rest : List Stmt} {t u : TS} {e : Expr} {te : TE} {pos : Pos}
def tNext : TS := fun D σ H => D.nx σ H
def tSeq (t u : TS) : TS := fun D σ H => t { D with nx := u D } σ H
theorem pss_nil : PSs X [] tNext := fun _ _ σ H _ I h => wpAny_execs_nil ⟨σ, H, I, h⟩
theorem pss_cons (h1 : PS X st t) (h2 : PSs X rest u) : PSs X (st :: rest) (tSeq t u) := by
  intro pins s σ H D I h
  refine wpAny_execs_cons (thn (h1 pins s σ H { D with nx := u D } I h) fun f s1 q => ?_)
  cases f with
  | next =>
    obtain ⟨σ', H', I', q⟩ := q
    exact h2 pins s1 σ' H' D I' q
  | ret v => exact q
  | brk => exact q
  | cont => exact q
theorem pss_one (h1 : PS X st t) : PSs X [st] t := by
  intro pins s σ H D I h
  refine wpAny_execs_cons (thn (h1 pins s σ H D I h) fun f s1 q => ?_)
  cases f with
  | next => exact wpAny_execs_nil q
  | ret v => exact q
  | brk => exact q
  | cont => exact q
theorem Inv.quiet {pins : List (Addr × Obj)} {σ : St} {H : Hp} {s : Shared} (I : Inv X pins σ H s) : interactive X.env = false := by simp [interactive, I.ok.kind]
def tDrop (te : TE) : TS := fun D σ H => te σ H fun _ H1 => D.nx σ H1
theorem ps_expr (he : PE X e te) (hs : swapsWith e none pos.line X.env = pure false := by rfl) : PS X (.Expr e pos) (tDrop te) := by
  intro pins s σ H D I h
  exact wpAny_Expr_any (thn (he pins s σ H _ I h) fun v s1 ⟨x, H1, I1, r1, q1⟩ => ⟨σ, H1, I1, q1⟩) I.quiet hs
def tRet (te : TE) : TS := fun D σ H => te σ H D.rt
theorem ps_ret (he : PE X e te) : PS X (.Return (some e) pos) (tRet te) := by
  intro pins s σ H D I h
  exact wpAny_Return_some (thn (he pins s σ H _ I h) fun v s1 ⟨x, H1, I1, r1, q1⟩ => ⟨x, σ, H1, I1, r1, q1⟩)
def tIfS (c : TT) (t u : TS) : TS := fun D σ H => c σ H fun b H1 => if b = true then t D σ H1 else u D σ H1
theorem ps_if {c : Expr} {a b : List Stmt} {tc : TT} (hc : PT X c tc) (ha : PSs X a t) (hb : PSs X b u) : PS X (.If c a b pos) (tIfS tc t u) := by
  intro pins s σ H D I h
  refine wpAny_If (thn (hc pins s σ H _ I h) fun d s1 ⟨H1, I1, q1⟩ => ?_)
  cases d with
  | true => exact ha pins s1 σ H1 D I1 q1
  | false => exact hb pins s1 σ H1 D I1 q1
def tNever : TS := fun _ _ _ => False
theorem ps_never : PS X st tNever := fun _ _ _ _ _ _ h => h.elim
end
abbrev TG := V → St → Hp → (St → Hp → Prop) → Prop
def PG (X : Cx) (target : Expr) (t : TG) : Prop :=
  ∀ (pins : List (Addr × Obj)) (s : Shared) (σ : St) (H : Hp) (v : V) (u : Value) (Q : St → Hp → Prop), Inv X pins σ H s → RelV v u → t v σ H Q →
    wpAny (model X.prog X.w) X.A (assign target X.env u) (fun _ s' => ∃ σ' H', Inv X pins σ' H' s' ∧ Q σ' H') X.xe s
abbrev TSet := V → V → V → Hp → (Hp → Prop) → Prop
def PSet (X : Cx) (t : TSet) : Prop :=
  ∀ (pins : List (Addr × Obj)) (s : Shared) (σ : St) (H : Hp) (o i v : V) (ov iv u : Value) (Q : Hp → Prop), Inv X pins σ H s → RelV o ov → RelV i iv → RelV v u → t o i v H Q →
    wpAny (model X.prog X.w) X.A (setItem ov iv u) (fun _ s' => ∃ H', Inv X pins σ H' s' ∧ Q H') X.xe s
abbrev TIp := V → V → Hp → VK → Prop
def PIp (X : Cx) (op : Operator) (t : TIp) : Prop :=
  ∀ (pins : List (Addr × Obj)) (s : Shared) (σ : St) (H : Hp) (x y : V) (v u : Value) (Q : VK), Inv X pins σ H s → RelV x v → RelV y u → t x y H Q →
    wpAny (model X.prog X.w) X.A (inplaceOp op v u) (EP X pins σ Q) X.xe s
section
variable {X : Cx} {pos : Pos}
def gName (i : Nat) : TG := fun v σ H Q => Q (σ.set i (some v)) H
theorem pg_name {i : Nat} {x : Str} (hN : X.N.Nodup) (hi : X.N[i]? = some x) (hx : Loc X.env.scope x) (hf : X.fn x = true ∨ X.env.scope.names.lookup x = some .local := by first | exact .inl rfl | exact .inr rfl | assumption) : PG X (.Name x pos) (gName i) := by
  intro pins s σ H v u Q I r h
  exact wpAny_assign_Name (store_ok I hN hi hx r (fun s' I' => ⟨_, H, I', h⟩) hf)
def gSub (to ti : TE) (t : TSet) : TG := fun v σ H Q => to σ H fun o H1 => ti σ H1 fun i H2 => t o i v H2 fun H3 => Q σ H3
theorem pg_sub {o i : Expr} {to ti : TE} {t : TSet} (ho : PE X o to) (hi : PE X i ti) (hs : PSet X t)
    (ha : ∀ v, assign (.Subscript o i pos) X.env v = (do
      let ov ← holding [v] (eval o X.env)
      let iv ← holding [v, ov] (eval i X.env)
      standAt pos
      holding [v, ov, iv] (setItem ov iv v)
      release [v, ov, iv] []) := by intro _; rfl) : PG X (.Subscript o i pos) (gSub to ti t) := by
  intro pins s σ H v u Q I r h
  rw [ha]
  refine wpAny_bind (wpAny_holding (thn (ho pins s σ H _ I h) fun ov s1 ⟨x, H1, I1, r1, q1⟩ => ?_))
  refine wpAny_bind (wpAny_holding (thn (hi pins s1 σ H1 _ I1 q1) fun iv s2 ⟨y, H2, I2, r2, q2⟩ => ?_))
  refine wpAny_bind (wpAny_standAt (wpAny_bind (wpAny_holding (thn (hs pins s2 σ H2 x y v ov iv u _ I2 r1 r2 r q2) fun _ s3 ⟨H3, I3, q3⟩ => ?_))))
  exact wpAny_release ⟨σ, H3, I3, q3⟩
def tAsg (te : TE) (g : TG) : TS := fun D σ H => te σ H fun x H1 => g x σ H1 D.nx
theorem ps_asg {tg e : Expr} {te : TE} {g : TG} (he : PE X e te) (hg : PG X tg g) (hs : swapsWithSole [tg] e pos.line X.env = pure false := by rfl) (hw : swappedStores [tg] e X.env = pure none := by rfl)
    (h1 : (assignEach [tg] X.env).map (·.2) = [assign tg X.env] := by rfl) : PS X (.Assign [tg] e pos) (tAsg te g) := by
  intro pins s σ H D I h
  refine wpAny_Assign_stores (thn (he pins s σ H _ I h) fun v s1 ⟨x, H1, I1, r1, q1⟩ => ?_) hs hw
  rw [h1]
  exact thn (hg pins s1 σ H1 x v _ I1 r1 q1) fun _ s2 q => q
theorem ps_set {i : Nat} {x : Str} {e : Expr} {te : TE} {pos' : Pos} (hN : X.N.Nodup) (hi : X.N[i]? = some x) (hx : Loc X.env.scope x) (he : PE X e te) (hs : swapsWith e (some (.Name x pos')) pos.line X.env = pure false := by rfl) (hf : X.fn x = true ∨ X.env.scope.names.lookup x = some .local := by first | exact .inl rfl | exact .inr rfl | assumption) :
    PS X (.Assign [.Name x pos'] e pos) (tAsg te (gName i)) := by
  intro pins s σ H D I h
  refine wpAny_Assign_Name (thn (he pins s σ H _ I h) fun v s1 ⟨y, H1, I1, r1, q1⟩ => ?_) hs
  exact store_ok I1 hN hi hx r1 (fun s2 I2 => ⟨_, H1, I2, q1⟩) hf
def tAug (i : Nat) (te : TE) (ti : TIp) : TS := fun D σ H => ∃ x, σ[i]? = some (some x) ∧ te σ H fun y H1 => ti x y H1 fun z H2 => D.nx (σ.set i (some z)) H2
theorem ps_aug {i : Nat} {x : Str} {e : Expr} {te : TE} {op : Operator} {ti : TIp} {pos' : Pos} (hN : X.N.Nodup) (hi : X.N[i]? = some x) (hx : Loc X.env.scope x) (he : PE X e te) (ho : PIp X op ti) (hf : X.fn x = true ∨ X.env.scope.names.lookup x = some .local := by first | exact .inl rfl | exact .inr rfl | assumption) :
    PS X (.AugAssign (.Name x pos') op e pos) (tAug i te ti) := by
  intro pins s σ H D I h
  obtain ⟨v, e1, h⟩ := h
  obtain ⟨m, hn, hl⟩ := I.loc
  have vis : Vis X.env.scope x := by rcases hx with k | k; exact .inl k; exact .inr (.inl k)
  obtain ⟨u, r, l⟩ := hl i x v hi e1 vis
  refine wpAny_AugAssign_Name ?_
  have go : wpAny (model X.prog X.w) X.A (eval e X.env) (fun w s₂ => wpAny (model X.prog X.w) X.A (inplaceOp op u w) (fun r s₃ => wpAny (model X.prog X.w) X.A (storeName X.env x r) (fun _ => SP X pins D .next) X.xe s₃) X.xe s₂) X.xe s := by
    refine thn (he pins s σ H _ I h) fun w s1 ⟨y, H1, I1, r1, q1⟩ => ?_
    refine thn (ho pins s1 σ H1 v y u w _ I1 r r1 q1) fun z s2 ⟨zv, H2, I2, r2, q2⟩ => ?_
    exact store_ok I2 hN hi hx r2 (fun s3 I3 => ⟨_, H2, I3, q2⟩) hf
  rcases l with ⟨hk, hm⟩ | ⟨hk, c, hc, hcell⟩
  · exact wpAny_loadName_local I.ok.kind hk hn hm go
  · rcases hk with hk | hk
    · exact wpAny_loadName_cell I.ok.kind hk hc hcell go
    · rcases hx with k | k
      · have : X.env.scope.names.lookup x = some .free := hk
        rw [k] at this; cases this
      · have : X.env.scope.names.lookup x = some .free := hk
        rw [k] at this; cases this
def ipI (f : Int → Int → Int) : TIp := fun x y H Q => ∃ i j, x = .int i ∧ y = .int j ∧ Q (.int (f i j)) H
theorem ip_add : PIp X .Add (ipI fun i j => i + j) := by
  intro pins s σ H x y v u Q I r1 r2 h
  obtain ⟨i, j, e1, e2, q⟩ := h
  subst e1; subst e2
  obtain ⟨t, rfl⟩ := r1
  obtain ⟨t', rfl⟩ := r2
  exact iadd_int ⟨.int _, H, I.tok _, ⟨_, rfl⟩, q⟩
end
section
variable {X : Cx} {pos : Pos}
def tWhile (c : TT) (tb : TS) : TS := fun D σ H => ∃ W : Nat → St → Hp → Prop, (∃ m, W m σ H) ∧ ∀ m σ H, W m σ H →
  c σ H fun b H1 => if b = true then ∃ N : St → Hp → Prop, (∀ σ' H', N σ' H' → ∃ m', m' < m ∧ W m' σ' H') ∧ tb { D with nx := N, ct := N, bk := D.nx } σ H1 else D.nx σ H1
theorem ps_while {c : Expr} {body : List Stmt} {tc : TT} {tb : TS} (hp : PassesOwn (model X.prog X.w) X.A X.env X.xe) (hc : PT X c tc) (hb : PSs X body tb) : PS X (.While c body [] pos) (tWhile tc tb) := by
  intro pins s σ H D I h
  obtain ⟨W, ⟨m0, w0⟩, turn⟩ := h
  refine wpAny_While (codeAny_whileLoop (fun n s' => ∃ σ' H', Inv X pins σ' H' s' ∧ W n σ' H') ?_ m0 ⟨σ, H, I, w0⟩)
  rintro n s1 ⟨σ1, H1, I1, w1⟩
  refine wpAny_passesOwn hp (thn (hc pins s1 σ1 H1 _ I1 (turn n σ1 H1 w1)) fun b s2 ⟨H2, I2, q2⟩ => ?_)
  cases b with
  | true =>
    obtain ⟨N, hN, q2⟩ := q2
    rw [if_pos rfl]
    refine wpAny_passesOwn hp (thn (hb pins s2 σ1 H2 _ I2 q2) fun f s3 q3 => ?_)
    cases f with
    | next =>
      obtain ⟨σ3, H3, I3, n3⟩ := q3
      obtain ⟨m', hm, w3⟩ := hN σ3 H3 n3
      exact ⟨m', hm, σ3, H3, I3, w3⟩
    | cont =>
      obtain ⟨σ3, H3, I3, n3⟩ := q3
      obtain ⟨m', hm, w3⟩ := hN σ3 H3 n3
      exact ⟨m', hm, σ3, H3, I3, w3⟩
    | brk => exact q3
    | ret v => exact q3
  | false =>
    rw [if_neg Bool.false_ne_true]
    exact wpAny_execs_nil ⟨σ1, H2, I2, q2⟩
end
structure It where
  go : Nat → Hp → Prop
  yld : Nat → Hp → V → Hp → Prop
  stop : Nat → Hp → Prop
def FpOk (X : Cx) (pins : List (Addr × Obj)) (H : Hp) (b : Addr) : Prop :=
  H b = none ∧ b ≠ X.env.locals ∧ b ∉ X.fs ∧ (b ∈ X.ex ∨ X.s₀.heap.objs.size ≤ b) ∧ (∀ x c, X.env.cells.lookup x = some c → c ≠ b) ∧ ∀ p ∈ X.pn ++ pins, p.1 ≠ b
theorem Inv.fpOk {X : Cx} {pins : List (Addr × Obj)} {σ : St} {H H' : Hp} {s : Shared} {b : Addr} (I : Inv X pins σ H s) (hb : s.heap.objs.size ≤ b) (hn : H' b = none) : FpOk X pins H' b := by
  refine ⟨hn, Nat.ne_of_gt (Nat.lt_of_lt_of_le I.lt hb), I.nofs hb, .inr (Nat.le_trans I.sz hb), fun x c e z => ?_, fun p hp z => ?_⟩
  · obtain ⟨v, q⟩ := I.cell x c e
    exact absurd (Nat.lt_of_lt_of_le q.lt (by rw [z]; exact hb)) (Nat.lt_irrefl _)
  · exact absurd (Nat.lt_of_lt_of_le (Heap.lt_size (I.pin p hp).1) (by rw [z]; exact hb)) (Nat.lt_irrefl _)
structure Turn (P : Program) (w : World) (K : PySem.W.Frag) (tg : Expr) (J : It) (fp : List Addr) (it : Addr) (tn : Nat → Heap → Prop) : Prop where
  mem : it ∈ fp
  obj : ∀ i h, tn i h → ∀ b ∈ fp, ∃ o, h.get? b = some o ∧ ∀ v, o.data ≠ .cell v
  keep : ∀ i h h', tn i h → (∀ b ∈ fp, ∀ o, h.get? b = some o → h'.get? b = some o) → tn i h'
  item : ∀ (X : Cx), X.prog = P → X.w = w → X.K = K → X.calm = true → ∀ (i : Nat) (pins : List (Addr × Obj)) (s : Shared) (σ : St) (H : Hp) (E : Value → Shared → Prop), Inv X pins σ H s → (∀ b ∈ fp, FpOk X pins H b) → tn i s.heap → J.go i H →
    wpAny (model P w) X.A (pyNext (.ref it)) (fun r s1 => ∃ u, r = some u ∧
      wpAny (model P w) X.A (letOwnedTupleGo tg (.ref it) u) (fun _ s2 => ∃ x H', Inv X pins σ H' s2 ∧ RelV x u ∧ J.yld i H x H' ∧ tn (i + 1) s2.heap ∧ ∀ b ∈ fp, H' b = none) E s1) E s
  done : ∀ (X : Cx), X.prog = P → X.w = w → X.K = K → X.calm = true → ∀ (i : Nat) (pins : List (Addr × Obj)) (s : Shared) (σ : St) (H : Hp) (E : Value → Shared → Prop), Inv X pins σ H s → (∀ b ∈ fp, FpOk X pins H b) → tn i s.heap → J.stop i H →
    wpAny (model P w) X.A (pyNext (.ref it)) (fun r s1 => r = none ∧ Inv X pins σ H s1) E s
  self : ∀ (A : Around) (i : Nat) (s : Shared) (Q : Value → Shared → Prop) (E : Value → Shared → Prop), tn i s.heap → Q (.ref it) s → wpAny (model P w) A (pyIter (.ref it)) Q E s
abbrev TI := St → Hp → (It → Hp → Prop) → Prop
def PIE (X : Cx) (pins : List (Addr × Obj)) (σ : St) (tg : Expr) (R : It → Hp → Prop) (itv : Value) (s2 : Shared) : Prop :=
  ∃ (it : Addr) (fp : List Addr) (tn : Nat → Heap → Prop) (J : It) (H' : Hp), itv = .ref it ∧ Inv X pins σ H' s2 ∧ Turn X.prog X.w X.K tg J fp it tn ∧ tn 0 s2.heap ∧ (∀ b ∈ fp, FpOk X pins H' b) ∧ R J H'
def PI (X : Cx) (tg iter : Expr) (wi : TI) : Prop :=
  ∀ (pins : List (Addr × Obj)) (s : Shared) (σ : St) (H : Hp) (R : It → Hp → Prop), Inv X pins σ H s → wi σ H R →
    wpAny (model X.prog X.w) X.A (eval iter X.env) (fun v s1 => wpAny (model X.prog X.w) X.A (pyIter v) (PIE X pins σ tg R) X.xe s1) X.xe s
theorem go_of {M : Model} {A : Around} {E : Value → Shared → Prop} {s : Shared} {tg : Expr} {it : Addr} {u : Value} {o : Obj} {n : String} {vs : Array Value} {Q : Unit → Shared → Prop} (ho : s.heap.get? it = some o) (hc : o.cls = .type n) (hd : o.data = .fields vs)
    (hn : ["enumerate", "zip", "dict_itemiterator", "dict_reverseitemiterator", "odict_iterator", "itertools.zip_longest", "itertools.pairwise"].contains n = false) (hQ : Q () s) : wpAny M A (letOwnedTupleGo tg (.ref it) u) Q E s := by
  unfold letOwnedTupleGo
  cases tg <;> first
    | exact wpAny_pure hQ
    | (cases u <;> first
        | exact wpAny_pure hQ
        | (refine wpAny_bind (wpAny_load ho ?_)
           rw [hc, hd]
           show wpAny M A (if (["enumerate", "zip", "dict_itemiterator", "dict_reverseitemiterator", "odict_iterator", "itertools.zip_longest", "itertools.pairwise"].contains n && vs[0]? == some (rawInt _)) = true then _ else _) Q E s
           rw [if_neg (by intro h; rw [hn, Bool.false_and] at h; cases h)]
           exact wpAny_pure hQ))
def Itl (K : PySem.W.Frag) (a : Addr) : It :=
  ⟨fun i H => ∃ xs x, SqL K H a xs ∧ xs[i]? = some x, fun i H x H' => H' = H ∧ ∀ xs, SqL K H a xs → xs[i]? = some x, fun i H => ∃ xs, SqL K H a xs ∧ xs.length ≤ i⟩
def Itr (lo : Int) (n : Nat) : It := ⟨fun i _ => i < n, fun i H x H' => H' = H ∧ x = .int (lo + i), fun i _ => n ≤ i⟩
theorem turn_list {P : Program} {w : World} {K : PySem.W.Frag} {tg : Expr} (a it : Addr) : Turn P w K tg (Itl K a) [it] it (fun i h => h.IsListIter it a i) where
  mem := by simp
  obj := fun i h st b hb => by
    have e : b = it := by simpa using hb
    subst e
    obtain ⟨o, e, c, d⟩ := st
    exact ⟨o, e, fun v z => by rw [d] at z; cases z⟩
  keep := fun i h h' st k => st.at fun o e => k it (by simp) o e
  item := by
    intro X hP hw hK hc i pins s σ H E I hf st hg
    subst hP hw hK
    obtain ⟨xs, x, hq, hx⟩ := hg
    obtain ⟨its, rv, p, hz⟩ := I.list hq
    obtain ⟨u, hu, ru⟩ := rv.get hx
    obtain ⟨f0, f1, f2, f3, f4, f5⟩ := hf it (by simp)
    refine wpAny_pyNext_list_item st p.isList (x := u) (by simpa using hu) fun h' st' sb => ?_
    have I1 : Inv X pins σ H { s with heap := h' } := I.turned (t' := s.toks) (fun b o hb e => (sb.2 b hb).trans e) f0 f1 f3 f4 f5
    obtain ⟨o, e, c, d⟩ := id st'
    exact ⟨u, rfl, go_of (s := { s with heap := h' }) e c d (by decide) ⟨x, H, I1, ru, ⟨rfl, fun ys hy => by rw [I.list_inj hy hq]; exact hx⟩, st', fun b hb => (hf b hb).1⟩⟩
  done := by
    intro X hP hw hK hc i pins s σ H E I hf st hg
    subst hP hw hK
    obtain ⟨xs, hq, hx⟩ := hg
    obtain ⟨its, rv, p, hz⟩ := I.list hq
    obtain ⟨f0, f1, f2, f3, f4, f5⟩ := hf it (by simp)
    have hl := rv.length
    exact wpAny_pyNext_list_end (I.ok.hd hc) st p.isList (by simp; omega) fun h' eb => ⟨rfl, I.turned (t' := s.toks) (fun b o hb e => eb b o hb e) f0 f1 f3 f4 f5⟩
  self := fun _ _ _ _ _ st h => wpAny_pyIter_listiter st h
theorem turn_range {P : Program} {w : World} {K : PySem.W.Frag} {tg : Expr} (it : Addr) (lo : Int) (n : Nat) : Turn P w K tg (Itr lo n) [it] it (fun i h => IsRangeIter h it (lo + (i : Nat) * 1) ((n : Int) - (i : Nat)) 1) where
  mem := by simp
  obj := fun i h st b hb => by
    have e : b = it := by simpa using hb
    subst e
    exact ⟨_, st, fun v z => by
      have z' : Data.fields _ = Data.cell v := z
      cases z'⟩
  keep := fun i h h' st k => k it (by simp) _ st
  item := by
    intro X hP hw hK hc i pins s σ H E I hf st hg
    subst hP hw hK
    obtain ⟨f0, f1, f2, f3, f4, f5⟩ := hf it (by simp)
    have W := Walks.range (prog := X.prog) (w := X.w) (I.ok.hd hc) it lo 1 n
    refine W.item i s _ _ hg st fun v h' tk hv st' kk => ?_
    obtain ⟨t, rfl⟩ := hv
    have I1 : Inv X pins σ H { s with heap := h', toks := tk } := I.turned (fun b o hb e => kk b o (by simpa using hb) e) f0 f1 f3 f4 f5
    refine ⟨_, rfl, go_of (s := { s with heap := h', toks := tk }) (n := "range_iterator") st' rfl rfl (by decide) ⟨.int (lo + i), H, I1, ⟨t, ?_⟩, ⟨rfl, rfl⟩, st', fun b hb => (hf b hb).1⟩⟩
    rw [Int.mul_one]
  done := by
    intro X hP hw hK hc i pins s σ H E I hf st hg
    subst hP hw hK
    obtain ⟨f0, f1, f2, f3, f4, f5⟩ := hf it (by simp)
    exact wpAny_pyNext_range_end (I.ok.hd hc) st (by have : n ≤ i := hg; omega) fun h' eb => ⟨rfl, I.turned (t' := s.toks) (fun b o hb e => eb b o hb e) f0 f1 f3 f4 f5⟩
  self := fun _ _ _ _ _ st h => wpAny_pyIter_rangeiter st h
end L2
namespace L2
open PySem PySem.Spec PyProof.Rows
section
variable {X : Cx} {tg : Expr}
def iList (K : PySem.W.Frag) (tl : TE) : TI := fun σ H R => tl σ H fun x H1 => ∃ a, x = .ref a ∧ (∃ xs, SqL K H1 a xs) ∧ R (Itl K a) H1
theorem pi_list {l : Expr} {tl : TE} (hl : PE X l tl) : PI X tg l (iList X.K tl) := by
  intro pins s σ H R I h
  refine thn (hl pins s σ H _ I h) fun v s1 ⟨x, H1, I1, r1, q1⟩ => ?_
  obtain ⟨a, e, ⟨xs, hq⟩, q⟩ := q1
  subst e
  cases r1
  obtain ⟨its, rv, p, hz⟩ := I1.list hq
  refine wpAny_pyIter_list p.isList ?_
  refine ⟨s1.heap.objs.size, [s1.heap.objs.size], _, _, H1, rfl, I1.kept (t' := s1.toks) fun b o e => Heap.get?_push_of_some _ e, turn_list a _, ⟨_, Heap.get?_push_size _ rfl, rfl, rfl⟩, fun b hb => ?_, q⟩
  have e : b = s1.heap.objs.size := by simpa using hb
  subst e
  exact I1.fpOk (Nat.le_refl _) (I1.hok.fresh (Nat.le_refl _))
theorem range_it {pins : List (Addr × Obj)} {σ : St} {H : Hp} {s : Shared} {R : It → Hp → Prop} {E : Value → Shared → Prop} {lo hi : Int} {t u v : Tok} {tk : Nat} (I : Inv X pins σ H s) (h1 : -(2 ^ 62) ≤ lo) (h2 : lo < 2 ^ 62) (h3 : -(2 ^ 62) ≤ hi) (h4 : hi < 2 ^ 62)
    (q : R (Itr lo (hi - lo).toNat) H) : wpAny (model X.prog X.w) X.A (pyIter (.ref s.heap.objs.size)) (PIE X pins σ tg R) E { s with heap := s.heap.push { cls := .type "range", data := .fields #[.int lo t, .int hi u, .int 1 v] }, toks := tk } := by
  refine wpAny_pyIter_range (IsRange.new ..) (small_one h1 h2 h3 h4) ?_
  have I1 : Inv X pins σ H { s with heap := s.heap.push { cls := .type "range", data := .fields #[.int lo t, .int hi u, .int 1 v] }, toks := tk } := I.kept fun b o e => Heap.get?_push_of_some _ e
  refine ⟨(s.heap.push { cls := .type "range", data := .fields #[.int lo t, .int hi u, .int 1 v] }).objs.size, [(s.heap.push { cls := .type "range", data := .fields #[.int lo t, .int hi u, .int 1 v] }).objs.size], _, _, H, rfl,
    I1.kept (t' := tk) fun b o e => Heap.get?_push_of_some _ e, turn_range _ lo (hi - lo).toNat, ?_, fun b hb => ?_, q⟩
  · have e1 : lo + ((0 : Nat) : Int) * 1 = lo := by simp
    have e2 : (((hi - lo).toNat : Nat) : Int) - ((0 : Nat) : Int) = Builtin.Range.rangeSize lo hi 1 := by rw [rangeSize_one]; split <;> omega
    show IsRangeIter _ _ (lo + ((0 : Nat) : Int) * 1) ((((hi - lo).toNat : Nat) : Int) - ((0 : Nat) : Int)) 1
    rw [e1, e2]
    exact Heap.get?_push_size _ rfl
  · have e : b = (s.heap.push { cls := .type "range", data := .fields #[.int lo t, .int hi u, .int 1 v] }).objs.size := by simpa using hb
    subst e
    exact I1.fpOk (Nat.le_refl _) (I1.hok.fresh (Nat.le_refl _))
def iRng1 (ta : TA) : TI := fun σ H R => ta σ H fun vs H1 => ∃ j : Int, vs = [.int j] ∧ -(2 ^ 62) ≤ j ∧ j < 2 ^ 62 ∧ R (Itr 0 j.toNat) H1
def iRng2 (ta : TA) : TI := fun σ H R => ta σ H fun vs H1 => ∃ i j : Int, vs = [.int i, .int j] ∧ (-(2 ^ 62) ≤ i ∧ i < 2 ^ 62 ∧ -(2 ^ 62) ≤ j ∧ j < 2 ^ 62) ∧ R (Itr i (j - i).toNat) H1
theorem pi_range1 {a : Expr} {ta : TA} {p pos : Pos} (hg : Gl X "range") (hm : X.mg "range" = none) (ha : PA X [a] ta) (hs : starEach [a] X.env = [(false, eval a X.env)] := by rfl) : PI X tg (.Call (.Name "range" p) [a] [] pos) (iRng1 ta) := by
  intro pins s σ H R I h
  refine Call_ (ld_blt I hg hm boot_range (PyProof.Rows.callWith_type1 (thn (ha pos pins s σ H _ I h) fun us s1 ⟨vs, H1, I1, r1, q1⟩ => ?_) hs rfl))
  obtain ⟨j, e, q1, q2, q⟩ := q1
  subst e
  cases r1 with
  | cons r rr =>
    cases rr
    obtain ⟨t, rfl⟩ := r
    exact call_range_1 (range_it I1 (by omega) (by omega) q1 q2 (by simpa using q))
theorem pi_range2 {a b : Expr} {ta : TA} {p pos : Pos} (hg : Gl X "range") (hm : X.mg "range" = none) (ha : PA X [a, b] ta) (hs : starEach [a, b] X.env = [(false, eval a X.env), (false, eval b X.env)] := by rfl) (hs2 : starEach [b] X.env = [(false, eval b X.env)] := by rfl) :
    PI X tg (.Call (.Name "range" p) [a, b] [] pos) (iRng2 ta) := by
  intro pins s σ H R I h
  refine Call_ (ld_blt I hg hm boot_range (PyProof.Rows.callWith_type1 (thn (ha pos pins s σ H _ I h) fun us s1 ⟨vs, H1, I1, r1, q1⟩ => ?_) (by rw [hs, hs2]) (by rw [hs2]; rfl)))
  obtain ⟨i, j, e, ⟨q1, q2, q3, q4⟩, q⟩ := q1
  subst e
  cases r1 with
  | cons r rr =>
    cases rr with
    | cons r' rr =>
      cases rr
      obtain ⟨t, rfl⟩ := r
      obtain ⟨t', rfl⟩ := r'
      exact call_range_2 (range_it I1 q1 q2 q3 q4 q)
def tFor (wi : TI) (g : TG) (tb : TS) : TS := fun D σ H => wi σ H fun J H1 => ∃ W : Nat → Nat → St → Hp → Prop, (∃ m, W 0 m σ H1) ∧ ∀ i m σ H, W i m σ H →
  (J.stop i H ∧ D.nx σ H) ∨ (J.go i H ∧ ∃ N : St → Hp → Prop, (∀ σ' H', N σ' H' → ∃ m', m' < m ∧ W (i + 1) m' σ' H') ∧ ∀ x H', J.yld i H x H' → g x σ H' fun σ2 H2 => tb { D with nx := N, ct := N, bk := D.nx } σ2 H2)
def pinsAt (fp : List Addr) (h : Heap) : List (Addr × Obj) := fp.filterMap fun b => (h.get? b).map fun o => (b, o)
theorem mem_pinsAt {fp : List Addr} {h : Heap} {b : Addr} {o : Obj} (hb : b ∈ fp) (e : h.get? b = some o) : (b, o) ∈ pinsAt fp h := List.mem_filterMap.mpr ⟨b, hb, by rw [e]; rfl⟩
theorem of_pinsAt {fp : List Addr} {h : Heap} {p : Addr × Obj} (hp : p ∈ pinsAt fp h) : p.1 ∈ fp ∧ h.get? p.1 = some p.2 := by
  obtain ⟨b, hb, e⟩ := List.mem_filterMap.mp hp
  cases q : h.get? b with
  | none => rw [q] at e; cases e
  | some o =>
    rw [q] at e
    have e' : (b, o) = p := Option.some.inj e
    subst e'
    exact ⟨hb, q⟩
theorem Inv.pinned {pins : List (Addr × Obj)} {σ : St} {H : Hp} {s : Shared} {fp : List Addr} (I : Inv X pins σ H s) (hf : ∀ b ∈ fp, FpOk X pins H b) (ho : ∀ b ∈ fp, ∃ o, s.heap.get? b = some o ∧ ∀ v, o.data ≠ .cell v) : Inv X (pins ++ pinsAt fp s.heap) σ H s :=
  I.pins_of fun p hp => (List.mem_append.mp hp).elim (fun z => I.pin p (List.mem_append_right _ z)) fun z => by
    obtain ⟨hb, e⟩ := of_pinsAt z
    obtain ⟨f0, f1, f2, _⟩ := hf p.1 hb
    obtain ⟨o, e', d⟩ := ho p.1 hb
    rw [e] at e'; cases e'
    exact ⟨e, f0, f1, f2, d⟩
theorem Inv.unpinned {pins pl : List (Addr × Obj)} {σ : St} {H : Hp} {s : Shared} (I : Inv X (pins ++ pl) σ H s) : Inv X pins σ H s := I.pins_of fun p hp => I.pin p (List.mem_append_right _ (List.mem_append_left _ hp))
theorem ps_for {iter : Expr} {body : List Stmt} {wi : TI} {g : TG} {tb : TS} {pos : Pos} (hp : PassesOwn (model X.prog X.w) X.A X.env X.xe) (hc : X.calm = true) (hi : PI X tg iter wi) (hg : PG X tg g) (hb : PSs X body tb)
    (hs : ∀ x, foldedSetIterable iter X.env x = pure x := by intro _; rfl) : PS X (.For tg iter body [] pos) (tFor wi g tb) := by
  intro pins s σ H D I h
  refine wpAny_For (thn (hi pins s σ H _ I h) fun v s1 h1 => thn h1 fun itv s2 h2 => ?_) hs
  obtain ⟨it, fp, tn, J, H2, e, I2, T, st2, f2, W, ⟨m0, w0⟩, turn⟩ := h2
  subst e
  have stat : ∀ {H' : Hp}, (∀ b ∈ fp, H' b = none) → ∀ b ∈ fp, FpOk X pins H' b := fun hn b hb => ⟨hn b hb, (f2 b hb).2⟩
  refine codeAny_forLoop_any (fun n s' => ∃ i σ' H', Inv X pins σ' H' s' ∧ tn i s'.heap ∧ (∀ b ∈ fp, H' b = none) ∧ W i n σ' H') ?_ m0 ⟨0, σ, H2, I2, st2, fun b hb => (f2 b hb).1, w0⟩
  rintro n s3 ⟨i, σ3, H3, I3, st3, fr3, w3⟩
  rcases turn i n σ3 H3 w3 with ⟨stop, qn⟩ | ⟨go, N, hN, step⟩
  · refine wpAny_passesOwn hp (thn (T.done X rfl rfl rfl hc i pins s3 σ3 H3 X.xe I3 (stat fr3) st3 stop) fun r s4 ⟨hr, I4⟩ => ?_)
    subst hr
    exact wpAny_execs_nil ⟨σ3, H3, I4, qn⟩
  · refine wpAny_passesOwn hp (thn (T.item X rfl rfl rfl hc i pins s3 σ3 H3 X.xe I3 (stat fr3) st3 go) fun r s4 ⟨u, hr, h4⟩ => ?_)
    subst hr
    refine wpAny_passesOwn hp (thn h4 fun _ s5 ⟨x, H5, I5, r5, y5, st5, fr5⟩ => ?_)
    have I5' := I5.pinned (stat fr5) (T.obj _ _ st5)
    refine wpAny_passesOwn hp (thn (hg _ s5 σ3 H5 x u _ I5' r5 (step x H5 y5)) fun _ s6 ⟨σ6, H6, I6, q6⟩ => ?_)
    refine wpAny_passesOwn hp (thn (hb _ s6 σ6 H6 _ I6 q6) fun f s7 q7 => ?_)
    have again : ∀ {σ7 : St} {H7 : Hp}, Inv X (pins ++ pinsAt fp s5.heap) σ7 H7 s7 → N σ7 H7 → ∃ m, m < n ∧ ∃ i σ' H', Inv X pins σ' H' s7 ∧ tn i s7.heap ∧ (∀ b ∈ fp, H' b = none) ∧ W i m σ' H' := fun {σ7 H7} I7 n7 => by
      obtain ⟨m', hm, w7⟩ := hN σ7 H7 n7
      refine ⟨m', hm, i + 1, σ7, H7, I7.unpinned, T.keep _ _ _ st5 fun b hb o e => (I7.pin (b, o) (List.mem_append_right _ (List.mem_append_right _ (mem_pinsAt hb e)))).1, fun b hb => ?_, w7⟩
      obtain ⟨o, e, d⟩ := T.obj _ _ st5 b hb
      exact (I7.pin (b, o) (List.mem_append_right _ (List.mem_append_right _ (mem_pinsAt hb e)))).2.1
    cases f with
    | next => obtain ⟨σ7, H7, I7, n7⟩ := q7; exact again I7 n7
    | cont => obtain ⟨σ7, H7, I7, n7⟩ := q7; exact again I7 n7
    | brk => obtain ⟨σ7, H7, I7, q7⟩ := q7; exact ⟨σ7, H7, I7.unpinned, q7⟩
    | ret v => obtain ⟨x7, σ7, H7, I7, r7, q7⟩ := q7; exact ⟨x7, σ7, H7, I7.unpinned, r7, q7⟩
end
theorem for_list {K : PySem.W.Frag} {a : Addr} {xs : List V} {g : TG} {tb : TS} {D : Ends} {σ : St} {H : Hp} (Pv : Nat → St → Hp → Prop) (h0 : Pv 0 σ H) (hl : ∀ i σ H, i ≤ xs.length → Pv i σ H → SqL K H a xs)
    (hs : ∀ i x σ H, xs[i]? = some x → Pv i σ H → g x σ H fun σ2 H2 => tb { D with nx := Pv (i + 1), ct := Pv (i + 1), bk := D.nx } σ2 H2) (hd : ∀ σ H, Pv xs.length σ H → D.nx σ H) :
    ∃ W : Nat → Nat → St → Hp → Prop, (∃ m, W 0 m σ H) ∧ ∀ i m σ H, W i m σ H →
      ((Itl K a).stop i H ∧ D.nx σ H) ∨ ((Itl K a).go i H ∧ ∃ N : St → Hp → Prop, (∀ σ' H', N σ' H' → ∃ m', m' < m ∧ W (i + 1) m' σ' H') ∧ ∀ x H', (Itl K a).yld i H x H' → g x σ H' fun σ2 H2 => tb { D with nx := N, ct := N, bk := D.nx } σ2 H2) := by
  refine ⟨fun i m σ H => m = xs.length - i ∧ i ≤ xs.length ∧ Pv i σ H, ⟨xs.length, by simp, Nat.zero_le _, h0⟩, ?_⟩
  rintro i m σ H ⟨rfl, hi, p⟩
  have q := hl i σ H hi p
  by_cases hlt : i < xs.length
  · refine .inr ⟨⟨xs, xs[i], q, by simp [hlt]⟩, Pv (i + 1), fun σ' H' p' => ⟨xs.length - (i + 1), by omega, rfl, hlt, p'⟩, fun x H' y => ?_⟩
    obtain ⟨e, y⟩ := y
    subst e
    exact hs i x σ _ (y xs q) p
  · have e : i = xs.length := by omega
    subst e
    exact .inl ⟨⟨xs, q, Nat.le_refl _⟩, hd σ H p⟩
theorem for_range {lo : Int} {n : Nat} {g : TG} {tb : TS} {D : Ends} {σ : St} {H : Hp} (Pv : Nat → St → Hp → Prop) (h0 : Pv 0 σ H)
    (hs : ∀ i σ H, i < n → Pv i σ H → g (.int (lo + i)) σ H fun σ2 H2 => tb { D with nx := Pv (i + 1), ct := Pv (i + 1), bk := D.nx } σ2 H2) (hd : ∀ σ H, Pv n σ H → D.nx σ H) :
    ∃ W : Nat → Nat → St → Hp → Prop, (∃ m, W 0 m σ H) ∧ ∀ i m σ H, W i m σ H →
      ((Itr lo n).stop i H ∧ D.nx σ H) ∨ ((Itr lo n).go i H ∧ ∃ N : St → Hp → Prop, (∀ σ' H', N σ' H' → ∃ m', m' < m ∧ W (i + 1) m' σ' H') ∧ ∀ x H', (Itr lo n).yld i H x H' → g x σ H' fun σ2 H2 => tb { D with nx := N, ct := N, bk := D.nx } σ2 H2) := by
  refine ⟨fun i m σ H => m = n - i ∧ i ≤ n ∧ Pv i σ H, ⟨n, by simp, Nat.zero_le _, h0⟩, ?_⟩
  rintro i m σ H ⟨rfl, hi, p⟩
  by_cases hlt : i < n
  · refine .inr ⟨hlt, Pv (i + 1), fun σ' H' p' => ⟨n - (i + 1), by omega, rfl, hlt, p'⟩, fun x H' y => ?_⟩
    obtain ⟨e, y⟩ := y
    subst e y
    exact hs i σ _ hlt p
  · have e : i = n := by omega
    subst e
    exact .inl ⟨Nat.le_refl _, hd σ H p⟩
theorem while_by {c : TT} {tb : TS} {D : Ends} {σ : St} {H : Hp} (Pv : St → Hp → Prop) (μ : St → Hp → Nat) (h0 : Pv σ H)
    (hs : ∀ σ H, Pv σ H → c σ H fun b H1 => if b = true then tb { D with nx := fun σ' H' => Pv σ' H' ∧ μ σ' H' < μ σ H, ct := fun σ' H' => Pv σ' H' ∧ μ σ' H' < μ σ H, bk := D.nx } σ H1 else D.nx σ H1)
    (mono : ∀ σ H Q Q', (∀ b H1, Q b H1 → Q' b H1) → c σ H Q → c σ H Q') : tWhile c tb D σ H := by
  refine ⟨fun m σ H => m = μ σ H ∧ Pv σ H, ⟨_, rfl, h0⟩, ?_⟩
  rintro m σ H ⟨rfl, p⟩
  refine mono σ H _ _ (fun b H1 q => ?_) (hs σ H p)
  cases b with
  | true => exact ⟨_, fun σ' H' ⟨p', l⟩ => ⟨_, l, rfl, p'⟩, q⟩
  | false => exact q
end L2
namespace L2
open PySem PySem.Spec PyProof.Rows
abbrev R2 := V → V → Hp → VK → Prop
def OpR (X : Cx) (f : Value → Value → Sem Value) (r : R2) : Prop :=
  ∀ (pins : List (Addr × Obj)) (s : Shared) (σ : St) (H : Hp) (x y : V) (v u : Value) (Q : VK), Inv X pins σ H s → RelV x v → RelV y u → r x y H Q →
    wpAny (model X.prog X.w) X.A (f v u) (EP X pins σ Q) X.xe s
def UnR (X : Cx) (f : Value → Sem Value) (r : V → Hp → VK → Prop) : Prop :=
  ∀ (pins : List (Addr × Obj)) (s : Shared) (σ : St) (H : Hp) (x : V) (v : Value) (Q : VK), Inv X pins σ H s → RelV x v → r x H Q →
    wpAny (model X.prog X.w) X.A (f v) (EP X pins σ Q) X.xe s
def CallR (X : Cx) (f : Value) (r : List V → Hp → VK → Prop) : Prop :=
  ∀ (pins : List (Addr × Obj)) (s : Shared) (σ : St) (H : Hp) (xs : List V) (us : List Value) (Q : VK), Inv X pins σ H s → Vals xs us → r xs H Q →
    wpAny (model X.prog X.w) X.A (call f us) (EP X pins σ Q) X.xe s
def tOp (r : R2) (ta tb : TE) : TE := fun σ H Q => ta σ H fun x H1 => tb σ H1 fun y H2 => r x y H2 Q
def tUn (r : V → Hp → VK → Prop) (ta : TE) : TE := fun σ H Q => ta σ H fun x H1 => r x H1 Q
def rI (C : Int → Int → Prop) (g : Int → Int → V) : R2 := fun x y H Q => ∃ i j, x = .int i ∧ y = .int j ∧ C i j ∧ Q (g i j) H
def rI0 (g : Int → Int → V) : R2 := fun x y H Q => ∃ i j, x = .int i ∧ y = .int j ∧ Q (g i j) H
def rU (g : Int → V) : V → Hp → VK → Prop := fun x H Q => ∃ i, x = .int i ∧ Q (g i) H
section
variable {X : Cx} {a b c : Expr} {ta tb tc : TE} {pos : Pos}
theorem binT (ha : PE X a ta) (hb : PE X b tb) {pins : List (Addr × Obj)} {s : Shared} {σ : St} {H : Hp} {R : V → V → Hp → Prop} (I : Inv X pins σ H s)
    (h : ta σ H fun x H1 => tb σ H1 fun y H2 => R x y H2) {Q : Value → Shared → Prop} {f : Value → Value → Sem Value}
    (hf : ∀ v u s2 x y H2, Inv X pins σ H2 s2 → RelV x v → RelV y u → R x y H2 → wpAny (model X.prog X.w) X.A (f v u) Q X.xe s2) :
    wpAny (model X.prog X.w) X.A (eval a X.env) (fun v s₁ => wpAny (model X.prog X.w) X.A (eval b X.env) (fun u s₂ => wpAny (model X.prog X.w) X.A (f v u) Q X.xe s₂) X.xe s₁) X.xe s := by
  refine thn (ha pins s σ H _ I h) fun v s1 ⟨x, H1, I1, r1, q1⟩ => ?_
  refine thn (hb pins s1 σ H1 _ I1 q1) fun u s2 ⟨y, H2, I2, r2, q2⟩ => ?_
  exact hf v u s2 x y H2 I2 r1 r2 q2
theorem pe_op {op : Operator} {r : R2} (ho : OpR X (binaryOp op) r) (ha : PE X a ta) (hb : PE X b tb) : PE X (.BinOp a op b pos) (tOp r ta tb) := by
  intro pins s σ H Q I h
  exact wpAny_BinOp (binT ha hb I h fun v u s2 x y H2 I2 rx ry q => ho pins s2 σ H2 x y v u Q I2 rx ry q)
theorem pe_un {op : UnaryOp} {r : V → Hp → VK → Prop} (ho : UnR X (unaryOp op) r) (ha : PE X a ta) : PE X (.UnaryOp op a pos) (tUn r ta) := by
  intro pins s σ H Q I h
  exact UnaryOp_ (thn (ha pins s σ H _ I h) fun v s1 ⟨x, H1, I1, r1, q1⟩ => ho pins s1 σ H1 x v Q I1 r1 q1)
theorem opI {f : Value → Value → Sem Value} {C : Int → Int → Prop} {g : Int → Int → Int}
    (rule : ∀ (i j : Int) (t u : Tok) (s : Shared) (Q : Value → Shared → Prop) (E : Value → Shared → Prop), C i j → Q (.int (g i j) s.toks) { s with toks := s.toks + 1 } → wpAny (model X.prog X.w) X.A (f (.int i t) (.int j u)) Q E s) :
    OpR X f (rI C fun i j => .int (g i j)) := by
  intro pins s σ H x y v u Q I rx ry h
  obtain ⟨i, j, rfl, rfl, hc, q⟩ := h
  obtain ⟨t, rfl⟩ := rx
  obtain ⟨t', rfl⟩ := ry
  exact rule i j t t' s _ _ hc ⟨.int (g i j), H, I.tok _, ⟨_, rfl⟩, q⟩
theorem opI0 {f : Value → Value → Sem Value} {g : Int → Int → Int}
    (rule : ∀ (i j : Int) (t u : Tok) (s : Shared) (Q : Value → Shared → Prop) (E : Value → Shared → Prop), Q (.int (g i j) s.toks) { s with toks := s.toks + 1 } → wpAny (model X.prog X.w) X.A (f (.int i t) (.int j u)) Q E s) :
    OpR X f (rI0 fun i j => .int (g i j)) := by
  intro pins s σ H x y v u Q I rx ry h
  obtain ⟨i, j, rfl, rfl, q⟩ := h
  obtain ⟨t, rfl⟩ := rx
  obtain ⟨t', rfl⟩ := ry
  exact rule i j t t' s _ _ ⟨.int (g i j), H, I.tok _, ⟨_, rfl⟩, q⟩
theorem opB0 {f : Value → Value → Sem Value} {g : Int → Int → Bool}
    (rule : ∀ (i j : Int) (t u : Tok) (s : Shared) (Q : Value → Shared → Prop) (E : Value → Shared → Prop), Q (.bool (g i j)) s → wpAny (model X.prog X.w) X.A (f (.int i t) (.int j u)) Q E s) :
    OpR X f (rI0 fun i j => .bl (g i j)) := by
  intro pins s σ H x y v u Q I rx ry h
  obtain ⟨i, j, rfl, rfl, q⟩ := h
  obtain ⟨t, rfl⟩ := rx
  obtain ⟨t', rfl⟩ := ry
  exact rule i j t t' s _ _ ⟨.bl (g i j), H, I, rfl, q⟩
def CPow (i j : Int) : Prop := 0 ≤ j ∧ j ≤ 1000000 ∧ i.natAbs < 2 ^ 64
def CMul (i j : Int) : Prop := (-(2 ^ 64) < i ∧ i < 2 ^ 64) ∨ (-(2 ^ 64) < j ∧ j < 2 ^ 64)
theorem CMul.ok {i j : Int} (h : CMul i j) : IntMulOk i j := by
  rcases h with ⟨h1, h2⟩ | ⟨h1, h2⟩
  · exact .of_left (intBits_le_64 h1 h2)
  · exact .of_right (intBits_le_64 h1 h2)
theorem op_add : OpR X (binaryOp .Add) (rI0 fun i j => .int (i + j)) := opI0 fun _ _ _ _ _ _ _ q => add_int q
theorem op_sub : OpR X (binaryOp .Sub) (rI0 fun i j => .int (i - j)) := opI0 fun _ _ _ _ _ _ _ q => sub_int q
theorem op_mul : OpR X (binaryOp .Mult) (rI CMul fun i j => .int (i * j)) := opI fun _ _ _ _ _ _ _ hc q => mul_int q hc.ok
theorem op_mod : OpR X (binaryOp .Mod) (rI (fun _ j => 0 < j) fun i j => .int (i % j)) := opI fun i j _ _ _ _ _ hc q => by
  have h1 : (0 : Int) < j := hc
  exact mod_int' (by omega) (by rw [Int.fmod_eq_emod_of_nonneg i (by omega)]; exact q)
theorem op_pow : OpR X (binaryOp .Pow) (rI CPow fun i j => .int (i ^ j.toNat)) := opI fun _ _ _ _ _ _ _ hc q => pow_int_small hc.1 hc.2.1 hc.2.2 q
theorem unI {f : Value → Sem Value} {g : Int → Int}
    (rule : ∀ (i : Int) (t : Tok) (s : Shared) (Q : Value → Shared → Prop) (E : Value → Shared → Prop), Q (.int (g i) s.toks) { s with toks := s.toks + 1 } → wpAny (model X.prog X.w) X.A (f (.int i t)) Q E s) :
    UnR X f (rU fun i => .int (g i)) := by
  intro pins s σ H x v Q I rx h
  obtain ⟨i, rfl, q⟩ := h
  obtain ⟨t, rfl⟩ := rx
  exact rule i t s _ _ ⟨.int (g i), H, I.tok _, ⟨_, rfl⟩, q⟩
theorem un_neg : UnR X (unaryOp .USub) (rU fun i => .int (-i)) := unI fun _ _ _ _ _ q => neg_int q
end
def scal : V → V → Bool
  | .non, .non => true | .non, .int _ => true | .int _, .non => true | .non, .bl _ => true | .bl _, .non => true | .non, .str _ => true | .str _, .non => true
  | .int _, .int _ => true | .bl _, .bl _ => true | .str _, .str _ => true | .byt _, .byt _ => true
  | .int _, .str _ => true | .str _, .int _ => true | .bl _, .str _ => true | .str _, .bl _ => true
  | _, _ => false
def rEq : R2 := fun x y H Q => scal x y = true ∧ Q (.bl (decide (x = y))) H
def rNe : R2 := fun x y H Q => scal x y = true ∧ Q (.bl (!decide (x = y))) H
theorem dec_int {i j : Int} : decide (V.int i = V.int j) = (i == j) := by
  rw [Bool.eq_iff_iff]
  simp
theorem dec_bl {i j : Bool} : decide (V.bl i = V.bl j) = (i == j) := by
  rw [Bool.eq_iff_iff]
  simp
theorem dec_str {i j : Str} : decide (V.str i = V.str j) = (i == j) := by
  rw [Bool.eq_iff_iff]
  simp
theorem dec_byt {i j : Array UInt8} : decide (V.byt i = V.byt j) = (i.toList == j.toList) := by
  rw [Bool.eq_iff_iff]
  cases i
  cases j
  simp
section
variable {X : Cx} {a b c : Expr} {ta tb tc : TE} {pos : Pos}
theorem fin_bl {pins : List (Addr × Obj)} {σ : St} {H : Hp} {s : Shared} {Q : VK} {k k' : Bool} (I : Inv X pins σ H s) (q : Q (.bl k) H) (e : k = k') : EP X pins σ Q (.bool k') s := by
  subst e
  exact ⟨.bl k, H, I, rfl, q⟩
theorem op_eq : OpR X (compareOp .Eq) rEq := by
  intro pins s σ H x y v u Q I rx ry h
  obtain ⟨hs, q⟩ := h
  cases x with
  | non =>
    cases rx
    cases y with
    | non => cases ry; exact PySem.EqNone.eq_none_none (fin_bl I q (by simp))
    | bl j => cases ry; exact PySem.EqNone.eq_none_bool (fin_bl I q (by simp))
    | int j => obtain ⟨t', rfl⟩ := ry; exact PySem.EqNone.eq_none_int (fin_bl I q (by simp))
    | str j => obtain ⟨t', rfl⟩ := ry; exact PySem.EqNone.eq_none_str (fin_bl I q (by simp))
    | _ => exact absurd (show false = true from hs) Bool.false_ne_true
  | bl i =>
    cases rx
    cases y with
    | non => cases ry; exact PySem.EqNone.eq_bool_none (fin_bl I q (by simp))
    | bl j => cases ry; exact eq_bool (fin_bl I q dec_bl)
    | str j => obtain ⟨t', rfl⟩ := ry; exact PySem.EqMixed.eq_bool_str (fin_bl I q (by simp))
    | _ => exact absurd (show false = true from hs) Bool.false_ne_true
  | int i =>
    obtain ⟨t, rfl⟩ := rx
    cases y with
    | non => cases ry; exact PySem.EqNone.eq_int_none (fin_bl I q (by simp))
    | int j => obtain ⟨t', rfl⟩ := ry; exact eq_int (fin_bl I q dec_int)
    | str j => obtain ⟨t', rfl⟩ := ry; exact PySem.EqMixed.eq_int_str (fin_bl I q (by simp))
    | _ => exact absurd (show false = true from hs) Bool.false_ne_true
  | str i =>
    obtain ⟨t, rfl⟩ := rx
    cases y with
    | non => cases ry; exact PySem.EqNone.eq_str_none (fin_bl I q (by simp))
    | bl j => cases ry; exact PySem.EqMixed.eq_str_bool (fin_bl I q (by simp))
    | int j => obtain ⟨t', rfl⟩ := ry; exact PySem.EqMixed.eq_str_int (fin_bl I q (by simp))
    | str j => obtain ⟨t', rfl⟩ := ry; exact eq_str (fin_bl I q dec_str)
    | _ => exact absurd (show false = true from hs) Bool.false_ne_true
  | byt i =>
    obtain ⟨t, rfl⟩ := rx
    cases y with
    | byt j => obtain ⟨t', rfl⟩ := ry; exact PySem.W.eq_bytes (fin_bl I q dec_byt)
    | _ => exact absurd (show false = true from hs) Bool.false_ne_true
  | _ => cases y <;> exact absurd (show false = true from hs) Bool.false_ne_true
theorem op_ne : OpR X (compareOp .NotEq) rNe := by
  intro pins s σ H x y v u Q I rx ry h
  obtain ⟨hs, q⟩ := h
  cases x with
  | non =>
    cases rx
    cases y with
    | non => cases ry; exact PySem.EqNone.ne_none_none (fin_bl I q (by simp))
    | bl j => cases ry; exact PySem.EqNone.ne_none_bool (fin_bl I q (by simp))
    | int j => obtain ⟨t', rfl⟩ := ry; exact PySem.EqNone.ne_none_int (fin_bl I q (by simp))
    | str j => obtain ⟨t', rfl⟩ := ry; exact PySem.EqNone.ne_none_str (fin_bl I q (by simp))
    | _ => exact absurd (show false = true from hs) Bool.false_ne_true
  | bl i =>
    cases rx
    cases y with
    | non => cases ry; exact PySem.EqNone.ne_bool_none (fin_bl I q (by simp))
    | bl j => cases ry; exact ne_bool (fin_bl I q (congrArg not dec_bl))
    | str j => obtain ⟨t', rfl⟩ := ry; exact PySem.EqMixed.ne_bool_str (fin_bl I q (by simp))
    | _ => exact absurd (show false = true from hs) Bool.false_ne_true
  | int i =>
    obtain ⟨t, rfl⟩ := rx
    cases y with
    | non => cases ry; exact PySem.EqNone.ne_int_none (fin_bl I q (by simp))
    | int j => obtain ⟨t', rfl⟩ := ry; exact ne_int (fin_bl I q (congrArg not dec_int))
    | str j => obtain ⟨t', rfl⟩ := ry; exact PySem.EqMixed.ne_int_str (fin_bl I q (by simp))
    | _ => exact absurd (show false = true from hs) Bool.false_ne_true
  | str i =>
    obtain ⟨t, rfl⟩ := rx
    cases y with
    | non => cases ry; exact PySem.EqNone.ne_str_none (fin_bl I q (by simp))
    | bl j => cases ry; exact PySem.EqMixed.ne_str_bool (fin_bl I q (by simp))
    | int j => obtain ⟨t', rfl⟩ := ry; exact PySem.EqMixed.ne_str_int (fin_bl I q (by simp))
    | str j => obtain ⟨t', rfl⟩ := ry; exact ne_str (fin_bl I q (congrArg not dec_str))
    | _ => exact absurd (show false = true from hs) Bool.false_ne_true
  | byt i =>
    obtain ⟨t, rfl⟩ := rx
    cases y with
    | byt j => obtain ⟨t', rfl⟩ := ry; exact PySem.W.ne_bytes (fin_bl I q (congrArg not dec_byt))
    | _ => exact absurd (show false = true from hs) Bool.false_ne_true
  | _ => cases y <;> exact absurd (show false = true from hs) Bool.false_ne_true
theorem op_lt : OpR X (compareOp .Lt) (rI0 fun i j => .bl (decide (i < j))) := opB0 fun _ _ _ _ _ _ _ q => lt_int q
theorem op_le : OpR X (compareOp .LtE) (rI0 fun i j => .bl (decide (i ≤ j))) := opB0 fun _ _ _ _ _ _ _ q => le_int q
theorem op_gt : OpR X (compareOp .Gt) (rI0 fun i j => .bl (decide (j < i))) := opB0 fun _ _ _ _ _ _ _ q => gt_int q
theorem op_ge : OpR X (compareOp .GtE) (rI0 fun i j => .bl (decide (j ≤ i))) := opB0 fun _ _ _ _ _ _ _ q => ge_int q
theorem op_isN : OpR X (compareOp .Is) (fun x y H Q => y = .non ∧ Q (.bl (decide (x = .non))) H) := by
  intro pins s σ H x y v u Q I rx ry h
  obtain ⟨rfl, q⟩ := h
  cases ry
  refine is_none_gen (fin_bl I q ?_)
  cases x <;> first
    | (cases rx; rfl)
    | (obtain ⟨t, rfl⟩ := rx; rfl)
theorem op_notN : OpR X (compareOp .IsNot) (fun x y H Q => y = .non ∧ Q (.bl (!decide (x = .non))) H) := by
  intro pins s σ H x y v u Q I rx ry h
  obtain ⟨rfl, q⟩ := h
  cases ry
  refine isnot_none_gen (fin_bl I q ?_)
  cases x <;> first
    | (cases rx; rfl)
    | (obtain ⟨t, rfl⟩ := rx; rfl)
theorem nomark (b : Expr) {op : CmpOp} (h : op ≠ .In := by decide) (h2 : op ≠ .NotIn := by decide) : behindInMarks op b = false := by
  have e1 : (op == CmpOp.In) = false := by cases op <;> first | rfl | exact absurd rfl h
  have e2 : (op == CmpOp.NotIn) = false := by cases op <;> first | rfl | exact absurd rfl h2
  cases b <;> simp [behindInMarks, e1, e2]
theorem pe_cmpR {op : CmpOp} {r : R2} (ho : OpR X (compareOp op) r) (ha : PE X a ta) (hb : PE X b tb) (hm : behindInMarks op b = false) : PE X (.Compare a [op] [b] pos) (tOp r ta tb) := by
  intro pins s σ H Q I h
  exact wpAny_Compare1 (binT ha hb I h fun v u s2 x y H2 I2 rx ry q => ho pins s2 σ H2 x y v u Q I2 rx ry q) hm
def tTest (t : TE) : TT := fun σ H Q => t σ H fun x H' => ∃ k, x = .bl k ∧ Q k H'
theorem pt_cmpR {op : CmpOp} {r : R2} (ho : OpR X (compareOp op) r) (ha : PE X a ta) (hb : PE X b tb) (hm : behindInMarks op b = false) : PT X (.Compare a [op] [b] pos) (tTest (tOp r ta tb)) := by
  intro pins s σ H Q I h
  refine wpAny_isTrue_Compare1 (thn (ha pins s σ H _ I h) fun v s1 ⟨x, H1, I1, r1, q1⟩ => thn (hb pins s1 σ H1 _ I1 q1) fun u s2 ⟨y, H2, I2, r2, q2⟩ =>
    thn (ho pins s2 σ H2 x y v u _ I2 r1 r2 q2) fun c s3 ⟨z, H3, I3, r3, k, e, q3⟩ => ?_) hm
  subst e
  cases r3
  exact wpAny_truthy_bool ⟨H3, I3, q3⟩
def tChain (r r' : R2) (ta tb tc : TE) : TE := fun σ H Q => ta σ H fun x H1 => tb σ H1 fun y H2 => r x y H2 fun z H3 => ∃ k, z = .bl k ∧
  (if k = true then tc σ H3 fun w' H4 => r' y w' H4 Q else Q (.bl false) H3)
theorem pe_chain {op op' : CmpOp} {r r' : R2} (ho : OpR X (compareOp op) r) (ho' : OpR X (compareOp op') r') (ha : PE X a ta) (hb : PE X b tb) (hc : PE X c tc)
    (hm : lastMarks [op, op'] [b, c] = false := by with_unfolding_all rfl) : PE X (.Compare a [op, op'] [b, c] pos) (tChain r r' ta tb tc) := by
  intro pins s σ H Q I h
  refine Compare_chain (thn (ha pins s σ H _ I h) fun v s1 ⟨x, H1, I1, r1, q1⟩ => chain_link (thn (hb pins s1 σ H1 _ I1 q1) fun u s2 ⟨y, H2, I2, r2, q2⟩ =>
    thn (ho pins s2 σ H2 x y v u _ I2 r1 r2 q2) fun d s3 ⟨z, H3, I3, r3, k, e, q3⟩ => ?_)) hm
  subst e
  cases r3
  refine wpAny_truthy_bool ?_
  cases k with
  | false => exact ite_ff ⟨.bl false, H3, I3, rfl, q3⟩
  | true => exact ite_tt (chain_last (thn (hc pins s3 σ H3 _ I3 q3) fun w' s4 ⟨z', H4, I4, r4, q4⟩ => ho' pins s4 σ H4 y z' u w' Q I4 r2 r4 q4))
theorem line63 : (sizeLine : Nat) < 2 ^ 63 := by rw [sizeLine_eq]; decide
theorem vals1 {x : V} {us : List Value} (r : Vals [x] us) : ∃ u, us = [u] ∧ RelV x u := by
  cases r with
  | cons r1 r2 => cases r2; exact ⟨_, rfl, r1⟩
theorem vals2 {x y : V} {us : List Value} (r : Vals [x, y] us) : ∃ u w', us = [u, w'] ∧ RelV x u ∧ RelV y w' := by
  cases r with
  | cons r1 r2 =>
    cases r2 with
    | cons r3 r4 => cases r4; exact ⟨_, _, rfl, r1, r3⟩
theorem call_max2 (hc : X.calm = true) : CallR X (.builtin "max") (fun xs H Q => ∃ i j, xs = [.int i, .int j] ∧ Q (.int (if j > i then j else i)) H) := by
  intro pins s σ H xs us Q I r h
  obtain ⟨i, j, rfl, q⟩ := h
  obtain ⟨u, w', rfl, ⟨t, rfl⟩, ⟨t', rfl⟩⟩ := vals2 r
  refine max_two_ints (I.ok.hd hc) fun h' tk k => ⟨_, H, I.kept k, ?_, q⟩
  by_cases hj : j > i
  · rw [if_pos hj, if_pos hj]; exact ⟨_, rfl⟩
  · rw [if_neg hj, if_neg hj]; exact ⟨_, rfl⟩
theorem call_min2 (hc : X.calm = true) : CallR X (.builtin "min") (fun xs H Q => ∃ i j, xs = [.int i, .int j] ∧ Q (.int (if j < i then j else i)) H) := by
  intro pins s σ H xs us Q I r h
  obtain ⟨i, j, rfl, q⟩ := h
  obtain ⟨u, w', rfl, ⟨t, rfl⟩, ⟨t', rfl⟩⟩ := vals2 r
  refine min_two_ints (I.ok.hd hc) fun h' tk k => ⟨_, H, I.kept k, ?_, q⟩
  by_cases hj : j < i
  · rw [if_pos hj, if_pos hj]; exact ⟨_, rfl⟩
  · rw [if_neg hj, if_neg hj]; exact ⟨_, rfl⟩
end
end L2
namespace L2
open PySem PySem.Spec PyProof.Rows
structure ObjM (h : Heap) (x dx C : Addr) (mA : Str → Option Value) : Prop where
  obj : h.get? x = some (PySem.W.instObj C dx)
  ns : h.Ns1 dx mA
  ne : dx ≠ x
theorem lookIn_ns {h : Heap} {dx : Addr} {mA : Str → Option Value} (n : h.Ns1 dx mA) : ∃ od, h.get? dx = some od ∧ ∀ name, PySem.W.lookIn name od = some (mA name) := by
  obtain ⟨o, es, ep, ho, hd, hk, _, hm⟩ := n
  refine ⟨o, ho, fun name => ?_⟩
  have e := hm name
  unfold nsFind findBy at e
  rw [← Array.find?_toList] at e
  unfold PySem.W.lookIn
  rw [hd]
  dsimp only
  split
  · rename_i y q
    rw [q] at e
    exact congrArg some e
  · rename_i q
    rw [q] at e
    have a : es.toList.any (·.refKey) = false := by
      rw [List.any_eq_false]
      intro y hy
      obtain ⟨z, t, hkey⟩ := hk y (Array.mem_toList_iff.mp hy)
      simp [DictEntry.refKey, hkey]
    have a' : ¬ es.toList.any (·.refKey) = true := by rw [a]; exact Bool.false_ne_true
    rw [if_neg a']
    exact congrArg some e
theorem ObjM.look {h : Heap} {x dx C : Addr} {mA : Str → Option Value} (I : ObjM h x dx C mA) : ∃ od, PySem.W.InstAt h x (PySem.W.instObj C dx) C (some od) ∧ ∀ name, PySem.W.lookIn name od = some (mA name) :=
  let ⟨od, ho, hl⟩ := lookIn_ns I.ns
  ⟨od, ⟨I.obj, rfl, rfl, ho⟩, hl⟩
section
variable {prog : Program} {w : World} {A : Around} {E : Value → Shared → Prop} {s : Shared} {K : PySem.W.Frag} {x dx C f : Addr} {mA : Str → Option Value} {name : Str} {v : Value}
theorem get_map {expr : Bool} {Q : Value → Shared → Prop} (X : K.In s.heap) (I : ObjM s.heap x dx C mA) (hg : PySem.W.plainGet K C name = true) (hh : PySem.W.hasDictIn K C = true)
    (ha : PySem.W.findIn K (.ref C) name = some none) (hv : mA name = some v) (hv' : PySem.W.handedIn v = true) (h : Q v { s with toks := s.toks + 1 }) :
    wpAny (model prog w) A (getAttr (.ref x) name expr) Q E s := by
  obtain ⟨od, J, hl⟩ := I.look
  exact PySem.W.get_value X J (PySem.W.plainGet_of hg).1 (PySem.W.findObj_own hh ha rfl (by rw [hl, hv])) hv' h
theorem get_meth {pl : Sem Bool} {Q : Value × List Value → Shared → Prop} (X : K.In s.heap) (I : ObjM s.heap x dx C mA) (hg : PySem.W.plainGet K C name = true)
    (hf : PySem.W.findIn K (.ref C) name = some (some (.ref f))) (ht : PySem.W.isFn K (.ref f) = true) (hv : mA name = none) (h : Q (.ref f, [.ref x]) s) :
    wpAny (model prog w) A (getMethod (.ref x) name pl) Q E s := by
  obtain ⟨od, J, hl⟩ := I.look
  exact PySem.W.method_fn X J (PySem.W.plainGet_of hg).1 (PySem.W.plainGet_of hg).2 hf (beq_iff_eq.mp ht) (by show (PySem.W.lookIn name od).map (·.isSome) = some false; rw [hl, hv]; rfl) h
theorem set_map {ns : List Str} {Q : Unit → Shared → Prop} (X : K.In s.heap) (I : ObjM s.heap x dx C mA)
    (hs : PySem.W.findIn K (.ref C) "__setattr__" = some (some (.builtin "object.__setattr__"))) (hp : PySem.W.plainOver K C = true) (ht : PySem.W.takerIn K C name = some none) (hh : PySem.W.hasDictIn K C = true)
    (hw : PySem.Within mA ns) (hsz : ns.length ≤ sizeLine)
    (h : ∀ h', ObjM h' x dx C (fun y => if y = name then some v else mA y) → Heap.SameBut dx s.heap h' → Q () { s with heap := h', toks := s.toks + 2 }) :
    wpAny (model prog w) A (setAttr (.ref x) name v) Q E s := by
  obtain ⟨od, J, hl⟩ := I.look
  refine PySem.W.set_plain X J hs (PySem.W.osa_open (s := { s with toks := s.toks + 1 }) (r := none) X J hp ht fun b => ?_)
  obtain ⟨cd, hc, hd'⟩ := PySem.W.any_some hh
  have hx : s.heap.get? x = some ⟨.ref C, some dx, .plain, #[]⟩ := I.obj
  refine wpAny_bind (wpAny_pure (wpAny_bind (wpAny_bind (wpAny_loadPart hx (wpAny_bind (PySem.W.Looks.here (s := { s with toks := s.toks + 1 }) (PySem.W.looks_clsIn X hc) ?_))))))
  rw [hd']
  refine wpAny_pure (a := some dx) (wpAny_bind (wpAny_pure (wpAny_bind ?_)))
  refine wpAny_nsSet1 (s := { s with toks := s.toks + 1 }) I.ns fun h' hn2 hs2 => ?_
  obtain ⟨oD, esD, epD, hoD, hdD, hcD⟩ := hn2.count (PySem.Within.cons name v hw)
  refine wpAny_bind (wpAny_lookBehind hoD (by rw [hdD]; exact pastItsLine_dict (Nat.le_trans hcD (by rw [List.length_cons]; omega))) ?_)
  exact wpAny_pure (h _ ⟨(hs2.2 _ (Ne.symm I.ne)).trans I.obj, hn2, I.ne⟩ hs2)
theorem make_map {R : Result → Shared → Prop} {vs : List Value} {kw : List (Str × Value)} (X : K.In s.heap) (hm : PySem.W.makesIn K C = true)
    (hi : PySem.W.findIn K (.ref C) "__init__" = some (some (.ref f))) (hf : PySem.W.typeIn K (.ref f) = some (.type "function"))
    (h : codeAny (model prog w) (A.under (.builtin "type.__call__" ⟨.ref C :: vs, kw⟩)) (.call (.ref f) ⟨.ref (s.heap.objs.size + 1) :: vs, kw⟩) (PySem.W.InitBack (s.heap.objs.size + 1) R)
      { s with heap := (s.heap.push PySem.W.emptyDict).push (PySem.W.instObj C s.heap.objs.size) }) :
    codeAny (model prog w) A (.call (.ref C) ⟨vs, kw⟩) R s := by
  obtain ⟨hh, g, d, t, os⟩ := s
  exact PySem.W.make_core (PySem.W.makes_of X hm) (PySem.W.looks_findIn X hi) (fun self => PySem.W.bind_fn X self hf) (.inl rfl) h
end
def putF (f : Str) (v : V) : List (Str × V) → List (Str × V)
  | [] => [(f, v)]
  | (g, x) :: r => if g = f then (g, v) :: r else (g, x) :: putF f v r
theorem lookup_putF (f g : Str) (v : V) : ∀ fs : List (Str × V), (putF f v fs).lookup g = if g = f then some v else fs.lookup g
  | [] => by
    show List.lookup g [(f, v)] = _
    by_cases h : g = f
    · have hb : (g == f) = true := beq_iff_eq.mpr h
      simp only [List.lookup, hb, if_pos h]
    · have hb : (g == f) = false := beq_eq_false_iff_ne.mpr h
      simp only [List.lookup, hb, if_neg h]
  | (k, x) :: r => by
    have ih := lookup_putF f g v r
    rw [show putF f v ((k, x) :: r) = (if k = f then (k, v) :: r else (k, x) :: putF f v r) from rfl]
    by_cases hk : k = f
    · rw [if_pos hk]
      by_cases h : g = k
      · have hb : (g == k) = true := beq_iff_eq.mpr h
        simp only [List.lookup, hb, if_pos (h.trans hk)]
      · have hb : (g == k) = false := beq_eq_false_iff_ne.mpr h
        simp only [List.lookup, hb, if_neg (fun e : g = f => h (e.trans hk.symm))]
    · rw [if_neg hk]
      by_cases h : g = k
      · have hb : (g == k) = true := beq_iff_eq.mpr h
        simp only [List.lookup, hb, if_neg (fun e : g = f => hk (h.symm.trans e))]
      · have hb : (g == k) = false := beq_eq_false_iff_ne.mpr h
        simp only [List.lookup, hb]
        exact ih
theorem keys_putF (f : Str) (v : V) : ∀ fs : List (Str × V), f ∈ (putF f v fs).map (·.1) ∧ ∀ g, g ∈ fs.map (·.1) → g ∈ (putF f v fs).map (·.1)
  | [] => ⟨by simp [putF], fun g h => by simp at h⟩
  | (k, x) :: r => by
    obtain ⟨i1, i2⟩ := keys_putF f v r
    rw [show putF f v ((k, x) :: r) = (if k = f then (k, v) :: r else (k, x) :: putF f v r) from rfl]
    by_cases hk : k = f
    · rw [if_pos hk]
      subst hk
      exact ⟨by simp, fun g h => by simpa using h⟩
    · rw [if_neg hk]
      refine ⟨?_, fun g h => ?_⟩
      · rw [List.map_cons]
        exact List.mem_cons_of_mem _ i1
      · rw [List.map_cons] at h ⊢
        rcases List.mem_cons.mp h with e | e
        · exact List.mem_cons.mpr (.inl e)
        · exact List.mem_cons_of_mem _ (i2 g e)
theorem length_putF (f : Str) (v : V) : ∀ fs : List (Str × V), (putF f v fs).length ≤ fs.length + 1
  | [] => by simp [putF]
  | (k, x) :: r => by
    have ih := length_putF f v r
    rw [show putF f v ((k, x) :: r) = (if k = f then (k, v) :: r else (k, x) :: putF f v r) from rfl]
    by_cases hk : k = f
    · rw [if_pos hk, List.length_cons, List.length_cons]; omega
    · rw [if_neg hk, List.length_cons, List.length_cons]; omega
theorem RelO.some_of {v : V} {o : Option Value} (r : RelO (some v) o) : ∃ u, o = some u ∧ RelV v u := by
  cases o with
  | none => exact (show False from r).elim
  | some u => exact ⟨u, rfl, r⟩
theorem RelO.none_of {o : Option Value} (r : RelO none o) : o = none := by
  cases o with
  | none => rfl
  | some u => exact (show False from r).elim
theorem handed_of {v : V} {u : Value} (r : RelV v u) : PySem.W.handedIn u = true := by
  cases v with
  | non => cases (show u = Value.none from r); rfl
  | bl b => cases (show u = Value.bool b from r); rfl
  | int i => obtain ⟨t, e⟩ := (show ∃ t, u = Value.int i t from r); cases e; rfl
  | str x => obtain ⟨t, e⟩ := (show ∃ t, u = Value.str x t from r); cases e; rfl
  | byt b => obtain ⟨t, e⟩ := (show ∃ t, u = Value.bytes b t from r); cases e; rfl
  | flt b => obtain ⟨t, e⟩ := (show ∃ t, u = Value.float b t from r); cases e; rfl
  | ref a => cases (show u = Value.ref a from r); rfl
  | ty n => cases (show u = Value.type n from r); rfl
section
variable {P : Program} {w : World} {H H' : Hp} {h h' : Heap} {a C dx : Addr} {fs fs' : List (Str × V)}
theorem ins_get (hok : HOk P w H h) (e : H a = some (.ins C dx fs)) : ∃ mA, ObjM h a dx C mA ∧ (∀ f, RelO (fs.lookup f) (mA f)) ∧ PySem.Within mA (fs.map (·.1)) ∧ fs.length ≤ 1000 ∧ H dx = some (.own a) := by
  obtain ⟨d, z, ne, ob, mA, n, r, q⟩ := (show ObjOk P w H h a (.ins C dx fs) from hok a _ e)
  exact ⟨mA, ⟨ob, n, ne⟩, r, q, z, d⟩
end
structure Cls (K : PySem.W.Frag) (C : Addr) : Prop where
  pg : PySem.W.plainGet K C Str.empty = true
  hd : PySem.W.hasDictIn K C = true
  po : PySem.W.plainOver K C = true
  sa : PySem.W.findIn K (.ref C) "__setattr__" = some (some (.builtin "object.__setattr__"))
theorem Cls.get {K : PySem.W.Frag} {C : Addr} (c : Cls K C) (f : Str) : PySem.W.plainGet K C f = true := c.pg
def NoAttr (K : PySem.W.Frag) (C : Addr) (f : Str) : Prop := PySem.W.findIn K (.ref C) f = some none
theorem NoAttr.taker {K : PySem.W.Frag} {C : Addr} {f : Str} (n : NoAttr K C f) : PySem.W.takerIn K C f = some none := by
  unfold PySem.W.takerIn
  rw [show PySem.W.findIn K (.ref C) f = some none from n]
  rfl
structure Con (K : PySem.W.Frag) (C : Addr) (f : Str) (v : V) (u : Value) : Prop where
  at_ : PySem.W.findIn K (.ref C) f = some (some u)
  rel : RelV v u
  get : PySem.W.specialIn K u "__get__" = some none
  cp : PySem.W.copiedNames.contains f = false
structure Meth (K : PySem.W.Frag) (C : Addr) (m : Str) (f : Addr) : Prop where
  at_ : PySem.W.findIn K (.ref C) m = some (some (.ref f))
  fn : PySem.W.isFn K (.ref f) = true
  kp : PySem.W.keepIn K (.ref f) = true
section
variable {X : Cx} {pins : List (Addr × Obj)} {σ : St} {H : Hp} {s : Shared} {a C dx : Addr} {fs : List (Str × V)} {f : Str} {v : V} {A : Around} {E : Value → Shared → Prop}
theorem getattr_ok {b : Bool} {Q : Value → Shared → Prop} (I : Inv X pins σ H s) (e : H a = some (.ins C dx fs)) (c : Cls X.K C) (n : NoAttr X.K C f) (l : fs.lookup f = some v)
    (h : ∀ u s', Inv X pins σ H s' → RelV v u → Q u s') : wpAny (model X.prog X.w) A (getAttr (.ref a) f b) Q E s := by
  obtain ⟨mA, O, r, _, _, _⟩ := ins_get I.hok e
  obtain ⟨u, hu, ru⟩ := RelO.some_of (v := v) (o := mA f) (by rw [← l]; exact r f)
  exact get_map I.kIn O (c.get f) c.hd n hu (handed_of ru) (h u _ (I.tok _) ru)
theorem getmeth_ok {m : Str} {g : Addr} {pl : Sem Bool} {Q : Value × List Value → Shared → Prop} (I : Inv X pins σ H s) (e : H a = some (.ins C dx fs)) (c : Cls X.K C) (k : Meth X.K C m g) (l : fs.lookup m = none)
    (h : Q (.ref g, [.ref a]) s) : wpAny (model X.prog X.w) A (getMethod (.ref a) m pl) Q E s := by
  obtain ⟨mA, O, r, _, _, _⟩ := ins_get I.hok e
  have hn : mA m = none := RelO.none_of (by rw [← l]; exact r m)
  exact get_meth I.kIn O (c.get m) k.at_ k.fn hn h
theorem setattr_ok {y : V} {u : Value} {Q : Unit → Shared → Prop} (I : Inv X pins σ H s) (e : H a = some (.ins C dx fs)) (c : Cls X.K C) (n : NoAttr X.K C f) (hl : fs.length < 1000) (ry : RelV y u)
    (h : ∀ s', Inv X pins σ (upd H a (.ins C dx (putF f y fs))) s' → Q () s') : wpAny (model X.prog X.w) A (setAttr (.ref a) f u) Q E s := by
  obtain ⟨mA, O, r, wi, _, ho⟩ := ins_get I.hok e
  have hz : (fs.map (·.1)).length ≤ sizeLine := by rw [List.length_map, sizeLine_eq]; omega
  refine set_map I.kIn O c.sa c.po n.taker c.hd wi hz fun h' O' sb => h _ ?_
  have hd : ∃ o, h'.get? dx = some o := let ⟨o, _, _, e', _⟩ := O'.ns; ⟨o, e'⟩
  refine I.write (x := a) (e := dx) (by rw [e]; exact True.intro) (.inr ho) (fun b q hb z => (sb.2 b hb).trans z) hd ?_
  refine ⟨by rw [upd_ne O.ne]; exact ho, ?_, O.ne, O'.obj, _, O'.ns, fun g => ?_, fun g hg => ?_⟩
  · have := length_putF f y fs; omega
  · show RelO ((putF f y fs).lookup g) (if g = f then some u else mA g)
    rw [lookup_putF]
    by_cases q : g = f
    · rw [if_pos q, if_pos q]; exact ry
    · rw [if_neg q, if_neg q]; exact r g
  · by_cases q : g = f
    · rw [q]; exact (keys_putF f y fs).1
    · refine (keys_putF f y fs).2 g (wi g fun z => hg ?_)
      show (if g = f then some u else mA g) = none
      rw [if_neg q]; exact z
theorem Inv.made (I : Inv X pins σ H s) : Inv X pins σ (upd (upd H s.heap.objs.size (.own (s.heap.objs.size + 1))) (s.heap.objs.size + 1) (.ins C s.heap.objs.size []))
    { s with heap := (s.heap.push PySem.W.emptyDict).push (PySem.W.instObj C s.heap.objs.size) } := by
  have e1 : (s.heap.push PySem.W.emptyDict).get? s.heap.objs.size = some PySem.W.emptyDict := Heap.get?_push_size s.heap rfl
  have e2 : ((s.heap.push PySem.W.emptyDict).push (PySem.W.instObj C s.heap.objs.size)).get? (s.heap.objs.size + 1) = some (PySem.W.instObj C s.heap.objs.size) := by
    have := Heap.get?_push_size (s.heap.push PySem.W.emptyDict) (o := PySem.W.instObj C s.heap.objs.size) rfl
    rwa [Heap.size_push] at this
  have e3 : (s.heap.push PySem.W.emptyDict).Ns s.heap.objs.size (fun _ => none) := ⟨PySem.W.emptyDict, #[], _, e1, rfl, (fun e he => absurd he (by simp)), fun _ => rfl⟩
  have I1 := I.laid (a := s.heap.objs.size) (o := .own (s.heap.objs.size + 1)) (h' := s.heap.push PySem.W.emptyDict) (t' := s.toks) (fun b u q => Heap.get?_push_of_some _ q) (Nat.le_refl _) ⟨_, e1⟩
  refine I1.laid (a := s.heap.objs.size + 1) (o := .ins C s.heap.objs.size []) (t' := s.toks) (fun b u q => Heap.get?_push_of_some _ q) (Nat.le_of_eq (Heap.size_push _ _)) ?_
  have ne : s.heap.objs.size ≠ s.heap.objs.size + 1 := Nat.ne_of_lt (Nat.lt_succ_self _)
  refine ⟨by rw [upd_ne ne, upd_same], Nat.zero_le _, ne, e2, fun _ => none, (Heap.Ns1.of_empty e3).at fun o q => Heap.get?_push_of_some _ q, fun _ => True.intro, fun y hy => absurd rfl hy⟩
theorem attr_of {prog : Program} {w : World} {env : Env} {e : Expr} {f : Str} {pos : Pos} {s : Shared} {Q : Value → Shared → Prop} (hb : attributeBase e f env (eval e env) = eval e env)
    (h : wpAny (model prog w) A (eval e env) (fun o s₁ => wpAny (model prog w) A (getAttr o f true) Q E s₁) E s) : wpAny (model prog w) A (eval (.Attribute e f pos) env) Q E s :=
  Attribute_any_ h (by rw [arm_eval_Attribute, hb])
end
def tFld (K : PySem.W.Frag) (ta : TE) (f : Str) : TE := fun σ H Q => ta σ H fun x H1 => ∃ a C dx fs v, x = .ref a ∧ H1 a = some (.ins C dx fs) ∧ Cls K C ∧ NoAttr K C f ∧ fs.lookup f = some v ∧ Q v H1
def sFld (K : PySem.W.Frag) (ta tv : TE) (f : Str) : TS := fun D σ H => tv σ H fun y H1 => ta σ H1 fun x H2 => ∃ a C dx fs, x = .ref a ∧ H2 a = some (.ins C dx fs) ∧ Cls K C ∧ NoAttr K C f ∧ fs.length < 1000 ∧
  D.nx σ (upd H2 a (.ins C dx (putF f y fs)))
section
variable {X : Cx} {o e value : Expr} {f : Str} {pos pos' tpos : Pos} {ta tv : TE}
theorem pe_fld (he : PE X e ta) (hb : attributeBase e f X.env (eval e X.env) = eval e X.env) : PE X (.Attribute e f pos) (tFld X.K ta f) := by
  intro pins s σ H Q I h
  refine attr_of hb (thn (he pins s σ H _ I h) fun u s1 ⟨x, H1, I1, rx, a, C, dx, fs, v, ex, ea, c, n, l, q⟩ => ?_)
  subst ex
  obtain rfl : u = Value.ref a := rx
  exact getattr_ok I1 ea c n l fun u' s2 I2 ru => ⟨v, H1, I2, ru, q⟩
theorem ps_fld (ha : PE X o ta) (hv : PE X value tv) (hs : swapsWith value (some (.Attribute o f pos')) pos.line X.env = pure false) : PS X (.Assign [.Attribute o f pos'] value pos) (sFld X.K ta tv f) := by
  intro pins s σ H D I h
  refine plainObj_wpAny_Assign_Attribute (thn (hv pins s σ H _ I h) fun u s1 ⟨y, H1, I1, ry, q⟩ => thn (ha pins s1 σ H1 _ I1 q) fun ov s2 ⟨x, H2, I2, rx, a, C, dx, fs, ex, ea, c, n, l, q2⟩ => ?_) hs
  subst ex
  obtain rfl : ov = Value.ref a := rx
  exact setattr_ok I2 ea c n l ry fun s3 I3 => ⟨σ, _, I3, q2⟩
end
section
variable {X : Cx} {pins : List (Addr × Obj)} {σ : St} {H : Hp} {s : Shared} {A : Around} {E : Value → Shared → Prop} {Q : Value → Shared → Prop} {c : Value} {b : Bool}
inductive TyOf (K : PySem.W.Frag) (H : Hp) : V → Value → Prop where
  | non : TyOf K H .non (.type "NoneType")
  | bl (x : Bool) : TyOf K H (.bl x) (.type "bool")
  | int (i : Int) : TyOf K H (.int i) (.type "int")
  | str (x : Str) : TyOf K H (.str x) (.type "str")
  | flt (x : UInt64) : TyOf K H (.flt x) (.type "float")
  | lst {a : Addr} {xs : List V} (e : H a = some (.lst xs)) : TyOf K H (.ref a) (.type "list")
  | frz {a : Addr} {o : Obj} {xs : List V} (e : H a = some (.frz o (.lst xs))) : TyOf K H (.ref a) (.type "list")
  | tup {a : Addr} {xs : List V} (e : H a = some (.tup xs)) : TyOf K H (.ref a) (.type "tuple")
  | dK {a : Addr} {kvs : List (Key × V)} (e : H a = some (.dK kvs)) : TyOf K H (.ref a) (.type "dict")
  | dT {a : Addr} {kvs : List (List Key × V)} (e : H a = some (.dT kvs)) : TyOf K H (.ref a) (.type "dict")
  | ins {a C dx : Addr} {fs : List (Str × V)} (e : H a = some (.ins C dx fs)) (cl : Cls K C) (ha : PySem.W.findIn K (.ref C) "__class__" = some (some (.builtin "object.__class__")))
      (hn : PySem.W.specialIn K (.builtin "object.__class__") "__get__" = some (some (.builtin "getset_descriptor.__get__"))) (htk : PySem.W.takesIn K (.builtin "object.__class__") = some true)
      (hm : PySem.W.mroIn K C (.type "object") = some true) : TyOf K H (.ref a) (.ref C)
theorem isinst_ok {x : V} {u t : Value} (I : Inv X pins σ H s) (rx : RelV x u) (ty : TyOf X.K H x t) (e : PySem.W.kitOne X.K t c = some b) (h : ∀ tk, Q (.bool b) { s with toks := tk }) :
    wpAny (model X.prog X.w) A (call (.builtin "isinstance") [u, c]) Q E s := by
  cases ty with
  | non => cases (show u = Value.none from rx); exact PySem.W.kia_one PySem.W.kitx_none I.kIn True.intro e (fun z => nomatch z) h
  | bl y => cases (show u = Value.bool y from rx); exact PySem.W.kia_one PySem.W.kitx_bool I.kIn True.intro e (fun z => nomatch z) h
  | int i => obtain ⟨t, q⟩ := (show ∃ t, u = Value.int i t from rx); cases q; exact PySem.W.kia_one PySem.W.kitx_int I.kIn True.intro e (fun z => nomatch z) h
  | str y => obtain ⟨t, q⟩ := (show ∃ t, u = Value.str y t from rx); cases q; exact PySem.W.kia_one PySem.W.kitx_str I.kIn True.intro e (fun z => nomatch z) h
  | flt y => obtain ⟨t, q⟩ := (show ∃ t, u = Value.float y t from rx); cases q; exact PySem.W.kia_one PySem.W.kitx_float I.kIn True.intro e (fun z => nomatch z) h
  | @lst a xs ea =>
    cases (show u = Value.ref a from rx)
    obtain ⟨_, _, n, _, h1⟩ := (show ObjOk X.prog X.w H s.heap a (.lst xs) from I.hok a _ ea)
    exact PySem.W.kia_one PySem.W.kitx_list I.kIn ⟨_, h1, rfl⟩ e (fun z => nomatch z) h
  | @frz a ob xs ea =>
    cases (show u = Value.ref a from rx)
    obtain ⟨_, _, _, n, _, h1⟩ := (show ObjOk X.prog X.w H s.heap a (.frz ob (.lst xs)) from I.hok a _ ea)
    exact PySem.W.kia_one PySem.W.kitx_list I.kIn ⟨_, h1, rfl⟩ e (fun z => nomatch z) h
  | @tup a xs ea =>
    cases (show u = Value.ref a from rx)
    obtain ⟨_, _, _, p⟩ := (show ObjOk X.prog X.w H s.heap a (.tup xs) from I.hok a _ ea)
    obtain ⟨o, h1, h2, _⟩ := p
    exact PySem.W.kia_one PySem.W.kitx_tuple I.kIn ⟨o, h1, h2⟩ e (fun z => nomatch z) h
  | @dK a kvs ea =>
    cases (show u = Value.ref a from rx)
    obtain ⟨_, _, vs, _, p⟩ := (show ObjOk X.prog X.w H s.heap a (.dK kvs) from I.hok a _ ea)
    obtain ⟨o, es, ep, h1, h2, _⟩ := p
    exact PySem.W.kia_one PySem.W.kitx_dict I.kIn ⟨o, h1, h2.1⟩ e (fun z => nomatch z) h
  | @dT a kvs ea =>
    cases (show u = Value.ref a from rx)
    obtain ⟨_, _, xs, _, o, es, ep, h1, h2, _⟩ := (show ObjOk X.prog X.w H s.heap a (.dT kvs) from I.hok a _ ea)
    exact PySem.W.kia_one PySem.W.kitx_dict I.kIn ⟨o, h1, h2.1⟩ e (fun z => nomatch z) h
  | @ins a C dx fs ea cl ha hn htk hm =>
    cases (show u = Value.ref a from rx)
    obtain ⟨mA, O, _⟩ := ins_get I.hok ea
    obtain ⟨od, J, _⟩ := O.look
    exact PySem.W.kia_one (PySem.W.kitx_own (cl.get _) cl.hd ha hn htk hm) I.kIn J e (fun z => nomatch z) h
end
end L2
namespace L2
open PySem PySem.Spec PyProof.Rows
structure Room (k : Nat) (A : Around) : Prop where
  hd : A.handled = none
  dp : A.depth + 3 * k + 5 < recursionLimit
  un : A.units + 16 * k + 200 < cLine
theorem Room.mono {j k : Nat} {A : Around} (r : Room k A) (h : j ≤ k) : Room j A := ⟨r.hd, by have := r.dp; omega, by have := r.un; omega⟩
theorem Room.deeper {k : Nat} {A : Around} (r : Room (k + 1) A) (env : Env) : Room k (A.deeper env) :=
  ⟨r.hd, by have := r.dp; show A.depth + 1 + 3 * k + 5 < _; omega, by have := r.un; show A.units + 3 + 16 * k + 200 < _; omega⟩
theorem Room.in1 {k : Nat} {A : Around} (r : Room (k + 1) A) : Room k A.in1 :=
  ⟨r.hd, by have := r.dp; show A.depth + 3 * k + 5 < _; omega, by have := r.un; show A.units + 1 + 16 * k + 200 < _; omega⟩
theorem make_depth {A : Around} {C : Addr} {us : List Value} {kw : List (Str × Value)} : (A.under (.builtin "type.__call__" ⟨.ref C :: us, kw⟩)).depth = A.depth + 1 := by
  first | rfl | simp [Around.under, Code.weight, Code.isCreation, Code.isGuard, Code.isCaller, Code.frames, Code.isFrame, guardIds]
theorem make_units {A : Around} {C : Addr} {us : List Value} {kw : List (Str × Value)} : (A.under (.builtin "type.__call__" ⟨.ref C :: us, kw⟩)).units = A.units + 1 := by
  first | rfl | simp [Around.under, Code.cUnits, Code.frames, Code.isFrame]
theorem Room.make {k : Nat} {A : Around} (r : Room (k + 1) A) (C : Addr) (us : List Value) (kw : List (Str × Value)) : Room k (A.under (.builtin "type.__call__" ⟨.ref C :: us, kw⟩)) :=
  ⟨r.hd, by have := r.dp; rw [make_depth]; omega, by have := r.un; rw [make_units]; omega⟩
theorem Room.depth {k : Nat} {A : Around} (r : Room k A) : A.depth < recursionLimit := by have := r.dp; omega
theorem Room.units {k : Nat} {A : Around} (r : Room k A) : A.units + 64 < cLine := by have := r.un; omega
def tNil : TA := fun _ H Q => Q [] H
def tCons (ta : TE) (tr : TA) : TA := fun σ H Q => ta σ H fun x H1 => tr σ H1 fun xs H2 => Q (x :: xs) H2
section
variable {X : Cx} {e : Expr} {es : List Expr} {te : TE} {t : TA} {pos : Pos}
theorem pa_nil : PA X [] tNil := fun _ _ _ _ H Q I h => Calls.spliced_nil ⟨[], H, I, .nil, h⟩
theorem pa_cons (ha : PE X e te) (hr : PA X es t) (hs : starEach (e :: es) X.env = (false, eval e X.env) :: starEach es X.env := by rfl) : PA X (e :: es) (tCons te t) := by
  intro pos pins s σ H Q I h
  rw [hs]
  show wpAny _ _ (spliced ((false, eval e X.env) :: backTo pos (starEach es X.env))) _ _ s
  refine Calls.spliced_cons (thn (ha pins s σ H _ I h) fun u s1 ⟨x, H1, I1, r1, q1⟩ => ?_)
  exact thn (hr pos pins s1 σ H1 _ I1 q1) fun us s2 ⟨xs, H2, I2, r2, q2⟩ => ⟨x :: xs, H2, I2, .cons r1 r2, q2⟩
def tTup (t : TA) : TE := fun σ H Q => t σ H fun xs H1 => xs.length ≤ sizeLine ∧ ∀ p, H1 p = none → Q (.ref p) (upd H1 p (.tup xs))
def tLst (t : TA) : TE := fun σ H Q => t σ H fun xs H1 => xs.length ≤ sizeLine ∧ ∀ p, H1 p = none → Q (.ref p) (upd H1 p (.lst xs))
theorem pe_tup {x1} (h : PA X es t) : PE X (.Tuple es x1 pos) (tTup t) := by
  intro pins s σ H Q I hq
  refine wpAny_Tuple_spliced (thn (h pos pins s σ H _ I hq) fun us s1 ⟨xs, H1, I1, r, z, q⟩ => ⟨by rw [← r.length]; exact z, ?_⟩)
  have hf : H1 s1.heap.objs.size = none := I1.hok.fresh (Nat.le_refl _)
  refine ⟨.ref s1.heap.objs.size, upd H1 s1.heap.objs.size (.tup xs), I1.laid (t' := s1.toks) (fun b u e => Heap.get?_push_of_some _ e) (Nat.le_refl _) ?_, rfl, q _ hf⟩
  exact ⟨z, us, r, ⟨_, Heap.get?_push_size _ rfl, rfl, _, rfl⟩⟩
theorem pe_lst (h : PA X es t) : PE X (.List es pos) (tLst t) := by
  intro pins s σ H Q I hq
  refine wpAny_List_spliced (thn (h pos pins s σ H _ I hq) fun us s1 ⟨xs, H1, I1, r, z, q⟩ => ⟨by rw [← r.length]; exact z, ?_⟩)
  have hf : H1 s1.heap.objs.size = none := I1.hok.fresh (Nat.le_refl _)
  refine ⟨.ref s1.heap.objs.size, upd H1 s1.heap.objs.size (.lst xs), I1.laid (t' := s1.toks) (fun b u e => Heap.get?_push_of_some _ e) (Nat.le_refl _) ?_, rfl, q _ hf⟩
  exact ⟨z, us, 0, r, Heap.get?_push_size _ rfl⟩
end
abbrev Sp := List V → Hp → VK → XK → Prop
abbrev CXT := List Env → Hp → Shared → XK → Value → Shared → Prop
structure Env0 (P : Program) (w : World) (K : PySem.W.Frag) (mg : Str → Option Value) (base : Heap) (A : Around) (outer : List Env) (s : Shared) (H : Hp) : Prop where
  frames : A.frames = some outer
  mod : Mod K mg base
  bs : ∀ b o, base.get? b = some o → s.heap.get? b = some o ∧ H b = none
  bsz : base.objs.size ≤ s.heap.objs.size
  funs : s.heap.FunFrames base outer
  frf : ∀ b ∈ frs outer, H b = none
  hok : HOk P w H s.heap
  bare : AllBare s.gens
def CE (outer : List Env) (P : Program) (w : World) (H : Hp) (s : Shared) (Q : VK) (u : Value) (s' : Shared) : Prop :=
  ∃ v H', s'.os = s.os ∧ AllBare s'.gens ∧ Un (frs outer) [] H H' s.heap s'.heap ∧ HOk P w H' s'.heap ∧ RelV v u ∧ Q v H'
def CR (CX : CXT) (outer : List Env) (P : Program) (w : World) (H : Hp) (s : Shared) (Q : VK) (E : XK) (r : Result) (s' : Shared) : Prop :=
  match r with
  | .ok (.ret u) => CE outer P w H s Q u s'
  | .ok _ => False
  | .error e => CX outer H s E e s'
structure FnOk (P : Program) (w : World) (K : PySem.W.Frag) (mg : Str → Option Value) (base : Heap) (CX : CXT) (k : Nat) (f : Addr) (fd : FuncData) (ps : List Str) (sp : Sp) : Prop where
  len : ∀ vs H Q E, sp vs H Q E → vs.length = ps.length
  run : ∀ (A : Around) (outer : List Env) (s : Shared) (H : Hp) (args : Args) (us : List Value) (vs : List V) (Q : VK) (E : XK), Room k A → Env0 P w K mg base A outer s H → BindsTo s fd args (ps.zip us) → Vals vs us → sp vs H Q E →
    codeAny (model P w) A (.call (.ref f) args) (CR CX outer P w H s Q E) s
theorem FnOk.mono {P : Program} {w : World} {K : PySem.W.Frag} {mg : Str → Option Value} {base : Heap} {CX : CXT} {j k : Nat} {f : Addr} {fd : FuncData} {ps : List Str} {sp : Sp} (F : FnOk P w K mg base CX j f fd ps sp) (h : j ≤ k) :
    FnOk P w K mg base CX k f fd ps sp := ⟨F.len, fun A outer s H args us vs Q E hr => F.run A outer s H args us vs Q E (hr.mono h)⟩
theorem FnOk.imp {P : Program} {w : World} {K : PySem.W.Frag} {mg : Str → Option Value} {base : Heap} {CX : CXT} {k : Nat} {f : Addr} {fd : FuncData} {ps : List Str} {sp sp' : Sp} (F : FnOk P w K mg base CX k f fd ps sp)
    (h : ∀ vs H Q E, sp' vs H Q E → sp vs H Q E) : FnOk P w K mg base CX k f fd ps sp' :=
  ⟨fun vs H Q E q => F.len vs H Q E (h _ _ _ _ q), fun A outer s H args us vs Q E hr he hb hv hs => F.run A outer s H args us vs Q E hr he hb hv (h _ _ _ _ hs)⟩
theorem Env0.make {P : Program} {w : World} {K : PySem.W.Frag} {mg : Str → Option Value} {base : Heap} {A : Around} {outer : List Env} {s : Shared} {H : Hp} (e : Env0 P w K mg base A outer s H) (C : Addr) (us : List Value) (kw : List (Str × Value)) :
    Env0 P w K mg base (A.under (.builtin "type.__call__" ⟨.ref C :: us, kw⟩)) outer s H := ⟨by first | exact e.frames | (simpa [Around.under, Code.envs, Code.isFrame, pushEnvs] using e.frames), e.mod, e.bs, e.bsz, e.funs, e.frf, e.hok, e.bare⟩
theorem Env0.in1 {P : Program} {w : World} {K : PySem.W.Frag} {mg : Str → Option Value} {base : Heap} {A : Around} {outer : List Env} {s : Shared} {H : Hp} (e : Env0 P w K mg base A outer s H) :
    Env0 P w K mg base A.in1 outer s H := ⟨e.frames, e.mod, e.bs, e.bsz, e.funs, e.frf, e.hok, e.bare⟩
section
variable {X : Cx} {pins : List (Addr × Obj)} {σ : St} {H : Hp} {s s' : Shared}
theorem Inv.env0 (I : Inv X pins σ H s) : Env0 X.prog X.w X.K X.mg X.base X.A X.stack s H :=
  ⟨I.ok.frames, I.ok.mod, I.bs, Nat.le_trans I.ok.bsz I.sz, I.stack, I.stkFree, I.hok, I.bare⟩
theorem Inv.after {Q : VK} {u : Value} (I : Inv X pins σ H s) (h : CE X.stack X.prog X.w H s Q u s') : EP X pins σ Q u s' := by
  obtain ⟨v, H', os, bare, un, hok, r, q⟩ := h
  obtain ⟨hh, g, d, t, os'⟩ := s'
  obtain rfl : os' = s.os := os
  exact ⟨v, H', I.call (h' := hh) (g' := g) (d' := d) (t' := t) (ch := []) un hok bare (fun b z => absurd z (by simp)), r, q⟩
end
def tCall (sp : Sp) (dvs : List V) (E : XK) (t : TA) : TE := fun σ H Q => t σ H fun vs H1 => sp (vs ++ dvs) H1 Q E
def tMeth (C : Addr) (m : Str) (sp : Sp) (dvs : List V) (E : XK) (ta : TE) (t : TA) : TE := fun σ H Q => ta σ H fun x H1 => ∃ a dx fs, x = .ref a ∧ H1 a = some (.ins C dx fs) ∧ fs.lookup m = none ∧
  t σ H1 fun vs H2 => sp (x :: (vs ++ dvs)) H2 Q E
def tMake (C : Addr) (sp : Sp) (dvs : List V) (E : XK) (t : TA) : TE := fun σ H Q => t σ H fun vs H1 => ∀ x dx, H1 x = none → H1 dx = none → dx ≠ x →
  sp (.ref x :: (vs ++ dvs)) (upd (upd H1 dx (.own x)) x (.ins C dx [])) (fun v H2 => v = .non ∧ Q (.ref x) H2) E
def Binds (K : PySem.W.Frag) (fd : FuncData) (ps : List Str) (ds : List Value) : Prop :=
  ∀ (s : Shared) (us : List Value), K.In s.heap → (us ++ ds).length = ps.length → BindsTo s fd ⟨us, []⟩ (ps.zip (us ++ ds))
theorem Binds.all {K : PySem.W.Frag} {fd : FuncData} {ps : List Str} (h : ∀ us : List Value, us.length = ps.length → bindArgs fd ⟨us, []⟩ = pure (ps.zip us)) : Binds K fd ps [] := fun s us _ hl => by
  rw [List.append_nil] at hl ⊢
  exact .of_eq (h us hl)
def Passes (CX : CXT) (X : Cx) (E : XK) : Prop := ∀ (pins : List (Addr × Obj)) (σ : St) (H : Hp) (s : Shared) (e : Value) (s' : Shared), Inv X pins σ H s → CX X.stack H s E e s' → X.xe e s'
section
variable {X : Cx} {CX : CXT} {k : Nat} {f C : Addr} {fd : FuncData} {ps : List Str} {sp : Sp} {dvs : List V} {ds : List Value} {E : XK} {x m : Str} {p pos apos : Pos} {e o : Expr} {es : List Expr} {ta : TE} {t : TA}
theorem run_fn {pins : List (Addr × Obj)} {σ : St} {H : Hp} {s : Shared} {Q : VK} {us : List Value} {vs : List V} (F : FnOk X.prog X.w X.K X.mg X.base CX k f fd ps sp) (hr : Room k X.A) (hb : Binds X.K fd ps ds) (hd : Vals dvs ds) (hx : Passes CX X E)
    (I : Inv X pins σ H s) (r : Vals vs us) (h : sp (vs ++ dvs) H Q E) : wpAny (model X.prog X.w) X.A (call (.ref f) us) (EP X pins σ Q) X.xe s := by
  have r2 : Vals (vs ++ dvs) (us ++ ds) := r.append hd
  have hl : (us ++ ds).length = ps.length := by rw [← r2.length]; exact F.len _ _ _ _ h
  refine wpAny_call (codeAny_mono (F.run X.A X.stack s H ⟨us, []⟩ (us ++ ds) (vs ++ dvs) Q E hr I.env0 (hb s us I.kIn hl) r2 h) fun r s' hq => ?_)
  cases r with
  | error e => exact hx pins σ H s e s' I hq
  | ok fl =>
    cases fl with
    | ret u => exact I.after hq
    | next => exact False.elim hq
    | brk => exact False.elim hq
    | cont => exact False.elim hq
theorem pe_call (F : FnOk X.prog X.w X.K X.mg X.base CX k f fd ps sp) (hr : Room k X.A) (hg : Gl X x) (hm : X.mg x = some (.ref f)) (hk : PySem.W.keepIn X.K (.ref f) = true) (hb : Binds X.K fd ps ds) (hd : Vals dvs ds) (hx : Passes CX X E)
    (ha : PA X (e :: es) t) (hdb : (x == ("__debug__" : Str)) = false := by decide) (he : starEach (e :: es) X.env = (false, eval e X.env) :: starEach es X.env := by rfl) (hpl : (backTo pos (starEach es X.env)).any (·.1) = false := by rfl) :
    PE X (.Call (.Name x p) (e :: es) [] pos) (tCall sp dvs E t) := by
  intro pins s σ H Q I h
  refine wpAny_Call_Name_kw (ld_glob I hg hm ?_ hdb)
  refine PySem.W.callWith_K (h₀ := X.base) I.ok.mod.kin hk (thn (ha pos pins s σ H _ I h) fun us s1 ⟨vs, H1, I1, r, q⟩ => ⟨I1.kIn, ?_⟩) he hpl
  exact run_fn F hr hb hd hx I1 r q
theorem pe_meth {pl : Sem Bool} (he : PE X o ta) (c : Cls X.K C) (hm : Meth X.K C m f) (F : FnOk X.prog X.w X.K X.mg X.base CX k f fd ps sp) (hr : Room k X.A) (hb : Binds X.K fd ps ds) (hd : Vals dvs ds) (hx : Passes CX X E) (ha : PA X (e :: es) t)
    (hst : starEach (e :: es) X.env = (false, eval e X.env) :: starEach es X.env := by rfl) (hpl : (backTo pos (starEach es X.env)).any (·.1) = false := by rfl)
    (ht : eval (.Call (.Attribute o m apos) (e :: es) [] pos) X.env = (do
      let ov ← eval o X.env
      standAt apos.atName
      let (f, first) ← holding [ov] (getMethod ov m pl)
      callWith pos f first (backTo pos (starEach (e :: es) X.env)) (backToKw pos (keywordEach [] X.env))) := by rfl) :
    PE X (.Call (.Attribute o m apos) (e :: es) [] pos) (tMeth C m sp dvs E ta t) := by
  intro pins s σ H Q I h
  refine PySem.W.methodCall_KW (pl := pl) (thn (he pins s σ H _ I h) fun u s1 ⟨x, H1, I1, rx, a, dx, fs, ex, ea, l, q⟩ => ?_) ht
  subst ex
  obtain rfl : u = Value.ref a := rx
  refine getmeth_ok I1 ea c hm l ?_
  refine PySem.W.callWith_K (first := [.ref a]) (h₀ := X.base) I.ok.mod.kin hm.kp (thn (ha pos pins s1 σ H1 _ I1 q) fun us s2 ⟨vs, H2, I2, r, q2⟩ => ⟨I2.kIn, ?_⟩) hst hpl
  exact run_fn (us := .ref a :: us) (vs := .ref a :: vs) F hr hb hd hx I2 (.cons rfl r) q2
theorem pe_meth0 {pl : Sem Bool} (he : PE X o ta) (c : Cls X.K C) (hm : Meth X.K C m f) (F : FnOk X.prog X.w X.K X.mg X.base CX k f fd ps sp) (hr : Room k X.A) (hb : Binds X.K fd ps ds) (hd : Vals dvs ds) (hx : Passes CX X E)
    (ht : eval (.Call (.Attribute o m apos) [] [] pos) X.env = (do
      let ov ← eval o X.env
      standAt apos.atName
      let (f, first) ← holding [ov] (getMethod ov m pl)
      callWith pos f first (backTo pos (starEach [] X.env)) (backToKw pos (keywordEach [] X.env))) := by rfl) :
    PE X (.Call (.Attribute o m apos) [] [] pos) (tMeth C m sp dvs E ta tNil) := by
  intro pins s σ H Q I h
  refine PySem.W.methodCall_KW (pl := pl) (thn (he pins s σ H _ I h) fun u s1 ⟨x, H1, I1, rx, a, dx, fs, ex, ea, l, q⟩ => ?_) ht
  subst ex
  obtain rfl : u = Value.ref a := rx
  refine getmeth_ok I1 ea c hm l ?_
  exact PySem.W.callWith_K0 (first := [.ref a]) I1.kIn hm.kp (run_fn (us := [.ref a]) (vs := [.ref a]) F hr hb hd hx I1 (.cons rfl .nil) q)
structure Mk (K : PySem.W.Frag) (C f : Addr) : Prop where
  makes : PySem.W.makesIn K C = true
  init : PySem.W.findIn K (.ref C) "__init__" = some (some (.ref f))
  fn : PySem.W.isFn K (.ref f) = true
  kp : PySem.W.keepIn K (.ref C) = true
theorem run_make {pins : List (Addr × Obj)} {σ : St} {H : Hp} {s : Shared} {Q : VK} {us : List Value} {vs : List V} (M : Mk X.K C f) (F : FnOk X.prog X.w X.K X.mg X.base CX k f fd ps sp) (hr : Room (k + 1) X.A) (hb : Binds X.K fd ps ds) (hd : Vals dvs ds)
    (hx : Passes CX X E) (I : Inv X pins σ H s) (r : Vals vs us)
    (h : ∀ x dx, H x = none → H dx = none → dx ≠ x → sp (.ref x :: (vs ++ dvs)) (upd (upd H dx (.own x)) x (.ins C dx [])) (fun v H2 => v = .non ∧ Q (.ref x) H2) E) :
    wpAny (model X.prog X.w) X.A (call (.ref C) us) (EP X pins σ Q) X.xe s := by
  have hq := h (s.heap.objs.size + 1) s.heap.objs.size (I.hok.fresh (Nat.le_succ _)) (I.hok.fresh (Nat.le_refl _)) (Nat.ne_of_lt (Nat.lt_succ_self _))
  have I2 := Inv.made (C := C) I
  have r2 : Vals (V.ref (s.heap.objs.size + 1) :: (vs ++ dvs)) (Value.ref (s.heap.objs.size + 1) :: (us ++ ds)) := .cons rfl (r.append hd)
  have hl : (Value.ref (s.heap.objs.size + 1) :: us ++ ds).length = ps.length := by
    have e := r2.length
    rw [F.len _ _ _ _ hq] at e
    exact e.symm
  refine wpAny_call (make_map (f := f) I.kIn M.makes M.init (beq_iff_eq.mp M.fn) (codeAny_mono (F.run _ X.stack _ _ ⟨Value.ref (s.heap.objs.size + 1) :: us, []⟩ (Value.ref (s.heap.objs.size + 1) :: (us ++ ds)) _ _ E (hr.make C us [])
    (I2.env0.make C us []) (hb _ (Value.ref (s.heap.objs.size + 1) :: us) I2.kIn hl) r2 hq) fun r s' hq' => ?_))
  cases r with
  | error e => exact hx pins σ _ _ e s' I2 hq'
  | ok fl =>
    cases fl with
    | ret u =>
      obtain ⟨v, H', I3, rv, ev, q3⟩ := I2.after hq'
      subst ev
      exact ⟨rv, ⟨V.ref (s.heap.objs.size + 1), H', I3, rfl, q3⟩⟩
    | next => exact False.elim hq'
    | brk => exact False.elim hq'
    | cont => exact False.elim hq'
theorem pe_make (M : Mk X.K C f) (F : FnOk X.prog X.w X.K X.mg X.base CX k f fd ps sp) (hr : Room (k + 1) X.A) (hg : Gl X x) (hm : X.mg x = some (.ref C)) (hb : Binds X.K fd ps ds) (hd : Vals dvs ds) (hx : Passes CX X E)
    (ha : PA X (e :: es) t) (hdb : (x == ("__debug__" : Str)) = false := by decide) (he : starEach (e :: es) X.env = (false, eval e X.env) :: starEach es X.env := by rfl) (hpl : (backTo pos (starEach es X.env)).any (·.1) = false := by rfl) :
    PE X (.Call (.Name x p) (e :: es) [] pos) (tMake C sp dvs E t) := by
  intro pins s σ H Q I h
  refine wpAny_Call_Name_kw (ld_glob I hg hm ?_ hdb)
  refine PySem.W.callWith_K (h₀ := X.base) I.ok.mod.kin M.kp (thn (ha pos pins s σ H _ I h) fun us s1 ⟨vs, H1, I1, r, q⟩ => ⟨I1.kIn, ?_⟩) he hpl
  exact run_make M F hr hb hd hx I1 r q
end
section
variable {X : Cx} {CX : CXT} {k : Nat} {f C : Addr} {fd : FuncData} {ps ks : List Str} {sp : Sp} {E : XK} {x m : Str} {p pos apos kpos : Pos} {e o : Expr} {es : List Expr} {kws : List Keyword} {te ta : TE} {t tk : TA} {nm : Option Str}
structure KBinds (K : PySem.W.Frag) (fd : FuncData) (ps ks : List Str) (g : List Value → List Value → List Value) (gV : List V → List V → List V) : Prop where
  to : ∀ (s : Shared) (us ws : List Value), K.In s.heap → (g us ws).length = ps.length → BindsTo s fd ⟨us, ks.zip ws⟩ (ps.zip (g us ws))
  rel : ∀ {vs : List V} {us : List Value} {zs : List V} {ws : List Value}, Vals vs us → Vals zs ws → Vals (gV vs zs) (g us ws)
variable {g : List Value → List Value → List Value} {gV : List V → List V → List V}
end
structure FnScope (N P : List Str) (sc : Scope) : Prop where
  kind : sc.kind = .function
  co : sc.isCoroutine = false
  gen : sc.isGenerator = false
  nd : N.Nodup
  pre : N.take P.length = P
  par : ∀ x ∈ P, sc.names.lookup x = some .local ∨ sc.names.lookup x = some .cell
  nofree : ∀ y ∈ sc.names, y.2 ≠ .free
theorem bindL_out {kindOf : Str → Option NameKind} {x : Str} : ∀ {binds : List (Str × Value)} {m : Str → Option Value}, (∀ v, (x, v) ∉ binds) → bindL kindOf binds m x = m x
  | [], _, _ => rfl
  | (n, v) :: r, m, h => by
    unfold bindL
    rw [bindL_out fun w hw => h w (List.mem_cons_of_mem _ hw)]
    split
    · have : x ≠ n := by rintro rfl; exact h v List.mem_cons_self
      simp [this]
    · rfl
theorem bindC_out {kindOf : Str → Option NameKind} {x : Str} : ∀ {binds : List (Str × Value)} {m : Str → Option Value}, (∀ v, (x, v) ∉ binds) → bindC kindOf binds m x = m x
  | [], _, _ => rfl
  | (n, v) :: r, m, h => by
    unfold bindC
    rw [bindC_out fun w hw => h w (List.mem_cons_of_mem _ hw)]
    split
    · rfl
    · have : x ≠ n := by rintro rfl; exact h v List.mem_cons_self
      simp [this]
theorem bindL_get {kindOf : Str → Option NameKind} {x : Str} {v : Value} : ∀ {P : List Str} {vs : List Value} {i : Nat} {m : Str → Option Value}, P.Nodup → P[i]? = some x → vs[i]? = some v → kindOf x = some .local →
    bindL kindOf (P.zip vs) m x = some v
  | [], _, _, _, _, h, _, _ => by simp at h
  | _ :: _, [], _, _, _, _, h, _ => by simp at h
  | p :: P, w :: vs, 0, m, nd, h1, h2, hk => by
    simp at h1 h2; subst h1; subst h2
    show bindL kindOf ((p, w) :: P.zip vs) m p = _
    unfold bindL
    rw [bindL_out fun v hv => (List.nodup_cons.mp nd).1 (List.of_mem_zip hv).1, if_pos hk]
    simp
  | p :: P, w :: vs, i + 1, m, nd, h1, h2, hk => by
    show bindL kindOf ((p, w) :: P.zip vs) m x = _
    unfold bindL
    exact bindL_get (i := i) (List.nodup_cons.mp nd).2 (by simpa using h1) (by simpa using h2) hk
theorem bindC_get {kindOf : Str → Option NameKind} {x : Str} {v : Value} : ∀ {P : List Str} {vs : List Value} {i : Nat} {m : Str → Option Value}, P.Nodup → P[i]? = some x → vs[i]? = some v → kindOf x ≠ some .local →
    bindC kindOf (P.zip vs) m x = some v
  | [], _, _, _, _, h, _, _ => by simp at h
  | _ :: _, [], _, _, _, _, h, _ => by simp at h
  | p :: P, w :: vs, 0, m, nd, h1, h2, hk => by
    simp at h1 h2; subst h1; subst h2
    show bindC kindOf ((p, w) :: P.zip vs) m p = _
    unfold bindC
    rw [bindC_out fun v hv => (List.nodup_cons.mp nd).1 (List.of_mem_zip hv).1, if_neg hk]
    simp
  | p :: P, w :: vs, i + 1, m, nd, h1, h2, hk => by
    show bindC kindOf ((p, w) :: P.zip vs) m x = _
    unfold bindC
    exact bindC_get (i := i) (List.nodup_cons.mp nd).2 (by simpa using h1) (by simpa using h2) hk
def start (N : List Str) (vs : List V) : St := vs.map some ++ List.replicate (N.length - vs.length) none
def cxOf (CX : CXT) (P : Program) (w : World) (K : PySem.W.Frag) (mg : Str → Option Value) (base : Heap) (N : List Str) (qual : Str) (scope : Scope) (f : Addr) (cd : Value) (A : Around) (outer : List Env) (s : Shared) (H : Hp) (E : XK) : Cx where
  prog := P
  w := w
  K := K
  mg := mg
  base := base
  A := A.deeper (envOfC qual scope s.heap.objs.size f cd)
  N := N
  s₀ := s
  H₀ := H
  env := envOfC qual scope s.heap.objs.size f cd
  outer := outer
  stack := envOfC qual scope s.heap.objs.size f cd :: outer
  ex := []
  calm := true
  fn := fun _ => true
  pn := []
  xe := fun e s' => wpAny (model P w) (A.deeper (envOfC qual scope s.heap.objs.size f cd)) (leaving (envOfC qual scope s.heap.objs.size f cd) e) (fun _ s'' => CX outer H s E e s'') (fun e' s'' => CX outer H s E e' s'') s'
theorem cell_has {sc : Scope} {n : Nat} {x : Str} (h : sc.names.lookup x = some .cell) : ∃ c, (cellsFrom n sc.names []).lookup x = some c := by
  have q := PySem.W.cellsFrom_some sc.names n [] (.inl h)
  exact Option.isSome_iff_exists.mp q
theorem inv_start {CX : CXT} {P : Program} {w : World} {K : PySem.W.Frag} {mg : Str → Option Value} {base : Heap} {N ps : List Str} {qual : Str} {scope : Scope} {f : Addr} {cd : Value} {A : Around} {outer : List Env} {s s1 : Shared} {H : Hp} {E : XK} {us : List Value} {vs : List V}
    (S : FnScope N ps scope) (hd : A.handled = none) (e0 : Env0 P w K mg base A outer s H) (hl : vs.length = ps.length) (r : Vals vs us)
    (x : InCallC s s.heap.objs.size (bindL (envOfC qual scope s.heap.objs.size f cd).kindOf (ps.zip us) fun _ => none) (cellsFrom (s.heap.objs.size + 1) scope.names []) (bindC (envOfC qual scope s.heap.objs.size f cd).kindOf (ps.zip us) fun _ => none) s1) :
    Inv (cxOf CX P w K mg base N qual scope f cd A outer s H E) [] (start N vs) H s1 := by
  have hpl : ps.length ≤ N.length := by have := congrArg List.length S.pre; rw [List.length_take] at this; omega
  obtain ⟨h1, tk, rfl, hk⟩ := x.done
  have noA : ∀ b : Addr, b ∉ (cxOf CX P w K mg base N qual scope f cd A outer s H E).ex := fun b z => absurd (show b ∈ ([] : List Addr) from z) (by simp)
  refine ⟨⟨e0.mod, S.kind, rfl, rfl, Nat.le_refl _, fun y z c h1 h2 => ?_, fun y hy => ?_, fun y c _ h => ?_, fun _ => hd, Around.frames_deeper e0.frames, .inr ⟨rfl, rfl⟩, fun b z => absurd z (noA b), e0.bs, e0.bsz, fun b _ _ => noA b, fun b z => absurd z (noA b), e0.funs, e0.frf⟩,
    rfl, e0.bare, Un.kept hk, ⟨_, x.toInCall.ns, fun i y v h1 h2 h3 => ?_⟩, fun y c h => ⟨_, x.cell y c h⟩, e0.hok.fresh (Nat.le_refl _), fun y c h => ?_, fun p hp => absurd (show p ∈ ([] : List (Addr × Obj)) from hp) (by simp), e0.hok.kept hk, ?_⟩
  · exact name_of_addr x.apart (PySem.mem_of_lookup h1) (PySem.mem_of_lookup h2)
  · have hy : scope.names.lookup y = some .cell ∨ scope.names.lookup y = some .free := hy
    rcases hy with hy | hy
    · exact cell_has hy
    · exact absurd rfl (S.nofree _ (PySem.mem_of_lookup hy))
  · exact Nat.le_of_lt (x.above y c (PySem.mem_of_lookup h))
  · have hi : i < vs.length := by
      unfold start at h2
      by_cases hi : i < vs.length
      · exact hi
      · rw [List.getElem?_append_right (by simpa using hi)] at h2
        rw [List.getElem?_replicate] at h2
        split at h2 <;> cases h2
    have ha : vs[i]? = some v := by
      unfold start at h2
      rw [List.getElem?_append_left (by simpa using hi), List.getElem?_map] at h2
      cases e : vs[i]? with
      | none => rw [e] at h2; cases h2
      | some a => rw [e] at h2; cases h2; rfl
    obtain ⟨u, hu, rv⟩ := r.get ha
    have hp : ps[i]? = some y := by
      rw [← S.pre, List.getElem?_take_of_lt (by omega)]; exact h1
    have ndP : ps.Nodup := by rw [← S.pre]; exact S.nd.sublist (List.take_sublist _ _)
    refine ⟨u, rv, ?_⟩
    rcases S.par y (List.mem_of_getElem? hp) with k | k
    · exact .inl ⟨k, bindL_get ndP hp hu k⟩
    · obtain ⟨c, e⟩ := cell_has (n := s.heap.objs.size + 1) k
      refine .inr ⟨.inl k, c, e, ?_⟩
      have q := x.cell y c e
      rw [bindC_get ndP hp hu (by show scope.names.lookup y ≠ _; rw [k]; decide)] at q
      exact q
  · exact e0.hok.fresh (Nat.le_of_lt (x.above y c (PySem.mem_of_lookup h)))
  · unfold start
    show _ = N.length
    rw [List.length_append, List.length_map, List.length_replicate]
    omega
theorem fn_of {CX : CXT} {P : Program} {w : World} {K : PySem.W.Frag} {mg : Str → Option Value} {base : Heap} {k : Nat} {f : Addr} {name qual : Str} {params : Arguments} {body : List Stmt} {scope : Scope} {dV kV doc pm cdv ct oc : Value} {an od : Option Addr}
    {osl : Array (Option Value)} {N ps : List Str} {sp : Sp} (lk : K.lookup f = some ⟨oc, od, .func (PySem.W.fnOf name qual params body scope dV kV doc pm an cdv ct), osl⟩) (hcd : PySem.W.codeIn K cdv qual = true) (S : FnScope N ps scope)
    (len : ∀ vs H Q E, sp vs H Q E → vs.length = ps.length)
    (hbody : ∀ (A : Around) (outer : List Env) (s : Shared) (H : Hp) (vs : List V) (Q : VK) (E : XK), Room k (A.deeper (envOfC qual scope s.heap.objs.size f cdv)) → sp vs H Q E →
      ∃ t, PSs (cxOf CX P w K mg base N qual scope f cdv A outer s H E) body t ∧ t { nx := fun _ H' => Q .non H', rt := Q } (start N vs) H) :
    FnOk P w K mg base CX (k + 1) f (PySem.W.fnOf name qual params body scope dV kV doc pm an cdv ct) ps sp := by
  refine ⟨len, fun A outer s H args us vs Q E hr e0 hb r hsp => ?_⟩
  have hl := len _ _ _ _ hsp
  have KX : K.In s.heap := e0.mod.kin.keeps fun b o e => (e0.bs b o e).1
  have lim : s.heap.NoLimit := e0.mod.nolimit.keeps fun b o e => (e0.bs b o e).1
  have hkind : ∀ y ∈ ps.zip us, scope.names.lookup y.1 = some .local ∨ (scope.names.lookup y.1 = some .cell ∧ ((cellsFrom (s.heap.objs.size + 1) scope.names []).lookup y.1).isSome = true) := fun ⟨n, v⟩ hy => by
    rcases S.par n (List.of_mem_zip hy).1 with q | q
    · exact .inl q
    · exact .inr ⟨q, PySem.W.cellsFrom_some _ _ _ (.inl q)⟩
  refine codeAny_call_function hr.depth (KX _ _ lk) rfl S.co S.gen rfl (PySem.W.codeRec_of KX hcd) (hb _ _ _ _ ?_)
  refine wpAny_newFunctionEnv_cells S.kind hkind fun env he s1 x => ?_
  subst he
  refine ⟨lim.keeps x.toInCall.keep, codeAny_func ?_⟩
  obtain ⟨t, ht, hq⟩ := hbody A outer s H vs Q E (hr.deeper _) hsp
  have I : Inv (cxOf CX P w K mg base N qual scope f cdv A outer s H E) [] (start N vs) H s1 := inv_start S hr.hd e0 hl r x
  refine wpAny_mono (ht [] s1 (start N vs) H _ I hq) (fun fl s' hs => ?_) fun e s' hs => hs
  have fin : ∀ {σ' : St} {H' : Hp} {v : V} {u : Value}, Inv (cxOf CX P w K mg base N qual scope f cdv A outer s H E) [] σ' H' s' → RelV v u → Q v H' → CE outer P w H s Q u s' :=
    fun {σ' H' v u} J rv q => ⟨v, H', J.os, J.bare, J.base, J.hok, rv, q⟩
  cases fl with
  | ret u =>
    obtain ⟨v, σ', H', J, rv, q⟩ := hs
    exact fin J rv q
  | next =>
    obtain ⟨σ', H', J, q⟩ := hs
    exact fin (v := V.non) (u := Value.none) J rfl q
  | brk =>
    obtain ⟨_, _, _, q⟩ := hs
    exact False.elim q
  | cont =>
    obtain ⟨_, _, _, q⟩ := hs
    exact False.elim q
end L2
namespace L2
open PySem PySem.Spec PyProof.Rows
section
variable {X : Cx} {x : Str} {p pos : Pos} {e : Expr} {es : List Expr} {t : TA} {id T : String} {r : List V → Hp → VK → Prop}
def tCB (r : List V → Hp → VK → Prop) (t : TA) : TE := fun σ H Q => t σ H fun vs H1 => r vs H1 Q
theorem pe_callB (hc : CallR X (.builtin id) r) (hg : Gl X x) (hm : X.mg x = none) (hv : bootBuiltins x = some (.builtin id)) (ha : PA X (e :: es) t) (hn : x ≠ "__name__" := by decide) (hdb : (x == ("__debug__" : Str)) = false := by decide)
    (he : starEach (e :: es) X.env = (false, eval e X.env) :: starEach es X.env := by rfl) (hpl : (backTo pos (starEach es X.env)).any (·.1) = false := by rfl) : PE X (.Call (.Name x p) (e :: es) [] pos) (tCB r t) := by
  intro pins s σ H Q I h
  refine wpAny_Call_Name_kw (ld_blt I hg hm hv ?_ hn hdb)
  exact PyProof.Rows.callWith_builtin1 (thn (ha pos pins s σ H _ I h) fun us s1 ⟨vs, H1, I1, r1, q1⟩ => hc pins s1 σ H1 vs us Q I1 r1 q1) he hpl
theorem pe_callTy (hc : CallR X (.type T) r) (hg : Gl X x) (hm : X.mg x = none) (hv : bootBuiltins x = some (.type T)) (ha : PA X (e :: es) t) (hn : x ≠ "__name__" := by decide) (hdb : (x == ("__debug__" : Str)) = false := by decide)
    (he : starEach (e :: es) X.env = (false, eval e X.env) :: starEach es X.env := by rfl) (hpl : (backTo pos (starEach es X.env)).any (·.1) = false := by rfl) : PE X (.Call (.Name x p) (e :: es) [] pos) (tCB r t) := by
  intro pins s σ H Q I h
  refine wpAny_Call_Name_kw (ld_blt I hg hm hv ?_ hn hdb)
  exact PyProof.Rows.callWith_type1 (thn (ha pos pins s σ H _ I h) fun us s1 ⟨vs, H1, I1, r1, q1⟩ => hc pins s1 σ H1 vs us Q I1 r1 q1) he hpl
end
end L2
namespace HT
open PySem PyProof.Rows
def lexLt : List Int → List Int → Bool
  | [], [] => false
  | [], _ :: _ => true
  | _ :: _, [] => false
  | x :: xs, y :: ys => if x = y then lexLt xs ys else decide (x < y)
theorem lexLt_cons (x y : Int) (xs ys : List Int) : lexLt (x :: xs) (y :: ys) = if x = y then lexLt xs ys else decide (x < y) := rfl
theorem lexLt_nil_nil : lexLt [] [] = false := rfl
theorem lexLt_nil_cons (y : Int) (ys : List Int) : lexLt [] (y :: ys) = true := rfl
theorem lexLt_cons_nil (x : Int) (xs : List Int) : lexLt (x :: xs) [] = false := rfl
theorem eqAt_int (A : Around) (s : Shared) (a : Int) (t : Tok) (c : Int) (u : Tok) : ∃ e, SeqAt.EqAt A s (.int a t) (.int c u) e ∧ (e = true ↔ a = c) :=
  ⟨(a == c), SeqAt.EqAt.int_int a t c u, by simp⟩
theorem rcLt_int (A : Around) (s : Shared) (a : Int) (t : Tok) (c : Int) (u : Tok) (prog : Program) (w : World) (E : Value → Shared → Prop) (Q : Value → Shared → Prop) (h : Q (.bool (decide (a < c))) s) :
    wpAny (model prog w) A (richCompare .Lt (.int a t) (.int c u)) Q E s :=
  (PyProof.Rows.lt_int h : wpAny (model prog w) A (compareOp .Lt (.int a t) (.int c u)) Q E s)
section
open PySem.SeqAt
open PySem.AutoSeq1 (wpAny_loadPart')
open PySem.MeetsSeq PySem.MeetsSeq2 PySem.MeetsSeq3
end
section
variable {prog : Program} {w : World} {A : Around} {E : Value → Shared → Prop} {s : Shared}
def sIx (n d : Nat) : Option Int → Nat
  | none => d
  | some v => if v < 0 then (v + (n : Int)).toNat else min v.toNat n
theorem sIx_none (n d : Nat) : sIx n d none = d := rfl
theorem sIx_nat (n d k : Nat) : sIx n d (some (k : Int)) = min k n := by
  show (if (k : Int) < 0 then ((k : Int) + (n : Int)).toNat else min (k : Int).toNat n) = min k n
  rw [if_neg (by omega), Int.toNat_natCast]
end
end HT
namespace L2
open PySem PySem.Spec PyProof.Rows
abbrev TO := St → Hp → (Option Int → Hp → Prop) → Prop
def PO (X : Cx) (e : Option Expr) (t : TO) : Prop :=
  ∀ (pins : List (Addr × Obj)) (s : Shared) (σ : St) (H : Hp) (Q : Option Int → Hp → Prop), Inv X pins σ H s → t σ H Q →
    wpAny (model X.prog X.w) X.A (evalPart e X.env) (fun u s' => ∃ o H', Inv X pins σ H' s' ∧ IsPart u o ∧ Q o H') X.xe s
def tNoPart : TO := fun _ H Q => Q none H
def tPart (t : TE) : TO := fun σ H Q => t σ H fun x H1 => ∃ i, x = .int i ∧ Q (some i) H1
theorem intsAre_of {ns : List Int} : ∀ {us : List Value}, Vals (ns.map V.int) us → IntsAre us ns := by
  induction ns with
  | nil => intro us r; rw [List.map_nil] at r; cases r; exact .nil
  | cons n ns ih =>
    intro us r
    rw [List.map_cons] at r
    cases r with
    | cons r1 r2 =>
      obtain ⟨t, e⟩ := r1
      subst e
      exact .cons n t (ih r2)
section
variable {X : Cx} {e : Expr} {te : TE} {lo hi : Option Expr} {tl th : TO} {pos p2 : Pos}
theorem po_none : PO X none tNoPart := by
  intro pins s σ H Q I h
  rw [evalPart_none]
  exact wpAny_pure ⟨none, H, I, .none, h⟩
theorem po_some (h : PE X e te) : PO X (some e) (tPart te) := by
  intro pins s σ H Q I hw
  rw [evalPart_some]
  refine thn (h pins s σ H _ I hw) fun u s1 ⟨x, H1, I1, r1, q1⟩ => ?_
  obtain ⟨i, rfl, q⟩ := q1
  obtain ⟨t, rfl⟩ := r1
  exact ⟨some i, H1, I1, .int i t, q⟩
def SlR (X : Cx) (r : V → Option Int → Option Int → Hp → VK → Prop) : Prop :=
  ∀ (pins : List (Addr × Obj)) (s : Shared) (σ : St) (H : Hp) (x : V) (v vl vu : Value) (lo hi : Option Int) (sl : Addr) (Q : VK), Inv X pins σ H s → RelV x v → s.heap.IsSliceOf sl vl vu .none → IsPart vl lo → IsPart vu hi → r x lo hi H Q →
    ∃ T id, typeLookup (.type T) "__getitem__" = pure (some (.builtin id)) ∧ s.TypeIs v T ∧ wpAny (model X.prog X.w) X.A (getItem v (.ref sl)) (EP X pins σ Q) X.xe s
def tSl (r : V → Option Int → Option Int → Hp → VK → Prop) (te : TE) (tl th : TO) : TE := fun σ H Q => te σ H fun x H1 => tl σ H1 fun l H2 => th σ H2 fun u H3 => r x l u H3 Q
theorem pe_slice {r : V → Option Int → Option Int → Hp → VK → Prop} (hr : SlR X r) (he : PE X e te) (hl : PO X lo tl) (hu : PO X hi th) : PE X (.Subscript e (.Slice lo hi none p2) pos) (tSl r te tl th) := by
  intro pins s σ H Q I h
  refine Subscript_ (thn (he pins s σ H _ I h) fun v s1 ⟨x, H1, I1, r1, q1⟩ => ?_)
  refine wpAny_Slice (thn (hl pins s1 σ H1 _ I1 q1) fun vl s2 ⟨l, H2, I2, pl, q2⟩ => thn (hu pins s2 σ H2 _ I2 q2) fun vu s3 ⟨u, H3, I3, pu, q3⟩ => ?_)
  rw [evalPart_none]
  refine wpAny_pure ?_
  have I4 : Inv X pins σ H3 { s3 with heap := s3.heap.push { cls := .type "slice", data := .fields #[vl, vu, .none] } } := I3.kept (t' := s3.toks) fun b ob q => Heap.get?_push_of_some _ q
  obtain ⟨T, id, hT, ht, hg⟩ := hr pins { s3 with heap := s3.heap.push { cls := .type "slice", data := .fields #[vl, vu, .none] } } σ H3 x v vl vu l u s3.heap.objs.size Q I4 r1 (Heap.IsSliceOf.new ..) pl pu q3
  show wpAny (model X.prog X.w) X.A (subscriptTail e (.Slice lo hi none p2) v (.ref s3.heap.objs.size)) (EP X pins σ Q) X.xe { s3 with heap := s3.heap.push { cls := .type "slice", data := .fields #[vl, vu, .none] } }
  exact tail_any (ops := [.ref s3.heap.objs.size, v]) ht hT hg (by with_unfolding_all rfl)
def cutV (xs : List V) (lo hi : Option Int) : List V := (xs.drop (HT.sIx xs.length 0 lo)).take (HT.sIx xs.length xs.length hi - HT.sIx xs.length 0 lo)
theorem cutV_length (xs : List V) (lo hi : Option Int) : (cutV xs lo hi).length ≤ xs.length := by
  unfold cutV
  rw [List.length_take, List.length_drop]
  omega
end
end L2
namespace L2
open PySem PySem.Spec PyProof.Rows
def ixN (n : Nat) (i : Int) : Option Nat := if 0 ≤ i then (if i < n then some i.toNat else none) else if -(n : Int) ≤ i then some (i + n).toNat else none
def atI {α : Type} (xs : List α) (i : Int) : Option α := (ixN xs.length i).bind fun j => xs[j]?
theorem ixN_seq {n : Nat} {i : Int} {j : Nat} (h : ixN n i = some j) : seqIndex? i n = some j ∧ j < n ∧ -(n : Int) ≤ i ∧ i < n := by
  unfold ixN at h
  by_cases h0 : 0 ≤ i
  · rw [if_pos h0] at h
    by_cases h1 : i < n
    · rw [if_pos h1] at h
      have e : i.toNat = j := Option.some.inj h
      exact ⟨by rw [seqIndex_of h0 h1, e], by omega, by omega, h1⟩
    · rw [if_neg h1] at h; cases h
  · rw [if_neg h0] at h
    by_cases h1 : -(n : Int) ≤ i
    · rw [if_pos h1] at h
      have e : (i + n).toNat = j := Option.some.inj h
      exact ⟨by rw [seqIndex_neg (by omega) h1, e], by omega, h1, by omega⟩
    · rw [if_neg h1] at h; cases h
theorem atI_get {α : Type} {xs : List α} {i : Int} {v : α} (h : atI xs i = some v) : ∃ j, seqIndex? i xs.length = some j ∧ xs[j]? = some v ∧ j < xs.length ∧ -(xs.length : Int) ≤ i ∧ i < xs.length := by
  unfold atI at h
  cases e : ixN xs.length i with
  | none => rw [e] at h; cases h
  | some j =>
    rw [e] at h
    obtain ⟨h1, h2, h3, h4⟩ := ixN_seq e
    exact ⟨j, h1, h, h2, h3, h4⟩
theorem atI_nat {α : Type} {xs : List α} {j : Nat} {v : α} (h : xs[j]? = some v) : atI xs (j : Int) = some v := by
  have hj : j < xs.length := (List.getElem?_eq_some_iff.mp h).1
  have e : ixN xs.length (j : Int) = some j := by
    unfold ixN
    rw [if_pos (by omega), if_pos (by omega)]; simp
  unfold atI; rw [e]; exact h
theorem atI_last {α : Type} (xs : List α) (v : α) : atI (xs ++ [v]) (-1) = some v := by
  have hl : (xs ++ [v]).length = xs.length + 1 := by simp
  have e : ixN (xs ++ [v]).length (-1) = some xs.length := by
    unfold ixN
    rw [hl, if_neg (by decide), if_pos (by omega)]
    congr 1
    omega
  unfold atI
  rw [e]
  show (xs ++ [v])[xs.length]? = some v
  simp
def PlainIx (b : Expr) : Prop := ∀ o i, subscripted b false o i = operate [o, i] (getItem o i)
def IxR (X : Cx) (r : R2) : Prop :=
  ∀ (value slice : Expr) (pins : List (Addr × Obj)) (s : Shared) (σ : St) (H : Hp) (x y : V) (v u : Value) (Q : VK), Inv X pins σ H s → RelV x v → RelV y u → r x y H Q →
    subscripted slice false v u = operate [v, u] (getItem v u) → wpAny (model X.prog X.w) X.A (subscriptTail value slice v u) (EP X pins σ Q) X.xe s
def MtR (X : Cx) (id : String) (r : V → List V → Hp → VK → Prop) : Prop :=
  ∀ (pins : List (Addr × Obj)) (s : Shared) (σ : St) (H : Hp) (x : V) (xs : List V) (v : Value) (us : List Value) (Q : VK), Inv X pins σ H s → RelV x v → Vals xs us → r x xs H Q →
    wpAny (model X.prog X.w) X.A (call (.builtin id) (v :: us)) (EP X pins σ Q) X.xe s
section
variable {X : Cx} {a b : Expr} {ta tb : TE} {pos : Pos}
theorem pe_ix {r : R2} (hr : IxR X r) (ha : PE X a ta) (hb : PE X b tb) (hs : PlainIx b) : PE X (.Subscript a b pos) (tOp r ta tb) := by
  intro pins s σ H Q I h
  exact Subscript_ (binT ha hb I h fun v u s2 x y H2 I2 rx ry q => hr a b pins s2 σ H2 x y v u Q I2 rx ry q (hs _ _))
def rIxL (K : PySem.W.Frag) : R2 := fun x y H Q => ∃ p xs i v, x = .ref p ∧ y = .int i ∧ SqL K H p xs ∧ atI xs i = some v ∧ Q v H
def rIxT (K : PySem.W.Frag) : R2 := fun x y H Q => ∃ p xs i v, x = .ref p ∧ y = .int i ∧ SqT K H p xs ∧ atI xs i = some v ∧ Q v H
theorem ix_list : IxR X (rIxL X.K) := by
  intro value slice pins s σ H x y v u Q I rx ry h hs
  obtain ⟨p, xs, i, z, rfl, rfl, hq, he, q⟩ := h
  cases rx
  obtain ⟨t, rfl⟩ := ry
  obtain ⟨its, r, pl, hz⟩ := I.list hq
  obtain ⟨j, h1, h2, h3, h4, h5⟩ := atI_get he
  obtain ⟨w, ew, rw'⟩ := r.get h2
  have hl := r.length
  have hn := line63
  have fin : EP X pins σ Q w s := ⟨z, H, I, rw', q⟩
  by_cases h0 : 0 ≤ i
  · have hj : i.toNat = j := by
      rw [seqIndex_of h0 h5] at h1
      exact Option.some.inj h1
    exact item_listR pl.isList h0 (by omega) (by rw [hj]; simpa using ew) fin hs
  · have hj : (i + (its.toArray.size : Int)).toNat = j := by
      rw [seqIndex_neg (by omega) h4] at h1
      rw [List.size_toArray, ← hl]
      exact Option.some.inj h1
    exact subscriptTail_builtinR (x := w) pl.isList.typeIs slot_list_getitem.lookup
      (wpAny_getItem_list_neg (Q := fun r s' => r = w ∧ EP X pins σ Q r s') pl.isList (by omega) (by rw [List.size_toArray] <;> omega) (by omega) (by rw [hj]; simpa using ew) ⟨rfl, fin⟩) hs
theorem ix_tup : IxR X (rIxT X.K) := by
  intro value slice pins s σ H x y v u Q I rx ry h hs
  obtain ⟨p, xs, i, z, rfl, rfl, hq, he, q⟩ := h
  cases rx
  obtain ⟨t, rfl⟩ := ry
  obtain ⟨its, r, pl, hz⟩ := I.tuple hq
  obtain ⟨j, h1, h2, h3, h4, h5⟩ := atI_get he
  obtain ⟨w, ew, rw'⟩ := r.get h2
  have hl := r.length
  have hn := line63
  have fin : EP X pins σ Q w s := ⟨z, H, I, rw', q⟩
  exact subscriptTail_builtinR (x := w) pl.typeIs slot_tuple_getitem.lookup
    (getItem_tuple (j := j) (Q := fun r s' => r = w ∧ EP X pins σ Q r s') pl (by omega) (by omega) (by rw [List.size_toArray, ← hl]; exact h1) (by simpa using ew) ⟨rfl, fin⟩) hs
theorem mapSeq_set (its : List Value) (n j : Nat) (u : Value) : Obj.mapSeq (·.setIfInBounds j u) { cls := .type "list", data := .seq its.toArray n } = { cls := .type "list", data := .seq (its.set j u).toArray n } := by
  simp [Obj.mapSeq]
theorem Inv.lst {pins : List (Addr × Obj)} {σ : St} {H : Hp} {s : Shared} {p : Addr} {xs : List V} (I : Inv X pins σ H s) (h : H p = some (.lst xs)) :
    ∃ (its : List Value) (n : Nat), Vals xs its ∧ s.heap.get? p = some { cls := .type "list", data := .seq its.toArray n } ∧ xs.length ≤ sizeLine := by
  obtain ⟨z, its, n, r, e⟩ := I.hok p _ h
  exact ⟨its, n, r, e, z⟩
theorem Inv.lstUpd {pins : List (Addr × Obj)} {σ : St} {H : Hp} {s : Shared} {p : Addr} {xs ys : List V} {its its' : List Value} {n n' : Nat} {f : Obj → Obj} (I : Inv X pins σ H s) (h : H p = some (.lst xs))
    (ho : s.heap.get? p = some { cls := .type "list", data := .seq its.toArray n }) (hf : f { cls := .type "list", data := .seq its.toArray n } = { cls := .type "list", data := .seq its'.toArray n' }) (r : Vals ys its') (hz : ys.length ≤ sizeLine) (t : Nat) :
    Inv X pins σ (upd H p (.lst ys)) { s with heap := s.heap.update p f, toks := t } := by
  have e : (s.heap.update p f).get? p = some { cls := .type "list", data := .seq its'.toArray n' } := by
    rw [Heap.get?_update_self f ho (by rw [hf] <;> rfl), hf]
  refine I.write (x := p) (e := p) (by rw [h]; trivial) (.inl rfl) (fun b u hb q => (Heap.get?_update_other _ _ (Ne.symm hb)).trans q) ⟨_, e⟩ ?_
  exact ⟨hz, its', n', r, e⟩
def rSetL : V → V → V → Hp → (Hp → Prop) → Prop := fun o i v H Q => ∃ p xs k j, o = .ref p ∧ i = .int k ∧ H p = some (.lst xs) ∧ ixN xs.length k = some j ∧ Q (upd H p (.lst (xs.set j v)))
theorem set_list : PSet X rSetL := by
  intro pins s σ H o i v ov iv u Q I ro ri rv h
  obtain ⟨p, xs, k, j, rfl, rfl, hp, hj, q⟩ := h
  cases ro
  obtain ⟨t, rfl⟩ := ri
  obtain ⟨its, n, r, ho, hz⟩ := I.lst hp
  obtain ⟨h1, h2, h3, h4⟩ := ixN_seq hj
  have hl := r.length
  have hn := line63
  have I' : Inv X pins σ (upd H p (.lst (xs.set j v))) { s with heap := s.heap.update p (Obj.mapSeq (·.setIfInBounds j u)) } :=
    I.lstUpd hp ho (mapSeq_set its n j u) (r.set rv j) (by rw [List.length_set]; exact hz) s.toks
  by_cases h0 : 0 ≤ k
  · have hk : k.toNat = j := by
      rw [seqIndex_of h0 h4] at h1
      exact Option.some.inj h1
    exact PySem.W.ki_setAt ho h0 (by omega) (by rw [List.size_toArray, ← hl]; exact h4) (by rw [hk]; exact ⟨_, I', q⟩)
  · have hk : (k + (its.toArray.size : Int)).toNat = j := by
      rw [seqIndex_neg (by omega) h3] at h1
      rw [List.size_toArray, ← hl]
      exact Option.some.inj h1
    exact PySem.W.ki_setBack ho (by omega) (by rw [List.size_toArray, ← hl]; exact h3) (by omega) (by rw [hk]; exact ⟨_, I', q⟩)
theorem slice_bounds (lo hi : Option Int) (n : Nat) : (sliceBounds lo hi none n).1 = ((HT.sIx n 0 lo : Nat) : Int) ∧ (sliceBounds lo hi none n).2.1 = ((HT.sIx n n hi : Nat) : Int) ∧ (sliceBounds lo hi none n).2.2 = 1 := by
  refine ⟨?_, ?_, rfl⟩
  · cases lo with
    | none => simp [sliceBounds, HT.sIx]
    | some i =>
      simp only [sliceBounds, HT.sIx, Option.getD_none, show (1 : Int) > 0 by decide, if_true]
      by_cases h : i < 0
      · simp only [h, if_true] <;> omega
      · simp only [h, if_false] <;> omega
  · cases hi with
    | none => simp [sliceBounds, HT.sIx]
    | some i =>
      simp only [sliceBounds, HT.sIx, Option.getD_none, show (1 : Int) > 0 by decide, if_true]
      by_cases h : i < 0
      · simp only [h, if_true] <;> omega
      · simp only [h, if_false] <;> omega
theorem slicePick_cut (its : List Value) (lo hi : Option Int) : slicePick its.toArray lo hi none = ((its.drop (HT.sIx its.length 0 lo)).take (HT.sIx its.length its.length hi - HT.sIx its.length 0 lo)).toArray := by
  obtain ⟨h1, h2, h3⟩ := slice_bounds lo hi its.toArray.size
  unfold slicePick
  rw [h1, h2, h3]
  simp only [sliceRange_one, pick_run, List.size_toArray] <;> rfl
def rSlL (K : PySem.W.Frag) : V → Option Int → Option Int → Hp → VK → Prop := fun x lo hi H Q => ∃ a xs, x = .ref a ∧ SqL K H a xs ∧ ∀ p, H p = none → Q (.ref p) (upd H p (.lst (cutV xs lo hi)))
theorem sl_list : SlR X (rSlL X.K) := by
  intro pins s σ H x v vl vu lo hi sl Q I rx hs pl pu h
  obtain ⟨a, xs, rfl, hx, q⟩ := h
  cases rx
  obtain ⟨its, r, ht, hz⟩ := I.list hx
  have hlen := r.length
  refine ⟨"list", _, slot_list_getitem.lookup, ht.isList.typeIs, ?_⟩
  refine wpAny_getItem_list_slice ht.isList hs pl pu .none (by simp) ?_ (by rw [List.size_toArray] <;> omega)
  rw [slicePick_cut, ← hlen]
  refine ⟨.ref s.heap.objs.size, _, I.laid (t' := s.toks) (o := .lst (cutV xs lo hi)) (fun b ob q => Heap.get?_push_of_some _ q) (Nat.le_refl _) ?_, rfl, q _ (I.hok.fresh (Nat.le_refl _))⟩
  exact ⟨Nat.le_trans (cutV_length xs lo hi) hz, _, 0, (r.drop (HT.sIx xs.length 0 lo)).take (HT.sIx xs.length xs.length hi - HT.sIx xs.length 0 lo), Heap.get?_push_size _ rfl⟩
theorem call_len_seq : CallR X (.builtin "len") (fun xs H Q => ∃ p ys, xs = [.ref p] ∧ (SqL X.K H p ys ∨ SqT X.K H p ys) ∧ Q (.int ys.length) H) := by
  intro pins s σ H xs us Q I r h
  obtain ⟨p, ys, rfl, hq, q⟩ := h
  obtain ⟨u, rfl, rx⟩ := vals1 r
  cases rx
  have hn := line63
  rcases hq with hq | hq
  · obtain ⟨its, r', pl, hz⟩ := I.list hq
    have hlen := r'.length
    exact Calls.call_len_list pl.isList (by simp only [List.size_toArray] <;> omega) ⟨.int ys.length, H, I.tok _, ⟨s.toks + 1, by rw [List.size_toArray, hlen]⟩, q⟩
  · obtain ⟨its, r', pl, hz⟩ := I.tuple hq
    have hlen := r'.length
    exact len_tuple pl (by simp only [List.size_toArray] <;> omega) ⟨.int ys.length, H, I.tok _, ⟨s.toks + 1, by rw [List.size_toArray, hlen]⟩, q⟩
theorem call_list_of : CallR X (.type "list") (fun xs H Q => ∃ p ys, xs = [.ref p] ∧ (SqL X.K H p ys ∨ SqT X.K H p ys) ∧ ∀ l, H l = none → Q (.ref l) (upd H l (.lst ys))) := by
  intro pins s σ H xs us Q I r h
  obtain ⟨p, ys, rfl, hq, q⟩ := h
  obtain ⟨u, rfl, rx⟩ := vals1 r
  cases rx
  have fin : ∀ (its : List Value), Vals ys its → ys.length ≤ sizeLine → ∀ (h' : Heap) (c' : Nat), (∀ b o', s.heap.get? b = some o' → h'.get? b = some o') →
      h'.get? s.heap.objs.size = some { cls := .type "list", dict := none, data := .seq its.toArray c', slots := #[] } → EP X pins σ Q (.ref s.heap.objs.size) { s with heap := h' } := fun its r' hz h' c' kp e =>
    ⟨.ref s.heap.objs.size, _, I.laid (t' := s.toks) kp (Nat.le_refl _) (show ObjOk X.prog X.w _ h' _ (.lst ys) from ⟨hz, its, c', r', e⟩), rfl, q _ (I.hok.fresh (Nat.le_refl _))⟩
  rcases hq with hq | hq
  · obtain ⟨its, r', pl, hz⟩ := I.list hq
    have hlen := r'.length
    obtain ⟨o, ho, hc, n, hd⟩ := pl.isList
    exact call_list_seq p (.inl rfl) ho hc hd (fun h' c' kp e => fin its r' hz h' c' kp e) (by simp only [List.size_toArray] <;> omega)
  · obtain ⟨its, r', pl, hz⟩ := I.tuple hq
    have hlen := r'.length
    obtain ⟨o, ho, hc, n, hd⟩ := pl
    exact call_list_seq p (.inr rfl) ho hc hd (fun h' c' kp e => fin its r' hz h' c' kp e) (by simp only [List.size_toArray] <;> omega)
theorem call_tuple_of : CallR X (.type "tuple") (fun xs H Q => ∃ p ys, xs = [.ref p] ∧ ((SqL X.K H p ys ∧ ∀ l, H l = none → Q (.ref l) (upd H l (.tup ys))) ∨ (SqT X.K H p ys ∧ Q (.ref p) H))) := by
  intro pins s σ H xs us Q I r h
  obtain ⟨p, ys, rfl, h⟩ := h
  obtain ⟨u, rfl, rx⟩ := vals1 r
  cases rx
  rcases h with ⟨hq, q⟩ | ⟨hq, q⟩
  · obtain ⟨its, r', pl, hz⟩ := I.list hq
    have hlen := r'.length
    refine call_tuple_list pl.isList (fun h' kp => ?_) (by simp only [List.size_toArray] <;> omega)
    have I1 : Inv X pins σ H { s with heap := h' } := I.kept (t' := s.toks) kp
    have I2 : Inv X pins σ (upd H h'.objs.size (.tup ys)) { s with heap := h'.push { cls := .type "tuple", data := .seq its.toArray } } :=
      I1.laid (t' := s.toks) (fun b o e => Heap.get?_push_of_some _ e) (Nat.le_refl _) (show ObjOk X.prog X.w _ _ _ (.tup ys) from ⟨hz, its, r', IsTup.new _ _⟩)
    exact ⟨.ref h'.objs.size, _, I2, rfl, q _ (I1.hok.fresh (Nat.le_refl _))⟩
  · obtain ⟨its, r', pl, hz⟩ := I.tuple hq
    exact call_tuple_same pl ⟨.ref p, H, I, rfl, q⟩
def tyV (K : PySem.W.Frag) (T : String) (x : V) (H : Hp) : Prop := match x with
  | .str _ => T = "str"
  | .int _ => T = "int"
  | .ref p => (T = "list" ∧ ∃ xs, SqL K H p xs) ∨ (T = "tuple" ∧ ∃ o, K.lookup p = some o ∧ o.cls = .type "tuple" ∧ o.dict = none) ∨
      (T = "dict" ∧ ((∃ kvs, H p = some (.dK kvs)) ∨ ∃ kvs, H p = some (.dT kvs))) ∨ (T = "set" ∧ ∃ S n, H p = some (.set S n))
  | _ => False
theorem tyV_is {pins : List (Addr × Obj)} {σ : St} {H : Hp} {s : Shared} {T : String} {x : V} {v : Value} (I : Inv X pins σ H s) (r : RelV x v) (ty : tyV X.K T x H) :
    s.TypeIs v T ∧ ∀ a, v = .ref a → ∃ ob, s.heap.get? a = some ob ∧ ob.dict = none := by
  cases x with
  | str z =>
    obtain ⟨t, rfl⟩ := r
    cases (show T = "str" from ty)
    exact ⟨typeIs_str s z t, fun _ e => nomatch e⟩
  | int i =>
    obtain ⟨t, rfl⟩ := r
    cases (show T = "int" from ty)
    exact ⟨typeIs_int s i t, fun _ e => nomatch e⟩
  | ref p =>
    cases r
    rcases ty with ⟨rfl, xs, hq⟩ | ⟨rfl, o, hk, hc, hd⟩ | ⟨rfl, hk⟩ | ⟨rfl, S, n, hk⟩
    · obtain ⟨its, _, pl, _⟩ := I.list hq
      refine ⟨pl.isList.typeIs, fun a e => ?_⟩
      cases e
      obtain ⟨o, n, e, c, hd, _⟩ := pl
      exact ⟨o, e, hd⟩
    · refine ⟨⟨o, I.kIn p o hk, hc⟩, fun a e => ?_⟩
      cases e
      exact ⟨o, I.kIn _ o hk, hd⟩
    · have z : ∃ o, s.heap.get? p = some o ∧ o.ExactDict := by
        rcases hk with ⟨kvs, hk⟩ | ⟨kvs, hk⟩
        · obtain ⟨_, _, _, _, o, _, _, e, ex, _⟩ := I.hok p _ hk
          exact ⟨o, e, ex⟩
        · obtain ⟨_, _, _, _, o, _, _, e, ex, _⟩ := I.hok p _ hk
          exact ⟨o, e, ex⟩
      obtain ⟨o, e, ex⟩ := z
      refine ⟨⟨o, e, ex.1⟩, fun a e2 => ?_⟩
      cases e2
      exact ⟨o, e, ex.2.1⟩
    · obtain ⟨o, _, _, _, e, ex, _⟩ := I.hok p _ hk
      refine ⟨⟨o, e, ex.1⟩, fun a e2 => ?_⟩
      cases e2
      exact ⟨o, e, ex.2.1⟩
  | _ => exact False.elim ty
def tBM0 (K : PySem.W.Frag) (T : String) (r : V → List V → Hp → VK → Prop) (to : TE) : TE := fun σ H Q => to σ H fun x H1 => tyV K T x H1 ∧ r x [] H1 Q
def tBM (K : PySem.W.Frag) (T : String) (r : V → List V → Hp → VK → Prop) (to : TE) (t : TA) : TE := fun σ H Q => to σ H fun x H1 => tyV K T x H1 ∧ t σ H1 fun xs H2 => r x xs H2 Q
variable {o e : Expr} {es : List Expr} {to : TE} {t : TA} {name : Str} {apos cpos : Pos} {T id : String} {r : V → List V → Hp → VK → Prop}
theorem pe_bm0 (pa : PlainAttrs T) (slot : Slot T name id) (hty : typeOf (.builtin id) = pure (.type "method_descriptor")) (hm : MtR X id r) (ho : PE X o to)
    (hbase : attributeBase o name X.env (eval o X.env) = eval o X.env := by rfl) (hline : (apos.endLine == cpos.line) = true := by rfl) : PE X (.Call (.Attribute o name apos) [] [] cpos) (tBM0 X.K T r to) := by
  intro pins s σ H Q I h
  refine wpAny_Call_method0_late hbase hline (thn (ho pins s σ H _ I h) fun v s1 ⟨x, H1, I1, r1, ty, q1⟩ => ?_)
  obtain ⟨h1, h2⟩ := tyV_is I1 r1 ty
  exact ⟨T, id, pa, slot, hty, h1, h2, Calls.callWith_builtin rfl (PySem.evalArgs_none (hm pins s1 σ H1 x [] v [] Q I1 r1 .nil q1))⟩
theorem pe_bm (pa : PlainAttrs T) (slot : Slot T name id) (hty : typeOf (.builtin id) = pure (.type "method_descriptor")) (hm : MtR X id r) (ho : PE X o to) (ha : PA X (e :: es) t)
    (hbase : attributeBase o name X.env (eval o X.env) = eval o X.env := by rfl)
    (hfew : ((backTo cpos (starEach (e :: es) X.env)).all (fun x => !x.1) && (backToKw cpos (keywordEach [] X.env)).all (fun x => x.1.isSome)
      && decide ((e :: es).length + ([] : List Keyword).length + (if ([] : List Keyword).isEmpty then 0 else 1) < 30)) = true := by rfl)
    (hline : (apos.endLine == cpos.line) = true := by rfl) (hs : starEach (e :: es) X.env = (false, eval e X.env) :: starEach es X.env := by rfl) (hplain : (backTo cpos (starEach es X.env)).any (·.1) = false := by rfl) :
    PE X (.Call (.Attribute o name apos) (e :: es) [] cpos) (tBM X.K T r to t) := by
  intro pins s σ H Q I h
  refine wpAny_Call_method_late hbase hfew hline rfl (thn (ho pins s σ H _ I h) fun v s1 ⟨x, H1, I1, r1, ty, q1⟩ => ?_)
  obtain ⟨h1, h2⟩ := tyV_is I1 r1 ty
  refine ⟨T, id, pa, slot, hty, h1, h2, ?_⟩
  have hA := ha cpos pins s1 σ H1 _ I1 q1
  rw [hs] at hA ⊢
  refine Calls.callWith_builtin (by show (false || (backTo cpos (starEach es X.env)).any (·.1)) = false; rw [hplain] <;> rfl) (Calls.evalArgs_plain ?_)
  exact thn hA fun us s2 ⟨vs, H2, I2, r2, q2⟩ => hm pins s2 σ H2 x vs v us Q I2 r1 r2 q2
end
end L2
namespace L2
open PySem PySem.Spec PyProof.Rows
def MtM (X : Cx) (id : String) (r : V → List V → Hp → VK → Prop) : Prop :=
  ∀ (pins : List (Addr × Obj)) (s : Shared) (σ : St) (H : Hp) (x : V) (xs : List V) (v : Value) (us : List Value) (Q : VK), Inv X pins σ H s → RelV x v → Vals xs us → r x xs H Q →
    wpAny (model X.prog X.w) X.A (call (.builtin id) (v :: us)) (EP X pins σ Q) X.xe s
theorem Vals.one : ∀ {x : V} {us : List Value}, Vals [x] us → ∃ u, us = [u] ∧ RelV x u
  | _, _, .cons r .nil => ⟨_, rfl, r⟩
theorem Vals.two : ∀ {x y : V} {us : List Value}, Vals [x, y] us → ∃ u v, us = [u, v] ∧ RelV x u ∧ RelV y v
  | _, _, _, .cons r (.cons q .nil) => ⟨_, _, rfl, r, q⟩
theorem Vals.zero : ∀ {us : List Value}, Vals [] us → us = []
  | _, .nil => rfl
theorem Vals.dropLast {xs : List V} {us : List Value} (h : Vals xs us) : Vals xs.dropLast us.dropLast := by
  induction h with
  | nil => exact .nil
  | cons r t ih =>
    cases t with
    | nil => exact .nil
    | cons q t' => exact .cons r ih
theorem Vals.eraseIdx : ∀ {xs : List V} {us : List Value} (i : Nat), Vals xs us → Vals (xs.eraseIdx i) (us.eraseIdx i)
  | _, _, _, .nil => .nil
  | _, _, 0, .cons _ t => t
  | _, _, i + 1, .cons r t => .cons r (Vals.eraseIdx i t)
theorem Vals.reverse {xs : List V} {us : List Value} (h : Vals xs us) : Vals xs.reverse us.reverse := by
  induction h with
  | nil => exact .nil
  | cons r t ih => rw [List.reverse_cons, List.reverse_cons]; exact Vals.append ih (.cons r .nil)
theorem Vals.rep {xs : List V} {us : List Value} (h : Vals xs us) : ∀ k : Nat, Vals (List.replicate k xs).flatten (List.replicate k us).flatten
  | 0 => .nil
  | k + 1 => by
    rw [List.replicate_succ, List.replicate_succ, List.flatten_cons, List.flatten_cons]
    exact Vals.append h (Vals.rep h k)
theorem erase_last {α : Type} (l : List α) : l.eraseIdx (l.length - 1) = l.dropLast := by
  induction l with
  | nil => rfl
  | cons a r ih =>
    cases r with
    | nil => rfl
    | cons b r =>
      have e : (a :: b :: r).length - 1 = ((b :: r).length - 1) + 1 := by
        have h1 : (a :: b :: r).length = r.length + 2 := rfl
        have h2 : (b :: r).length = r.length + 1 := rfl
        omega
      rw [e, List.eraseIdx_cons_succ, ih]
      all_goals rfl
theorem foldl_rep (its : List Value) : ∀ (k : Nat) (acc : List Value),
    List.foldl (fun x1 x2 => x1 ++ x2) acc.toArray (List.replicate k its.toArray) = (acc ++ (List.replicate k its).flatten).toArray
  | 0, acc => by simp
  | k + 1, acc => by
    have e : acc.toArray ++ its.toArray = (acc ++ its).toArray := by simp
    have e2 : (acc ++ its) ++ (List.replicate k its).flatten = acc ++ (List.replicate (k + 1) its).flatten := by
      rw [List.replicate_succ, List.flatten_cons, List.append_assoc]
    rw [← e2, ← foldl_rep its k (acc ++ its), ← e, List.replicate_succ, List.foldl_cons]
section
variable {X : Cx} {pins : List (Addr × Obj)} {σ : St} {H : Hp} {s : Shared} {l b : Addr} {xs ys zs : List V}
theorem Inv.lset {its its' : List Value} {n : Nat} {f : Array Value → Array Value} {t' : Nat} (I : Inv X pins σ H s) (hH : H l = some (.lst xs))
    (e : s.heap.get? l = some { cls := .type "list", data := .seq its.toArray n }) (hf : f its.toArray = its'.toArray) (hv : Vals ys its') (hz : ys.length ≤ sizeLine) :
    Inv X pins σ (upd H l (.lst ys)) { s with heap := s.heap.update l (Obj.mapSeq f), toks := t' } := by
  have q := PySem.IsL.update e f
  rw [hf] at q
  refine I.write (x := l) (e := l) (by rw [hH]; exact trivial) (.inl rfl) (fun b' u hb hu => (Heap.get?_update_other s.heap (Obj.mapSeq f) (Ne.symm hb)).trans hu) ⟨_, q⟩ ?_
  exact ⟨hz, its', _, hv, q⟩
theorem Inv.lnew {its : List Value} {t' : Nat} (I : Inv X pins σ H s) (hv : Vals ys its) (hz : ys.length ≤ sizeLine) :
    Inv X pins σ (upd H s.heap.objs.size (.lst ys)) { s with heap := s.heap.push { cls := .type "list", data := .seq its.toArray }, toks := t' } :=
  I.laid (fun _ _ q => Heap.get?_push_of_some _ q) (Nat.le_refl _) ⟨hz, its, 0, hv, Heap.get?_push_size _ rfl⟩
theorem Inv.fresh (I : Inv X pins σ H s) : H s.heap.objs.size = none := I.hok.fresh (Nat.le_refl _)
theorem Inv.lstM (I : Inv X pins σ H s) (hH : H l = some (.lst xs)) : xs.length ≤ sizeLine ∧ ∃ (its : List Value) (n : Nat), Vals xs its ∧ xs.length = its.length ∧ s.heap.get? l = some { cls := .type "list", data := .seq its.toArray n } := by
  obtain ⟨z, its, n, r, e⟩ := I.hok l _ hH
  exact ⟨z, its, n, r, r.length, e⟩
theorem notLongL {n : Nat} (h : n ≤ sizeLine) : Builtin.List.listTooLong n = false := by
  unfold Builtin.List.listTooLong
  exact decide_eq_false (by omega)
end
section
variable {X : Cx}
def rAppend : V → List V → Hp → VK → Prop := fun x vs H Q => ∃ l xs y, x = .ref l ∧ vs = [y] ∧ H l = some (.lst xs) ∧ xs.length < sizeLine ∧ Q .non (upd H l (.lst (xs ++ [y])))
theorem mt_append : MtM X "list.append" rAppend := by
  intro pins s σ H x vs v us Q I rx rv h
  obtain ⟨l, xs, y, rfl, rfl, hH, hz, q⟩ := h
  cases rx
  obtain ⟨u, rfl, ru⟩ := rv.one
  obtain ⟨z, its, n, r, hl, e⟩ := I.lstM hH
  refine call_meets F.slot_list_append ⟨_, e, rfl⟩ F.entry_list_append (F.args_list_append_2 _ _) (PySem.list_append l its.toArray n u (by rw [List.size_toArray]; omega)) ⟨e, ?_⟩
  refine ⟨.non, _, I.lset (its' := its ++ [u]) hH e (by simp) (r.append (.cons ru .nil)) ?_, rfl, q⟩
  rw [List.length_append, List.length_singleton]
  omega
def rPop : V → List V → Hp → VK → Prop := fun x vs H Q => ∃ l xs y, x = .ref l ∧ vs = [] ∧ H l = some (.lst xs) ∧ xs[xs.length - 1]? = some y ∧ Q y (upd H l (.lst xs.dropLast))
theorem mt_pop : MtM X "list.pop" rPop := by
  intro pins s σ H x vs v us Q I rx rv h
  obtain ⟨l, xs, y, rfl, rfl, hH, hy, q⟩ := h
  cases rx
  have hus := rv.zero
  subst hus
  obtain ⟨z, its, n, r, hl, e⟩ := I.lstM hH
  obtain ⟨u, hu, ru⟩ := r.get hy
  have hy' : its.toArray[its.toArray.size - 1]? = some u := by
    show its.toArray[its.length - 1]? = some u
    rw [← Array.getElem?_toList, ← hl]
    exact hu
  refine call_meets F.slot_list_pop ⟨_, e, rfl⟩ F.entry_list_pop (F.args_list_pop_1 _) (MeetsSeq.list_pop_last l its.toArray n u hy' (by rw [List.size_toArray]; omega)) ⟨e, ?_⟩
  refine ⟨y, _, I.lset (its' := its.dropLast) hH e ?_ r.dropLast ?_, ru, q⟩
  · show its.toArray.eraseIdxIfInBounds (its.toArray.size - 1) = its.dropLast.toArray
    rw [List.size_toArray, List.eraseIdxIfInBounds_toArray, erase_last]
  · rw [List.length_dropLast]
    omega
def rCat : R2 := fun x y H Q => ∃ l b xs zs, x = .ref l ∧ y = .ref b ∧ H l = some (.lst xs) ∧ H b = some (.lst zs) ∧ xs.length + zs.length ≤ sizeLine ∧ ∀ p, H p = none → Q (.ref p) (upd H p (.lst (xs ++ zs)))
theorem op_cat : OpR X (binaryOp .Add) rCat := by
  intro pins s σ H x y v u Q I rx ry h
  obtain ⟨l, b, xs, zs, rfl, rfl, hH, hB, hz, q⟩ := h
  cases rx
  cases ry
  obtain ⟨z, its, n, r, hl, e⟩ := I.lstM hH
  obtain ⟨z2, its2, n2, r2, hl2, e2⟩ := I.lstM hB
  refine PySem.P.add_list e e2 ?_ (by rw [List.size_toArray, List.size_toArray]; omega)
  have ea : its.toArray ++ its2.toArray = (its ++ its2).toArray := by simp
  rw [ea]
  exact ⟨.ref _, _, I.lnew (t' := s.toks) (r.append r2) (by rw [List.length_append]; omega), rfl, q _ I.fresh⟩
def rRep : R2 := fun x y H Q => ∃ l k xs, x = .ref l ∧ y = .int k ∧ H l = some (.lst xs) ∧ -(2 ^ 63) ≤ k ∧ k < 2 ^ 63 ∧ xs.length * k.toNat ≤ sizeLine ∧
  ∀ p, H p = none → Q (.ref p) (upd H p (.lst (List.replicate k.toNat xs).flatten))
theorem len_rep {α : Type} (xs : List α) (k : Nat) : (List.replicate k xs).flatten.length = k * xs.length := by
  induction k with
  | zero => simp
  | succ k ih => rw [List.replicate_succ, List.flatten_cons, List.length_append, ih, Nat.succ_mul, Nat.add_comm]
theorem op_rep : OpR X (binaryOp .Mult) rRep := by
  intro pins s σ H x y v u Q I rx ry h
  obtain ⟨l, k, xs, rfl, rfl, hH, h1, h2, hz, q⟩ := h
  cases rx
  obtain ⟨t, rfl⟩ := ry
  obtain ⟨z, its, n, r, hl, e⟩ := I.lstM hH
  have hlen : its.toArray.size * k.toNat ≤ sizeLine := by rw [List.size_toArray, ← hl]; exact hz
  have hcap : ¬ its.toArray.size * k.toNat > (2 ^ 63 - 1) / 8 := by
    have : (sizeLine : Nat) ≤ (2 ^ 63 - 1) / 8 := by decide
    omega
  have hfit : ¬ (!Builtin.List.listFitsIndex k) = true := by
    rw [fitsIndex_both h1 h2]
    exact Bool.false_ne_true
  have hlong : ¬ Builtin.List.listTooLong (its.toArray.size * k.toNat) = true := by
    rw [notLongL hlen]
    exact Bool.false_ne_true
  have hnew : List.foldl (fun x1 x2 => x1 ++ x2) #[] (List.replicate (if its.toArray.isEmpty = true then 0 else k.toNat) its.toArray) = (List.replicate k.toNat its).flatten.toArray := by
    have f0 : ∀ m : Nat, List.foldl (fun x1 x2 => x1 ++ x2) #[] (List.replicate m its.toArray) = (List.replicate m its).flatten.toArray := fun m => by
      have := foldl_rep its m []
      rw [List.nil_append] at this
      exact this
    rw [f0]
    cases its with
    | nil => simp
    | cons a r' => rw [if_neg (by simp)]
  refine wpAny_binaryOp_repeat_ref (T := "list") (U := "int") (by decide) ⟨_, e, rfl⟩ (fun s' => typeIs_int s' k t) noFill_list_mul F.fills_int_mul F.slot_int_rmul repeat_list F.slot_int_index.lookup
    (call_meets F.slot_int_rmul (typeIs_int s k t) F.entry_int_rmul (F.args_int_rmul_2 _ _) (int___rmul___int_list k t l its.toArray n)
      ⟨e, rfl, ⟨_, e, rfl⟩, call_meets F.slot_list_mul ⟨_, e, rfl⟩ F.entry_list_mul (F.args_list_mul_2 _ _) (AutoListH.list___mul___list_int_3 l its.toArray n k t hfit hcap hlong) ⟨e, ?_⟩⟩)
  rw [hnew]
  exact ⟨.ref _, _, I.lnew (t' := s.toks) (r.rep k.toNat) (by rw [len_rep, Nat.mul_comm]; exact hz), rfl, q _ I.fresh⟩
end
section
variable {prog : Program} {w : World} {A : Around} {E : Value → Shared → Prop} {s : Shared}
end
section
variable {X : Cx}
end
end L2
namespace Att
open PySem PySem.W PySem.Calls PyProof.Rows
theorem ints_of_wellAll {P : Params} {h : Heap} : ∀ (ns : List Int) (vs : List Value), WellAll P h vs (ns.map WData.int) → IntsAre vs ns := by
  intro ns
  induction ns with
  | nil =>
    intro vs w
    rw [List.map_nil] at w
    cases w
    exact .nil
  | cons n ns ih =>
    intro vs w
    rw [List.map_cons] at w
    cases w with
    | cons a b =>
      cases a
      exact .cons _ _ (ih _ b)
theorem script_of {l : OpenLaw} {n : Nat} (hn : l.most = some n) {P : Params} {h : Heap} {args : List WData} {vals : List Value}
    (hpre : l.row.toRowW.claim.pre args = true) (hwl : WellAll P h vals args) :
    ∃ a vs ns, vals = [Value.ref a] ∧ args = [WData.list (ns.map WData.int)] ∧ h.get? a = some { cls := .type "list", data := .seq vs.toArray } ∧ IntsAre vs ns ∧ ns.length ≤ n := by
  have hsh : WShape.hasAll [] args [.list .int] = true := (pre_splitW hpre).1
  have hc : l.pre.holds [] { args := args } = true := (pre_splitW hpre).2
  obtain ⟨d, r, rfl, h1, h2⟩ := hasAllW_cons hsh
  obtain rfl := hasAllW_nil h2
  obtain ⟨xs, rfl, h3⟩ := hasW_list h1
  obtain ⟨ns, rfl⟩ := items_int h3
  have hlen : ns.length ≤ n := by
    unfold OpenLaw.pre at hc
    have h4 : (WTm.not (.lt (.lit (.int (n : Int))) (.len (.arg 0)))).holds [] { args := [.list (ns.map .int)] } = true := by
      have h4 := (holds_andW hc).1
      rw [hn] at h4
      exact h4
    have h5 := condW_of h4 (w_not (w_lt w_lit (w_len_list (w_arg rfl))))
    rw [List.length_map] at h5
    refine Nat.le_of_not_lt fun q => ?_
    have q' : (n : Int) < ((ns.length : Nat) : Int) := by omega
    first
      | (rw [decide_eq_true q'] at h5; exact absurd h5 (by decide))
      | (simp at h5; omega)
  cases hwl with
  | cons w1 w2 =>
    cases w2
    cases w1 with
    | list ho hall => exact ⟨_, _, ns, rfl, rfl, ho, ints_of_wellAll ns _ hall, hlen⟩
theorem post_true (l : OpenLaw) (args : List WData) : l.row.toRowW.claim.post args (.bool true) args = true :=
  postW_of (r := l.row.toRowW) (X := (true == true))
    (show WShape.has [] (.bool true) .bool = true by first | rfl | decide | simp [WShape.has, WShape.arms, WShape.armsAll])
    (show (WTm.eq .res (.lit (.bool true))).value [] { args := args, res := some (.bool true), after := args } = some (.bool (true == true)) from w_eq_bool (w_res rfl) w_lit) rfl
theorem attach_call {l : OpenLaw} {n : Nat} {q : Program} {loose : List Str} {XP : (Str → Option Value) → Heap → Prop} {YP : World → Heap → Prop} {d : DefRec}
    (hn : l.most = some n) (hdf : d.params.defaults = [])
    (call : ∀ (w : World) (s₀ s₁ : Shared) (mg mb : Str → Option Value) (fa : Addr) (o : Obj) (pm cd doc : Value) (a : Addr) (vs : List Value) (ns : List Int),
      Ground q loose [] XP w s₀ mg mb s₁.heap → YP w s₁.heap →
      s₁.heap.get? fa = some o → o.data = .func (docDef d.name d.params d.body d.scope pm cd doc) → s₁.heap.CodeRec cd d.name → mg d.name = some (.ref fa) →
      s₁.heap.get? a = some { cls := .type "list", data := .seq vs.toArray } → IntsAre vs ns → ns.length ≤ n → s₁.gens = #[] →
      codeAny (model l.prog w) callerA (.call (.ref fa) ⟨[.ref a], []⟩) (fun r s' => r = .ok (.ret (.bool true)) ∧ OldK s₁.heap s'.heap ∧ s'.os = s₁.os ∧ AllBare s'.gens) s₁) :
    WalkO q loose XP YP l.row.toRowW d [] (fun f vs => PySem.call f vs) := by
  intro w s₀ s₁ mg mb G Y fa o pm cd doc dV kV ho hd hcd hD hmg hg args vals as hpre hlay hrd hwl hlo
  obtain rfl : dV = .none := Dflts.none hD hdf
  obtain rfl : kV = .none := Dflts.noKw hD
  obtain ⟨a, vs, ns, rfl, rfl, hobj, hints, hlen⟩ := script_of hn hpre hwl
  refine enter_call (codeAny_mono (call w s₀ s₁ mg mb fa o pm cd doc a vs ns G Y ho (fd_plain hd) hcd hmg hobj hints hlen hg) fun r s' hq => ?_)
  obtain ⟨rfl, h2, h3, h4⟩ := hq
  exact ⟨.inl ⟨.bool true, .bool true, [], rfl, fun _ => rfl, .bool true, post_true l _, fun _ => ⟨List.Pairwise.nil, fun _ hm => (nomatch hm)⟩⟩, h2, h3, h4⟩
section
variable {prog : Program} {w : World} {A : Around} {E : Value → Shared → Prop} {s : Shared} {K : Frag}
end
end Att
namespace L2
open PySem PySem.Spec PyProof.Rows
theorem vals_ints : ∀ {vs : List Value} {ns : List Int}, IntsAre vs ns → Vals (ns.map V.int) vs
  | _, _, .nil => .nil
  | _, _, .cons n t h => .cons ⟨t, rfl⟩ (vals_ints h)
end L2
namespace L2
open PySem PySem.Spec PyProof.Rows
end L2
namespace L2
open PySem PySem.Spec PyProof.Rows
def inClass (s : Stmt) (j : Nat) : Stmt := match s with
  | .ClassDef _ _ _ body _ _ _ _ _ _ _ => body.getD j (.Pass ⟨0, 0, 0, 0⟩)
  | _ => .Pass ⟨0, 0, 0, 0⟩
def defArgs (s : Stmt) : Arguments := match s with
  | .FunctionDef _ a _ _ _ _ _ _ _ _ => a
  | _ => { posonlyargs := [], args := [], vararg := none, kwonlyargs := [], kw_defaults := [], kwarg := none, defaults := [] }
def defBody (s : Stmt) : List Stmt := match s with
  | .FunctionDef _ _ b _ _ _ _ _ _ _ => b
  | _ => []
def defScope (s : Stmt) : Scope := match s with
  | .FunctionDef _ _ _ _ _ _ sc _ _ _ => sc
  | _ => { kind := .function, names := [], isGenerator := false, isCoroutine := false }
abbrev CX0 : CXT := fun _ _ _ _ _ _ => False
abbrev E0 : XK := fun _ _ _ => False
theorem pass0 {X : Cx} : Passes CX0 X E0 := fun _ _ _ _ _ _ _ h => h.elim
structure Fun (K : PySem.W.Frag) (x qual : Str) (st : Stmt) (f : Addr) (fd : FuncData) : Prop where
  ex : ∃ (oc : Value) (od : Option Addr) (kV doc pm : Value) (an : Option Addr) (cdv ct : Value) (osl : Array (Option Value)),
    fd = PySem.W.fnOf x qual (defArgs st) (defBody st) (defScope st) .none kV doc pm an cdv ct ∧ K.lookup f = some ⟨oc, od, .func fd, osl⟩ ∧ PySem.W.codeIn K cdv qual = true
  kp : PySem.W.keepIn K (.ref f) = true
section
variable {P : Program} {w : World} {K : PySem.W.Frag} {mg : Str → Option Value} {base : Heap}
theorem Fun.ok {x qual : Str} {st : Stmt} {f : Addr} {fd : FuncData} {N ps : List Str} {k : Nat} {sp : Sp} (F : Fun K x qual st f fd) (S : FnScope N ps (defScope st)) (len : ∀ vs H Q E, sp vs H Q E → vs.length = ps.length)
    (hbody : ∀ (cdv : Value) (A : Around) (outer : List Env) (s : Shared) (H : Hp) (vs : List V) (Q : VK) (E : XK), Room k (A.deeper (envOfC qual (defScope st) s.heap.objs.size f cdv)) → sp vs H Q E →
      ∃ t, PSs (cxOf CX0 P w K mg base N qual (defScope st) f cdv A outer s H E).nox (defBody st) t ∧ t { nx := fun _ H' => Q .non H', rt := Q } (start N vs) H) : FnOk P w K mg base CX0 (k + 1) f fd ps sp := by
  obtain ⟨oc, od, kV, doc, pm, an, cdv, ct, osl, rfl, lk, hcd⟩ := F.ex
  refine fn_of lk hcd S len fun A outer s H vs Q E hr hsp => ?_
  obtain ⟨t, h, q⟩ := hbody cdv A outer s H vs Q E hr hsp
  exact ⟨t, h.nox, q⟩
theorem Fun.binds {x qual : Str} {st : Stmt} {f : Addr} {fd : FuncData} {ps : List Str} (F : Fun K x qual st f fd)
    (h : ∀ (kV doc pm : Value) (an : Option Addr) (cdv ct : Value) (us : List Value), us.length = ps.length → bindArgs (PySem.W.fnOf x qual (defArgs st) (defBody st) (defScope st) .none kV doc pm an cdv ct) ⟨us, []⟩ = pure (ps.zip us)) : Binds K fd ps [] := by
  obtain ⟨oc, od, kV, doc, pm, an, cdv, ct, osl, rfl, lk, hcd⟩ := F.ex
  exact .all (h kV doc pm an cdv ct)
theorem fun_mk {x qual : Str} {st : Stmt} {f : Addr} {oc : Value} {od an : Option Addr} {osl : Array (Option Value)} {kV doc pm cdv ct : Value} (l : K.lookup f = some ⟨oc, od, .func (PySem.W.fnOf x qual (defArgs st) (defBody st) (defScope st) .none kV doc pm an cdv ct), osl⟩)
    (c : PySem.W.codeIn K cdv qual = true) (k : PySem.W.keepIn K (.ref f) = true) : Fun K x qual st f (PySem.W.fnOf x qual (defArgs st) (defBody st) (defScope st) .none kV doc pm an cdv ct) := ⟨⟨oc, od, kV, doc, pm, an, cdv, ct, osl, rfl, l, c⟩, k⟩
end
theorem hu_of {A : Around} {k : Nat} (hr : Room k A) : A.units + 1 < cLine := Nat.lt_of_le_of_lt (Nat.add_le_add_left (by decide : 1 ≤ 64) _) hr.units
section
variable {X : Cx}
theorem pv (i : Nat) {x : Str} {pos : Pos} (hN : X.N[i]? = some x := by rfl) (hv : Vis X.env.scope x := by first | exact Or.inl rfl | exact Or.inr (Or.inl rfl) | exact Or.inr (Or.inr rfl)) (hd : (x == ("__debug__" : Str)) = false := by decide)
    (hcd : (x == ("__classdict__" : Str)) = false := by decide) : PE X (.Name x pos) (tVar i) := pe_var hN hv hd hcd
end
theorem iteF {A B : Prop} (h : B) : if false = true then A else B := by
  rw [if_neg Bool.false_ne_true]
  exact h
theorem iteT {A B : Prop} (h : A) : if true = true then A else B := by
  rw [if_pos rfl]
  exact h
theorem ite2 {c A B : Prop} [Decidable c] (h1 : c → A) (h2 : ¬ c → B) : if c then A else B := by
  by_cases h : c
  · rw [if_pos h]
    exact h1 h
  · rw [if_neg h]
    exact h2 h
def Same (H H' : Hp) : Prop := ∀ b o, H b = some o → H' b = some o
theorem Same.refl (H : Hp) : Same H H := fun _ _ h => h
theorem Same.trans {H H1 H2 : Hp} (a : Same H H1) (b : Same H1 H2) : Same H H2 := fun c o h => b c o (a c o h)
theorem Same.free {H H' : Hp} (e : Same H H') {l : Addr} (h : H' l = Option.none) : H l = Option.none := by
  cases q : H l with
  | none => rfl
  | some o =>
    rw [e l o q] at h
    cases h
theorem Same.seq {K : PySem.W.Frag} {H H' : Hp} {a : Addr} {xs : List V} (e : Same H H') (h : SqL K H a xs) : SqL K H' a xs := by
  rcases h with (h | ⟨o, h⟩) | h
  · exact .inl (.inl (e _ _ h))
  · exact .inl (.inr ⟨o, e _ _ h⟩)
  · exact .inr h
end L2
set_option Elab.async false
set_option linter.all false
set_option maxRecDepth 100000
namespace L2
open PySem PySem.Spec PyProof.Rows
def closOf (cells : List (Str × Addr)) : List (Str × NameKind) → List (Str × Addr) → List (Str × Addr)
  | [], cs => cs
  | (n, k) :: r, cs => closOf cells r (if k = .free then (match cells.lookup n with | some c => (n, c) :: cs | none => cs) else cs)
theorem closureFor_loop {env : Env} : ∀ (names : List (Str × NameKind)) (cs : List (Str × Addr)), (∀ x ∈ names, x.2 = .free → ∃ c, env.cells.lookup x.1 = some c) →
    (forIn names cs fun (x : Str × NameKind) (r : List (Str × Addr)) => if (x.2 == .free) = true then (do let c ← cellOf env x.1; pure (ForInStep.yield ((x.1, c) :: r)) : Sem _) else pure (ForInStep.yield r)) = pure (closOf env.cells names cs)
  | [], cs, _ => rfl
  | (n, k) :: r, cs, h => by
    have ih := fun cs' => closureFor_loop (env := env) r cs' fun x hx => h x (List.mem_cons_of_mem _ hx)
    rw [List.forIn_cons]
    by_cases hk : k = .free
    · subst hk
      obtain ⟨c, hc⟩ := h (n, .free) List.mem_cons_self rfl
      have e : cellOf env n = pure c := by unfold cellOf; rw [hc]
      simp only [beq_self_eq_true, if_true, e, pure_bind, closOf, hc]
      exact ih _
    · have hb : (k == NameKind.free) = false := by simpa using hk
      simp only [hb, Bool.false_eq_true, if_false, pure_bind, closOf, hk]
      exact ih _
theorem closureFor_eq {scope : Scope} {env : Env} (h : ∀ x ∈ scope.names, x.2 = .free → ∃ c, env.cells.lookup x.1 = some c) : closureFor scope env = pure (closOf env.cells scope.names []) := by
  have e := closureFor_loop scope.names [] h
  unfold closureFor
  first
    | (simp only [bind_pure]; exact e)
    | (show (forIn scope.names [] _ >>= fun r => pure r) = _
       rw [show (forIn scope.names ([] : List (Str × Addr)) _ : Sem _) = _ from e]
       rfl)
theorem closOf_sub {cells : List (Str × Addr)} {y : Str} {c : Addr} : ∀ {names : List (Str × NameKind)} {cs : List (Str × Addr)}, (∀ y c, cs.lookup y = some c → cells.lookup y = some c) → (closOf cells names cs).lookup y = some c → cells.lookup y = some c
  | [], cs, h, e => h y c e
  | (n, k) :: r, cs, h, e => by
    refine closOf_sub (names := r) ?_ e
    intro y' c' e'
    by_cases hk : k = .free
    · rw [if_pos hk] at e'
      cases q : cells.lookup n with
      | none => rw [q] at e'; exact h _ _ e'
      | some d =>
        rw [q] at e'
        simp only [List.lookup_cons] at e'
        cases hb : y' == n with
        | true =>
          rw [hb] at e'
          cases e'
          have : y' = n := by simpa using hb
          rw [this]; exact q
        | false => rw [hb] at e'; exact h _ _ e'
    · rw [if_neg hk] at e'; exact h _ _ e'
theorem closOf_has {cells : List (Str × Addr)} {y : Str} : ∀ {names : List (Str × NameKind)} {cs : List (Str × Addr)}, ((∃ c, cs.lookup y = some c) ∨ ((y, NameKind.free) ∈ names ∧ ∃ c, cells.lookup y = some c)) → ∃ c, (closOf cells names cs).lookup y = some c
  | [], cs, h => by
    rcases h with h | ⟨h, _⟩
    · exact h
    · cases h
  | (n, k) :: r, cs, h => by
    refine closOf_has (names := r) ?_
    rcases h with ⟨c, h⟩ | ⟨h, c, hc⟩
    · left
      by_cases hk : k = .free
      · rw [if_pos hk]
        cases q : cells.lookup n with
        | none => exact ⟨c, h⟩
        | some d =>
          simp only [List.lookup_cons]
          cases hb : y == n with
          | true => exact ⟨d, rfl⟩
          | false => exact ⟨c, h⟩
      · rw [if_neg hk]; exact ⟨c, h⟩
    · rcases List.mem_cons.mp h with e | h
      · cases e
        left
        rw [if_pos rfl, hc]
        exact ⟨c, by simp⟩
      · exact .inr ⟨h, c, hc⟩
theorem lookup_relabel {env : Env} : ∀ {names : List (Str × NameKind)} {x : Str} {k : NameKind},
    (names.map fun (n, k) => if (k == NameKind.free && env.scope.kind == .function && env.kindOf n == some .cell) then (n, NameKind.cell) else (n, k)).lookup x = some k → names.lookup x = some k ∨ (k = .cell ∧ names.lookup x = some .free)
  | [], _, _, h => by simp at h
  | (n, k0) :: r, x, k, h => by
    have ih := @lookup_relabel env r x k
    rw [List.map_cons] at h
    by_cases hc : (k0 == NameKind.free && env.scope.kind == .function && env.kindOf n == some .cell) = true
    · simp only [hc, if_true, List.lookup_cons] at h
      have hk0 : k0 = .free := by
        simp only [Bool.and_eq_true] at hc
        simpa using hc.1.1
      cases hx : x == n with
      | true => rw [hx] at h; cases h; right; simp [List.lookup_cons, hx, hk0]
      | false => rw [hx] at h; simp only [List.lookup_cons, hx]; exact ih h
    · have hc' : (k0 == NameKind.free && env.scope.kind == .function && env.kindOf n == some .cell) = false := by simpa using hc
      simp only [hc', Bool.false_eq_true, if_false, List.lookup_cons] at h
      cases hx : x == n with
      | true => rw [hx] at h; cases h; left; simp [List.lookup_cons, hx]
      | false => rw [hx] at h; simp only [List.lookup_cons, hx]; exact ih h
def cxC (X : Cx) (N : List Str) (scope : Scope) (C : Addr) (s₀ : Shared) (H₀ : Hp) (ex : List Addr) : Cx where
  prog := X.prog
  w := X.w
  K := X.K
  mg := X.mg
  base := X.base
  A := X.A
  N := N
  s₀ := s₀
  H₀ := H₀
  env := compEnvC scope (closOf X.env.cells scope.names []) C X.env
  outer := X.stack
  stack := X.stack
  ex := ex
  fn := fun _ => false
  calm := X.calm
  pn := []
  xe := fun _ _ => False
def capt (js : List Nat) (σ : St) : St := js.map fun j => (σ[j]?).join
theorem capt_get {js : List Nat} {σ : St} {i : Nat} {v : V} (h : (capt js σ)[i]? = some (some v)) : ∃ j, js[i]? = some j ∧ σ[j]? = some (some v) := by
  unfold capt at h
  rw [List.getElem?_map] at h
  cases e : js[i]? with
  | none => rw [e] at h; cases h
  | some j =>
    rw [e] at h
    have h' : (σ[j]?).join = some v := Option.some.inj h
    refine ⟨j, rfl, ?_⟩
    cases q : σ[j]? with
    | none => rw [q] at h'; cases h'
    | some z => rw [q] at h'; exact congrArg some h'
structure CScope (sc : Scope) (scope : Scope) (x : Str) (M : List Str) (ys : List Str) (js : List Nat) : Prop where
  kind : scope.kind = .function
  cell : ∀ y ∈ scope.names, y.2 ≠ .cell
  loc : ∀ y ∈ scope.names, y.2 = .local → scope.names.lookup y.1 = some .local
  var : scope.names.lookup x = some .local
  free : ∀ y ∈ scope.names, y.2 = .free → sc.names.lookup y.1 = some .cell ∨ sc.names.lookup y.1 = some .free
  caps : js.map (M[·]?) = ys.map some
  fr : ∀ y ∈ ys, scope.names.lookup y = some .free
  nd : (x :: ys).Nodup
section
variable {X : Cx} {pins : List (Addr × Obj)} {σ : St} {H : Hp} {s : Shared}
theorem inv_comp {scope : Scope} {x : Str} {ys : List Str} {js : List Nat} {fp : List Addr} {h₁ : Heap} {tk : Nat} {C : Addr} (I : Inv X pins σ H s) (S : CScope X.env.scope scope x X.N ys js) (hf : ∀ b ∈ fp, FpOk X pins H b) (ho : ∀ b ∈ fp, ∃ o, s.heap.get? b = some o)
    (hC : s.heap.objs.size ≤ C) (hk : ∀ b o, s.heap.get? b = some o → h₁.get? b = some o) (hn : h₁.Ns C fun _ => none) :
    Inv (cxC X (x :: ys) scope C s H fp) [] (none :: capt js σ) H { s with heap := h₁, toks := tk } := by
  have sub : ∀ y c, (closOf X.env.cells scope.names []).lookup y = some c → X.env.cells.lookup y = some c := fun y c e => closOf_sub (fun _ _ z => by simp at z) e
  have has : ∀ y, scope.names.lookup y = some .free → ∃ c, (closOf X.env.cells scope.names []).lookup y = some c := fun y e => by
    have m : (y, NameKind.free) ∈ scope.names := PySem.mem_of_lookup e
    exact closOf_has (.inr ⟨m, I.ok.has y (S.free _ m rfl)⟩)
  have lt : ∀ b ∈ fp, b < s.heap.objs.size := fun b hb => by obtain ⟨o, e⟩ := ho b hb; exact Heap.lt_size e
  have ok : (cxC X (x :: ys) scope C s H fp).Ok := by
    refine ⟨I.ok.mod, S.kind, I.ok.glob, I.ok.blt, hC, fun y z c e1 e2 => I.ok.inj y z c (sub _ _ e1) (sub _ _ e2), fun y hy => ?_, fun y c z => ?_, I.ok.hd, I.ok.frames, .inl rfl, fun b hb => ?_, I.bs, Nat.le_trans I.ok.bsz I.sz, fun b o e hb => ?_, fun b hb z => ?_, I.stack, I.stkFree⟩
    · have hy' : (relabel scope X.env).names.lookup y = some .cell ∨ (relabel scope X.env).names.lookup y = some .free := hy
      have nocell : scope.names.lookup y ≠ some .cell := fun z => S.cell _ (PySem.mem_of_lookup z) rfl
      rcases hy' with e | e
      · rcases lookup_relabel e with z | ⟨_, z⟩
        · exact absurd z nocell
        · exact has y z
      · rcases lookup_relabel e with z | ⟨z, _⟩
        · exact has y z
        · cases z
    · exact absurd (show false = true from z) Bool.false_ne_true
    · refine ⟨Nat.ne_of_lt (Nat.lt_of_lt_of_le (lt b hb) hC), fun y c e => (hf b hb).2.2.2.2.1 y c (sub y c e)⟩
    · rcases (hf b hb).2.2.2.1 with z | z
      · exact I.ok.noex b o e z
      · exact absurd (Nat.lt_of_lt_of_le (Heap.lt_size e) (Nat.le_trans I.ok.bsz z)) (Nat.lt_irrefl _)
    · rcases List.mem_cons.mp (I.stkSub b z) with e | e
      · exact (hf b hb).2.1 e
      · exact (hf b hb).2.2.1 e
  refine ⟨ok, rfl, I.bare, Un.kept hk, ⟨_, hn, fun i y v e1 e2 e3 => ?_⟩, fun y c e => ?_, I.hok.fresh hC, fun y c e => I.freeC y c (sub y c e), fun p hp => absurd (show p ∈ ([] : List (Addr × Obj)) from hp) (by simp), I.hok.kept hk, ?_⟩
  · cases i with
    | zero => simp at e2
    | succ i =>
      have e1' : ys[i]? = some y := by simpa [cxC] using e1
      have e2' : (capt js σ)[i]? = some (some v) := by simpa using e2
      obtain ⟨j, hj, hσ⟩ := capt_get e2'
      have hN : X.N[j]? = some y := by
        have z := congrArg (fun l => l[i]?) S.caps
        simp only [List.getElem?_map, hj, e1', Option.map_some] at z
        exact Option.some.inj z
      have hfr := S.fr y (List.mem_of_getElem? e1')
      have m : (y, NameKind.free) ∈ scope.names := PySem.mem_of_lookup hfr
      have hkind := S.free _ m rfl
      obtain ⟨m', hns, hl⟩ := I.loc
      obtain ⟨u, r, lk⟩ := hl j y v hN hσ (by rcases hkind with z | z; exact .inr (.inl z); exact .inr (.inr z))
      refine ⟨u, r, .inr ⟨?_, ?_⟩⟩
      · have e3' : (relabel scope X.env).names.lookup y = some .local ∨ (relabel scope X.env).names.lookup y = some .cell ∨ (relabel scope X.env).names.lookup y = some .free := e3
        rcases e3' with z | z | z
        · rcases lookup_relabel z with q | ⟨q, _⟩
          · rw [hfr] at q; cases q
          · cases q
        · exact .inl z
        · exact .inr z
      · obtain ⟨c, hc⟩ := has y hfr
        refine ⟨c, hc, ?_⟩
        rcases lk with ⟨z, _⟩ | ⟨_, c', hc', cell⟩
        · rcases hkind with q | q
          · have q' : X.env.kindOf y = some .cell := q
            rw [show X.env.kindOf y = some .local from z] at q'; cases q'
          · have q' : X.env.kindOf y = some .free := q
            rw [show X.env.kindOf y = some .local from z] at q'; cases q'
        · rw [sub y c hc] at hc'
          cases hc'
          obtain ⟨o, e, d⟩ := cell
          exact ⟨o, hk _ _ e, d⟩
  · obtain ⟨v, o, e', d⟩ := I.cell y c (sub y c e)
    exact ⟨v, o, hk _ _ e', d⟩
  · have z := congrArg List.length S.caps
    simp only [List.length_map] at z
    show (none :: capt js σ).length = (x :: ys).length
    simp [capt, z]
end
end L2
set_option Elab.async false
set_option linter.all false
set_option maxRecDepth 100000
namespace L2
open PySem PySem.Spec PyProof.Rows
theorem from_pure {α β : Type} {M : Model} {A : Around} {a : α} {Q : α → Shared → Prop} {E E' : Value → Shared → Prop} {s : Shared} {t : Sem β} {Q' : β → Shared → Prop} (h : wpAny M A (pure a) Q E s) (k : Q a s → wpAny M A t Q' E' s) : wpAny M A t Q' E' s :=
  fun Γ p hΓ => k (h Γ p hΓ) Γ p hΓ
def PTs (X : Cx) (ifs : List Expr) (t : TT) : Prop :=
  ∀ (pins : List (Addr × Obj)) (s : Shared) (σ : St) (H : Hp) (Q : Bool → Hp → Prop), Inv X pins σ H s → t σ H Q →
    wpAny (model X.prog X.w) X.A (forIn ifs true fun c r => if r = true then do let ok ← isTrue c X.env (eval c X.env); pure (ForInStep.yield ok) else pure (ForInStep.yield r)) (TP X pins σ Q) X.xe s
def tYes : TT := fun _ H Q => Q true H
theorem pts_nil {X : Cx} : PTs X [] tYes := fun pins s σ H Q I h => wpAny_tests_nil ⟨H, I, h⟩
theorem pts_one {X : Cx} {c : Expr} {t : TT} (h : PT X c t) : PTs X [c] t := fun pins s σ H Q I hw => wpAny_tests_one (h pins s σ H Q I hw)
def CompLoop (J : It) (js : List Nat) (tt : TT) (te : TE) (σ : St) (Q : VK) (H : Hp) : Prop := ∃ W : Nat → Nat → List V → Hp → Prop, (∃ m, W 0 m [] H) ∧ ∀ i m ys H, W i m ys H →
  (J.stop i H ∧ ∀ D, H D = none → Q (.ref D) (upd H D (.lst ys))) ∨
  (J.go i H ∧ ys.length < sizeLine ∧ ∃ N : List V → Hp → Prop, (∀ ys' H', N ys' H' → ∃ m', m' < m ∧ W (i + 1) m' ys' H') ∧ ∀ x H', J.yld i H x H' → tt (some x :: capt js σ) H' fun b H2 => if b = true then te (some x :: capt js σ) H2 fun v H3 => N (ys ++ [v]) H3 else N ys H2)
def tComp (wi : TI) (js : List Nat) (tt : TT) (te : TE) : TE := fun σ H Q => wi σ H fun J H1 => CompLoop J js tt te σ Q H1
theorem HOk.track {P : Program} {w : World} {H : Hp} {h : Heap} {a : Addr} {o : HO} (x : HOk P w H h) (hn : H a = none) (new : ObjOk P w (upd H a o) h a o) : HOk P w (upd H a o) h := fun b u e => by
  by_cases hb : b = a
  · subst hb; rw [upd_same] at e; cases e; exact new
  · rw [upd_ne hb] at e
    exact (x b u e).stay (fun _ _ _ q => q) (fun c q => by rw [upd_ne (ne_of_none q hn)]; exact q) fun c xs q => by rw [upd_ne (ne_of_none q hn)]; exact q
section
variable {X : Cx} {elt iter : Expr} {ifs : List Expr} {x : Str} {px pos : Pos} {scope : Scope} {ys : List Str} {js : List Nat} {wi : TI} {tt : TT} {te : TE}
theorem comp_block {pins : List (Addr × Obj)} {σ : St} {H : Hp} {s : Shared} {J : It} {fp : List Addr} {it : Addr} {tn : Nat → Heap → Prop} {Q : VK} {E : Value → Shared → Prop} {R : Value → Addr → Result → Shared → Prop}
    (S : CScope X.env.scope scope x X.N ys js) (hc : X.calm = true) (ht : ∀ C s₀ H₀ ex, PTs (cxC X (x :: ys) scope C s₀ H₀ ex) ifs tt) (he : ∀ C s₀ H₀ ex, PE (cxC X (x :: ys) scope C s₀ H₀ ex) elt te)
    (I : Inv X pins σ H s) (T : Turn X.prog X.w X.K (.Name x px) J fp it tn) (st : tn 0 s.heap) (hf : ∀ b ∈ fp, FpOk X pins H b)
    (hw : ∃ W : Nat → Nat → List V → Hp → Prop, (∃ m, W 0 m [] H) ∧ ∀ i m zs H, W i m zs H →
      (J.stop i H ∧ ∀ D, H D = none → Q (.ref D) (upd H D (.lst zs))) ∨
      (J.go i H ∧ zs.length < sizeLine ∧ ∃ N : List V → Hp → Prop, (∀ ys' H', N ys' H' → ∃ m', m' < m ∧ W (i + 1) m' ys' H') ∧ ∀ x H', J.yld i H x H' → tt (some x :: capt js σ) H' fun b H2 => if b = true then te (some x :: capt js σ) H2 fun v H3 => N (zs ++ [v]) H3 else N zs H2))
    (hR : ∀ D C s' H' m', Inv X pins σ H' s' → Q (.ref D) H' → s.heap.objs.size ≤ C → H' C = none → s'.heap.Ns C m' → R (.ref D) C (.ok .next) s') :
    wpAny (model X.prog X.w) X.A (newList []) (fun acc s₃ => wpAny (model X.prog X.w) X.A (newFunctionEnv scope X.env.globals (closOf X.env.cells scope.names []) [] X.env.qual none .none (some X.env)) (fun cenv s₄ =>
      codeAny (model X.prog X.w) X.A (.compStart (.ListComp elt [⟨.Name x px, iter, ifs, 0⟩] scope pos) 0 (.ref it) acc { cenv with scope := relabel scope X.env }) (R acc cenv.locals) s₄) E s₃) E s := by
  obtain ⟨W, ⟨m0, w0⟩, turn⟩ := hw
  refine wpAny_newObj_type (wpAny_newFunctionEnv S.cell (by intro y hy; simp at hy) (fun h₁ hns₁ hsb₁ => ?_) S.kind)
  dsimp only at hns₁ hsb₁ ⊢
  generalize hH2 : s.heap.push { cls := .type "list", dict := none, data := .seq ([] : List Value).toArray } = G at hns₁ hsb₁ ⊢
  generalize hD : s.heap.objs.size = D at *
  generalize hCe : G.objs.size = C at *
  have hC : C = D + 1 := by rw [← hCe, ← hH2, Heap.size_push, hD]
  have hDlt : D < C := by rw [hC]; exact Nat.lt_succ_self D
  have hDC : D ≠ C := Nat.ne_of_lt hDlt
  have old : ∀ b o, s.heap.get? b = some o → h₁.get? b = some o := fun b o e => by
    have hb : b < D := hD ▸ Heap.lt_size e
    exact (hsb₁.2 b (Nat.ne_of_lt (Nat.lt_trans hb hDlt))).trans (Heap.get?_push_of_some _ (hH2 ▸ Heap.get?_push_of_some _ e))
  have hacc : h₁.get? D = some { cls := .type "list", data := .seq ([] : List Value).toArray 0 } := by
    refine (hsb₁.2 D hDC).trans (Heap.get?_push_of_some _ ?_)
    rw [← hH2, ← hD]
    exact Heap.get?_push_size _ rfl
  have obj0 := T.obj 0 _ st
  have fplt : ∀ b ∈ fp, b < D := fun b hb => by obtain ⟨o, e, _⟩ := obj0 b hb; exact hD ▸ Heap.lt_size e
  generalize hX : cxC X (x :: ys) scope C s H fp = X'
  have I1 : Inv X' [] (none :: capt js σ) H { s with heap := h₁, toks := s.toks + ([] : List (Str × Value)).length } := by
    subst hX
    exact inv_comp I S hf (fun b hb => by obtain ⟨o, e, _⟩ := obj0 b hb; exact ⟨o, e⟩) (by omega) old (by simpa using hns₁)
  have eP : X'.prog = X.prog := by subst hX; rfl
  have eW : X'.w = X.w := by subst hX; rfl
  have eK : X'.K = X.K := by subst hX; rfl
  have eA : X'.A = X.A := by subst hX; rfl
  have eC : X'.calm = true := by subst hX; exact hc
  have eL : X'.env.locals = C := by subst hX; rfl
  have eS : X'.s₀ = s := by subst hX; rfl
  have eN : X'.N = x :: ys := by subst hX; rfl
  have eE : X'.env = compEnvC scope (closOf X.env.cells scope.names []) C X.env := by subst hX; rfl
  have eXe : X'.xe = fun _ _ => False := by subst hX; rfl
  have eX : X'.ex = fp := by subst hX; rfl
  have ePn : X'.pn = [] := by subst hX; rfl
  have efs : ∀ b, b ∈ X'.fs → b ∈ frs X.stack := fun b z => by subst hX; exact z
  have cellLt : ∀ y c, X'.env.cells.lookup y = some c → c < D := fun y c e => by
    have e' : (closOf X.env.cells scope.names []).lookup y = some c := by rw [eE] at e; exact e
    obtain ⟨v, o, e2, _⟩ := I.cell y c (closOf_sub (fun _ _ z => by simp at z) e')
    exact hD ▸ Heap.lt_size e2
  have frLt : ∀ b, b ∈ X'.fs → b < D := fun b z => by
    rcases List.mem_cons.mp (I.stkSub b (efs b z)) with e | e
    · rw [e]; exact hD ▸ I.lt
    · exact Nat.lt_of_not_le fun h => I.nofs (hD ▸ h) e
  have fpOk : ∀ (p : List (Addr × Obj)) (H' : Hp), (∀ b ∈ fp, H' b = none) → (∀ q ∈ p, q.1 = D) → ∀ b ∈ fp, FpOk X' p H' b := fun p H' hn hp b hb => by
    refine ⟨hn b hb, ?_, fun z => ?_, .inl (eX ▸ hb), fun y c e => ?_, fun q hq => ?_⟩
    · rw [eL]; exact Nat.ne_of_lt (Nat.lt_trans (fplt b hb) hDlt)
    · rcases List.mem_cons.mp (I.stkSub b (efs b z)) with e | e
      · exact (hf b hb).2.1 e
      · exact (hf b hb).2.2.1 e
    · have e' : (closOf X.env.cells scope.names []).lookup y = some c := by rw [eE] at e; exact e
      exact (hf b hb).2.2.2.2.1 y c (closOf_sub (fun _ _ z => by simp at z) e')
    · rw [ePn, List.nil_append] at hq
      rw [hp q hq]; exact Nat.ne_of_gt (fplt b hb)
  have noCell : ∀ (its : List Value) (k : Nat) v, ({ cls := .type "list", data := .seq its.toArray k } : Obj).data ≠ .cell v := fun its k v z => by cases z
  have done : ∀ {zs : List V} {its : List Value} {k : Nat} {H' : Hp} {s' : Shared}, Inv X' [] (none :: capt js σ) H' s' → s'.heap.get? D = some { cls := .type "list", data := .seq its.toArray k } → Vals zs its → H' D = none → zs.length ≤ sizeLine →
      (∀ D, H' D = none → Q (.ref D) (upd H' D (.lst zs))) → R (.ref D) C (.ok .next) s' := fun {zs its k H' s'} I' hd hv hn hz q => by
    have un := I'.base
    obtain ⟨m', hns, _⟩ := I'.loc
    rw [eL] at hns
    have hCn : H' C = none := by have := I'.free; rw [eL] at this; exact this
    have hH0 : X'.H₀ = H := by subst hX; rfl
    rw [hH0, eS, eX] at un
    have un2 : Un (frs X.stack) fp H (upd H' D (.lst zs)) s.heap s'.heap := by
      have ne : ∀ b o, s.heap.get? b = some o → b ≠ D := fun b o e => Nat.ne_of_lt (hD ▸ Heap.lt_size e)
      have un' : Un (frs X.stack) fp H H' s.heap s'.heap := by subst hX; exact un
      exact ⟨un'.keep, un'.slot, fun b o e n hx => by rw [upd_ne (ne b o e)]; exact un'.free b o e n hx, un'.there, fun b xs e => by rw [upd_ne (ne_of_none (un'.tups b xs e) hn)]; exact un'.tups b xs e,
        fun b o u e => by rw [upd_ne (ne_of_none (un'.frzs b o u e) hn)]; exact un'.frzs b o u e, fun b ps e => by
          obtain ⟨more, z⟩ := un'.tbls b ps e
          exact ⟨more, by rw [upd_ne (ne_of_none z hn)]; exact z⟩⟩
    have hok : HOk X.prog X.w (upd H' D (.lst zs)) s'.heap := by
      have h0 := I'.hok
      rw [eP, eW] at h0
      exact h0.track hn ⟨hz, its, k, hv, hd⟩
    have I2 : Inv X pins σ (upd H' D (.lst zs)) s' := I.call' (by have := I'.os; rw [eS] at this; exact this) un2 hok I'.bare fun b hb => ⟨(hf b hb).2.2.2.1, (hf b hb).2.1, (hf b hb).2.2.2.2.1, (hf b hb).2.2.2.2.2⟩
    exact hR D C s' _ m' I2 (q D hn) (by omega) (by rw [upd_ne (Ne.symm hDC)]; exact hCn) hns
  have loop : codeAny (model X.prog X.w) X.A (.compLoop (.ListComp elt [⟨.Name x px, iter, ifs, 0⟩] scope pos) 0 (.ref it) (.ref D) X'.env) (R (.ref D) C) { s with heap := h₁, toks := s.toks + ([] : List (Str × Value)).length } := by
    refine codeAny_compLoop_tests (fun n s' => ∃ i zs its k H', Inv X' [] (none :: capt js σ) H' s' ∧ tn i s'.heap ∧ (∀ b ∈ fp, H' b = none) ∧ s'.heap.get? D = some { cls := .type "list", data := .seq its.toArray k } ∧ Vals zs its ∧ H' D = none ∧ zs.length ≤ sizeLine ∧ W i n zs H')
      ?_ m0 ⟨0, [], [], 0, H, I1, T.keep _ _ _ st (fun b hb o e => old b o e), fun b hb => (hf b hb).1, hacc, .nil, I.hok.fresh (by omega), Nat.zero_le _, w0⟩ (fun _ => rfl)
    rintro n s3 ⟨i, zs, its, k, H3, I3, st3, fr3, d3, v3, n3, z3, w3⟩
    have pinD : Inv X' [(D, { cls := .type "list", data := .seq its.toArray k })] (none :: capt js σ) H3 s3 := I3.pins_of fun p hp => by
      have e : p = (D, { cls := .type "list", data := .seq its.toArray k }) := by simpa using hp
      subst e
      exact ⟨d3, n3, by rw [eL]; exact hDC, fun z => Nat.lt_irrefl _ (frLt D z), noCell its k⟩
    have hpD : ∀ q ∈ [(D, ({ cls := .type "list", data := .seq its.toArray k } : Obj))], q.1 = D := fun q hq => by
      have e : q = (D, { cls := .type "list", data := .seq its.toArray k }) := by simpa using hq
      rw [e]
    rcases turn i n zs H3 w3 with ⟨stop, qn⟩ | ⟨go, hzl, NN, hNN, step⟩
    · refine thn (eA ▸ T.done X' eP eW eK eC i _ s3 _ H3 _ pinD (fpOk _ _ fr3 hpD) st3 stop) fun r s4 ⟨hr, I4⟩ => ?_
      subst hr
      exact done (I4.pins_of fun p hp => absurd hp (by simp)) (I4.pin (D, { cls := .type "list", data := .seq its.toArray k }) (List.mem_append_right _ (by simp))).1 v3 n3 z3 qn
    · refine thn (eA ▸ T.item X' eP eW eK eC i _ s3 _ H3 _ pinD (fpOk _ _ fr3 hpD) st3 go) fun r s4 ⟨u, hr, h4⟩ => ?_
      subst hr
      refine from_pure (a := ()) h4 fun ⟨v, H5, I5, r5, y5, st5, fr5⟩ => ?_
      have I5' := I5.pinned (fpOk _ _ fr5 hpD) (T.obj _ _ st5)
      have ev : ∀ {α : Type} {t : Sem α} {Q' : α → Shared → Prop} {E' : Value → Shared → Prop} {s' : Shared}, wpAny (model X'.prog X'.w) X'.A t Q' X'.xe s' → wpAny (model X.prog X.w) X.A t Q' E' s' := fun {α t Q' E' s'} hh => by
        rw [eP, eW, eA, eXe] at hh
        exact wpAny_mono hh (fun _ _ q => q) fun _ _ z => z.elim
      refine ev (thn (pg_name (X := X') (i := 0) (by rw [eN]; exact S.nd) (by rw [eN]; rfl) (.inl (by rw [eE]; exact lookup_relabel_local S.var)) (.inr (by rw [eE]; exact lookup_relabel_local S.var)) _ s4 _ H5 v u (fun σ' H' => σ' = some v :: capt js σ ∧ H' = H5) I5' r5 ⟨rfl, rfl⟩) fun _ s6 ⟨σ6, H6, I6, e6, e6'⟩ => ?_)
      subst e6 e6'
      have back : ∀ {σ' : St} {H7 : Hp} {s7 : Shared}, Inv X' ([(D, { cls := .type "list", data := .seq its.toArray k })] ++ pinsAt fp s4.heap) (some v :: capt js σ) H7 s7 → Inv X' [] (none :: capt js σ) H7 s7 := fun {_ H7 s7} I7 => by
        refine (I7.pins_of fun p hp => absurd hp (by simp)).weak rfl fun i v' e => ?_
        cases i with
        | zero => simp at e
        | succ i => simpa using e
      have fps : ∀ {σ' : St} {H7 : Hp} {s7 : Shared}, Inv X' ([(D, { cls := .type "list", data := .seq its.toArray k })] ++ pinsAt fp s4.heap) σ' H7 s7 → (∀ b ∈ fp, H7 b = none) ∧ (∀ b ∈ fp, ∀ o, s4.heap.get? b = some o → s7.heap.get? b = some o) ∧ s7.heap.get? D = some { cls := .type "list", data := .seq its.toArray k } ∧ H7 D = none := fun {σ' H7 s7} I7 => by
        have g : ∀ b ∈ fp, ∀ o, s4.heap.get? b = some o → s7.heap.get? b = some o ∧ H7 b = none := fun b hb o e => by
          have z := I7.pin (b, o) (List.mem_append_right _ (List.mem_append_right _ (mem_pinsAt hb e)))
          exact ⟨z.1, z.2.1⟩
        refine ⟨fun b hb => ?_, fun b hb o e => (g b hb o e).1, (I7.pin (D, { cls := .type "list", data := .seq its.toArray k }) (List.mem_append_right _ (by simp))).1, (I7.pin (D, { cls := .type "list", data := .seq its.toArray k }) (List.mem_append_right _ (by simp))).2.1⟩
        obtain ⟨o, e, _⟩ := T.obj _ _ st5 b hb
        exact (g b hb o e).2
      have hte : PTs X' ifs tt := hX ▸ ht C s H fp
      have hee : PE X' elt te := hX ▸ he C s H fp
      refine ev (thn (hte _ s6 _ H6 _ I6 (step v H6 y5)) fun b s7 ⟨H7, I7, q7⟩ => ?_)
      cases b with
      | false =>
        rw [if_neg Bool.false_ne_true]
        rw [if_neg Bool.false_ne_true] at q7
        obtain ⟨m', hm, w7⟩ := hNN _ _ q7
        obtain ⟨g1, g2, g3, g4⟩ := fps I7
        exact ⟨m', hm, i + 1, zs, its, k, H7, back (σ' := []) I7, T.keep _ _ _ st5 g2, g1, g3, v3, g4, z3, w7⟩
      | true =>
        rw [if_pos rfl]
        rw [if_pos rfl] at q7
        refine ev (thn (hee _ s7 _ H7 _ I7 q7) fun u8 s8 ⟨v8, H8, I8, r8, q8⟩ => ?_)
        obtain ⟨m', hm, w8⟩ := hNN _ _ q8
        obtain ⟨g1, g2, g3, g4⟩ := fps I8
        have hil := v3.length
        refine call_meets F.slot_list_append ⟨_, g3, rfl⟩ F.entry_list_append (F.args_list_append_2 _ _) (PySem.list_append D its.toArray k u8 (by rw [List.size_toArray]; omega)) ⟨g3, ?_⟩
        have q := PySem.IsL.update g3 (fun a => a.push u8)
        have ea : its.toArray.push u8 = (its ++ [u8]).toArray := by simp
        rw [ea] at q
        have kk : ∀ b o, b ≠ D → s8.heap.get? b = some o → (s8.heap.update D (Obj.mapSeq fun a => a.push u8)).get? b = some o := fun b o hb e => (Heap.get?_update_other _ _ (Ne.symm hb)).trans e
        have I9 : Inv X' [] (none :: capt js σ) H8 { s8 with heap := s8.heap.update D (Obj.mapSeq fun a => a.push u8), toks := s8.toks } := by
          refine (back (σ' := []) I8).turned kk g4 (by rw [eL]; exact hDC) (.inr (by rw [eS]; omega)) (fun y c e => Nat.ne_of_lt (cellLt y c e)) fun p hp => ?_
          rw [ePn] at hp
          exact absurd hp (by simp)
        refine ⟨m', hm, i + 1, zs ++ [v8], its ++ [u8], _, H8, I9, T.keep _ _ _ st5 (fun b hb o e => kk b o (Nat.ne_of_lt (fplt b hb)) (g2 b hb o e)), g1, q, v3.append (.cons r8 .nil), g4, ?_, w8⟩
        rw [List.length_append, List.length_singleton]
        omega
  rw [eE] at loop
  exact codeAny_compStart_list loop (T.self _ 0 _ _ _ (T.keep _ _ _ st (fun b hb o e => old b o e)) loop)
theorem pe_comp (S : CScope X.env.scope scope x X.N ys js) (hc : X.calm = true) (hi : PI X (.Name x px) iter wi) (ht : ∀ C s₀ H₀ ex, PTs (cxC X (x :: ys) scope C s₀ H₀ ex) ifs tt) (he : ∀ C s₀ H₀ ex, PE (cxC X (x :: ys) scope C s₀ H₀ ex) elt te)
    (hs : ∀ x, foldedSetIterable iter X.env x = pure x := by intro _; rfl) : PE X (.ListComp elt [⟨.Name x px, iter, ifs, 0⟩] scope pos) (tComp wi js tt te) := by
  intro pins s σ H Q I h
  rw [eval_ListComp]
  refine wpAny_comprehension_free (use := none) rfl hs (closureFor_eq fun y hy e => I.ok.has _ (S.free y hy e)) S.kind S.loc (thn (hi pins s σ H _ I h) fun v s1 h1 => thn h1 fun itv s2 h2 => ?_)
  obtain ⟨it, fp, tn, J, H2, e, I2, T, st2, f2, hw⟩ := h2
  subst e
  refine comp_block (Q := Q) (R := fun acc C => compPost (model X.prog X.w) X.A X.xe none (EP X pins σ Q) acc C) S hc ht he I2 T st2 f2 hw ?_
  intro D C s' H' m' I' q hC hn hns
  refine ⟨m', hns, fun h' hs' => ⟨.ref D, H', ?_, rfl, q⟩⟩
  have e := I2.fpOk hC hn
  exact I'.turned (t' := s'.toks) (fun b o hb e => (hs'.2 b hb).trans e) hn e.2.1 e.2.2.2.1 e.2.2.2.2.1 e.2.2.2.2.2
theorem ps_setComp {i : Nat} {y : Str} {py spos : Pos} (S : CScope X.env.scope scope x X.N ys js) (hc : X.calm = true) (hN : X.N.Nodup) (hy : X.N[i]? = some y) (hl : Loc X.env.scope y) (hi : PI X (.Name x px) iter wi) (ht : ∀ C s₀ H₀ ex, PTs (cxC X (x :: ys) scope C s₀ H₀ ex) ifs tt) (he : ∀ C s₀ H₀ ex, PE (cxC X (x :: ys) scope C s₀ H₀ ex) elt te)
    (hf : X.fn y = true ∨ X.env.scope.names.lookup y = some .local := by first | exact .inl rfl | exact .inr rfl | assumption)
    (hsw : swapsWith (.ListComp elt [⟨.Name x px, iter, ifs, 0⟩] scope pos) (some (.Name y py)) spos.line X.env = pure true := by rfl)
    (hs : ∀ x, foldedSetIterable iter X.env x = pure x := by intro _; rfl) : PS X (.Assign [.Name y py] (.ListComp elt [⟨.Name x px, iter, ifs, 0⟩] scope pos) spos) (tAsg (tComp wi js tt te) (gName i)) := by
  intro pins s σ H D I h
  rw [exec_Assign_Name_used _ _ _ _ hsw]
  refine wpAny_bind (wpAny_standAt (wpAny_bind ?_))
  show wpAny _ X.A (do let _ ← comprehension (.ListComp elt [⟨.Name x px, iter, ifs, 0⟩] scope pos) scope X.env _ (newList []) false (eval iter X.env) (some (assign (.Name y py) X.env))) _ _ s
  refine wpAny_bind (wpAny_mono (wpAny_comprehension_free (use := some (assign (.Name y py) X.env)) (Q := fun _ s' => SP X pins D .next s') rfl hs (closureFor_eq fun y hy e => I.ok.has _ (S.free y hy e)) S.kind S.loc
    (thn (hi pins s σ H _ I h) fun v s1 h1 => thn h1 fun itv s2 h2 => ?_)) (fun _ s' hq => wpAny_pure (wpAny_pure hq)) fun _ _ e => e)
  obtain ⟨it, fp, tn, J, H2, e, I2, T, st2, f2, hw⟩ := h2
  subst e
  refine comp_block (Q := fun v H' => gName i v σ H' D.nx) (R := fun acc C => compPost (model X.prog X.w) X.A X.xe (some (assign (.Name y py) X.env)) (fun _ s' => SP X pins D .next s') acc C) S hc ht he I2 T st2 f2 hw ?_
  intro Da C s' H' m' I' q hC hn hns
  have e := I2.fpOk hC hn
  show wpAny _ X.A (assign (.Name y py) X.env (.ref Da)) _ _ _
  refine wpAny_assign_Name (store_ok2 I' hN hy hl (show RelV (.ref Da) (.ref Da) from rfl) (fun s2' I3 ⟨a, sb, ha⟩ => ?_) hf)
  have hCa : C ≠ a := by
    rcases ha with z | z
    · rw [z]; exact e.2.1
    · intro w; exact e.2.2.2.2.1 _ _ z w.symm
  refine ⟨m', hns.sameBut sb hCa, fun h' hs' => ⟨_, H', ?_, q⟩⟩
  exact I3.turned (t' := s2'.toks) (fun b o hb e => (hs'.2 b hb).trans e) hn e.2.1 e.2.2.2.1 e.2.2.2.2.1 e.2.2.2.2.2
end
theorem comp_list {K : PySem.W.Frag} {a : Addr} {xs : List V} {js : List Nat} {tt : TT} {te : TE} {σ : St} {H : Hp} {Q : VK} (Pv : Nat → List V → Hp → Prop) (h0 : Pv 0 [] H) (hl : ∀ i ys H, i ≤ xs.length → Pv i ys H → SqL K H a xs)
    (hs : ∀ i x ys H, xs[i]? = some x → Pv i ys H → ys.length < sizeLine ∧ tt (some x :: capt js σ) H fun b H2 => if b = true then te (some x :: capt js σ) H2 fun v H3 => Pv (i + 1) (ys ++ [v]) H3 else Pv (i + 1) ys H2)
    (hd : ∀ ys H, Pv xs.length ys H → ∀ D, H D = none → Q (.ref D) (upd H D (.lst ys))) :
    CompLoop (Itl K a) js tt te σ Q H := by
  refine ⟨fun i m ys H => m = xs.length - i ∧ i ≤ xs.length ∧ Pv i ys H, ⟨xs.length, by simp, Nat.zero_le _, h0⟩, ?_⟩
  rintro i m ys H ⟨rfl, hi, p⟩
  have q := hl i ys H hi p
  by_cases hlt : i < xs.length
  · have hx : xs[i]? = some xs[i] := List.getElem?_eq_getElem hlt
    obtain ⟨hz, hst⟩ := hs i xs[i] ys H hx p
    refine .inr ⟨⟨xs, xs[i], q, hx⟩, hz, Pv (i + 1), fun ys' H' p' => ⟨xs.length - (i + 1), by omega, rfl, hlt, p'⟩, fun x H' y => ?_⟩
    obtain ⟨e, y⟩ := y
    subst e
    have e2 := y xs q
    rw [hx] at e2
    cases e2
    exact hst
  · have e : i = xs.length := by omega
    subst e
    exact .inl ⟨⟨xs, q, Nat.le_refl _⟩, hd ys H p⟩
theorem comp_range {lo : Int} {n : Nat} {js : List Nat} {tt : TT} {te : TE} {σ : St} {H : Hp} {Q : VK} (Pv : Nat → List V → Hp → Prop) (h0 : Pv 0 [] H)
    (hs : ∀ i ys H, i < n → Pv i ys H → ys.length < sizeLine ∧ tt (some (.int (lo + i)) :: capt js σ) H fun b H2 => if b = true then te (some (.int (lo + i)) :: capt js σ) H2 fun v H3 => Pv (i + 1) (ys ++ [v]) H3 else Pv (i + 1) ys H2)
    (hd : ∀ ys H, Pv n ys H → ∀ D, H D = none → Q (.ref D) (upd H D (.lst ys))) :
    CompLoop (Itr lo n) js tt te σ Q H := by
  refine ⟨fun i m ys H => m = n - i ∧ i ≤ n ∧ Pv i ys H, ⟨n, by simp, Nat.zero_le _, h0⟩, ?_⟩
  rintro i m ys H ⟨rfl, hi, p⟩
  by_cases hlt : i < n
  · obtain ⟨hz, hst⟩ := hs i ys H hlt p
    refine .inr ⟨hlt, hz, Pv (i + 1), fun ys' H' p' => ⟨n - (i + 1), by omega, rfl, hlt, p'⟩, fun x H' y => ?_⟩
    obtain ⟨e, y⟩ := y
    subst e y
    exact hst
  · have e : i = n := by omega
    subst e
    exact .inl ⟨Nat.le_refl _, hd ys H p⟩
end L2
set_option Elab.async false
set_option linter.all false
set_option maxRecDepth 100000
namespace L2
open PySem PySem.Spec PyProof.Rows PySem.SeqAt
inductive Tr where
  | non | bl (b : Bool) | int (i : Int) | str (x : Str) | lst (ts : List Tr) | tup (ts : List Tr)
mutual
def TrAt (K : PySem.W.Frag) (H : Hp) : Tr → V → Prop
  | .non, v => v = .non
  | .bl b, v => v = .bl b
  | .int i, v => v = .int i
  | .str x, v => v = .str x
  | .lst ts, v => ∃ a xs, v = .ref a ∧ SqL K H a xs ∧ TrsAt K H ts xs
  | .tup ts, v => ∃ a xs, v = .ref a ∧ SqT K H a xs ∧ TrsAt K H ts xs
def TrsAt (K : PySem.W.Frag) (H : Hp) : List Tr → List V → Prop
  | [], xs => xs = []
  | t :: ts, xs => ∃ y ys, xs = y :: ys ∧ TrAt K H t y ∧ TrsAt K H ts ys
end
mutual
def teq : Tr → Tr → Bool
  | .non, .non => true
  | .bl a, .bl b => a == b
  | .bl a, .int b => (if a then 1 else 0) == b
  | .int a, .bl b => a == (if b then 1 else 0)
  | .int a, .int b => a == b
  | .str a, .str b => a == b
  | .lst a, .lst b => teqs a b
  | .tup a, .tup b => teqs a b
  | _, _ => false
def teqs : List Tr → List Tr → Bool
  | [], [] => true
  | t :: ts, u :: us => teq t u && teqs ts us
  | _, _ => false
end
mutual
def tdep : Tr → Nat
  | .lst ts => tdeps ts + 1
  | .tup ts => tdeps ts + 1
  | _ => 0
def tdeps : List Tr → Nat
  | [] => 0
  | t :: ts => max (tdep t) (tdeps ts)
end
theorem tdep_mem {t : Tr} : ∀ {ts : List Tr}, t ∈ ts → tdep t ≤ tdeps ts
  | u :: ts, h => by
    rw [tdeps]
    rcases List.mem_cons.mp h with e | h
    · rw [e]; exact Nat.le_max_left _ _
    · exact Nat.le_trans (tdep_mem h) (Nat.le_max_right _ _)
section
variable {K : PySem.W.Frag} {H : Hp}
theorem TrsAt.length : ∀ {ts : List Tr} {xs : List V}, TrsAt K H ts xs → ts.length = xs.length
  | [], xs, h => by rw [TrsAt] at h; subst h; rfl
  | t :: ts, xs, h => by
    rw [TrsAt] at h
    obtain ⟨y, ys, rfl, _, h⟩ := h
    rw [List.length_cons, List.length_cons, TrsAt.length h]
theorem TrsAt.get : ∀ {ts : List Tr} {xs : List V} {j : Nat} {t : Tr}, TrsAt K H ts xs → ts[j]? = some t → ∃ x, xs[j]? = some x ∧ TrAt K H t x
  | [], xs, j, t, h, e => by simp at e
  | u :: ts, xs, 0, t, h, e => by
    rw [TrsAt] at h
    obtain ⟨y, ys, rfl, hy, h⟩ := h
    simp at e
    subst e
    exact ⟨y, rfl, hy⟩
  | u :: ts, xs, j + 1, t, h, e => by
    rw [TrsAt] at h
    obtain ⟨y, ys, rfl, hy, h⟩ := h
    obtain ⟨x, e1, e2⟩ := TrsAt.get (j := j) h (by simpa using e)
    exact ⟨x, by simpa using e1, e2⟩
theorem TrsAt.ints : ∀ {ns : List Int}, TrsAt K H (ns.map Tr.int) (ns.map V.int)
  | [] => by rw [List.map_nil, TrsAt]; rfl
  | n :: ns => by rw [List.map_cons, TrsAt]; exact ⟨_, _, rfl, by rw [TrAt], TrsAt.ints⟩
def tInts (ns : List Int) : Tr := .lst (ns.map Tr.int)
theorem TrAt.ints {a : Addr} {ns : List Int} (h : SqL K H a (ns.map V.int)) : TrAt K H (tInts ns) (.ref a) := by
  unfold tInts; rw [TrAt]; exact ⟨a, _, rfl, h, TrsAt.ints⟩
end
mutual
theorem teq_refl : ∀ t : Tr, teq t t = true
  | .non => by rw [teq]
  | .bl b => by rw [teq]; simp
  | .int i => by rw [teq]; simp
  | .str x => by rw [teq]; simp
  | .lst ts => by rw [teq]; exact teqs_refl ts
  | .tup ts => by rw [teq]; exact teqs_refl ts
theorem teqs_refl : ∀ ts : List Tr, teqs ts ts = true
  | [] => by rw [teqs]
  | t :: ts => by rw [teqs, teq_refl t, teqs_refl ts]; rfl
end
theorem teqs_map {α : Type} [DecidableEq α] {f : α → Tr} (h : ∀ a b, teq (f a) (f b) = decide (a = b)) : ∀ (xs ys : List α), teqs (xs.map f) (ys.map f) = decide (xs = ys)
  | [], [] => by simp [teqs]
  | [], _ :: _ => by simp [teqs]
  | _ :: _, [] => by simp [teqs]
  | x :: xs, y :: ys => by
    rw [List.map_cons, List.map_cons, teqs, h, teqs_map h xs ys, Bool.eq_iff_iff]
    simp
theorem teq_int (a b : Int) : teq (.int a) (.int b) = decide (a = b) := by rw [teq, Bool.eq_iff_iff]; simp
theorem teq_ints (a b : List Int) : teq (tInts a) (tInts b) = decide (a = b) := by unfold tInts; rw [teq]; exact teqs_map teq_int a b
theorem tdeps_ints : ∀ ns : List Int, tdeps (ns.map Tr.int) = 0
  | [] => by simp [tdeps]
  | n :: ns => by rw [List.map_cons, tdeps, tdeps_ints ns, tdep] <;> simp
theorem tdep_tInts (ns : List Int) : tdep (tInts ns) = 1 := by unfold tInts; rw [tdep, tdeps_ints]
theorem teqs_length : ∀ {ts us : List Tr}, ts.length ≠ us.length → teqs ts us = false
  | [], [], h => absurd rfl h
  | [], _ :: _, _ => by simp [teqs]
  | _ :: _, [], _ => by simp [teqs]
  | t :: ts, u :: us, h => by rw [teqs, teqs_length (by simpa using h), Bool.and_false]
def eAt (ts us : List Tr) (j : Nat) : Bool := match ts[j]?, us[j]? with
  | some t, some u => teq t u
  | _, _ => true
theorem all_eAt : ∀ {ts us : List Tr}, ts.length = us.length → (List.range ts.length).all (eAt ts us) = teqs ts us
  | [], [], _ => by simp [teqs]
  | [], _ :: _, h => by simp at h
  | _ :: _, [], h => by simp at h
  | t :: ts, u :: us, h => by
    rw [List.length_cons, List.range_succ_eq_map, List.all_cons, List.all_map, teqs, ← all_eAt (ts := ts) (us := us) (by simpa using h)]
    rfl
section
variable {X : Cx} {pins : List (Addr × Obj)} {σ : St} {H : Hp} {s : Shared}
theorem tr_inj (I : Inv X pins σ H s) : ∀ (n : Nat) {t u : Tr} {v : V}, tdep t ≤ n → TrAt X.K H t v → TrAt X.K H u v → t = u := by
  intro n
  induction n with
  | zero =>
    intro t u v hd ht hu
    cases t with
    | lst ts => rw [tdep] at hd; omega
    | tup ts => rw [tdep] at hd; omega
    | _ => (rw [TrAt] at ht; subst ht; cases u <;> (rw [TrAt] at hu) <;> first | rfl | (obtain ⟨_, _, z, _⟩ := hu; cases z) | (cases hu; rfl) | cases hu)
  | succ n ih =>
    intro t u v hd ht hu
    have lists : ∀ {ts us : List Tr} {xs : List V}, tdeps ts ≤ n → TrsAt X.K H ts xs → TrsAt X.K H us xs → ts = us := by
      intro ts us xs hd h1 h2
      apply List.ext_getElem?
      intro j
      have l1 := h1.length
      have l2 := h2.length
      by_cases hj : j < ts.length
      · obtain ⟨t, e⟩ : ∃ t, ts[j]? = some t := ⟨_, List.getElem?_eq_getElem hj⟩
        obtain ⟨u, e'⟩ : ∃ u, us[j]? = some u := ⟨_, List.getElem?_eq_getElem (by omega)⟩
        obtain ⟨x, ex, hx⟩ := h1.get e
        obtain ⟨y, ey, hy⟩ := h2.get e'
        rw [ex] at ey
        cases ey
        rw [e, e', ih (Nat.le_trans (tdep_mem (List.mem_of_getElem? e)) hd) hx hy]
      · rw [List.getElem?_eq_none (by omega), List.getElem?_eq_none (by omega)]
    cases t with
    | lst ts =>
      rw [TrAt] at ht
      obtain ⟨a, xs, rfl, q, h1⟩ := ht
      cases u with
      | lst us =>
        rw [TrAt] at hu
        obtain ⟨b, ys, e, q', h2⟩ := hu
        cases e
        rw [I.list_inj q' q] at h2
        rw [lists (by rw [tdep] at hd; omega) h1 h2]
      | tup us =>
        rw [TrAt] at hu
        obtain ⟨b, ys, e, q', h2⟩ := hu
        cases e
        obtain ⟨_, _, pl, _⟩ := I.list q
        obtain ⟨_, _, pt, _⟩ := I.tuple q'
        exact absurd rfl (ne_of_list_tuple pl.isList pt)
      | _ => rw [TrAt] at hu; cases hu
    | tup ts =>
      rw [TrAt] at ht
      obtain ⟨a, xs, rfl, q, h1⟩ := ht
      cases u with
      | tup us =>
        rw [TrAt] at hu
        obtain ⟨b, ys, e, q', h2⟩ := hu
        cases e
        rw [I.tuple_inj q' q] at h2
        rw [lists (by rw [tdep] at hd; omega) h1 h2]
      | lst us =>
        rw [TrAt] at hu
        obtain ⟨b, ys, e, q', h2⟩ := hu
        cases e
        obtain ⟨_, _, pl, _⟩ := I.list q'
        obtain ⟨_, _, pt, _⟩ := I.tuple q
        exact absurd rfl (ne_of_list_tuple pl.isList pt)
      | _ => rw [TrAt] at hu; cases hu
    | _ => (rw [TrAt] at ht; subst ht; cases u <;> (rw [TrAt] at hu) <;> first | rfl | (obtain ⟨_, _, z, _⟩ := hu; cases z) | (cases hu; rfl) | cases hu)
structure Cmps (A : Around) (s : Shared) (a b : Value) (r : Bool) : Prop where
  rc : RcAt A s a b r
  ne : RcNeAt A s a b (!r)
  eq : EqAt A s a b r
theorem units_in1 (A : Around) : A.in1.units = A.units + 1 := rfl
theorem tr_cmps (I : Inv X pins σ H s) : ∀ (n : Nat) {t u : Tr} {v w : V} {a b : Value} {A : Around}, tdep t ≤ n → TrAt X.K H t v → TrAt X.K H u w → RelV v a → RelV w b → A.units + n < cLine → Cmps A s a b (teq t u) := by
  intro n
  induction n with
  | zero =>
    intro t u v w a b A hd ht hu ra rb hA
    have hA' : A.units < cLine := by omega
    cases t with
    | lst ts => rw [tdep] at hd; omega
    | tup ts => rw [tdep] at hd; omega
    | non =>
      rw [TrAt] at ht; subst ht; cases ra
      cases u with
      | non => rw [TrAt] at hu; subst hu; cases rb; rw [teq]; exact ⟨.none_none, .none_none, .same _⟩
      | bl b => rw [TrAt] at hu; subst hu; cases rb; simp only [teq]; exact ⟨.none_bool _, .none_bool _, .none_bool _⟩
      | int b => rw [TrAt] at hu; subst hu; obtain ⟨_, rfl⟩ := rb; simp only [teq]; exact ⟨.none_int _ _, .none_int _ _, .none_int _ _⟩
      | str b => rw [TrAt] at hu; subst hu; obtain ⟨_, rfl⟩ := rb; simp only [teq]; exact ⟨.none_str _ _, .none_str _ _, .none_str _ _⟩
      | lst us => rw [TrAt] at hu; obtain ⟨p, ys, rfl, q, _⟩ := hu; cases rb; obtain ⟨_, _, pl, _⟩ := I.list q; simp only [teq]; exact ⟨.none_list pl.isList hA', .none_list pl.isList hA', .none_list pl.isList hA'⟩
      | tup us => rw [TrAt] at hu; obtain ⟨p, ys, rfl, q, _⟩ := hu; cases rb; obtain ⟨_, _, pl, _⟩ := I.tuple q; simp only [teq]; exact ⟨.none_tuple pl hA', .none_tuple pl hA', .none_tuple pl hA'⟩
    | bl c =>
      rw [TrAt] at ht; subst ht; cases ra
      cases u with
      | non => rw [TrAt] at hu; subst hu; cases rb; simp only [teq]; exact ⟨.bool_none _, .bool_none _, .bool_none _⟩
      | bl b => rw [TrAt] at hu; subst hu; cases rb; rw [teq]; exact ⟨.bool_bool _ _, .bool_bool _ _, .bool_bool _ _⟩
      | int b => rw [TrAt] at hu; subst hu; obtain ⟨_, rfl⟩ := rb; rw [teq]; exact ⟨.bool_int _ _ _, .bool_int _ _ _, .bool_int _ _ _⟩
      | str b => rw [TrAt] at hu; subst hu; obtain ⟨_, rfl⟩ := rb; simp only [teq]; exact ⟨.bool_str _ _ _, .bool_str _ _ _, .bool_str _ _ _⟩
      | lst us => rw [TrAt] at hu; obtain ⟨p, ys, rfl, q, _⟩ := hu; cases rb; obtain ⟨_, _, pl, _⟩ := I.list q; simp only [teq]; exact ⟨.bool_list _ pl.isList hA', .bool_list _ pl.isList hA', .bool_list _ pl.isList hA'⟩
      | tup us => rw [TrAt] at hu; obtain ⟨p, ys, rfl, q, _⟩ := hu; cases rb; obtain ⟨_, _, pl, _⟩ := I.tuple q; simp only [teq]; exact ⟨.bool_tuple _ pl hA', .bool_tuple _ pl hA', .bool_tuple _ pl hA'⟩
    | int c =>
      rw [TrAt] at ht; subst ht; obtain ⟨_, rfl⟩ := ra
      cases u with
      | non => rw [TrAt] at hu; subst hu; cases rb; simp only [teq]; exact ⟨.int_none _ _, .int_none _ _, .int_none _ _⟩
      | bl b => rw [TrAt] at hu; subst hu; cases rb; rw [teq]; exact ⟨.int_bool _ _ _, .int_bool _ _ _, .int_bool _ _ _⟩
      | int b => rw [TrAt] at hu; subst hu; obtain ⟨_, rfl⟩ := rb; rw [teq]; exact ⟨.int_int _ _ _ _, .int_int _ _ _ _, .int_int _ _ _ _⟩
      | str b => rw [TrAt] at hu; subst hu; obtain ⟨_, rfl⟩ := rb; simp only [teq]; exact ⟨.int_str _ _ _ _, .int_str _ _ _ _, .int_str _ _ _ _⟩
      | lst us => rw [TrAt] at hu; obtain ⟨p, ys, rfl, q, _⟩ := hu; cases rb; obtain ⟨_, _, pl, _⟩ := I.list q; simp only [teq]; exact ⟨.int_list _ _ pl.isList hA', .int_list _ _ pl.isList hA', .int_list _ _ pl.isList hA'⟩
      | tup us => rw [TrAt] at hu; obtain ⟨p, ys, rfl, q, _⟩ := hu; cases rb; obtain ⟨_, _, pl, _⟩ := I.tuple q; simp only [teq]; exact ⟨.int_tuple _ _ pl hA', .int_tuple _ _ pl hA', .int_tuple _ _ pl hA'⟩
    | str c =>
      rw [TrAt] at ht; subst ht; obtain ⟨_, rfl⟩ := ra
      cases u with
      | non => rw [TrAt] at hu; subst hu; cases rb; simp only [teq]; exact ⟨.str_none _ _, .str_none _ _, .str_none _ _⟩
      | bl b => rw [TrAt] at hu; subst hu; cases rb; simp only [teq]; exact ⟨.str_bool _ _ _, .str_bool _ _ _, .str_bool _ _ _⟩
      | int b => rw [TrAt] at hu; subst hu; obtain ⟨_, rfl⟩ := rb; simp only [teq]; exact ⟨.str_int _ _ _ _, .str_int _ _ _ _, .str_int _ _ _ _⟩
      | str b => rw [TrAt] at hu; subst hu; obtain ⟨_, rfl⟩ := rb; rw [teq]; exact ⟨.str_str _ _ _ _, .str_str _ _ _ _, .str_str _ _ _ _⟩
      | lst us => rw [TrAt] at hu; obtain ⟨p, ys, rfl, q, _⟩ := hu; cases rb; obtain ⟨_, _, pl, _⟩ := I.list q; simp only [teq]; exact ⟨.str_list _ _ pl.isList hA', .str_list _ _ pl.isList hA', .str_list _ _ pl.isList hA'⟩
      | tup us => rw [TrAt] at hu; obtain ⟨p, ys, rfl, q, _⟩ := hu; cases rb; obtain ⟨_, _, pl, _⟩ := I.tuple q; simp only [teq]; exact ⟨.str_tuple _ _ pl hA', .str_tuple _ _ pl hA', .str_tuple _ _ pl hA'⟩
  | succ n ih =>
    intro t u v w a b A hd ht hu ra rb hA
    have hA' : A.units < cLine := by omega
    have items : ∀ {ts us : List Tr} {xs ys : List V} {its its2 : List Value}, tdeps ts ≤ n → TrsAt X.K H ts xs → TrsAt X.K H us ys → Vals xs its → Vals ys its2 →
        ∀ j (h1 : j < its.toArray.size) (h2 : j < its2.toArray.size), EqAt A.in1 s its.toArray[j] its2.toArray[j] (eAt ts us j) := by
      intro ts us xs ys its its2 hdn h1 h2 r1 r2 j hj1 hj2
      have l1 := h1.length
      have l2 := h2.length
      have m1 := r1.length
      have m2 := r2.length
      rw [List.size_toArray] at hj1 hj2
      obtain ⟨t, e⟩ : ∃ t, ts[j]? = some t := ⟨_, List.getElem?_eq_getElem (by omega)⟩
      obtain ⟨u, e'⟩ : ∃ u, us[j]? = some u := ⟨_, List.getElem?_eq_getElem (by omega)⟩
      obtain ⟨x, ex, hx⟩ := h1.get e
      obtain ⟨y, ey, hy⟩ := h2.get e'
      obtain ⟨vx, fx, rx⟩ := r1.get ex
      obtain ⟨vy, fy, ry⟩ := r2.get ey
      have g1 : its.toArray[j]'(by simpa using hj1) = vx := by
        have z : its[j] = vx := Option.some.inj ((List.getElem?_eq_getElem hj1).symm.trans fx)
        simpa using z
      have g2 : its2.toArray[j]'(by simpa using hj2) = vy := by
        have z : its2[j] = vy := Option.some.inj ((List.getElem?_eq_getElem hj2).symm.trans fy)
        simpa using z
      rw [g1, g2]
      have q := (ih (A := A.in1) (Nat.le_trans (tdep_mem (List.mem_of_getElem? e)) hdn) hx hy rx ry (by rw [units_in1]; omega)).eq
      unfold eAt
      rw [e, e']
      exact q
    by_cases hz : tdep t ≤ n
    · exact ih hz ht hu ra rb (by omega)
    cases t with
    | lst ts =>
      rw [TrAt] at ht; obtain ⟨p, xs, rfl, q, h1⟩ := ht; cases ra
      obtain ⟨its, r1, pl, _⟩ := I.list q
      cases u with
      | non => rw [TrAt] at hu; subst hu; cases rb; simp only [teq]; exact ⟨.list_none pl.isList hA', .list_none pl.isList hA', .list_none pl.isList hA'⟩
      | bl b => rw [TrAt] at hu; subst hu; cases rb; simp only [teq]; exact ⟨.list_bool _ pl.isList hA', .list_bool _ pl.isList hA', .list_bool _ pl.isList hA'⟩
      | int b => rw [TrAt] at hu; subst hu; obtain ⟨_, rfl⟩ := rb; simp only [teq]; exact ⟨.list_int _ _ pl.isList hA', .list_int _ _ pl.isList hA', .list_int _ _ pl.isList hA'⟩
      | str b => rw [TrAt] at hu; subst hu; obtain ⟨_, rfl⟩ := rb; simp only [teq]; exact ⟨.list_str _ _ pl.isList hA', .list_str _ _ pl.isList hA', .list_str _ _ pl.isList hA'⟩
      | tup us => rw [TrAt] at hu; obtain ⟨p', ys, rfl, q', _⟩ := hu; cases rb; obtain ⟨_, _, pl', _⟩ := I.tuple q'; simp only [teq]; exact ⟨.list_tuple pl.isList pl' hA', .list_tuple pl.isList pl' hA', .list_tuple pl.isList pl' hA'⟩
      | lst us =>
        have hu0 := hu
        rw [TrAt] at hu; obtain ⟨p', ys, rfl, q', h2⟩ := hu; cases rb
        obtain ⟨its2, r2, pl', _⟩ := I.list q'
        have l1 := h1.length
        have l2 := h2.length
        have m1 := r1.length
        have m2 := r2.length
        have hdn : tdeps ts ≤ n := by rw [tdep] at hd; omega
        have both : RcAt A s (.ref p) (.ref p') (teqs ts us) ∧ RcNeAt A s (.ref p) (.ref p') (!teqs ts us) := by
          by_cases hsz : ts.length = us.length
          · have hs : its.toArray.size = its2.toArray.size := by rw [List.size_toArray, List.size_toArray]; omega
            have it := items hdn h1 h2 r1 r2
            have e1 : (List.range its.toArray.size).all (eAt ts us) = teqs ts us := by
              rw [List.size_toArray, ← m1, ← l1]; exact all_eAt hsz
            have a1 := RcAt.lists pl.isList pl'.isList hs hA' it
            have a2 := RcNeAt.lists pl.isList pl'.isList hs hA' it
            rw [e1] at a1 a2
            exact ⟨a1, a2⟩
          · have hs : (its.toArray.size != its2.toArray.size) = true := by
              rw [List.size_toArray, List.size_toArray, bne_iff_ne]; omega
            rw [teqs_length hsz]
            exact ⟨.lists_lengths pl.isList pl'.isList hs hA', .lists_lengths pl.isList pl'.isList hs hA'⟩
        rw [teq]
        refine ⟨both.1, both.2, ?_⟩
        by_cases hpp : p = p'
        · subst hpp
          have e : Tr.lst ts = Tr.lst us := tr_inj I (n + 1) hd (show TrAt X.K H (.lst ts) (.ref p) by rw [TrAt]; exact ⟨p, xs, rfl, q, h1⟩) hu0
          cases e
          rw [teqs_refl]
          exact .same _
        · exact .of_refs hpp both.1
    | tup ts =>
      rw [TrAt] at ht; obtain ⟨p, xs, rfl, q, h1⟩ := ht; cases ra
      obtain ⟨its, r1, pl, _⟩ := I.tuple q
      cases u with
      | non => rw [TrAt] at hu; subst hu; cases rb; simp only [teq]; exact ⟨.tuple_none pl hA', .tuple_none pl hA', .tuple_none pl hA'⟩
      | bl b => rw [TrAt] at hu; subst hu; cases rb; simp only [teq]; exact ⟨.tuple_bool _ pl hA', .tuple_bool _ pl hA', .tuple_bool _ pl hA'⟩
      | int b => rw [TrAt] at hu; subst hu; obtain ⟨_, rfl⟩ := rb; simp only [teq]; exact ⟨.tuple_int _ _ pl hA', .tuple_int _ _ pl hA', .tuple_int _ _ pl hA'⟩
      | str b => rw [TrAt] at hu; subst hu; obtain ⟨_, rfl⟩ := rb; simp only [teq]; exact ⟨.tuple_str _ _ pl hA', .tuple_str _ _ pl hA', .tuple_str _ _ pl hA'⟩
      | lst us => rw [TrAt] at hu; obtain ⟨p', ys, rfl, q', _⟩ := hu; cases rb; obtain ⟨_, _, pl', _⟩ := I.list q'; simp only [teq]; exact ⟨.tuple_list pl pl'.isList hA', .tuple_list pl pl'.isList hA', .tuple_list pl pl'.isList hA'⟩
      | tup us =>
        have hu0 := hu
        rw [TrAt] at hu; obtain ⟨p', ys, rfl, q', h2⟩ := hu; cases rb
        obtain ⟨its2, r2, pl', _⟩ := I.tuple q'
        have l1 := h1.length
        have l2 := h2.length
        have m1 := r1.length
        have m2 := r2.length
        have hdn : tdeps ts ≤ n := by rw [tdep] at hd; omega
        have e1 : ((List.range (min its.toArray.size its2.toArray.size)).all (eAt ts us) && its.toArray.size == its2.toArray.size) = teqs ts us := by
          rw [List.size_toArray, List.size_toArray, ← m1, ← l1, ← m2, ← l2]
          by_cases hsz : ts.length = us.length
          · rw [← hsz, Nat.min_self, beq_self_eq_true, Bool.and_true]; exact all_eAt hsz
          · rw [teqs_length hsz, beq_eq_false_iff_ne.mpr hsz, Bool.and_false]
        have it := items hdn h1 h2 r1 r2
        have a1 := RcAt.tuples pl pl' hA' it
        have a2 := RcNeAt.tuples pl pl' hA' it
        rw [e1] at a1 a2
        rw [teq]
        refine ⟨a1, a2, ?_⟩
        by_cases hpp : p = p'
        · subst hpp
          have e : Tr.tup ts = Tr.tup us := tr_inj I (n + 1) hd (show TrAt X.K H (.tup ts) (.ref p) by rw [TrAt]; exact ⟨p, xs, rfl, q, h1⟩) hu0
          cases e
          rw [teqs_refl]
          exact .same _
        · exact .of_refs hpp a1
    | non => exact absurd (Nat.zero_le _) hz
    | bl b => exact absurd (Nat.zero_le _) hz
    | int b => exact absurd (Nat.zero_le _) hz
    | str b => exact absurd (Nat.zero_le _) hz
end
section
variable {X : Cx}
def rEqT (K : PySem.W.Frag) (neg : Bool) : R2 := fun x y H Q => ∃ t u, TrAt K H t x ∧ TrAt K H u y ∧ tdep t ≤ 8 ∧ Q (.bl (if neg then !teq t u else teq t u)) H
theorem op_eqT (hu : X.A.units + 64 < cLine) : OpR X (compareOp .Eq) (rEqT X.K false) := by
  intro pins s σ H x y v u Q I rx ry h
  obtain ⟨t, t', h1, h2, hd, q⟩ := h
  exact (tr_cmps I 8 hd h1 h2 rx ry (by omega)).rc _ _ _ _ ⟨.bl _, H, I, rfl, q⟩
theorem op_neT (hu : X.A.units + 64 < cLine) : OpR X (compareOp .NotEq) (rEqT X.K true) := by
  intro pins s σ H x y v u Q I rx ry h
  obtain ⟨t, t', h1, h2, hd, q⟩ := h
  exact (tr_cmps I 8 hd h1 h2 rx ry (by omega)).ne _ _ _ _ ⟨.bl _, H, I, rfl, q⟩
open Classical in
def rInT (K : PySem.W.Frag) (neg : Bool) : R2 := fun x y H Q => ∃ p xs ts u, y = .ref p ∧ SqL K H p xs ∧ TrsAt K H ts xs ∧ TrAt K H u x ∧ tdeps ts ≤ 8 ∧ Q (.bl (if neg then !(ts.any fun t => teq t u) else ts.any fun t => teq t u)) H
open Classical in
theorem in_any {pins : List (Addr × Obj)} {σ : St} {H : Hp} {s : Shared} (I : Inv X pins σ H s) {u : Tr} : ∀ {ts : List Tr} {xs : List V} {its : List Value}, tdeps ts ≤ 8 → TrsAt X.K H ts xs → Vals xs its →
    its.any (fun y => decide (∃ t x, RelV x y ∧ TrAt X.K H t x ∧ teq t u = true)) = ts.any fun t => teq t u
  | [], xs, its, _, h, r => by rw [TrsAt] at h; subst h; cases r; rfl
  | t :: ts, xs, its, hd, h, r => by
    rw [TrsAt] at h
    obtain ⟨y, ys, rfl, hy, h⟩ := h
    cases r with
    | cons r1 r2 =>
      rw [tdeps] at hd
      rw [List.any_cons, List.any_cons, in_any I (by omega) h r2]
      congr 1
      rw [Bool.eq_iff_iff, decide_eq_true_iff]
      constructor
      · rintro ⟨t', x', r', h', e⟩
        rw [r1.inj r'] at hy
        rw [tr_inj I 8 (by omega) hy h']; exact e
      · intro e
        exact ⟨t, y, r1, hy, e⟩
open Classical in
theorem in_core {pins : List (Addr × Obj)} {σ : St} {H : Hp} {s : Shared} (I : Inv X pins σ H s) (hu : X.A.units + 64 < cLine) {u : Tr} {x : V} {v : Value} (hx : TrAt X.K H u x) (rx : RelV x v) {ts : List Tr} {xs : List V} {its : List Value} (hd : tdeps ts ≤ 8) (h : TrsAt X.K H ts xs) (r : Vals xs its) :
    ∀ y, y ∈ its.toArray → SeqAt.EqAt X.A.in1 s y v (decide (∃ t x, RelV x y ∧ TrAt X.K H t x ∧ teq t u = true)) := by
  intro y hy
  have hy' : y ∈ its := by simpa using hy
  obtain ⟨j, hj, e⟩ := List.getElem_of_mem hy'
  have l1 := h.length
  have m1 := r.length
  obtain ⟨t, et⟩ : ∃ t, ts[j]? = some t := ⟨_, List.getElem?_eq_getElem (by omega)⟩
  obtain ⟨z, ez, hz⟩ := h.get et
  obtain ⟨w, ew, rw'⟩ := r.get ez
  have e' : y = w := by
    rw [List.getElem?_eq_getElem hj] at ew
    exact e.symm.trans (Option.some.inj ew)
  subst e'
  have hd' : tdep t ≤ 8 := Nat.le_trans (tdep_mem (List.mem_of_getElem? et)) hd
  have q := (tr_cmps I 8 (A := X.A.in1) hd' hz hx rw' rx (by rw [units_in1]; omega)).eq
  have e2 : decide (∃ t x, RelV x y ∧ TrAt X.K H t x ∧ teq t u = true) = teq t u := by
    rw [Bool.eq_iff_iff, decide_eq_true_iff]
    constructor
    · rintro ⟨t', x', r', h', e3⟩
      rw [rw'.inj r'] at hz
      rw [tr_inj I 8 hd' hz h']; exact e3
    · intro e3
      exact ⟨t, z, rw', hz, e3⟩
  rw [e2]
  exact q
open Classical in
theorem op_inT (hu : X.A.units + 64 < cLine) : OpR X (compareOp .In) (rInT X.K false) := by
  intro pins s σ H x y v u Q I rx ry h
  obtain ⟨p, xs, ts, t, rfl, hq, hts, ht, hd, q⟩ := h
  cases ry
  obtain ⟨its, r, pl, hz⟩ := I.list hq
  refine SeqAt.in_listAt _ pl.isList (in_core I hu ht rx hd hts r) ⟨.bl _, H, I, rfl, ?_⟩
  simp only [List.any_toArray]
  rw [in_any I hd hts r]
  exact q
open Classical in
theorem op_notInT (hu : X.A.units + 64 < cLine) : OpR X (compareOp .NotIn) (rInT X.K true) := by
  intro pins s σ H x y v u Q I rx ry h
  obtain ⟨p, xs, ts, t, rfl, hq, hts, ht, hd, q⟩ := h
  cases ry
  obtain ⟨its, r, pl, hz⟩ := I.list hq
  refine SeqAt.notIn_listAt _ pl.isList (in_core I hu ht rx hd hts r) ⟨.bl _, H, I, rfl, ?_⟩
  simp only [List.any_toArray]
  rw [in_any I hd hts r]
  exact q
end
end L2
set_option Elab.async false
set_option linter.all false
set_option maxRecDepth 100000
namespace L2
open PySem PySem.Spec PyProof.Rows
theorem kit_ty {K : PySem.W.Frag} {T U : String} {b : Bool} (h1 : PySem.W.kitMeta U = true) (h2 : (fastBuiltinMro T).map (·.contains (Value.type U)) = some b) (hb : T = U → b = true) : PySem.W.kitOne K (.type T) (.type U) = some b := by
  unfold PySem.W.kitOne
  by_cases e : T = U
  · subst e
    rw [if_pos (by simp), hb rfl]
  · rw [if_neg (by simpa using e)]
    show (if PySem.W.kitMeta U = true then PySem.W.subIn K (.type T) (.type U) else none) = some b
    rw [if_pos h1]
    exact h2
section
variable {K : PySem.W.Frag}
theorem kit_int_int : PySem.W.kitOne K (.type "int") (.type "int") = some true := kit_ty (by decide +kernel) (by decide +kernel) (fun _ => rfl)
theorem kit_int_bool : PySem.W.kitOne K (.type "int") (.type "bool") = some false := kit_ty (by decide +kernel) (by decide +kernel) (fun e => absurd e (by decide))
theorem kit_list_list : PySem.W.kitOne K (.type "list") (.type "list") = some true := kit_ty (by decide +kernel) (by decide +kernel) (fun _ => rfl)
theorem kit_tuple_tuple : PySem.W.kitOne K (.type "tuple") (.type "tuple") = some true := kit_ty (by decide +kernel) (by decide +kernel) (fun _ => rfl)
end
section
variable {X : Cx}
def rIsi (K : PySem.W.Frag) : List V → Hp → VK → Prop := fun xs H Q => ∃ x T t b, xs = [x, .ty T] ∧ TyOf K H x t ∧ PySem.W.kitOne K t (.type T) = some b ∧ Q (.bl b) H
theorem call_isi : CallR X (.builtin "isinstance") (rIsi X.K) := by
  intro pins s σ H xs us Q I r h
  obtain ⟨x, T, t, b, rfl, ty, e, q⟩ := h
  obtain ⟨u, v, rfl, rx, rt⟩ := vals2 r
  cases rt
  exact isinst_ok I rx ty e fun tk => ⟨.bl b, H, I.tok tk, rfl, q⟩
def CDivB (i j : Int) : Prop := 0 < j ∧ j < 2 ^ 200
theorem op_fdivB : OpR X (binaryOp .FloorDiv) (rI CDivB fun i j => .int (i / j)) := opI fun i j _ _ _ _ _ hc q => by
  have h1 : (0 : Int) < j := hc.1
  have h2 : j < 2 ^ 200 := hc.2
  refine floordiv_int (by omega) (by rw [Int.fdiv_eq_ediv_of_nonneg i (by omega)]; exact q) (.inl (PyProof.noPylong_of_log2 ?_))
  have h3 : j.natAbs < 2 ^ 200 := by omega
  have h4 : j.natAbs.log2 < 200 := (Nat.log2_lt (by omega)).mpr h3
  omega
theorem truth_bools {P : Program} {w : World} {A : Around} {its : List Value} {bs : List Bool} (r : Vals (bs.map V.bl) its) : TruthOf P w A (fun i v => its.toArray[i]? = some v) (fun i => bs.getD i false) := by
  intro i v s Q E hP hQ
  have hl := r.length
  rw [List.length_map] at hl
  have e : its[i]? = some v := by simpa using hP
  have hi : i < its.length := (List.getElem?_eq_some_iff.mp e).1
  have e2 : (bs.map V.bl)[i]? = some (.bl (bs[i]'(by omega))) := by rw [List.getElem?_map, List.getElem?_eq_getElem (by omega)]; rfl
  obtain ⟨u, e3, r3⟩ := r.get e2
  rw [e] at e3
  cases e3
  cases r3
  have e4 : bs.getD i false = bs[i] := by rw [List.getD_eq_getElem?_getD, List.getElem?_eq_getElem (by omega)]; rfl
  exact wpAny_truthy_bool (e4 ▸ hQ)
theorem all_getD : ∀ bs : List Bool, (List.range bs.length).all (fun i => bs.getD i false) = bs.all id
  | [] => rfl
  | b :: bs => by
    rw [List.length_cons, List.range_succ_eq_map, List.all_cons, List.all_map, List.all_cons, ← all_getD bs]
    rfl
theorem any_getD : ∀ bs : List Bool, (List.range bs.length).any (fun i => bs.getD i false) = bs.any id
  | [] => rfl
  | b :: bs => by
    rw [List.length_cons, List.range_succ_eq_map, List.any_cons, List.any_map, List.any_cons, ← any_getD bs]
    rfl
def rAll (K : PySem.W.Frag) : List V → Hp → VK → Prop := fun xs H Q => ∃ (a : Addr) (bs : List Bool), xs = [.ref a] ∧ SqL K H a (bs.map V.bl) ∧ Q (.bl (bs.all id)) H
def rAny (K : PySem.W.Frag) : List V → Hp → VK → Prop := fun xs H Q => ∃ (a : Addr) (bs : List Bool), xs = [.ref a] ∧ SqL K H a (bs.map V.bl) ∧ Q (.bl (bs.any id)) H
theorem call_all (hc : X.calm = true) : CallR X (.builtin "all") (rAll X.K) := by
  intro pins s σ H xs us Q I r h
  obtain ⟨a, bs, rfl, hq, q⟩ := h
  obtain ⟨u, rfl, rx⟩ := vals1 r
  cases rx
  obtain ⟨its, rv, pl, hz⟩ := I.list hq
  have hl := rv.length
  rw [List.length_map] at hl
  obtain ⟨o, n, eo, _⟩ := id pl
  have hne : a ≠ s.heap.objs.size := Nat.ne_of_lt (Heap.lt_size eo)
  refine call_all_walk (wpAny_pyIter_list pl.isList ?_)
  refine ⟨_, _, _, _, _, _, _, rfl, Walks.list (A := X.A.in1) (show X.A.in1.handled = none from I.ok.hd hc) s.heap.objs.size a hne its.toArray, ⟨⟨_, Heap.get?_push_size _ rfl, rfl, rfl⟩, pl.isList.at fun o e => Heap.get?_push_of_some _ e⟩, truth_bools rv, fun h' tk hk => ?_⟩
  have I1 : Inv X pins σ H { s with heap := h', toks := tk } := I.kept fun b o e => hk b o (by have := Heap.lt_size e; simp; exact Nat.ne_of_lt this) (Heap.get?_push_of_some _ e)
  refine ⟨.bl _, H, I1, rfl, ?_⟩
  rw [List.size_toArray, ← hl, all_getD]
  exact q
theorem call_any (hc : X.calm = true) : CallR X (.builtin "any") (rAny X.K) := by
  intro pins s σ H xs us Q I r h
  obtain ⟨a, bs, rfl, hq, q⟩ := h
  obtain ⟨u, rfl, rx⟩ := vals1 r
  cases rx
  obtain ⟨its, rv, pl, hz⟩ := I.list hq
  have hl := rv.length
  rw [List.length_map] at hl
  obtain ⟨o, n, eo, _⟩ := id pl
  have hne : a ≠ s.heap.objs.size := Nat.ne_of_lt (Heap.lt_size eo)
  refine call_any_walk (wpAny_pyIter_list pl.isList ?_)
  refine ⟨_, _, _, _, _, _, _, rfl, Walks.list (A := X.A.in1) (show X.A.in1.handled = none from I.ok.hd hc) s.heap.objs.size a hne its.toArray, ⟨⟨_, Heap.get?_push_size _ rfl, rfl, rfl⟩, pl.isList.at fun o e => Heap.get?_push_of_some _ e⟩, truth_bools rv, fun h' tk hk => ?_⟩
  have I1 : Inv X pins σ H { s with heap := h', toks := tk } := I.kept fun b o e => hk b o (by have := Heap.lt_size e; simp; exact Nat.ne_of_lt this) (Heap.get?_push_of_some _ e)
  refine ⟨.bl _, H, I1, rfl, ?_⟩
  rw [List.size_toArray, ← hl, any_getD]
  exact q
def rRevS (K : PySem.W.Frag) (te : TE) : TE := fun σ H Q => te σ H fun x H1 => ∃ a xs, x = .ref a ∧ SqL K H1 a xs ∧ ∀ p, H1 p = none → Q (.ref p) (upd H1 p (.lst xs.reverse))
theorem pe_revSlice {e : Expr} {te : TE} {j : Nat} {p1 p2 p3 pos : Pos} (he : PE X e te) : PE X (.Subscript e (.Slice none none (some (.UnaryOp .USub (.Constant (.int 1) j p1) p2)) p3) pos) (rRevS X.K te) := by
  intro pins s σ H Q I h
  refine Subscript_ (thn (he pins s σ H _ I h) fun v s1 ⟨x, H1, I1, r1, q1⟩ => ?_)
  obtain ⟨a, xs, rfl, hx, q⟩ := q1
  cases r1
  refine wpAny_Slice ?_
  rw [evalPart_none]
  refine wpAny_pure (wpAny_pure ?_)
  rw [evalPart_some]
  refine thn (pe_un un_neg (pe_int (X := X)) pins s1 σ H1 (fun v H2 => v = .int (-1) ∧ H2 = H1) I1 ⟨1, rfl, rfl, rfl⟩) fun u s2 ⟨y, H2, I2, r2, e1, e2⟩ => ?_
  subst e1 e2
  obtain ⟨t, rfl⟩ := r2
  obtain ⟨its, r, ht, hz⟩ := I2.list hx
  have hlen := r.length
  have I3 : Inv X pins σ H2 { s2 with heap := s2.heap.push { cls := .type "slice", data := .fields #[.none, .none, .int (-1) t] } } := I2.kept (t' := s2.toks) fun b ob q => Heap.get?_push_of_some _ q
  obtain ⟨its', r', ht', hz'⟩ := I3.list hx
  have hlen' := r'.length
  show wpAny (model X.prog X.w) X.A (subscriptTail e (.Slice none none (some _) p3) (.ref a) (.ref s2.heap.objs.size)) (EP X pins σ Q) X.xe { s2 with heap := s2.heap.push { cls := .type "slice", data := .fields #[.none, .none, .int (-1) t] } }
  refine tail_any (ops := [.ref a, .ref s2.heap.objs.size]) ht'.isList.typeIs slot_list_getitem.lookup ?_ (by with_unfolding_all rfl)
  refine wpAny_getItem_list_slice ht'.isList (Heap.IsSliceOf.new ..) .none .none (.int (-1) t) (by simp) ?_ (by rw [List.size_toArray] <;> omega)
  rw [PySem.W.krv_pick]
  refine ⟨.ref _, _, I3.laid (t' := s2.toks) (o := .lst xs.reverse) (fun b ob q => Heap.get?_push_of_some _ q) (Nat.le_refl _) ?_, rfl, q _ (I3.hok.fresh (Nat.le_refl _))⟩
  exact ⟨by rw [List.length_reverse]; exact hz, _, 0, r'.reverse, Heap.get?_push_size _ rfl⟩
theorem nolen_ri : typeLookup (.type "list_reverseiterator") "__len__" = pure none := by rw [typeLookup_type, builtinLookup_eq_fast]; kernel_rfl
theorem hint_ri : typeLookup (.type "list_reverseiterator") "__length_hint__" = pure (some (.builtin "list_reverseiterator.__length_hint__")) := by rw [typeLookup_type, builtinLookup_eq_fast]; kernel_rfl
section
variable {prog : Program} {w : World} {A : Around} {E : Value → Shared → Prop} {s : Shared}
theorem extend_rev {R : Result → Shared → Prop} (hh : A.handled = none) {I l : Addr} {items : Array Value} (hit : s.heap.IsRevIter I l ((items.size : Int) - 1)) (hL : s.heap.IsList l items) (S : Addr) (res : Value) (c₀ : Nat) (hS : s.heap.get? S = some { cls := .type "list", data := .seq #[] c₀ })
    (hSl : S ≠ l) (hR : ∀ s' acc' c', Moved [S, I] (fun a b => b = a) s s' → s'.heap.get? S = some { cls := .type "list", dict := none, data := .seq acc' c', slots := #[] } →
      ItemsOf (fun i v => items[items.size - 1 - i]? = some v) acc' items.size → R (.ok (.ret res)) s') (hn : items.size ≤ sizeLine) :
    wpAny (model prog w) A.in1 (Builtin.List.listExtendWith (.ref S) (.ref I) res)
      (fun fin s' => match fin with | .done f => R (.ok f) s' | .again c' => c'.quiet = true ∧ codeAny (model prog w) A c' R s') (fun e s' => R (.error e) s') s := by
  obtain ⟨oi, hoi, hci, hdi⟩ := id hit
  obtain ⟨ol, hol, hcl, nl, hdl⟩ := id hL
  have hSI : S ≠ I := by
    rintro rfl
    rw [hS] at hoi; cases hoi; exact absurd (show Value.type "list" = Value.type "list_reverseiterator" from hci) (by decide)
  have hne : l ≠ I := by
    rintro rfl
    rw [hol] at hoi; cases hoi; rw [hcl] at hci; exact absurd hci (by decide)
  have hSf : S ∉ [I, l] := fun hm => by
    rcases List.mem_cons.mp hm with e | hm
    · exact hSI e
    · exact hSl (List.mem_singleton.mp hm)
  unfold Builtin.List.listExtendWith
  refine wpAny_bind (wpAny_typeOf (T := "list_reverseiterator") hit.typeIs ?_)
  have h1 : Builtin.List.listSameRef (.ref S) (.ref I) = false := by simp [Builtin.List.listSameRef, hSI]
  have h2 : (Value.type "list_reverseiterator" == Value.type "list") = false := by decide
  have h3 : (Value.type "list_reverseiterator" == Value.type "tuple") = false := by decide
  simp only [h1, h2, h3, Bool.or_false, Bool.false_eq_true, if_false]
  refine wpAny_bind (wpAny_pyIter_revIter hit ?_)
  refine wpAny_bind (wpAny_holding ?_)
  unfold Builtin.List.listLengthHint
  refine wpAny_bind (wpAny_specialOf hit.typeIs nolen_ri ?_)
  show wpAny _ A.in1 (specialOf (Value.ref I) (Str.ofString "__length_hint__") >>= _) _ _ _
  refine wpAny_bind (wpAny_specialOf hit.typeIs hint_ri ?_)
  generalize hid : ("list_reverseiterator.__length_hint__" : String) = id0
  wp_delta
  rw [show splitId id0 = some ("list_reverseiterator", "__length_hint__") from by subst hid; decide +kernel]
  subst hid
  refine wpAny_bind (wpAny_isInstance (b := true) hit.typeIs (by rw [isSubtype_type]; kernel_rfl) ?_)
  refine wpAny_pure ?_
  rw [if_neg (by decide)]
  have W := Walks.listRev (prog := prog) (w := w) (A := A.in1) hh I l hne items
  refine wpAny_pure ⟨plainId_quiet F.plain_extend_loop _, codeAny_extend_loopS W.toS hn _ hSf _ items.size 0 _ _ _ rfl (Nat.zero_le _) ⟨Nat.zero_le _, by simpa using hit, hL⟩ hS (ItemsOf.nil _) fun s' acc' c' hm hS' hacc => ?_⟩
  exact hR s' acc' c' hm hS' hacc
theorem init_rev {R : Result → Shared → Prop} (hh : A.handled = none) {I l : Addr} {items : Array Value} (hit : s.heap.IsRevIter I l ((items.size : Int) - 1)) (hL : s.heap.IsList l items) (S : Addr) (hS : s.heap.get? S = some { cls := .type "list", data := .seq #[] }) (hSl : S ≠ l) (hSI : S ≠ I)
    (hR : ∀ s' acc' c', s'.gens = s.gens → s'.os = s.os → (∀ b o, b ≠ S → b ≠ I → s.heap.get? b = some o → s'.heap.get? b = some o) → s'.heap.get? S = some { cls := .type "list", dict := none, data := .seq acc' c', slots := #[] } →
      ItemsOf (fun i v => items[items.size - 1 - i]? = some v) acc' items.size → R (.ok (.ret .none)) s') (hn : items.size ≤ sizeLine) :
    wpAny (model prog w) A.in1 (Builtin.«list.__init__» ⟨[.ref S, .ref I], []⟩)
      (fun fin s' => match fin with | .done f => R (.ok f) s' | .again c' => c'.quiet = true ∧ codeAny (model prog w) A c' R s') (fun e s' => R (.error e) s') s := by
  show wpAny _ _ (do let old ← Builtin.List.listItems (.ref S); Builtin.List.listUpdate (.ref S) (fun _ => #[]); letGo old.toList.reverse; Builtin.List.listExtendWith (.ref S) (.ref I) .none) _ _ s
  refine wpAny_bind ?_
  unfold Builtin.List.listItems
  refine wpAny_bind (wpAny_seqItems hS rfl (wpAny_pure ?_))
  show wpAny _ _ (updateSeq S (fun _ => #[]) >>= fun _ => letGo (#[] : Array Value).toList.reverse >>= fun _ => Builtin.List.listExtendWith (.ref S) (.ref I) .none) _ _ s
  refine wpAny_bind (wpAny_updateSeq hS rfl ?_)
  have hS₂ := Heap.get?_update_self (Obj.mapSeq (fun _ => (#[] : Array Value))) hS rfl
  have oth : ∀ b o, b ≠ S → s.heap.get? b = some o → (s.heap.update S (Obj.mapSeq (fun _ => (#[] : Array Value)))).get? b = some o :=
    fun b o hb e => (Heap.get?_update_other _ _ (Ne.symm hb)).trans e
  refine wpAny_bind (wpAny_letGo ?_)
  refine extend_rev (hn := hn) hh (hit.at fun o e => oth I o (Ne.symm hSI) e) (hL.at fun o e => oth l o (Ne.symm hSl) e) S .none _ hS₂ hSl fun s' acc' c' hm hS' hacc => ?_
  refine hR s' acc' c' hm.gens hm.os (fun b o hb hi e => hm.heap b o (fun z => ?_) (oth b o hb e)) hS' hacc
  rcases List.mem_cons.mp z with e' | z
  · exact hb e'
  · exact hi (List.mem_singleton.mp z)
theorem call_list_revIter {Q : Value → Shared → Prop} (hh : A.handled = none) {I l : Addr} {items : Array Value} (hit : s.heap.IsRevIter I l ((items.size : Int) - 1)) (hL : s.heap.IsList l items)
    (hQ : ∀ s' acc' c', s'.gens = s.gens → s'.os = s.os → (∀ b o, b ≠ I → s.heap.get? b = some o → s'.heap.get? b = some o) →
      s'.heap.get? s.heap.objs.size = some { cls := .type "list", dict := none, data := .seq acc' c', slots := #[] } → ItemsOf (fun i v => items[items.size - 1 - i]? = some v) acc' items.size → Q (.ref s.heap.objs.size) s') (hn : items.size ≤ sizeLine) :
    wpAny (model prog w) A (call (.type "list") [.ref I]) Q E s := by
  refine callType_codes (Q₁ := fun obj s₁ => obj = .ref s.heap.objs.size ∧ s₁ = { s with heap := s.heap.push { cls := .type "list", data := .seq #[] } }) F.called_list (F.typeCall_list_1 _) F.entry_list_init
    (code_list_new _ ⟨rfl, rfl⟩) fun obj s₁ h₁ => ?_
  obtain ⟨rfl, rfl⟩ := h₁
  have hS : (s.heap.push { cls := .type "list", data := .seq #[] }).get? s.heap.objs.size = some { cls := .type "list", data := .seq #[] } := Heap.get?_push_size _ rfl
  obtain ⟨oi, hoi, _⟩ := id hit
  obtain ⟨ol, hol, _⟩ := id hL
  refine ⟨⟨_, hS, rfl⟩, F.args_list_init_2 _ _, init_rev (A := A.in1) (hn := hn) hh (hit.at fun o e => Heap.get?_push_of_some _ e) (hL.at fun o e => Heap.get?_push_of_some _ e) _ hS (Nat.ne_of_gt (Heap.lt_size hol)) (Nat.ne_of_gt (Heap.lt_size hoi)) fun s' acc' c' hg ho hk hS' hacc => ?_⟩
  exact ⟨rfl, hQ s' acc' c' hg ho (fun b o hI e => hk b o (Nat.ne_of_lt (Heap.lt_size e)) hI (Heap.get?_push_of_some _ e)) hS' hacc⟩
end
theorem rev_items {items acc : Array Value} (h : ItemsOf (fun i v => items[items.size - 1 - i]? = some v) acc items.size) : acc = items.toList.reverse.toArray := by
  apply Array.ext_getElem?
  intro i
  by_cases hi : i < items.size
  · have e : acc[i]? = some (acc[i]'(by rw [h.1]; exact hi)) := Array.getElem?_eq_getElem _
    have q := h.2 i _ e
    rw [e, ← q]
    simp [List.getElem?_reverse, hi]
  · rw [Array.getElem?_eq_none (by rw [h.1]; omega), Array.getElem?_eq_none (by simp; omega)]
def tListRev (K : PySem.W.Frag) (te : TE) : TE := fun σ H Q => te σ H fun x H1 => ∃ (l : Addr) (ys : List V), x = .ref l ∧ SqL K H1 l ys ∧ ∀ q, H1 q = none → Q (.ref q) (upd H1 q (.lst ys.reverse))
theorem pe_listRev {e : Expr} {te : TE} {p1 p2 pos1 pos2 : Pos} (hc : X.calm = true) (hg1 : Gl X "list") (hm1 : X.mg "list" = none) (hg2 : Gl X "reversed") (hm2 : X.mg "reversed" = none) (he : PE X e te)
    (hs : starEach [e] X.env = [(false, eval e X.env)] := by rfl) (hs2 : starEach [.Call (.Name "reversed" p2) [e] [] pos2] X.env = [(false, eval (.Call (.Name "reversed" p2) [e] [] pos2) X.env)] := by rfl) :
    PE X (.Call (.Name "list" p1) [.Call (.Name "reversed" p2) [e] [] pos2] [] pos1) (tListRev X.K te) := by
  intro pins s σ H Q I h
  refine wpAny_Call_Name_kw (ld_blt I hg1 hm1 boot_list ?_)
  refine PyProof.Rows.callWith_type1 ?_ hs2 rfl
  rw [hs2]
  show wpAny _ _ (spliced ((false, eval (.Call (.Name "reversed" p2) [e] [] pos2) X.env) :: backTo pos1 [])) _ _ s
  refine Calls.spliced_cons ?_
  refine wpAny_Call_Name_kw (ld_blt I hg2 hm2 boot_reversed ?_)
  refine PyProof.Rows.callWith_type1 ?_ hs rfl
  rw [hs]
  show wpAny _ _ (spliced ((false, eval e X.env) :: backTo pos2 [])) _ _ s
  refine Calls.spliced_cons (thn (he pins s σ H _ I h) fun v s1 ⟨x, H1, I1, r1, q1⟩ => Calls.spliced_nil ?_)
  obtain ⟨l, ys, rfl, hq, q⟩ := q1
  cases r1
  obtain ⟨its, rv, pl, hz⟩ := I1.list hq
  have hl := rv.length
  refine call_reversed_list pl.isList (Calls.spliced_nil ?_)
  have hsz : (its.toArray.size : Int) = (ys.length : Int) := by rw [List.size_toArray, hl]
  refine call_list_revIter (s := { s1 with heap := s1.heap.push (revObj l ((its.toArray.size : Int) - 1)) }) (I1.ok.hd hc) (I := s1.heap.objs.size) (l := l) (items := its.toArray) ⟨_, Heap.get?_push_size _ rfl, rfl, rfl⟩ (pl.isList.at fun o e => Heap.get?_push_of_some _ e) (fun s' acc c hgn ho hk hS hacc => ?_) (by rw [List.size_toArray, ← hl]; exact hz)
  have e1 : (s1.heap.push (revObj l ((its.toArray.size : Int) - 1))).objs.size = s1.heap.objs.size + 1 := Heap.size_push _ _
  rw [show ({ s1 with heap := s1.heap.push (revObj l ((its.toArray.size : Int) - 1)) } : Shared).heap.objs.size = s1.heap.objs.size + 1 from e1] at hS ⊢
  have kept : ∀ b o, s1.heap.get? b = some o → s'.heap.get? b = some o := fun b o e => hk b o (Nat.ne_of_lt (Heap.lt_size e)) (Heap.get?_push_of_some _ e)
  have hokL := I1.laid (a := s1.heap.objs.size + 1) (o := .lst ys.reverse) (h' := s'.heap) (t' := s'.toks) kept (Nat.le_succ _) ⟨by rw [List.length_reverse]; exact hz, its.reverse, c, rv.reverse, by rw [hS, rev_items hacc]⟩
  have I2 : Inv X pins σ (upd H1 (s1.heap.objs.size + 1) (.lst ys.reverse)) s' := by
    refine I1.call' (ch := []) (by rw [ho]) ?_ hokL.hok (by rw [hgn]; exact I1.bare) fun b z => absurd z (by simp)
    exact Un.laid kept (Nat.le_succ _) (I1.hok.fresh (Nat.le_succ _))
  exact ⟨.ref _, _, I2, rfl, q _ (I1.hok.fresh (Nat.le_succ _))⟩
end
section
variable {X : Cx} (K : PySem.W.Frag)
theorem k_isi (e : X.K = K := by rfl) : CallR X (.builtin "isinstance") (rIsi K) := by subst e; exact call_isi
theorem k_len (e : X.K = K := by rfl) : CallR X (.builtin "len") (fun xs H Q => ∃ p ys, xs = [.ref p] ∧ (SqL K H p ys ∨ SqT K H p ys) ∧ Q (.int ys.length) H) := by subst e; exact call_len_seq
theorem k_ixL (e : X.K = K := by rfl) : IxR X (rIxL K) := by subst e; exact ix_list
theorem k_ixT (e : X.K = K := by rfl) : IxR X (rIxT K) := by subst e; exact ix_tup
theorem k_slL (e : X.K = K := by rfl) : SlR X (rSlL K) := by subst e; exact sl_list
theorem k_all (hc : X.calm = true) (e : X.K = K := by rfl) : CallR X (.builtin "all") (rAll K) := by subst e; exact call_all hc
theorem k_any (hc : X.calm = true) (e : X.K = K := by rfl) : CallR X (.builtin "any") (rAny K) := by subst e; exact call_any hc
theorem k_listOf (e : X.K = K := by rfl) : CallR X (.type "list") (fun xs H Q => ∃ p ys, xs = [.ref p] ∧ (SqL K H p ys ∨ SqT K H p ys) ∧ ∀ l, H l = none → Q (.ref l) (upd H l (.lst ys))) := by subst e; exact call_list_of
theorem k_eqT (hu : X.A.units + 64 < cLine) (e : X.K = K := by rfl) : OpR X (compareOp .Eq) (rEqT K false) := by subst e; exact op_eqT hu
theorem k_neT (hu : X.A.units + 64 < cLine) (e : X.K = K := by rfl) : OpR X (compareOp .NotEq) (rEqT K true) := by subst e; exact op_neT hu
theorem k_inT (hu : X.A.units + 64 < cLine) (e : X.K = K := by rfl) : OpR X (compareOp .In) (rInT K false) := by subst e; exact op_inT hu
theorem k_notInT (hu : X.A.units + 64 < cLine) (e : X.K = K := by rfl) : OpR X (compareOp .NotIn) (rInT K true) := by subst e; exact op_notInT hu
theorem k_pi {tg l : Expr} {tl : TE} (hl : PE X l tl) (e : X.K = K := by rfl) : PI X tg l (iList K tl) := by subst e; exact pi_list hl
end
structure Df (K : PySem.W.Frag) (mg : Str → Option Value) (x : Str) (st : Stmt) (ps : List Str) (f : Addr) (fd : FuncData) : Prop where
  fn : Fun K x x st f fd
  b : Binds K fd ps []
  g : mg x = some (.ref f)
theorem pcall {X : Cx} {x : Str} {st : Stmt} {ps : List Str} {f : Addr} {fd : FuncData} {k : Nat} {sp : Sp} {e : Expr} {es : List Expr} {t : TA} {p pos : Pos} (D : Df X.K X.mg x st ps f fd) (G : FnOk X.prog X.w X.K X.mg X.base CX0 k f fd ps sp) (hr : Room k X.A) (ha : PA X (e :: es) t) (hg : Gl X x := by rfl)
    (hdb : (x == ("__debug__" : Str)) = false := by decide) (he : starEach (e :: es) X.env = (false, eval e X.env) :: starEach es X.env := by rfl) (hpl : (backTo pos (starEach es X.env)).any (·.1) = false := by rfl) : PE X (.Call (.Name x p) (e :: es) [] pos) (tCall sp [] E0 t) :=
  pe_call G hr hg D.g D.fn.kp D.b .nil pass0 ha hdb he hpl
theorem df_mk {K : PySem.W.Frag} {h : Heap} {mg : Str → Option Value} {x : Str} {st : Stmt} {ps : List Str} {f : Addr} {oc : Value} {od an : Option Addr} {osl : Array (Option Value)} {kV doc pm cdv ct : Value} (X : K.In h) (G : h.Ns mainGlobals mg)
    (a : PySem.W.nsIn K mainGlobals x = some (some (.ref f))) (l : K.lookup f = some ⟨oc, od, .func (PySem.W.fnOf x x (defArgs st) (defBody st) (defScope st) .none kV doc pm an cdv ct), osl⟩) (c : PySem.W.codeIn K cdv x = true) (k : PySem.W.keepIn K (.ref f) = true)
    (hb : ∀ (kV doc pm : Value) (an : Option Addr) (cdv ct : Value) (us : List Value), us.length = ps.length → bindArgs (PySem.W.fnOf x x (defArgs st) (defBody st) (defScope st) .none kV doc pm an cdv ct) ⟨us, []⟩ = pure (ps.zip us)) :
    Df K mg x st ps f (PySem.W.fnOf x x (defArgs st) (defBody st) (defScope st) .none kV doc pm an cdv ct) :=
  ⟨fun_mk l c k, (fun_mk (st := st) l c k).binds hb, PySem.W.mg_of X G a⟩
structure Blt (mg : Str → Option Value) : Prop where
  n_isinstance : mg "isinstance" = none
  n_int : mg "int" = none
  n_bool : mg "bool" = none
  n_list : mg "list" = none
  n_tuple : mg "tuple" = none
  n_reversed : mg "reversed" = none
  n_len : mg "len" = none
  n_max : mg "max" = none
  n_min : mg "min" = none
  n_range : mg "range" = none
  n_all : mg "all" = none
  n_any : mg "any" = none
  n_sorted : mg "sorted" = none
  n_enumerate : mg "enumerate" = none
  n_repr : mg "repr" = none
theorem HUof {A : Around} {k : Nat} (hr : Room k A) : A.units + 64 < cLine := hr.units
def aw (fp : List Addr) (H : Hp) : Hp := fun b => if b ∈ fp then none else H b
theorem aw_in {fp : List Addr} {H : Hp} {b : Addr} (h : b ∈ fp) : aw fp H b = none := by unfold aw; rw [if_pos h]
theorem aw_out {fp : List Addr} {H : Hp} {b : Addr} (h : b ∉ fp) : aw fp H b = H b := by unfold aw; rw [if_neg h]
theorem aw_same (fp : List Addr) (H : Hp) : Same (aw fp H) H := fun b o e => by
  by_cases h : b ∈ fp
  · rw [aw_in h] at e; cases e
  · rw [aw_out h] at e; exact e
theorem Same.aw {H H' : Hp} (h : Same H H') (fp : List Addr) : Same (aw fp H) (aw fp H') := fun b o e => by
  by_cases hb : b ∈ fp
  · rw [aw_in hb] at e; cases e
  · rw [aw_out hb] at e ⊢; exact h b o e
theorem same_upd {H : Hp} {p : Addr} {o : HO} (h : H p = none) : Same H (upd H p o) := fun b u e => by rw [upd_ne (ne_of_none e h)]; exact e
end L2
set_option Elab.async false
set_option linter.all false
set_option maxRecDepth 100000
namespace HT
open PySem PyProof.Rows
section
open PySem.SeqAt
open PySem.AutoSeq1 (wpAny_loadPart')
open PySem.MeetsSeq PySem.MeetsSeq2 PySem.MeetsSeq3 PySem.SeqRoads2
theorem ints_at {vs : List Value} {ns : List Int} (h : IntsAre vs ns) {i : Nat} (hi : i < ns.length) : ∃ t, vs[i]? = some (.int (ns[i]) t) := by
  induction h generalizing i with
  | nil => simp at hi
  | cons a t h ih =>
    cases i with
    | zero => exact ⟨t, rfl⟩
    | succ i =>
      obtain ⟨t', e⟩ := ih (i := i) (by simpa using hi)
      exact ⟨t', by simpa using e⟩
theorem lt_loop (l b : Addr) (items items2 : Array Value) (n n2 : Nat) (dd dd2 : Option Addr) (sl sl2 : Array (Option Value)) (ns ms : List Int) (hi : IntsAre items.toList ns) (hj : IntsAre items2.toList ms) (k : Nat) :
    ∀ i : Nat, ns.length - i = k → i ≤ ns.length → i ≤ ms.length → Meets (Builtin.«list.__eq__.loop» ⟨[.ref l, .ref b, rawInt i, rawInt 0], []⟩)
      (fun _ R s => s.heap.get? l = some { cls := .type "list", dict := dd, data := .seq items n, slots := sl } ∧ s.heap.get? b = some { cls := .type "list", dict := dd2, data := .seq items2 n2, slots := sl2 } ∧
        R (.ok (.ret (.bool (lexLt (ns.drop i) (ms.drop i))))) s) := by
  have z1 : items.size = ns.length := by rw [← hi.length]; simp
  have z2 : items2.size = ms.length := by rw [← hj.length]; simp
  induction k with
  | zero =>
    intro i hk h1 h2 prog w A R s h
    obtain ⟨hp, g, d, tk, os⟩ := s; obtain ⟨hl, hb, h⟩ := h
    have hin : i = ns.length := by omega
    wp_walk using wpAny_loadPart' hl, wpAny_loadPart' hb
    have hi1 : items[((i : Nat) : Int).toNat]? = none := by simp; omega
    have hd : ns.drop i = [] := by simp; omega
    rw [hd] at h
    rw [hi1]
    wp_walk using wpAny_loadPart' hl, wpAny_loadPart' hb
    show R (.ok (.ret (.bool (decide (items.size < items2.size))))) _
    have e : lexLt [] (ms.drop i) = decide (items.size < items2.size) := by
      cases q : ms.drop i with
      | nil =>
        rw [lexLt_nil_nil]
        have : ms.length ≤ i := by simpa using List.drop_eq_nil_iff.mp q
        exact (decide_eq_false (by omega)).symm
      | cons x y =>
        rw [lexLt_nil_cons]
        have : i < ms.length := by
          by_cases z : i < ms.length
          · exact z
          · rw [List.drop_of_length_le (by omega)] at q; cases q
        exact (decide_eq_true (by omega)).symm
    rw [← e]
    exact h
  | succ k ih =>
    intro i hk h1 h2 prog w A R s h
    obtain ⟨hp, g, d, tk, os⟩ := s; obtain ⟨hl, hb, h⟩ := h
    have hlt : i < ns.length := by omega
    obtain ⟨t, et⟩ := ints_at hi hlt
    have hi1 : items[((i : Nat) : Int).toNat]? = some (.int (ns[i]) t) := by simpa using et
    by_cases hm : i < ms.length
    · obtain ⟨u, eu⟩ := ints_at hj hm
      have hi2 : items2[((i : Nat) : Int).toNat]? = some (.int (ms[i]) u) := by simpa using eu
      wp_walk using wpAny_loadPart' hl, wpAny_loadPart' hb
      rw [List.drop_eq_getElem_cons hlt, List.drop_eq_getElem_cons hm, lexLt_cons] at h
      have hc : ((i : Int) + 1) = ((i + 1 : Nat) : Int) := by push_cast; rfl
      rw [hi1, hi2]
      obtain ⟨e, he, hiff⟩ := eqAt_int A.in1 ⟨hp, g, d, tk, os⟩ (ns[i]) t (ms[i]) u
      refine wpAny_bind (he prog w _ _ ?_)
      cases e with
      | true =>
        rw [if_pos (hiff.mp rfl)] at h
        wp_walk
        rw [hc]
        exact ⟨plainId_quiet plain_eq_loop _, codeAny_builtin entry_eq_loop (by
          rw [Around.under_plainId plain_eq_loop _]
          exact ih (i + 1) (by omega) (by omega) (by omega) prog w A R _ ⟨hl, hb, h⟩)⟩
      | false =>
        rw [if_neg (fun q => absurd (hiff.mpr q) Bool.false_ne_true)] at h
        have hri := rcLt_int A.in1 ⟨hp, g, d, tk, os⟩ (ns[i]) t (ms[i]) u prog w
        wp_walk using wpAny_loadPart' hl, wpAny_loadPart' hb
        rw [hi1, hi2]
        wp_walk using hri
        simpa using h
    · have hi2 : items2[((i : Nat) : Int).toNat]? = none := by simp; omega
      wp_walk using wpAny_loadPart' hl, wpAny_loadPart' hb
      rw [List.drop_eq_getElem_cons hlt, List.drop_of_length_le (show ms.length ≤ i by omega), lexLt_cons_nil] at h
      rw [hi1, hi2]
      wp_walk using wpAny_loadPart' hl, wpAny_loadPart' hb
      show R (.ok (.ret (.bool (decide (items.size < items2.size))))) _
      rw [decide_eq_false (by omega)]
      exact h
theorem list_lt_ints (l b : Addr) (items items2 : Array Value) (n n2 : Nat) (dd dd2 : Option Addr) (sl sl2 : Array (Option Value)) (ns ms : List Int) (hi : IntsAre items.toList ns) (hj : IntsAre items2.toList ms) :
    Meets (Builtin.«list.__lt__» ⟨[.ref l, .ref b], []⟩)
      (fun _ R s => s.heap.get? l = some { cls := .type "list", dict := dd, data := .seq items n, slots := sl } ∧ s.heap.get? b = some { cls := .type "list", dict := dd2, data := .seq items2 n2, slots := sl2 } ∧
        R (.ok (.ret (.bool (lexLt ns ms)))) s) := by
  intro prog w A R s h
  obtain ⟨hp, g, d, tk, os⟩ := s; obtain ⟨hl, hb, h⟩ := h
  have f3 := AutoSeq1.sub_list_list
  wp_walk using wpAny_loadPart' hl, wpAny_loadPart' hb
  exact ⟨plainId_quiet plain_eq_loop _, codeAny_builtin entry_eq_loop (by
    rw [Around.under_plainId plain_eq_loop _]
    exact lt_loop l b items items2 n n2 dd dd2 sl sl2 ns ms hi hj _ 0 rfl (Nat.zero_le _) (Nat.zero_le _) prog w A R _ ⟨hl, hb, by simpa using h⟩)⟩
end
section
variable {prog : Program} {w : World} {A : Around} {E : Value → Shared → Prop} {s : Shared}
theorem lt_listInts {l b : Addr} {items items2 : Array Value} {ns ms : List Int} {Q : Value → Shared → Prop} (hl : s.heap.IsList l items) (hb : s.heap.IsList b items2) (hi : IntsAre items.toList ns) (hj : IntsAre items2.toList ms)
    (hu : A.units < cLine) (h : Q (.bool (lexLt ns ms)) s) : wpAny (model prog w) A (richCompare .Lt (.ref l) (.ref b)) Q E s := by
  obtain ⟨⟨cls, dd, data, sl⟩, ho, hc, n, hd⟩ := id hl
  obtain ⟨⟨cls2, dd2, data2, sl2⟩, ho2, hc2, n2, hd2⟩ := id hb
  simp only at hc hd hc2 hd2
  subst hc hd hc2 hd2
  exact richCompare_meets_room (op := .Lt) ⟨_, ho, rfl⟩ ⟨_, ho2, rfl⟩ PySem.F.slot_list_lt PySem.F.entry_list_lt (PySem.F.args_list_lt_2 _ _) (list_lt_ints l b items items2 n n2 dd dd2 sl sl2 ns ms hi hj)
    ⟨ho, ho2, show Value.bool (lexLt ns ms) ≠ Value.notImplemented ∧ Q (.bool (lexLt ns ms)) s from ⟨(fun x => nomatch x), h⟩⟩ hu
end
end HT
namespace HT
open PySem PyProof.Rows PySem.W
def krun {α : Type} (c : Nat → Nat → Bool) : KasT α → α
  | .ret a => a
  | .ask i j k => krun c (k (c i j))
def kin {α : Type} (n : Nat) : KasT α → Bool
  | .ret _ => true
  | .ask i j k => decide (i < n) && decide (j < n) && kin n (k true) && kin n (k false)
theorem krun_wp {α : Type} {n : Nat} {c : Nat → Nat → Bool} {cmp : Nat → Nat → (Bool → Shared → Prop) → Shared → Prop} {s : Shared} {Q : α → Shared → Prop} (hc : ∀ i j C, i < n → j < n → C (c i j) s → cmp i j C s) :
    ∀ t : KasT α, kin n t = true → Q (krun c t) s → t.kasWp cmp Q s
  | .ret a, _, q => q
  | .ask i j k, h, q => by
    unfold kin at h
    simp only [Bool.and_eq_true, decide_eq_true_eq] at h
    refine hc i j _ h.1.1.1 h.1.1.2 ?_
    have q' : Q (krun c (k (c i j))) s := q
    cases e : c i j with
    | true => rw [e] at q'; exact krun_wp hc (k true) h.1.2 q'
    | false => rw [e] at q'; exact krun_wp hc (k false) h.2 q'
theorem krun_congr {α : Type} {n : Nat} {c d : Nat → Nat → Bool} (h : ∀ i j, i < n → j < n → c i j = d i j) : ∀ t : KasT α, kin n t = true → krun c t = krun d t
  | .ret a, _ => rfl
  | .ask i j k, hk => by
    unfold kin at hk
    simp only [Bool.and_eq_true, decide_eq_true_eq] at hk
    unfold krun
    rw [h i j hk.1.1.1 hk.1.1.2]
    cases d i j with
    | true => exact krun_congr h (k true) hk.1.2
    | false => exact krun_congr h (k false) hk.2
def tab (b : Nat → Nat → Bool) (i j : Nat) : Bool := if i < j then b i j else if j < i then !b j i else false
def okOut (n : Nat) (c : Nat → Nat → Bool) (p : List Nat) : Bool := p.isPerm (List.range n) && (List.range n).all fun i => (List.range n).all fun j => !decide (i < j) || c (p.getD i 0) (p.getD j 0)
def tr3 (n : Nat) (c : Nat → Nat → Bool) : Bool := (List.range n).all fun i => (List.range n).all fun j => (List.range n).all fun k => !c i j || !c j k || c i k
def half (b01 b02 b03 b12 b13 b23 : Bool) (i j : Nat) : Bool := match i, j with
  | 0, 1 => b01 | 0, 2 => b02 | 0, 3 => b03 | 1, 2 => b12 | 1, 3 => b13 | 2, 3 => b23 | _, _ => false
theorem kin2 : kin 2 (kas_sort 2) = true := by decide +kernel
theorem kin3 : kin 3 (kas_sort 3) = true := by decide +kernel
theorem kin4 : kin 4 (kas_sort 4) = true := by decide +kernel
theorem sort2 : ∀ b01 : Bool, okOut 2 (tab (half b01 true true true true true)) (krun (tab (half b01 true true true true true)) (kas_sort 2)).toList = true := by decide +kernel
theorem sort3 : ∀ b01 b02 b12 : Bool, tr3 3 (tab (half b01 b02 true b12 true true)) = true → okOut 3 (tab (half b01 b02 true b12 true true)) (krun (tab (half b01 b02 true b12 true true)) (kas_sort 3)).toList = true := by decide +kernel
theorem sort4 : ∀ b01 b02 b03 b12 b13 b23 : Bool, tr3 4 (tab (half b01 b02 b03 b12 b13 b23)) = true → okOut 4 (tab (half b01 b02 b03 b12 b13 b23)) (krun (tab (half b01 b02 b03 b12 b13 b23)) (kas_sort 4)).toList = true := by decide +kernel
theorem lexLt_irrefl : ∀ a : List Int, lexLt a a = false
  | [] => rfl
  | x :: a => by rw [lexLt_cons, if_pos rfl, lexLt_irrefl a]
theorem lexLt_flip : ∀ a b : List Int, a ≠ b → lexLt b a = !lexLt a b
  | [], [], h => absurd rfl h
  | [], _ :: _, _ => rfl
  | _ :: _, [], _ => rfl
  | x :: a, y :: b, h => by
    rw [lexLt_cons, lexLt_cons]
    by_cases e : x = y
    · subst e
      rw [if_pos rfl, if_pos rfl]
      exact lexLt_flip a b fun z => h (by rw [z])
    · rw [if_neg e, if_neg (Ne.symm e), Bool.eq_iff_iff]
      simp
      omega
theorem lexLt_trans : ∀ a b c : List Int, lexLt a b = true → lexLt b c = true → lexLt a c = true
  | [], [], _, h, _ => by rw [lexLt_nil_nil] at h; cases h
  | [], _ :: _, [], _, h => by rw [lexLt_cons_nil] at h; cases h
  | [], _ :: _, _ :: _, _, _ => rfl
  | _ :: _, [], _, h, _ => by rw [lexLt_cons_nil] at h; cases h
  | _ :: _, _ :: _, [], _, h => by rw [lexLt_cons_nil] at h; cases h
  | x :: a, y :: b, z :: c, h1, h2 => by
    rw [lexLt_cons] at h1 h2 ⊢
    by_cases e1 : x = y
    · subst e1
      rw [if_pos rfl] at h1
      by_cases e2 : x = z
      · subst e2
        rw [if_pos rfl] at h2 ⊢
        exact lexLt_trans a b c h1 h2
      · rw [if_neg e2] at h2 ⊢; exact h2
    · rw [if_neg e1] at h1
      have h1' := of_decide_eq_true h1
      by_cases e2 : y = z
      · subst e2
        rw [if_neg e1]; exact h1
      · rw [if_neg e2] at h2
        have h2' := of_decide_eq_true h2
        rw [if_neg (show x ≠ z by omega)]
        exact decide_eq_true (by omega)
theorem half_eq {n : Nat} (hn : n ≤ 4) {c : Nat → Nat → Bool} {b01 b02 b03 b12 b13 b23 : Bool} (h01 : 1 < n → b01 = c 0 1) (h02 : 2 < n → b02 = c 0 2) (h03 : 3 < n → b03 = c 0 3) (h12 : 2 < n → b12 = c 1 2) (h13 : 3 < n → b13 = c 1 3) (h23 : 3 < n → b23 = c 2 3) :
    ∀ i j, i < j → j < n → half b01 b02 b03 b12 b13 b23 i j = c i j := by
  intro i j h1 h2
  have hh : (i = 0 ∧ j = 1) ∨ (i = 0 ∧ j = 2) ∨ (i = 0 ∧ j = 3) ∨ (i = 1 ∧ j = 2) ∨ (i = 1 ∧ j = 3) ∨ (i = 2 ∧ j = 3) := by omega
  rcases hh with ⟨rfl, rfl⟩ | ⟨rfl, rfl⟩ | ⟨rfl, rfl⟩ | ⟨rfl, rfl⟩ | ⟨rfl, rfl⟩ | ⟨rfl, rfl⟩
  · exact h01 h2
  · exact h02 h2
  · exact h03 h2
  · exact h12 h2
  · exact h13 h2
  · exact h23 h2
theorem sort_ok {ls : List (List Int)} (nd : ls.Nodup) (h2 : 2 ≤ ls.length) (h4 : ls.length ≤ 4) :
    kin ls.length (kas_sort ls.length) = true ∧ okOut ls.length (fun i j => lexLt (ls.getD i []) (ls.getD j [])) (krun (fun i j => lexLt (ls.getD i []) (ls.getD j [])) (kas_sort ls.length)).toList = true := by
  generalize hc : (fun i j => lexLt (ls.getD i []) (ls.getD j [])) = c
  have cd : ∀ i j, c i j = lexLt (ls.getD i []) (ls.getD j []) := fun i j => by rw [← hc]
  have flip : ∀ i j, i < ls.length → j < ls.length → i ≠ j → c j i = !c i j := fun i j hi hj hij => by
    rw [cd, cd]
    refine lexLt_flip _ _ fun e => hij ?_
    have e1 : ls.getD i [] = ls[i] := by rw [List.getD_eq_getElem?_getD, List.getElem?_eq_getElem hi]; rfl
    have e2 : ls.getD j [] = ls[j] := by rw [List.getD_eq_getElem?_getD, List.getElem?_eq_getElem hj]; rfl
    rw [e1, e2] at e
    exact (List.getElem_inj nd).mp e
  have tabc : ∀ b : Nat → Nat → Bool, (∀ i j, i < j → j < ls.length → b i j = c i j) → ∀ i j, i < ls.length → j < ls.length → tab b i j = c i j := fun b hb i j hi hj => by
    unfold tab
    by_cases h : i < j
    · rw [if_pos h, hb i j h hj]
    · rw [if_neg h]
      by_cases h' : j < i
      · rw [if_pos h', hb j i h' hi, flip j i hj hi (by omega)]
      · rw [if_neg h']
        have : i = j := by omega
        subst this
        rw [cd, lexLt_irrefl]
  have outc : ∀ (b : Nat → Nat → Bool) (p : List Nat), (∀ i j, i < ls.length → j < ls.length → tab b i j = c i j) → okOut ls.length (tab b) p = true → okOut ls.length c p = true := fun b p hb h => by
    unfold okOut at h ⊢
    rw [Bool.and_eq_true] at h ⊢
    refine ⟨h.1, ?_⟩
    have pm := List.isPerm_iff.mp h.1
    have hl : p.length = ls.length := by rw [pm.length_eq, List.length_range]
    rw [List.all_eq_true] at h ⊢
    intro i hi
    have q := h.2 i hi
    rw [List.all_eq_true] at q ⊢
    intro j hj
    have q2 := q j hj
    have hi' := List.mem_range.mp hi
    have hj' := List.mem_range.mp hj
    have m : ∀ k, k < ls.length → p.getD k 0 < ls.length := fun k hk => by
      have e : p.getD k 0 = p[k]'(by omega) := by rw [List.getD_eq_getElem?_getD, List.getElem?_eq_getElem (by omega)]; rfl
      rw [e]
      exact List.mem_range.mp (pm.mem_iff.mp (List.getElem_mem _))
    rw [hb _ _ (m i hi') (m j hj')] at q2
    exact q2
  have trc : ∀ (b : Nat → Nat → Bool), (∀ i j, i < ls.length → j < ls.length → tab b i j = c i j) → tr3 ls.length (tab b) = true := fun b hb => by
    unfold tr3
    simp only [List.all_eq_true, List.mem_range]
    intro i hi j hj k hk
    rw [hb i j hi hj, hb j k hj hk, hb i k hi hk]
    cases e1 : c i j
    · rfl
    · cases e2 : c j k
      · rfl
      · rw [cd] at e1 e2
        rw [cd, lexLt_trans _ _ _ e1 e2]; rfl
  have hn : ls.length = 2 ∨ ls.length = 3 ∨ ls.length = 4 := by omega
  rcases hn with hn | hn | hn
  · rw [hn] at tabc outc trc ⊢
    have t := tabc (half (c 0 1) true true true true true) (half_eq (by decide) (fun _ => rfl) (fun z => by omega) (fun z => by omega) (fun z => by omega) (fun z => by omega) (fun z => by omega))
    refine ⟨kin2, ?_⟩
    rw [krun_congr (fun i j hi hj => (t i j hi hj).symm) _ kin2]
    exact outc _ _ t (sort2 _)
  · rw [hn] at tabc outc trc ⊢
    have t := tabc (half (c 0 1) (c 0 2) true (c 1 2) true true) (half_eq (by decide) (fun _ => rfl) (fun _ => rfl) (fun z => by omega) (fun _ => rfl) (fun z => by omega) (fun z => by omega))
    refine ⟨kin3, ?_⟩
    rw [krun_congr (fun i j hi hj => (t i j hi hj).symm) _ kin3]
    exact outc _ _ t (sort3 _ _ _ (trc _ t))
  · rw [hn] at tabc outc trc ⊢
    have t := tabc (half (c 0 1) (c 0 2) (c 0 3) (c 1 2) (c 1 3) (c 2 3)) (half_eq (by decide) (fun _ => rfl) (fun _ => rfl) (fun _ => rfl) (fun _ => rfl) (fun _ => rfl) (fun _ => rfl))
    refine ⟨kin4, ?_⟩
    rw [krun_congr (fun i j hi hj => (t i j hi hj).symm) _ kin4]
    exact outc _ _ t (sort4 _ _ _ _ _ _ (trc _ t))
end HT
namespace L2
open PySem PySem.Spec PyProof.Rows
section
variable {X : Cx}
def rLtL (K : PySem.W.Frag) : R2 := fun x y H Q => ∃ (a b : Addr) (ns ms : List Int), x = .ref a ∧ y = .ref b ∧ SqL K H a (ns.map V.int) ∧ SqL K H b (ms.map V.int) ∧ Q (.bl (HT.lexLt ns ms)) H
theorem k_ltL (K : PySem.W.Frag) (hu : X.A.units + 64 < cLine) (e : X.K = K := by rfl) : OpR X (compareOp .Lt) (rLtL K) := by
  subst e
  intro pins s σ H x y v u Q I rx ry h
  obtain ⟨a, b, ns, ms, rfl, rfl, ha, hb, q⟩ := h
  cases rx
  cases ry
  obtain ⟨its, r1, p1, _⟩ := I.list ha
  obtain ⟨its2, r2, p2, _⟩ := I.list hb
  exact HT.lt_listInts p1.isList p2.isList (intsAre_of r1) (intsAre_of r2) (by omega) ⟨.bl (HT.lexLt ns ms), H, I, rfl, q⟩
end
end L2
set_option Elab.async false
set_option linter.all false
set_option maxRecDepth 100000
namespace HT
open PySem PyProof.Rows PySem.W
def KW {α : Type} (c : Nat → Nat → Bool) (n : Nat) : KasT α → (α → Prop) → Prop
  | .ret a, Q => Q a
  | .ask i j k, Q => i < n ∧ j < n ∧ KW c n (k (c i j)) Q
theorem KW.bind {α β : Type} {c : Nat → Nat → Bool} {n : Nat} {f : α → KasT β} {Q : β → Prop} : ∀ {t : KasT α}, KW c n t (fun a => KW c n (f a) Q) → KW c n (t.bind f) Q
  | .ret _, h => h
  | .ask _ _ k, h => ⟨h.1, h.2.1, KW.bind (t := k _) h.2.2⟩
theorem KW.mono {α : Type} {c : Nat → Nat → Bool} {n : Nat} {Q Q' : α → Prop} (hq : ∀ a, Q a → Q' a) : ∀ {t : KasT α}, KW c n t Q → KW c n t Q'
  | .ret a, h => hq a h
  | .ask _ _ k, h => ⟨h.1, h.2.1, KW.mono hq (t := k _) h.2.2⟩
theorem KW.wp {α : Type} {n : Nat} {c : Nat → Nat → Bool} {cmp : Nat → Nat → (Bool → Shared → Prop) → Shared → Prop} {s : Shared} {Q : α → Prop} (hc : ∀ i j C, i < n → j < n → C (c i j) s → cmp i j C s) :
    ∀ t : KasT α, KW c n t Q → t.kasWp cmp (fun a s' => s' = s ∧ Q a) s
  | .ret _, h => ⟨rfl, h⟩
  | .ask i j k, h => hc i j _ h.1 h.2.1 (KW.wp hc (k (c i j)) h.2.2)
structure Ord (c : Nat → Nat → Bool) (n : Nat) : Prop where
  tr : ∀ i j k, i < n → j < n → k < n → c i j = true → c j k = true → c i k = true
  tot : ∀ i j, i < n → j < n → i ≠ j → c i j = false → c j i = true
  asy : ∀ i j, i < n → j < n → c i j = true → c j i = false
structure Pm (n : Nat) (p : Array Nat) : Prop where
  sz : p.size = n
  pm : p.toList.Perm (List.range n)
theorem Pm.lt {n : Nat} {p : Array Nat} (h : Pm n p) (i : Nat) (hi : i < n) : p.getD i 0 < n := by
  have hs := h.sz
  have e : p.getD i 0 = p[i] := by simp [Array.getD, hs, hi]
  rw [e]
  exact List.mem_range.mp (h.pm.mem_iff.mp (by simp))
theorem Pm.ne {n : Nat} {p : Array Nat} (h : Pm n p) {i j : Nat} (hi : i < n) (hj : j < n) (hij : i ≠ j) : p.getD i 0 ≠ p.getD j 0 := by
  have hs := h.sz
  have e1 : p.getD i 0 = p.toList[i]'(by simp [hs, hi]) := by simp [Array.getD, hs, hi]
  have e2 : p.getD j 0 = p.toList[j]'(by simp [hs, hj]) := by simp [Array.getD, hs, hj]
  rw [e1, e2]
  have nd : p.toList.Nodup := h.pm.nodup_iff.mpr List.nodup_range
  intro z
  exact hij ((List.getElem_inj nd).mp z)
theorem Pm.of {n : Nat} {p q : Array Nat} (h : Pm n p) (z : q.Perm p) : Pm n q := ⟨by rw [z.size_eq]; exact h.sz, (Array.perm_iff_toList_perm.mp z).trans h.pm⟩
def Up (c : Nat → Nat → Bool) (p : Array Nat) (m : Nat) : Prop := ∀ i j, i < j → j < m → c (p.getD i 0) (p.getD j 0) = true
def Dn (c : Nat → Nat → Bool) (p : Array Nat) (m : Nat) : Prop := ∀ i j, i < j → j < m → c (p.getD j 0) (p.getD i 0) = true
section
variable {c : Nat → Nat → Bool} {n : Nat}
theorem asc_ok (O : Ord c n) {p : Array Nat} (hp : Pm n p) : ∀ (f m : Nat), 1 ≤ m → m + f ≤ n → Up c p m → KW c n (kas_asc p f m) (fun r => m ≤ r ∧ r ≤ m + f ∧ Up c p r ∧ (r < m + f → c (p.getD r 0) (p.getD (r - 1) 0) = true))
  | 0, m, _, _, u => ⟨Nat.le_refl _, Nat.le_refl _, u, fun z => absurd z (Nat.lt_irrefl _)⟩
  | f + 1, m, h1, h2, u => by
    refine ⟨hp.lt m (by omega), hp.lt (m - 1) (by omega), ?_⟩
    cases e : c (p.getD m 0) (p.getD (m - 1) 0) with
    | true => exact ⟨Nat.le_refl _, by omega, u, fun _ => e⟩
    | false =>
      have hs : c (p.getD (m - 1) 0) (p.getD m 0) = true := O.tot _ _ (hp.lt m (by omega)) (hp.lt (m - 1) (by omega)) (hp.ne (by omega) (by omega) (by omega)) e
      have u' : Up c p (m + 1) := fun i j hij hj => by
        by_cases hjm : j < m
        · exact u i j hij hjm
        · have ej : j = m := by omega
          subst ej
          by_cases hi : i = j - 1
          · rw [hi]; exact hs
          · exact O.tr _ _ _ (hp.lt i (by omega)) (hp.lt (j - 1) (by omega)) (hp.lt j (by omega)) (u i (j - 1) (by omega) (by omega)) hs
      refine KW.mono (fun r h => ?_) (asc_ok O hp f (m + 1) (by omega) (by omega) u')
      exact ⟨by omega, by omega, h.2.2.1, fun z => h.2.2.2 (by omega)⟩
theorem desc_ok (O : Ord c n) {p : Array Nat} (hp : Pm n p) : ∀ (f m : Nat), 1 ≤ m → m + f ≤ n → Dn c p m → KW c n (kas_desc f p m 0) (fun r => r.1 = p ∧ r.2.2 = 0 ∧ m ≤ r.2.1 ∧ r.2.1 ≤ m + f ∧ Dn c p r.2.1)
  | 0, m, _, _, u => ⟨rfl, rfl, Nat.le_refl _, Nat.le_refl _, u⟩
  | f + 1, m, h1, h2, u => by
    refine ⟨hp.lt m (by omega), hp.lt (m - 1) (by omega), ?_⟩
    cases e : c (p.getD m 0) (p.getD (m - 1) 0) with
    | true =>
      have u' : Dn c p (m + 1) := fun i j hij hj => by
        by_cases hjm : j < m
        · exact u i j hij hjm
        · have ej : j = m := by omega
          subst ej
          by_cases hi : i = j - 1
          · rw [hi]; exact e
          · exact O.tr _ _ _ (hp.lt j (by omega)) (hp.lt (j - 1) (by omega)) (hp.lt i (by omega)) e (u i (j - 1) (by omega) (by omega))
      refine KW.mono (fun r h => ?_) (desc_ok O hp f (m + 1) (by omega) (by omega) u')
      exact ⟨h.1, h.2.1, by omega, by omega, h.2.2.2.2⟩
    | false =>
      have hs : c (p.getD (m - 1) 0) (p.getD m 0) = true := O.tot _ _ (hp.lt m (by omega)) (hp.lt (m - 1) (by omega)) (hp.ne (by omega) (by omega) (by omega)) e
      refine ⟨hp.lt (m - 1) (by omega), hp.lt m (by omega), ?_⟩
      rw [hs]
      exact ⟨rfl, rfl, Nat.le_refl _, (show m ≤ m + (f + 1) by omega), u⟩
theorem rev_getD {p : Array Nat} {m : Nat} (hm : m ≤ p.size) (k : Nat) : (kas_rev p 0 m).getD k 0 = if k < m then p.getD (m - 1 - k) 0 else p.getD k 0 := by
  have q := getElem?_mirror_all (xs := p) (i := 0) hm k
  have e : ∀ (a : Array Nat) (j : Nat), a.getD j 0 = (a[j]?).getD 0 := fun a j => by simp [Array.getD_eq_getD_getElem?]
  unfold kas_rev
  rw [e, q]
  by_cases h : k < m
  · rw [if_pos ⟨Nat.zero_le _, h⟩, if_pos h, e, Nat.zero_add]
  · rw [if_neg (by omega), if_neg h, e]
theorem tail3_ok (O : Ord c n) {p : Array Nat} (hp : Pm n p) {m : Nat} (h1 : 1 ≤ m) (h2 : m ≤ n) (u : Dn c p m) : KW c n (kas_tail3 m n p) (fun r => 1 ≤ r.1 ∧ r.1 ≤ n ∧ Pm n r.2 ∧ Up c r.2 r.1) := by
  have hr : Pm n (kas_rev p 0 m) := hp.of (mirror_perm _ _ _ _)
  have hsz : m ≤ p.size := by rw [hp.sz]; exact h2
  have u' : Up c (kas_rev p 0 m) m := fun i j hij hj => by
    rw [rev_getD hsz, rev_getD hsz, if_pos (by omega), if_pos hj]
    exact u _ _ (by omega) (by omega)
  refine KW.bind (KW.mono (fun r h => ?_) (asc_ok O hr (n - m) m h1 (by omega) u'))
  exact ⟨by omega, by omega, hr, h.2.2.1⟩
theorem count_ok (O : Ord c n) {p : Array Nat} (hp : Pm n p) (h2 : 2 ≤ n) : KW c n (kas_count n p) (fun r => 1 ≤ r.1 ∧ r.1 ≤ n ∧ Pm n r.2 ∧ Up c r.2 r.1) := by
  refine KW.bind (KW.mono (fun r h => ?_) (asc_ok O hp (n - 1) 1 (Nat.le_refl _) (by omega) (fun i j hij hj => by omega)))
  obtain ⟨h1, h3, u, st⟩ := h
  by_cases e : r = n
  · subst e
    rw [if_pos (by simp)]
    exact ⟨h1, Nat.le_refl _, hp, u⟩
  · rw [if_neg (by simpa using e)]
    by_cases hr : r > 1
    · rw [if_pos hr]
      refine ⟨hp.lt 0 (by omega), hp.lt (r - 1) (by omega), ?_⟩
      rw [u 0 (r - 1) (by omega) (by omega)]
      exact ⟨h1, by omega, hp, u⟩
    · rw [if_neg hr]
      have er : r = 1 := by omega
      subst er
      have s1 := st (by omega)
      have d : Dn c p 2 := fun i j hij hj => by
        have ei : i = 0 := by omega
        have ej : j = 1 := by omega
        subst ei; subst ej
        exact s1
      refine KW.bind (KW.mono (fun r h => ?_) (desc_ok O hp (n - 2) 2 (by omega) (by omega) d))
      obtain ⟨a1, a2, a3, a4, a5⟩ := h
      obtain ⟨q, m, z⟩ := r
      simp only at a1 a2 a3 a4 a5
      subst a1; subst a2
      show KW c n (if 0 > 0 then _ else _) _
      rw [if_neg (Nat.lt_irrefl 0)]
      exact tail3_ok O hp (show 1 ≤ m by omega) (show m ≤ n by omega) a5
theorem place_ok (O : Ord c n) {p : Array Nat} (hp : Pm n p) {k : Nat} (hk : k < n) (u : Up c p k) : ∀ (f l r : Nat), l ≤ r → r ≤ k → r - l ≤ f → (∀ i, i < l → c (p.getD i 0) (p.getD k 0) = true) → (∀ i, r ≤ i → i < k → c (p.getD k 0) (p.getD i 0) = true) →
    KW c n (kas_place p k f l r) (fun l => l ≤ k ∧ (∀ i, i < l → c (p.getD i 0) (p.getD k 0) = true) ∧ (∀ i, l ≤ i → i < k → c (p.getD k 0) (p.getD i 0) = true))
  | 0, l, r, h1, h2, h3, lo, hi => ⟨by omega, lo, fun i a b => hi i (by omega) b⟩
  | f + 1, l, r, h1, h2, h3, lo, hi => by
    unfold kas_place
    by_cases hlr : l ≥ r
    · rw [if_pos hlr]
      exact ⟨by omega, lo, fun i a b => hi i (by omega) b⟩
    · rw [if_neg hlr]
      have hm : (l + r) / 2 < k := by omega
      refine ⟨hp.lt k hk, hp.lt _ (by omega), ?_⟩
      cases e : c (p.getD k 0) (p.getD ((l + r) / 2) 0) with
      | true =>
        dsimp only
        rw [if_pos rfl]
        refine place_ok O hp hk u f l ((l + r) / 2) (by omega) (by omega) (by omega) lo fun i a b => ?_
        by_cases ei : i = (l + r) / 2
        · rw [ei]; exact e
        · exact O.tr _ _ _ (hp.lt k hk) (hp.lt _ (by omega)) (hp.lt i (by omega)) e (u _ _ (by omega) b)
      | false =>
        dsimp only
        rw [if_neg Bool.false_ne_true]
        have hs : c (p.getD ((l + r) / 2) 0) (p.getD k 0) = true := O.tot _ _ (hp.lt k hk) (hp.lt _ (by omega)) (hp.ne hk (by omega) (by omega)) e
        refine place_ok O hp hk u f ((l + r) / 2 + 1) r (by omega) h2 (by omega) (fun i a => ?_) hi
        by_cases ei : i = (l + r) / 2
        · rw [ei]; exact hs
        · exact O.tr _ _ _ (hp.lt i (by omega)) (hp.lt _ (by omega)) (hp.lt k hk) (u _ _ (by omega) (by omega)) hs
theorem bub_getD {p : Array Nat} {k l : Nat} (hk : k < p.size) (hl : l ≤ k) (i : Nat) : (bubble p k (k - l)).getD i 0 = if i = l then p.getD k 0 else if l < i ∧ i ≤ k then p.getD (i - 1) 0 else p.getD i 0 := by
  have q := getElem?_bubble hk (k - l) (by omega) i
  have e : ∀ (a : Array Nat) (j : Nat), a.getD j 0 = (a[j]?).getD 0 := fun a j => by simp [Array.getD_eq_getD_getElem?]
  rw [show k - (k - l) = l by omega] at q
  rw [e, e p k, e p (i - 1), e p i, q]
  split
  · rfl
  · split
    · rfl
    · rfl
theorem bin_ok (O : Ord c n) : ∀ (f : Nat) {p : Array Nat} {k : Nat}, Pm n p → 1 ≤ k → k + f = n → Up c p k → KW c n (kas_bin f p k) (fun q => Pm n q ∧ Up c q n)
  | 0, p, k, hp, h1, h2, u => by
    have : k = n := by omega
    subst this
    exact ⟨hp, u⟩
  | f + 1, p, k, hp, h1, h2, u => by
    refine KW.bind (KW.mono (fun l h => ?_) (place_ok O hp (show k < n by omega) u k 0 k (Nat.zero_le _) (Nat.le_refl _) (by omega) (fun i hi => by omega) (fun i a b => by omega)))
    obtain ⟨hlk, lo, hi⟩ := h
    have hks : k < p.size := by rw [hp.sz]; omega
    refine bin_ok O f (hp.of (bubble_perm _ _ _)) (by omega) (by omega) fun i j hij hj => ?_
    rw [bub_getD hks hlk, bub_getD hks hlk]
    by_cases hi1 : i = l
    · rw [if_pos hi1, if_neg (by omega), if_pos (by omega)]
      exact hi _ (by omega) (by omega)
    · rw [if_neg hi1]
      by_cases hi2 : l < i ∧ i ≤ k
      · rw [if_pos hi2, if_neg (by omega), if_pos (by omega)]
        exact u _ _ (by omega) (by omega)
      · rw [if_neg hi2]
        by_cases hj1 : j = l
        · rw [if_pos hj1]
          exact lo _ (by omega)
        · rw [if_neg hj1]
          by_cases hj2 : l < j ∧ j ≤ k
          · rw [if_pos hj2]
            exact u _ _ (by omega) (by omega)
          · rw [if_neg hj2]
            exact u _ _ (by omega) (by omega)
theorem sortG (O : Ord c n) (h2 : 2 ≤ n) : KW c n (kas_sort n) (fun p => Pm n p ∧ Up c p n) := by
  have h0 : Pm n (List.toArray (List.range n)) := ⟨by simp, by simp⟩
  refine KW.bind (KW.mono (fun r h => ?_) (count_ok O h0 h2))
  obtain ⟨h1, h3, hp, u⟩ := h
  by_cases hr : r.1 < n
  · rw [if_pos hr, Nat.max_eq_left h1]
    exact bin_ok O _ hp h1 (by omega) u
  · rw [if_neg hr]
    have : r.1 = n := by omega
    rw [this] at u
    exact ⟨hp, u⟩
end
end HT
set_option Elab.async false
set_option linter.all false
set_option maxRecDepth 100000
namespace HT
open PySem PyProof.Rows PySem.W
section
variable {prog : Program} {w : World} {A : Around} {E : Value → Shared → Prop} {s : Shared}
theorem one_lt {l b : Addr} {items items2 : Array Value} {ns ms : List Int} {Q : Bool → Shared → Prop} (hl : s.heap.IsList l items) (hb : s.heap.IsList b items2) (hi : IntsAre items.toList ns) (hj : IntsAre items2.toList ms) (hu : A.units + 1 < cLine)
    (h : Q (lexLt ns ms) s) : wpAny (model prog w) A (keyLt' oneType' (.ref l) (.ref b)) Q E s := by
  obtain ⟨⟨cls, dd, data, sl⟩, ho, hc, n, hd⟩ := id hl
  obtain ⟨⟨cls2, dd2, data2, sl2⟩, ho2, hc2, n2, hd2⟩ := id hb
  simp only at hc hd hc2 hd2
  subst hc hd hc2 hd2
  rw [keyLt'_oneType, oneLt'_eq]
  simp only [if_true]
  refine wpAny_bind (wpAny_cRoomFor (by omega) (wpAny_bind (wpAny_callSpecialIfBound?_slot (T := "list") (name := "__lt__") ⟨_, ho, rfl⟩ PySem.F.slot_list_lt
    (call_meets PySem.F.slot_list_lt ⟨_, ho, rfl⟩ PySem.F.entry_list_lt (PySem.F.args_list_lt_2 _ _) (list_lt_ints l b items items2 n n2 dd dd2 sl sl2 ns ms hi hj) ⟨ho, ho2, ?_⟩))))
  exact wpAny_truthy_bool h
theorem perm_getD {α : Type} (d : α) (zs : List α) {p : List Nat} (h : p.Perm (List.range zs.length)) : (p.map fun i => zs.getD i d).Perm zs := by
  have e : (List.range zs.length).map (fun i => zs.getD i d) = zs := by
    apply List.ext_getElem?
    intro i
    rw [List.getElem?_map]
    by_cases hi : i < zs.length
    · rw [List.getElem?_range hi, Option.map_some, List.getD_eq_getElem?_getD, List.getElem?_eq_getElem hi]; rfl
    · rw [List.getElem?_eq_none (by simpa using hi), List.getElem?_eq_none (by omega)]; rfl
  have q := h.map fun i => zs.getD i d
  rw [e] at q
  exact q
theorem sortL_tree {a : Addr} {zs : List (Addr × List Int)} {n0 : Nat} {P : Fin → Shared → Prop} (ho : s.heap.get? a = some (seqObj "list" (zs.map fun z => Value.ref z.1).toArray n0))
    (hz : ∀ z ∈ zs, z.1 ≠ a ∧ ∃ its : List Value, s.heap.IsList z.1 its.toArray ∧ IntsAre its z.2) (nd : (zs.map (·.2)).Nodup) (h4 : zs.length ≤ 4) (hu : A.units + 1 < cLine)
    (h : ∀ zs' : List (Addr × List Int), zs'.Perm zs → zs'.Pairwise (fun x y => lexLt x.2 y.2 = true) → P (.done (.ret .none)) { s with heap := sortedHeap s.heap a (zs.map fun z => Value.ref z.1) (zs'.map fun z => Value.ref z.1).toArray }) :
    wpAny (model prog w) A (Builtin.«list.sort» ⟨[.ref a], []⟩) P E s := by
  rw [list_sort_plain]
  generalize hvs : (zs.map fun z => Value.ref z.1) = vs at ho h ⊢
  have hvl : vs.length = zs.length := by rw [← hvs, List.length_map]
  have hsl : vs.length ≤ sizeLine := by rw [hvl, sizeLine_eq]; omega
  have ha : a < s.heap.objs.size := Heap.lt_size ho
  obtain ⟨e1, ho1⟩ : ∃ e1, (s.heap.update a (Obj.mapSeq fun _ => #[])).get? a = some (seqObj "list" #[] e1) := ⟨_, get?_update_seq ho (fun _ => #[])⟩
  refine wpAny_bind (listItems_at ho rfl (wpAny_bind (listUpdate_at ho rfl (wpAny_bind (seqEpoch_at ho1 rfl (wpAny_bind (wpAny_newTuple (wpAny_bind (wpAny_newList (wpAny_holding ?_) (Nat.zero_le _))) (by show vs.length ≤ _; exact hsl))))) (by rw [List.size_toArray]; exact hsl) (Nat.zero_le _))))
  generalize hG : (((s.heap.update a (Obj.mapSeq fun _ => (#[] : Array Value))).push (seqObj "tuple" vs.toArray 0)).push (seqObj "list" #[] 0)) = G
  have ho6 : G.get? a = some (seqObj "list" #[] e1) := by
    rw [← hG, Heap.get?_push_ne _ _ _ (by rw [size_push', Heap.size_update]; exact Nat.ne_of_lt (Nat.lt_succ_of_lt ha)), Heap.get?_push_ne _ _ _ (by rw [Heap.size_update]; exact Nat.ne_of_lt ha)]; exact ho1
  have keep : ∀ b o, b ≠ a → s.heap.get? b = some o → G.get? b = some o := fun b o hb e => by
    have hlt := Heap.lt_size e
    rw [← hG, Heap.get?_push_ne _ _ _ (by rw [size_push', Heap.size_update]; exact Nat.ne_of_lt (Nat.lt_succ_of_lt hlt)), Heap.get?_push_ne _ _ _ (by rw [Heap.size_update]; exact Nat.ne_of_lt hlt), Heap.get?_update_other _ _ (Ne.symm hb)]; exact e
  show wpAny (model prog w) A _ P E { s with heap := G }
  dsimp only
  by_cases h2 : vs.toArray.size < 2
  · rw [if_pos h2, if_pos h2]
    refine wpAny_bind (wpAny_pure ?_)
    rw [StateT.run_pure]
    refine wpAny_bind (wpAny_pure ?_)
    dsimp only
    have hout : (arrOf (SortSt.mk' general' (vs.toArray.zip vs.toArray) #[] 7 none)).map (·.2) = vs.toArray := by
      show (vs.toArray.zip vs.toArray).map (·.2) = vs.toArray
      apply Array.toList_inj.mp
      rw [Array.toList_map, Array.toList_zip, List.map_snd_zip (by simp)]
    rw [hout]
    refine wpAny_bind (seqEpoch_at ho6 rfl (wpAny_bind (listUpdate_at ho6 rfl ?_ (Nat.zero_le _) (by rw [List.size_toArray]; exact Nat.le_succ_of_le hsl))))
    have q := h zs (List.Perm.refl _) (by
      rw [List.size_toArray, hvl] at h2
      match zs, h2 with
      | [], _ => exact .nil
      | [_], _ => exact List.pairwise_singleton _ _)
    rw [hvs] at q
    simp only [bne_self_eq_false, Bool.false_eq_true, if_false]
    have e2 : G.update a (Obj.mapSeq fun _ => vs.toArray) = sortedHeap s.heap a vs vs.toArray := by rw [← hG]; rfl
    rw [e2]
    exact wpAny_pure q
  · rw [if_neg h2, if_neg h2]
    rw [List.size_toArray, hvl] at h2
    have ls2 : (zs.map (·.2)).length = zs.length := List.length_map ..
    obtain ⟨hkin, hok⟩ := sort_ok nd (by rw [ls2]; omega) (by rw [ls2]; exact h4)
    rw [ls2] at hkin hok
    generalize hcd : (fun i j => lexLt ((zs.map (·.2)).getD i []) ((zs.map (·.2)).getD j [])) = c at hok
    have gz : ∀ i, i < zs.length → vs.getD i Value.none = .ref (zs.getD i (0, [])).1 ∧ (zs.map (·.2)).getD i [] = (zs.getD i (0, [])).2 ∧ zs.getD i (0, []) ∈ zs := fun i hi => by
      have e : zs.getD i (0, []) = zs[i] := by rw [List.getD_eq_getElem?_getD, List.getElem?_eq_getElem hi]; rfl
      rw [e]
      refine ⟨?_, ?_, List.getElem_mem _⟩
      · rw [← hvs, List.getD_eq_getElem?_getD, List.getElem?_map, List.getElem?_eq_getElem hi]; rfl
      · rw [List.getD_eq_getElem?_getD, List.getElem?_map, List.getElem?_eq_getElem hi]; rfl
    refine wpAny_bind (kas_kind (T := .type "list") (by rw [hvl]; omega) (fun v hv => ?_) (by decide) (by decide) ?_)
    · rw [← hvs] at hv
      obtain ⟨z, hzm, rfl⟩ := List.mem_map.mp hv
      obtain ⟨hza, its, hl, _⟩ := hz z hzm
      obtain ⟨o, e, hcl, _⟩ := hl
      intro A' Q' E' s' k q
      exact wpAny_typeOf (T := "list") ⟨o, k _ _ (keep _ _ hza e), hcl⟩ q
    have est : SortSt.mk' oneType' (vs.toArray.zip vs.toArray) #[] 7 none = kas_st oneType' (pairsOf vs) (List.toArray (List.range vs.length)) := by
      have e := kas_range (pairsOf vs)
      rw [pairsOf_size] at e
      unfold kas_st; rw [e]; rfl
    have ask : (kas_sort vs.length).kasWp (kas_cmp prog w A oneType' (pairsOf vs)) (fun p s' => s' = { s with heap := G } ∧ p = krun c (kas_sort zs.length)) { s with heap := G } := by
      rw [hvl, ← kas_ask_eq]
      refine krun_wp (n := zs.length) (c := c) (fun i j C hi hj hC => ?_) _ hkin ⟨rfl, rfl⟩
      obtain ⟨a1, a2, a3⟩ := gz i hi
      obtain ⟨b1, b2, b3⟩ := gz j hj
      obtain ⟨hza, its, hl, hI⟩ := hz _ a3
      obtain ⟨hzb, its2, hl2, hI2⟩ := hz _ b3
      unfold kas_ask
      rw [a1, b1]
      refine one_lt (s := { s with heap := G }) (hl.at fun o e => keep _ o hza e) (hl2.at fun o e => keep _ o hzb e) (by simpa using hI) (by simpa using hI2) hu ?_
      rw [← hcd] at hC
      simp only [a2, b2] at hC
      exact hC
    have run := kas_runs (E := E) (Q := fun _ st' s' => s' = { s with heap := G } ∧ arrOf st' = (krun c (kas_sort zs.length)).map (kas_item (pairsOf vs)) ∧ failedOf st' = none) (by rw [hvl]; omega) (by rw [hvl]; omega)
      (fun p' st' s' a1 a2 a3 a4 => ⟨a4.1, by rw [a2, a4.2], a3⟩) ask
    rw [← est] at run
    refine wpAny_bind (wpAny_mono run ?_ fun _ _ e => e)
    rintro ⟨⟨⟩, st'⟩ s' ⟨rfl, har, hf⟩
    dsimp only
    generalize hp : krun c (kas_sort zs.length) = p at har hok
    have hout : (arrOf st').map (·.2) = ((p.toList.map fun i => zs.getD i (0, [])).map fun z => Value.ref z.1).toArray := by
      apply Array.toList_inj.mp
      rw [har, Array.map_map, Array.toList_map, List.map_map]
      refine List.map_congr_left fun i hi => ?_
      show (kas_item (pairsOf vs) i).2 = _
      rw [kas_item_eq]
      unfold okOut at hok
      rw [Bool.and_eq_true] at hok
      exact (gz i (List.mem_range.mp ((List.isPerm_iff.mp hok.1).mem_iff.mp hi))).1
    rw [hout]
    have pm : p.toList.Perm (List.range zs.length) := by
      unfold okOut at hok
      rw [Bool.and_eq_true] at hok
      exact List.isPerm_iff.mp hok.1
    have q := h (p.toList.map fun i => zs.getD i (0, [])) (perm_getD _ zs pm) (by
      rw [List.pairwise_map, List.pairwise_iff_getElem]
      intro i j hi hj hij
      have hpl : p.toList.length = zs.length := by rw [pm.length_eq, List.length_range]
      unfold okOut at hok
      simp only [Bool.and_eq_true, List.all_eq_true, List.mem_range] at hok
      have q1 := hok.2 i (by omega) j (by omega)
      rw [decide_eq_true hij] at q1
      have e1 : p.toList.getD i 0 = p.toList[i] := by rw [List.getD_eq_getElem?_getD, List.getElem?_eq_getElem hi]; rfl
      have e2 : p.toList.getD j 0 = p.toList[j] := by rw [List.getD_eq_getElem?_getD, List.getElem?_eq_getElem hj]; rfl
      rw [e1, e2, ← hcd] at q1
      have m1 := List.mem_range.mp (pm.mem_iff.mp (List.getElem_mem hi))
      have m2 := List.mem_range.mp (pm.mem_iff.mp (List.getElem_mem hj))
      rw [← (gz _ m1).2.1, ← (gz _ m2).2.1]
      simpa using q1)
    have hol : ((p.toList.map fun i => zs.getD i (0, [])).map fun z => Value.ref z.1).length = zs.length := by rw [List.length_map, List.length_map, pm.length_eq, List.length_range]
    refine wpAny_bind (seqEpoch_at ho6 rfl (wpAny_bind (listUpdate_at ho6 rfl ?_ (Nat.zero_le _) (by rw [List.size_toArray, hol]; rw [hvl] at hsl; exact Nat.le_succ_of_le hsl))))
    rw [hf]
    simp only [bne_self_eq_false, Bool.false_eq_true, if_false]
    have e2 : ∀ out : Array Value, G.update a (Obj.mapSeq fun _ => out) = sortedHeap s.heap a vs out := fun out => by rw [← hG]; rfl
    rw [e2]
    exact wpAny_pure q
theorem sortedL {l : Addr} {zs : List (Addr × List Int)} {Q : Value → Shared → Prop} (hl : s.heap.IsList l (zs.map fun z => Value.ref z.1).toArray) (hz : ∀ z ∈ zs, ∃ its : List Value, s.heap.IsList z.1 its.toArray ∧ IntsAre its z.2) (nd : (zs.map (·.2)).Nodup) (h4 : zs.length ≤ 4) (hu : A.units + 8 < cLine)
    (h : ∀ zs' : List (Addr × List Int), zs'.Perm zs → zs'.Pairwise (fun x y => lexLt x.2 y.2 = true) → Q (.ref (s.heap.objs.size + 1)) { s with heap := sortedAll s.heap (zs.map fun z => Value.ref z.1) (zs'.map fun z => Value.ref z.1).toArray }) :
    wpAny (model prog w) A (call (.builtin "sorted") [.ref l]) Q E s := by
  have hsl : (zs.map fun z => Value.ref z.1).length ≤ sizeLine := by rw [List.length_map, sizeLine_eq]; omega
  refine Calls.call_function_entry kind_sorted plain_sorted entry_sorted (args_sorted1 _) ?_
  unfold Builtin.«sorted»
  refine wpAny_bind (m := checkCount "sorted" 1 1 _) (wpAny_pure (wpAny_bind (collect_list hl (wpAny_bind (wpAny_newList ?_ hsl)) hsl)))
  generalize hB : (s.heap.push (seqObj "list" #[] 0)).update s.heap.objs.size (Obj.mapSeq (· ++ (zs.map fun z => Value.ref z.1).toArray)) = B
  have hsz : B.objs.size = s.heap.objs.size + 1 := by rw [← hB, Heap.size_update, size_push']
  have keep : ∀ b o, s.heap.get? b = some o → (B.push (seqObj "list" (zs.map fun z => Value.ref z.1).toArray 0)).get? b = some o := fun b o q => by
    have hlt : b < s.heap.objs.size := Heap.lt_size q
    rw [Heap.get?_push_ne _ _ _ (by rw [hsz]; exact Nat.ne_of_lt (Nat.lt_succ_of_lt hlt)), ← hB, Heap.get?_update_ne _ _ _ _ (Nat.ne_of_lt hlt), Heap.get?_push_ne _ _ _ (Nat.ne_of_lt hlt)]; exact q
  have hoL : (B.push (seqObj "list" (zs.map fun z => Value.ref z.1).toArray 0)).get? (s.heap.objs.size + 1) = some (seqObj "list" (zs.map fun z => Value.ref z.1).toArray 0) := by
    rw [← hsz]; exact Heap.get?_push_size _ rfl
  show wpAny _ _ _ _ _ { s with heap := B.push (seqObj "list" (zs.map fun z => Value.ref z.1).toArray 0) }
  dsimp only
  rw [hsz]
  refine wpAny_bind (wpAny_holding (wpAny_call_entry slot_list_sort ⟨_, hoL, rfl⟩ entry_list_sort (sortL_tree (A := A.in1.in1) (s := { s with heap := B.push (seqObj "list" (zs.map fun z => Value.ref z.1).toArray 0) }) hoL (fun z hzm => ?_) nd h4 (by show A.units + 1 + 1 + 1 < cLine; omega) fun zs' a1 a2 => ⟨_, rfl, ?_⟩) (args_list_sort _)))
  · obtain ⟨its, hl', hI⟩ := hz z hzm
    obtain ⟨o, e, _⟩ := id hl'
    exact ⟨Nat.ne_of_lt (Nat.lt_succ_of_lt (Heap.lt_size e)), its, hl'.at fun o e => keep _ o e, hI⟩
  · have q := h zs' a1 a2
    have e2 : sortedHeap (B.push (seqObj "list" (zs.map fun z => Value.ref z.1).toArray 0)) (s.heap.objs.size + 1) (zs.map fun z => Value.ref z.1) (zs'.map fun z => Value.ref z.1).toArray = sortedAll s.heap (zs.map fun z => Value.ref z.1) (zs'.map fun z => Value.ref z.1).toArray := by rw [← hB]; rfl
    show wpAny _ _ _ _ _ { s with heap := sortedHeap (B.push (seqObj "list" (zs.map fun z => Value.ref z.1).toArray 0)) (s.heap.objs.size + 1) (zs.map fun z => Value.ref z.1) (zs'.map fun z => Value.ref z.1).toArray }
    rw [e2]
    exact wpAny_pure ⟨_, rfl, q⟩
end
end HT
namespace L2
open PySem PySem.Spec PyProof.Rows
section
variable {X : Cx}
def rSortL (K : PySem.W.Frag) : List V → Hp → VK → Prop := fun xs H Q => ∃ (a : Addr) (zs : List (Addr × List Int)), xs = [.ref a] ∧ SqL K H a (zs.map fun z => V.ref z.1) ∧ zs.length ≤ 4 ∧ (∀ z ∈ zs, SqL K H z.1 (z.2.map V.int)) ∧ (zs.map (·.2)).Nodup ∧
  ∀ (p : Addr) (zs' : List (Addr × List Int)), H p = none → zs'.Perm zs → zs'.Pairwise (fun x y => HT.lexLt x.2 y.2 = true) → Q (.ref p) (upd H p (.lst (zs'.map fun z => V.ref z.1)))
theorem vals_refs : ∀ {zs : List (Addr × List Int)} {its : List Value}, Vals (zs.map fun z => V.ref z.1) its → its = zs.map fun z => Value.ref z.1
  | [], its, h => by cases h; rfl
  | z :: zs, its, h => by
    cases h with
    | cons r t => rw [vals_refs t]; cases r; rfl
theorem refs_vals : ∀ (zs : List (Addr × List Int)), Vals (zs.map fun z => V.ref z.1) (zs.map fun z => Value.ref z.1)
  | [] => .nil
  | z :: zs => .cons rfl (refs_vals zs)
theorem k_sortL (K : PySem.W.Frag) (hu : X.A.units + 64 < cLine) (e : X.K = K := by rfl) : CallR X (.builtin "sorted") (rSortL K) := by
  subst e
  intro pins s σ H xs us Q I r h
  obtain ⟨a, zs, rfl, ha, h4, hz, nd, q⟩ := h
  obtain ⟨u, rfl, rx⟩ := vals1 r
  cases rx
  obtain ⟨its, r1, p1, _⟩ := I.list ha
  have e1 := vals_refs r1
  subst e1
  refine HT.sortedL p1.isList (fun z hzm => ?_) nd h4 (by omega) fun zs' pm pw => ?_
  · obtain ⟨its, r2, p2, _⟩ := I.list (hz z hzm)
    exact ⟨its, p2.isList, by simpa using intsAre_of r2⟩
  · obtain ⟨c, hat⟩ := sortedAll_at s.heap (zs.map fun z => Value.ref z.1) (zs'.map fun z => Value.ref z.1).toArray
    have hfree : H (s.heap.objs.size + 1) = none := I.hok.fresh (Nat.le_succ _)
    refine ⟨.ref (s.heap.objs.size + 1), _, I.laid (t' := s.toks) (o := .lst (zs'.map fun z => V.ref z.1)) (fun b o e => sortedAll_old e) (Nat.le_succ _) ?_, rfl, q _ zs' hfree pm pw⟩
    exact ⟨by rw [List.length_map, pm.length_eq]; exact Nat.le_trans h4 (by decide), _, c, refs_vals zs', hat⟩
end
end L2
set_option Elab.async false
set_option linter.all false
set_option maxRecDepth 100000
namespace L2
open PySem PySem.Spec PyProof.Rows
section
variable {κ : Type} [DecidableEq κ]
def valV (kvs : List (κ × V)) (k : κ) : Option V := (kvs.find? fun kv => decide (kv.1 = k)).map (·.2)
def putK (kvs : List (κ × V)) (k : κ) (v : V) : List (κ × V) :=
  if (kvs.any fun kv => decide (kv.1 = k)) = true then kvs.map (fun kv => if kv.1 = k then (kv.1, v) else kv) else kvs ++ [(k, v)]
def dropK (kvs : List (κ × V)) (k : κ) : List (κ × V) := kvs.filter fun kv => decide (kv.1 ≠ k)
theorem valV_pos {p : κ × V} {r : List (κ × V)} {k : κ} (e : p.1 = k) : valV (p :: r) k = some p.2 := by simp [valV, List.find?_cons, e]
theorem valV_neg {p : κ × V} {r : List (κ × V)} {k : κ} (e : ¬ p.1 = k) : valV (p :: r) k = valV r k := by simp [valV, List.find?_cons, e]
theorem valV_any (k : κ) : ∀ kvs : List (κ × V), (kvs.any fun kv => decide (kv.1 = k)) = (valV kvs k).isSome
  | [] => rfl
  | p :: r => by
    rw [List.any_cons]
    by_cases e : p.1 = k
    · simp only [valV_pos e, decide_eq_true e, Bool.true_or, Option.isSome_some]
    · rw [valV_neg e, decide_eq_false e, Bool.false_or]; exact valV_any k r
theorem length_putK (kvs : List (κ × V)) (k : κ) (v : V) : (putK kvs k v).length ≤ kvs.length + 1 := by
  unfold putK
  split
  · rw [List.length_map]; omega
  · rw [List.length_append, List.length_cons, List.length_nil]; omega
theorem RelO.isSome_eq {o : Option V} {u : Option Value} (r : RelO o u) : o.isSome = u.isSome := by
  cases o with
  | none => cases u with
    | none => rfl
    | some _ => exact (show False from r).elim
  | some _ => cases u with
    | none => exact (show False from r).elim
    | some _ => rfl
theorem RelO.getD {o : Option V} {u : Option Value} {d : V} {d' : Value} (r : RelO o u) (rd : RelV d d') : RelV (o.getD d) (u.getD d') := by
  cases o with
  | none => cases u with
    | none => exact rd
    | some _ => exact (show False from r).elim
  | some _ => cases u with
    | none => exact (show False from r).elim
    | some _ => exact r
theorem KV.val {kvs : List (κ × V)} {vs : List (κ × Value)} (r : KV kvs vs) (k : κ) : RelO (valV kvs k) (valueAt vs k) := by
  unfold KV at r
  induction r with
  | nil => exact True.intro
  | @cons p q ps qs h t ih =>
    obtain ⟨h1, h2⟩ := h
    by_cases e : p.1 = k
    · have e' : q.1 = k := h1.symm.trans e
      have b : valueAt (q :: qs) k = some q.2 := by simp [valueAt, List.find?_cons, e']
      rw [valV_pos e, b]; exact h2
    · have e' : ¬ q.1 = k := fun z => e (h1.trans z)
      have b : valueAt (q :: qs) k = valueAt qs k := by simp [valueAt, List.find?_cons, e']
      rw [valV_neg e, b]; exact ih
theorem KV.any {kvs : List (κ × V)} {vs : List (κ × Value)} (r : KV kvs vs) (k : κ) : (kvs.any fun kv => decide (kv.1 = k)) = vs.any fun kv => decide (kv.1 = k) := by
  unfold KV at r
  induction r with
  | nil => rfl
  | cons h t ih => rw [List.any_cons, List.any_cons, ih, h.1]
theorem KV.repl {kvs : List (κ × V)} {vs : List (κ × Value)} (r : KV kvs vs) (k : κ) {y : V} {u : Value} (ry : RelV y u) :
    KV (kvs.map fun kv => if kv.1 = k then (kv.1, y) else kv) (vs.map fun kv => if kv.1 = k then (kv.1, u) else kv) := by
  unfold KV at r ⊢
  induction r with
  | nil => exact .nil
  | @cons p q ps qs h t ih =>
    rw [List.map_cons, List.map_cons]
    refine .cons ?_ ih
    obtain ⟨h1, h2⟩ := h
    by_cases e : p.1 = k
    · rw [if_pos e, if_pos (h1.symm.trans e)]; exact ⟨h1, ry⟩
    · rw [if_neg e, if_neg (fun z => e (h1.trans z))]; exact ⟨h1, h2⟩
theorem KV.put {kvs : List (κ × V)} {vs : List (κ × Value)} (r : KV kvs vs) (k : κ) {y : V} {u : Value} (ry : RelV y u) : KV (putK kvs k y) (stored vs k u) := by
  unfold putK stored
  rw [r.any k]
  by_cases e : (vs.any fun kv => decide (kv.1 = k)) = true
  · rw [if_pos e, if_pos e]; exact r.repl k ry
  · rw [if_neg e, if_neg e]; exact Paired.snoc r ⟨rfl, ry⟩
theorem KV.drop {kvs : List (κ × V)} {vs : List (κ × Value)} (r : KV kvs vs) (k : κ) : KV (dropK kvs k) (without vs k) := by
  unfold KV at r ⊢
  unfold dropK without
  induction r with
  | nil => exact .nil
  | @cons p q ps qs h t ih =>
    obtain ⟨h1, h2⟩ := h
    rw [List.filter_cons, List.filter_cons]
    by_cases e : p.1 = k
    · have a : ¬ decide (p.1 ≠ k) = true := by simp [e]
      have b : ¬ decide (q.1 ≠ k) = true := by simp [h1.symm.trans e]
      rw [if_neg a, if_neg b]; exact ih
    · have e' : ¬ q.1 = k := fun z => e (h1.trans z)
      have a : decide (p.1 ≠ k) = true := by simp [e]
      have b : decide (q.1 ≠ k) = true := by simp [e']
      rw [if_pos a, if_pos b]; exact .cons ⟨h1, h2⟩ ih
theorem KV.length {kvs : List (κ × V)} {vs : List (κ × Value)} (r : KV kvs vs) : kvs.length = vs.length := Paired.length r
end
theorem kV_is {P : Program} {w : World} {k : Key} {u : Value} (r : RelV (kV k) u) : (mixKind P w).is k u = true := by
  cases k with
  | inl i => obtain ⟨t, e⟩ := (show ∃ t, u = Value.int i t from r); subst e; exact mixKind_int P w i t
  | inr x => obtain ⟨t, e⟩ := (show ∃ t, u = Value.str x t from r); subst e; exact mixKind_str P w x t
theorem items_are {P : Program} {w : World} : ∀ {ks : List Key} {us : List Value}, Vals (ks.map kV) us → ItemsAre (mixKind P w) ks us
  | [], _, r => by rw [List.map_nil] at r; cases r; exact .nil
  | k :: ks, _, r => by
    rw [List.map_cons] at r
    cases r with
    | cons h t => exact .cons (kV_is h) (items_are t)
abbrev KT (H : Hp) : List (List Key × V) → List (List Key × Addr × Value) → Prop := Paired fun p q => p.1 = q.1 ∧ H q.2.1 = some (.tup (p.1.map kV)) ∧ RelV p.2 q.2.2
theorem KT.val {H : Hp} {kvs : List (List Key × V)} {xs : List (List Key × Addr × Value)} (r : KT H kvs xs) (k : List Key) : RelO (valV kvs k) ((atKey xs k).map (·.2)) := by
  induction r with
  | nil => exact True.intro
  | @cons p q ps qs h t ih =>
    obtain ⟨h1, _, h2⟩ := h
    by_cases e : p.1 = k
    · have e' : q.1 = k := h1.symm.trans e
      have b : atKey (q :: qs) k = some q.2 := by simp [atKey, List.find?_cons, e']
      rw [valV_pos e, b]; exact h2
    · have e' : ¬ q.1 = k := fun z => e (h1.trans z)
      have b : atKey (q :: qs) k = atKey qs k := by simp [atKey, List.find?_cons, e']
      rw [valV_neg e, b]; exact ih
theorem KT.repl {H : Hp} {kvs : List (List Key × V)} {xs : List (List Key × Addr × Value)} (r : KT H kvs xs) (k : List Key) {y : V} {u : Value} (ry : RelV y u) :
    KT H (kvs.map fun kv => if kv.1 = k then (kv.1, y) else kv) (xs.map (putAt k u)) := by
  induction r with
  | nil => exact .nil
  | @cons p q ps qs h t ih =>
    rw [List.map_cons, List.map_cons]
    refine .cons ?_ ih
    obtain ⟨h1, h2, h3⟩ := h
    unfold putAt
    by_cases e : p.1 = k
    · rw [if_pos e, if_pos (h1.symm.trans e)]; exact ⟨h1, h2, ry⟩
    · rw [if_neg e, if_neg (fun z => e (h1.trans z))]; exact ⟨h1, h2, h3⟩
theorem KT.put {H : Hp} {kvs : List (List Key × V)} {xs : List (List Key × Addr × Value)} (r : KT H kvs xs) (k : List Key) {b : Addr} {y : V} {u : Value} (hb : H b = some (.tup (k.map kV))) (ry : RelV y u) :
    KT H (putK kvs k y) (storedH xs k b u) := by
  have e : (kvs.any fun kv => decide (kv.1 = k)) = (atKey xs k).isSome := by
    rw [valV_any, (r.val k).isSome_eq, Option.isSome_map]
  unfold putK storedH
  rw [e]
  by_cases q : (atKey xs k).isSome = true
  · rw [if_pos q, if_pos q]; exact r.repl k ry
  · rw [if_neg q, if_neg q]; exact Paired.snoc r ⟨rfl, hb, ry⟩
theorem KT.keeps {H H' : Hp} {kvs : List (List Key × V)} {xs : List (List Key × Addr × Value)} (r : KT H kvs xs) (ht : ∀ b ys, H b = some (.tup ys) → H' b = some (.tup ys)) : KT H' kvs xs :=
  Paired.mapP r fun _ _ z => ⟨z.1, ht _ _ z.2.1, z.2.2⟩
section
variable {P : Program} {w : World} {H : Hp} {h : Heap} {a : Addr}
theorem rd_of {u : HO} (ok : HOk P w H h) (e : Rd H a u) : ObjOk P w H h a u := e.ok ok
theorem dk_rd {kvs : List (Key × V)} (ok : HOk P w H h) (e : Rd H a (.dK kvs)) : kvs.length ≤ sizeLine ∧ (a == sysModules) = false ∧ ∃ vs, KV kvs vs ∧ h.DictOf (mixKind P w) a vs :=
  show ObjOk P w H h a (.dK kvs) from rd_of ok e
theorem dk_of {kvs : List (Key × V)} (ok : HOk P w H h) (e : H a = some (.dK kvs)) : kvs.length ≤ sizeLine ∧ (a == sysModules) = false ∧ ∃ vs, KV kvs vs ∧ h.DictOf (mixKind P w) a vs := dk_rd ok (.inl e)
theorem key_of {ks : List Key} (ok : HOk P w H h) (e : H a = some (.tup (ks.map kV))) : (tupleKind (mixKind P w)).is h ks a := by
  obtain ⟨_, its, r, o, h1, h2, n, h3⟩ := (show ObjOk P w H h a (.tup (ks.map kV)) from ok a _ e)
  exact ⟨o, its.toArray, n, h1, h2, h3, by simpa using items_are r⟩
theorem dt_rd {kvs : List (List Key × V)} (ok : HOk P w H h) (e : Rd H a (.dT kvs)) : kvs.length ≤ sizeLine ∧ (a == sysModules) = false ∧
    ∃ xs, KT H kvs xs ∧ h.DictOfH (tupleKind (mixKind P w)) a xs := by
  obtain ⟨z, y, xs, r, o, es, ep, h1, h2, h3, h4, h5⟩ := (show ObjOk P w H h a (.dT kvs) from rd_of ok e)
  refine ⟨z, y, xs, r, o, es, ep, h1, h2, h3, h4, fun x hx => ?_, h5⟩
  have all : ∀ {l : List (List Key × V)} {m : List (List Key × Addr × Value)}, KT H l m → ∀ x ∈ m, (tupleKind (mixKind P w)).is h x.1 x.2.1 := by
    intro l m q
    induction q with
    | nil => intro x hx; exact nomatch hx
    | @cons p q ps qs hq t ih =>
      intro x hx
      rcases List.mem_cons.mp hx with e | hx
      · subst e
        exact key_of ok (by rw [← hq.1]; exact hq.2.1)
      · exact ih x hx
  exact all r x hx
theorem dt_of {kvs : List (List Key × V)} (ok : HOk P w H h) (e : H a = some (.dT kvs)) : kvs.length ≤ sizeLine ∧ (a == sysModules) = false ∧
    ∃ xs, KT H kvs xs ∧ h.DictOfH (tupleKind (mixKind P w)) a xs := dt_rd ok (.inl e)
end
def DGet (H : Hp) (a : Addr) (y : V) (r : Option V) : Prop :=
  (∃ kvs k, Rd H a (.dK kvs) ∧ y = kV k ∧ r = valV kvs k) ∨ ∃ kvs k b, Rd H a (.dT kvs) ∧ y = .ref b ∧ H b = some (.tup (k.map kV)) ∧ r = valV kvs k
def DPut (H : Hp) (a : Addr) (y v : V) (H' : Hp) : Prop :=
  (∃ kvs k, H a = some (.dK kvs) ∧ y = kV k ∧ kvs.length < sizeLine ∧ H' = upd H a (.dK (putK kvs k v))) ∨
  ∃ kvs k b, H a = some (.dT kvs) ∧ y = .ref b ∧ H b = some (.tup (k.map kV)) ∧ kvs.length < sizeLine ∧ H' = upd H a (.dT (putK kvs k v))
theorem DGet.k {H : Hp} {a : Addr} {kvs : List (Key × V)} {k : Key} (e : H a = some (.dK kvs)) : DGet H a (kV k) (valV kvs k) := .inl ⟨kvs, k, .inl e, rfl, rfl⟩
theorem DGet.t {H : Hp} {a b : Addr} {kvs : List (List Key × V)} {k : List Key} (e : H a = some (.dT kvs)) (eb : H b = some (.tup (k.map kV))) : DGet H a (.ref b) (valV kvs k) := .inr ⟨kvs, k, b, .inl e, rfl, eb, rfl⟩
theorem DPut.k {H : Hp} {a : Addr} {kvs : List (Key × V)} {k : Key} {v : V} (e : H a = some (.dK kvs)) (hl : kvs.length < sizeLine) : DPut H a (kV k) v (upd H a (.dK (putK kvs k v))) := .inl ⟨kvs, k, e, rfl, hl, rfl⟩
theorem DPut.t {H : Hp} {a b : Addr} {kvs : List (List Key × V)} {k : List Key} {v : V} (e : H a = some (.dT kvs)) (eb : H b = some (.tup (k.map kV))) (hl : kvs.length < sizeLine) :
    DPut H a (.ref b) v (upd H a (.dT (putK kvs k v))) := .inr ⟨kvs, k, b, e, rfl, eb, hl, rfl⟩
section
variable {X : Cx} {pins : List (Addr × Obj)} {σ : St} {H : Hp} {s : Shared} {a : Addr} {y v : V} {u r : Value} {o : Option V} {A : Around} {E : Value → Shared → Prop}
theorem Inv.big (I : Inv X pins σ H s) : sysModules < s.heap.objs.size := by
  have h : mainGlobals < s.heap.objs.size := (I.mod.glob.keeps I.bk).lt
  exact Nat.lt_trans (by decide) h
theorem d_write {h' : Heap} {t' : Nat} {ob : HO} (I : Inv X pins σ H s) (mu : Mut (H a)) (hs : Heap.SameBut a s.heap h') (he : ∃ q, h'.get? a = some q) (new : ObjOk X.prog X.w (upd H a ob) h' a ob) :
    Inv X pins σ (upd H a ob) { s with heap := h', toks := t' } :=
  I.write (x := a) (e := a) mu (.inl rfl) (fun b q hb z => (hs.2 b hb).trans z) he new
theorem dk_new {P : Program} {w : World} {H' : Hp} {h' : Heap} {kvs : List (Key × V)} {vs : List (Key × Value)} (z : kvs.length ≤ sizeLine) (hd : (a == sysModules) = false) (rel : KV kvs vs) (dd : h'.DictOf (mixKind P w) a vs) :
    ObjOk P w H' h' a (.dK kvs) := ⟨z, hd, vs, rel, dd⟩
theorem d_setItem {H' : Hp} {Q : Unit → Shared → Prop} (hu : A.units + 1 < cLine) (I : Inv X pins σ H s) (g : DPut H a y v H') (ry : RelV y u) (rv : RelV v r) (h : ∀ s', Inv X pins σ H' s' → Q () s') :
    wpAny (model X.prog X.w) A (setItem (.ref a) u r) Q E s := by
  rcases g with ⟨kvs, k, e, ey, l, eH⟩ | ⟨kvs, k, b, e, ey, eb, l, eH⟩
  · subst ey eH
    obtain ⟨z, hd, vs, rel, dd⟩ := dk_of I.hok e
    have hz : vs.length ≤ sizeLine := by rw [← rel.length]; exact z
    have hl : (putK kvs k v).length ≤ sizeLine := by have := length_putK kvs k v; omega
    refine wpAny_setItem_pairs (hsz := hz) (kV_is ry) dd fun h' dd' hs => h _ ?_
    have he : ∃ q, h'.get? a = some q := let ⟨q, _, _, hq, _⟩ := dd'; ⟨q, hq⟩
    exact d_write I (by rw [e]; exact True.intro) hs he (dk_new hl hd (rel.put k rv) dd')
  · subst ey eH
    cases (show u = Value.ref b from ry)
    obtain ⟨z, hd, xs, rel, dd⟩ := dt_of I.hok e
    have hz : xs.length ≤ sizeLine := by rw [← Paired.length rel]; exact z
    have hl : (putK kvs k v).length ≤ sizeLine := by have := length_putK kvs k v; omega
    refine wpAny_setItem_heap (hsz := hz) (tupleKind_room_in1 hu) (key_of I.hok eb) dd fun h' dd' hs => h _ ?_
    obtain ⟨q, es, ep, hq, h2, h3, h4, _, h5⟩ := dd'
    refine d_write I (by rw [e]; exact True.intro) hs ⟨q, hq⟩ ⟨hl, hd, _, (rel.put k eb rv).keeps fun c ys ec => ?_, q, es, ep, hq, h2, h3, h4, h5⟩
    rw [upd_ne (ne_of ec e (fun z => nomatch z))]
    exact ec
end
section
variable {X : Cx} {pins : List (Addr × Obj)} {σ : St} {H : Hp} {s : Shared} {a : Addr} {kvs : List (Key × V)} {k : Key} {u : Value} {A : Around} {E : Value → Shared → Prop}
end
def sDPut (td ty tv : TE) : TS := fun D σ H => tv σ H fun v H1 => td σ H1 fun x H2 => ty σ H2 fun y H3 => ∃ a H4, x = .ref a ∧ DPut H3 a y v H4 ∧ D.nx σ H4
section
variable {X : Cx} {o i e value : Expr} {pos pos' tpos : Pos} {td ty tv : TE}
theorem ps_dput (hu : X.A.units + 1 < cLine) (ho : PE X o td) (hi : PE X i ty) (hv : PE X value tv) (hs : swapsWith value (some (.Subscript o i pos')) pos.line X.env = pure false) :
    PS X (.Assign [.Subscript o i pos'] value pos) (sDPut td ty tv) := by
  intro pins s σ H D I h
  refine wpAny_Assign_Subscript (thn (hv pins s σ H _ I h) fun r s1 ⟨v, H1, I1, rv, q1⟩ => thn (ho pins s1 σ H1 _ I1 q1) fun u s2 ⟨x, H2, I2, rx, q2⟩ => thn (hi pins s2 σ H2 _ I2 q2) fun iv s3 ⟨y, H3, I3, ry, a, H4, ex, g, q3⟩ => ?_) hs
  subst ex
  obtain rfl : u = Value.ref a := rx
  exact d_setItem hu I3 g ry rv fun s4 I4 => ⟨σ, H4, I4, q3⟩
end
theorem dt_empty {P : Program} {w : World} {H : Hp} (h : Heap) (hb : sysModules < h.objs.size) : ObjOk P w H (h.push { cls := .type "dict", data := .dict #[] }) h.objs.size (.dT []) :=
  ⟨Nat.zero_le _, beq_eq_false_iff_ne.mpr (Ne.symm (Nat.ne_of_lt hb)), [], .nil, _, #[], 0, Heap.get?_push_size _ rfl, ⟨rfl, rfl, rfl⟩, rfl, rfl, List.nodup_nil⟩
def tDNewT : TE := fun _ H Q => ∀ p, H p = none → Q (.ref p) (upd H p (.dT []))
section
variable {X : Cx} {pos : Pos}
theorem pe_dnewT : PE X (.Dict [] [] pos) tDNewT := fun pins s σ H Q I h =>
  wpAny_Dict_empty ⟨.ref s.heap.objs.size, _, I.laid (a := s.heap.objs.size) (o := .dT []) (t' := s.toks) (fun _ _ q => Heap.get?_push_of_some _ q) (Nat.le_refl _) (dt_empty s.heap I.big), rfl, h _ (I.hok.fresh (Nat.le_refl _))⟩
end
structure M1 (X : Cx) (o : Expr) (m : Str) (apos : Pos) (e : Expr) (cpos : Pos) : Prop where
  base : attributeBase o m X.env (eval o X.env) = eval o X.env
  few : ((backTo cpos (starEach [e] X.env)).all (fun x => !x.1) && (backToKw cpos (keywordEach [] X.env)).all (fun x => x.1.isSome)
    && decide (([e] : List Expr).length + ([] : List Keyword).length + (if ([] : List Keyword).isEmpty then 0 else 1) < 30)) = true
  line : (apos.endLine == cpos.line) = true
  trees : backTo cpos (starEach [e] X.env) = [(false, eval e X.env)]
structure M2 (X : Cx) (o : Expr) (m : Str) (apos : Pos) (e f : Expr) (cpos : Pos) : Prop where
  base : attributeBase o m X.env (eval o X.env) = eval o X.env
  few : ((backTo cpos (starEach [e, f] X.env)).all (fun x => !x.1) && (backToKw cpos (keywordEach [] X.env)).all (fun x => x.1.isSome)
    && decide (([e, f] : List Expr).length + ([] : List Keyword).length + (if ([] : List Keyword).isEmpty then 0 else 1) < 30)) = true
  line : (apos.endLine == cpos.line) = true
  trees : backTo cpos (starEach [e, f] X.env) = [(false, eval e X.env), (false, eval f X.env)]
section
variable {X : Cx} {pins : List (Addr × Obj)} {σ : St} {H : Hp} {s : Shared} {a : Addr} {y d : V} {u r : Value} {o : Option V} {A : Around} {E : Value → Shared → Prop}
end
section
variable {X : Cx} {o e f : Expr} {apos cpos : Pos} {td ty tx : TE}
end
section
variable {X : Cx} {pins : List (Addr × Obj)} {σ : St} {H : Hp} {s : Shared} {a : Addr} {kvs : List (Key × V)} {A : Around} {E : Value → Shared → Prop}
end
section
variable {X : Cx} {pins : List (Addr × Obj)} {σ : St} {H : Hp} {s : Shared} {a : Addr} {y : V} {u : Value} {A : Around} {E : Value → Shared → Prop}
end
end L2
namespace L2
open PySem PySem.Spec PyProof.Rows
section
variable {X : Cx}
end
section
variable {κ : Type} [DecidableEq κ]
end
end L2
set_option Elab.async false
set_option linter.all false
set_option maxRecDepth 100000
namespace HT
open PySem PyProof.Rows PySem.W
section
variable {prog : Program} {w : World} {A : Around} {E : Value → Shared → Prop} {s : Shared}
theorem sortX_tree {a : Addr} {vs : List Value} {n0 : Nat} {κ : SortKind} {c : Nat → Nat → Bool} {P : PySem.Fin → Shared → Prop} (ho : s.heap.get? a = some (seqObj "list" vs.toArray n0)) (h60 : vs.length ≤ 60) (O : Ord c vs.length)
    (hkind : ∀ G : Heap, (∀ b o, b ≠ a → s.heap.get? b = some o → G.get? b = some o) → 2 ≤ vs.length → ∀ Q : SortKind → Shared → Prop, Q κ { s with heap := G } → wpAny (model prog w) A (keyKind' vs.toArray) Q E { s with heap := G })
    (hcmp : ∀ G : Heap, (∀ b o, b ≠ a → s.heap.get? b = some o → G.get? b = some o) → ∀ i j (C : Bool → Shared → Prop), i < vs.length → j < vs.length → C (c i j) { s with heap := G } → kas_ask prog w A κ vs i j C { s with heap := G })
    (h : ∀ p : List Nat, p.Perm (List.range vs.length) → p.Pairwise (fun i j => c i j = true) → P (.done (.ret .none)) { s with heap := sortedHeap s.heap a vs (p.map fun i => vs.getD i Value.none).toArray }) :
    wpAny (model prog w) A (Builtin.«list.sort» ⟨[.ref a], []⟩) P E s := by
  rw [list_sort_plain]
  have hsl : vs.length ≤ sizeLine := Nat.le_trans h60 (by decide)
  have ha : a < s.heap.objs.size := Heap.lt_size ho
  obtain ⟨e1, ho1⟩ : ∃ e1, (s.heap.update a (Obj.mapSeq fun _ => #[])).get? a = some (seqObj "list" #[] e1) := ⟨_, get?_update_seq ho (fun _ => #[])⟩
  refine wpAny_bind (listItems_at ho rfl (wpAny_bind (listUpdate_at ho rfl (wpAny_bind (seqEpoch_at ho1 rfl (wpAny_bind (wpAny_newTuple (wpAny_bind (wpAny_newList (wpAny_holding ?_) (Nat.zero_le _))) (by show vs.length ≤ _; exact hsl))))) (by rw [List.size_toArray]; exact hsl) (Nat.zero_le _))))
  generalize hG : (((s.heap.update a (Obj.mapSeq fun _ => (#[] : Array Value))).push (seqObj "tuple" vs.toArray 0)).push (seqObj "list" #[] 0)) = G
  have ho6 : G.get? a = some (seqObj "list" #[] e1) := by
    rw [← hG, Heap.get?_push_ne _ _ _ (by rw [size_push', Heap.size_update]; exact Nat.ne_of_lt (Nat.lt_succ_of_lt ha)), Heap.get?_push_ne _ _ _ (by rw [Heap.size_update]; exact Nat.ne_of_lt ha)]; exact ho1
  have keep : ∀ b o, b ≠ a → s.heap.get? b = some o → G.get? b = some o := fun b o hb e => by
    have hlt := Heap.lt_size e
    rw [← hG, Heap.get?_push_ne _ _ _ (by rw [size_push', Heap.size_update]; exact Nat.ne_of_lt (Nat.lt_succ_of_lt hlt)), Heap.get?_push_ne _ _ _ (by rw [Heap.size_update]; exact Nat.ne_of_lt hlt), Heap.get?_update_other _ _ (Ne.symm hb)]; exact e
  show wpAny (model prog w) A _ P E { s with heap := G }
  dsimp only
  have e2 : ∀ out : Array Value, G.update a (Obj.mapSeq fun _ => out) = sortedHeap s.heap a vs out := fun out => by rw [← hG]; rfl
  by_cases h2 : vs.toArray.size < 2
  · rw [if_pos h2, if_pos h2]
    refine wpAny_bind (wpAny_pure ?_)
    rw [StateT.run_pure]
    refine wpAny_bind (wpAny_pure ?_)
    dsimp only
    rw [List.size_toArray] at h2
    have hout : (arrOf (SortSt.mk' general' (vs.toArray.zip vs.toArray) #[] 7 none)).map (·.2) = ((List.range vs.length).map fun i => vs.getD i Value.none).toArray := by
      show ((vs.toArray.zip vs.toArray).map (·.2)) = _
      apply Array.toList_inj.mp
      rw [Array.toList_map, Array.toList_zip, List.map_snd_zip (by simp)]
      apply List.ext_getElem?
      intro i
      rw [List.getElem?_map]
      by_cases hi : i < vs.length
      · rw [List.getElem?_range hi, Option.map_some, List.getD_eq_getElem?_getD, List.getElem?_eq_getElem hi]; rfl
      · rw [List.getElem?_eq_none (by simpa using hi), List.getElem?_eq_none (by simpa using hi)]; rfl
    rw [hout]
    refine wpAny_bind (seqEpoch_at ho6 rfl (wpAny_bind (listUpdate_at ho6 rfl ?_ (Nat.zero_le _) (by rw [List.size_toArray, List.length_map, List.length_range]; exact Nat.le_succ_of_le hsl))))
    simp only [bne_self_eq_false, Bool.false_eq_true, if_false]
    rw [e2]
    refine wpAny_pure (h _ (List.Perm.refl _) ?_)
    rw [List.pairwise_iff_getElem]
    intro i j hi hj hij
    rw [List.length_range] at hj
    omega
  · rw [if_neg h2, if_neg h2]
    rw [List.size_toArray] at h2
    refine wpAny_bind (hkind G keep (by omega) _ ?_)
    have ask : (kas_sort vs.length).kasWp (kas_ask prog w A κ vs) (fun p s' => s' = { s with heap := G } ∧ (Pm vs.length p ∧ Up c p vs.length)) { s with heap := G } :=
      KW.wp (n := vs.length) (fun i j C hi hj hC => hcmp G keep i j C hi hj hC) _ (sortG O (by omega))
    refine wpAny_bind (wpAny_mono (kat_run (E := E) (ks := vs) (vs := vs) (Q := fun st' s' => ∃ p : Array Nat, s' = { s with heap := G } ∧ arrOf st' = p.map (kas_item (vs.toArray.zip vs.toArray)) ∧ failedOf st' = none ∧ Pm vs.length p ∧ Up c p vs.length)
      rfl (by omega) (by omega) (fun p st' s' _ a2 a3 a4 => ⟨p, a4.1, a2, a3, a4.2⟩) ask) ?_ fun _ _ e => e)
    rintro ⟨⟨⟩, st'⟩ s' ⟨p, rfl, har, hfl, hpm, hup⟩
    dsimp only
    have hpl : p.toList.length = vs.length := by rw [hpm.pm.length_eq, List.length_range]
    have hol : (p.toList.map fun i => vs.getD i Value.none).length = vs.length := by rw [List.length_map, hpl]
    rw [kat_snds rfl har]
    refine wpAny_bind (seqEpoch_at ho6 rfl (wpAny_bind (listUpdate_at ho6 rfl ?_ (Nat.zero_le _) (by rw [List.size_toArray, hol]; exact Nat.le_succ_of_le hsl))))
    rw [hfl]
    simp only [bne_self_eq_false, Bool.false_eq_true, if_false]
    rw [e2]
    refine wpAny_pure (h _ hpm.pm ?_)
    rw [List.pairwise_iff_getElem]
    intro i j hi hj hij
    have q1 := hup i j hij (by omega)
    have g1 : p.getD i 0 = p.toList[i] := by
      have : i < p.size := by rw [hpm.sz]; omega
      simp [Array.getD, this]
    have g2 : p.getD j 0 = p.toList[j] := by
      have : j < p.size := by rw [hpm.sz]; omega
      simp [Array.getD, this]
    rw [g1, g2] at q1
    exact q1
theorem sortedX {r : Addr} {n : Nat} {κ : SortKind} {Pv : List Value → Prop} {Q : Value → Shared → Prop} (h60 : n ≤ 60)
    (hcol : ∀ R : List Value → Shared → Prop, (∀ h' tk vs, (∀ b o, s.heap.get? b = some o → h'.get? b = some o) → vs.length = n → Pv vs → R vs { s with heap := h', toks := tk }) → wpAny (model prog w) A.in1 (collect (.ref r)) R E s)
    (hord : ∀ vs, vs.length = n → Pv vs → ∃ c : Nat → Nat → Bool, Ord c n ∧
      (∀ (G : Heap) (tk : Nat), (∀ b o, s.heap.get? b = some o → G.get? b = some o) → 2 ≤ n → ∀ Q : SortKind → Shared → Prop, Q κ { s with heap := G, toks := tk } → wpAny (model prog w) A.in1.in1 (keyKind' vs.toArray) Q E { s with heap := G, toks := tk }) ∧
      (∀ (G : Heap) (tk : Nat), (∀ b o, s.heap.get? b = some o → G.get? b = some o) → ∀ i j (C : Bool → Shared → Prop), i < n → j < n → C (c i j) { s with heap := G, toks := tk } → kas_ask prog w A.in1.in1 κ vs i j C { s with heap := G, toks := tk }) ∧
      ∀ (p : List Nat) (h' h'' : Heap) (tk e : Nat), p.Perm (List.range n) → p.Pairwise (fun i j => c i j = true) → (∀ b o, s.heap.get? b = some o → h'.get? b = some o) → (∀ b o, h'.get? b = some o → h''.get? b = some o) → h''.get? h'.objs.size = some (seqObj "list" (p.map fun i => vs.getD i Value.none).toArray e) → Q (.ref h'.objs.size) { s with heap := h'', toks := tk }) :
    wpAny (model prog w) A (call (.builtin "sorted") [.ref r]) Q E s := by
  refine Calls.call_function_entry kind_sorted plain_sorted entry_sorted (args_sorted1 _) ?_
  unfold Builtin.«sorted»
  refine wpAny_bind (m := checkCount "sorted" 1 1 _) (wpAny_pure (wpAny_bind (hcol _ fun h' tk vs hk hl pv => ?_)))
  obtain ⟨c, O, hkind, hcmp, fin⟩ := hord vs hl pv
  subst hl
  have hsl : vs.length ≤ sizeLine := Nat.le_trans h60 (by decide)
  refine wpAny_bind (wpAny_newList ?_ hsl)
  have hoL : (h'.push (seqObj "list" vs.toArray 0)).get? h'.objs.size = some (seqObj "list" vs.toArray 0) := Heap.get?_push_size _ rfl
  have ne : ∀ b o, s.heap.get? b = some o → b ≠ h'.objs.size := fun b o q => Nat.ne_of_lt (Heap.lt_size (hk b o q))
  show wpAny _ _ _ _ _ { s with heap := h'.push (seqObj "list" vs.toArray 0), toks := tk }
  dsimp only
  refine wpAny_bind (wpAny_holding (wpAny_call_entry slot_list_sort ⟨_, hoL, rfl⟩ entry_list_sort (sortX_tree (A := A.in1.in1) (s := { s with heap := h'.push (seqObj "list" vs.toArray 0), toks := tk }) (κ := κ) (c := c) hoL h60 O (fun G kG h2 Q' hq => hkind G tk (fun b o q => kG b o (ne b o q) (Heap.get?_push_of_some _ (hk b o q))) h2 Q' hq)
    (fun G kG i j C hi hj hC => hcmp G tk (fun b o q => kG b o (ne b o q) (Heap.get?_push_of_some _ (hk b o q))) i j C hi hj hC) fun p hp hw => ⟨_, rfl, ?_⟩) (args_list_sort _)))
  refine wpAny_pure ⟨_, rfl, ?_⟩
  obtain ⟨e, he⟩ := sortedHeap_at (out := (p.map fun i => vs.getD i Value.none).toArray) hoL
  refine fin p h' _ tk e hp hw hk (fun b o q => ?_) he
  have hlt := Heap.lt_size q
  rw [sortedHeap_old (Nat.ne_of_lt hlt) (by rw [size_push']; exact Nat.lt_succ_of_lt hlt)]
  exact Heap.get?_push_of_some _ q
end
end HT
set_option Elab.async false
set_option linter.all false
set_option maxRecDepth 100000
namespace HT
open PySem PyProof.Rows PySem.W
def RawD (h : Heap) (d : Addr) (ks : List Value) (ep : Nat) : Prop := ∃ (o : Obj) (es : Array DictEntry), h.get? d = some o ∧ o.ExactDict ∧ o.data = .dict es ep ∧ es.toList.map (·.key) = ks
theorem RawD.at {h h' : Heap} {d : Addr} {ks : List Value} {ep : Nat} (x : RawD h d ks ep) (e : ∀ o, h.get? d = some o → h'.get? d = some o) : RawD h' d ks ep := let ⟨o, es, ho, r⟩ := x; ⟨o, es, e _ ho, r⟩
theorem RawD.lt {h : Heap} {d : Addr} {ks : List Value} {ep : Nat} (x : RawD h d ks ep) : d < h.objs.size := let ⟨_, _, ho, _⟩ := x; Heap.lt_size ho
theorem RawD.ty {s : Shared} {d : Addr} {ks : List Value} {ep : Nat} (x : RawD s.heap d ks ep) : s.TypeIs (.ref d) "dict" := let ⟨o, _, ho, hc, _⟩ := x; ⟨o, ho, hc.1⟩
section
variable {prog : Program} {w : World} {A : Around} {E : Value → Shared → Prop} {s : Shared} {d it : Addr} {ks : List Value} {ep i : Nat}
theorem rd_iter {Q : Value → Shared → Prop} (hd : (d == sysModules) = false) (hm : RawD s.heap d ks ep) (hQ : Q (.ref s.heap.objs.size) { s with heap := s.heap.push { cls := .type "dict_keyiterator", data := .fields #[.ref d, .int 0 0, .int ks.length 0, .int ep 0] } }) :
    wpAny (model prog w) A (pyIter (.ref d)) Q E s := by
  obtain ⟨o, es, ho, hc, hdat, hk⟩ := id hm
  refine wpAny_pyIter_slot hm.ty F.slot_dict_iter (wpAny_call_entry F.slot_dict_iter hm.ty F.entry_dict_iter ?_ (F.args_dict_iter_1 _))
  unfold Builtin.«dict.__iter__» Builtin.Dict.dictSlotNone
  refine wpAny_bind (wpAny_bind (wpAny_notOrdered_dict hm.ty ?_))
  show wpAny _ _ (pure (Value.ref d)) _ _ s
  refine wpAny_pure ?_
  show wpAny _ _ (Builtin.Dict.showsAll d >>= _) _ _ s
  unfold Builtin.Dict.showsAll
  rw [hd, if_neg Bool.false_ne_true]
  have hsz : es.size = ks.length := by rw [← hk]; simp
  refine wpAny_bind (wpAny_pure (wpAny_bind (wpAny_dictEntries ho hdat (wpAny_bind (wpAny_dictEpoch ho hdat (wpAny_bind (wpAny_newObj_type (wpAny_pure ⟨_, rfl, "dict_keyiterator", _, ⟨_, Heap.get?_push_size _ rfl, rfl⟩, F.slot_dict_keyiterator_next.lookup, ?_⟩))))))))
  simpa [rawInt, hsz] using hQ
theorem rd_item {v : Value} {Q : Option Value → Shared → Prop} (hit : s.heap.IsKeyIter it d i ks.length ep) (hm : RawD s.heap d ks ep) (hx : ks[i]? = some v)
    (hQ : ∀ h', h'.IsKeyIter it d (i + 1) ks.length ep → Heap.SameBut it s.heap h' → Q (some v) { s with heap := h' }) : wpAny (model prog w) A (pyNext (.ref it)) Q E s := by
  obtain ⟨o, ho, hc, hd⟩ := id hit
  obtain ⟨od, es, hod, hcd, hdd, hk⟩ := id hm
  have hsz : es.size = ks.length := by rw [← hk]; simp
  have hlt : i < es.size := by rw [hsz]; exact (List.getElem?_eq_some_iff.mp hx).1
  have hkey : es[i].key = v := by
    rw [← hk, List.getElem?_map] at hx
    simpa [hlt] using hx
  have hown : Builtin.Dict_items.ownsTuple "dict_keyiterator" = false := by decide
  unfold pyNext
  refine wpAny_bind (wpAny_attempt (wpAny_callSpecial?_slot (name := Str.ofString "__next__") hit.typeIs F.slot_dict_keyiterator_next (wpAny_call_entry F.slot_dict_keyiterator_next hit.typeIs F.entry_dict_keyiterator_next ?_ (F.args_dict_keyiterator_next_1 _))))
  refine wpAny_bind (wpAny_pure (wpAny_bind (wpAny_bind ?_)))
  first | refine wpAny_bind (wpAny_typeNameOfWhole_keyiter hit.typeIs (wpAny_pure (wpAny_bind (wpAny_fieldsOf ho hd ?_)))) | refine wpAny_bind (wpAny_typeNameOf_keyiter hit.typeIs (wpAny_pure (wpAny_bind (wpAny_fieldsOf ho hd ?_))))
  simp only [hown, Bool.false_eq_true, if_false]
  show wpAny _ _ (if (Value.ref d == Value.none) = true then _ else _) _ _ s
  rw [if_neg (show ¬ ((Value.ref d == Value.none) = true) from Bool.false_ne_true)]
  refine wpAny_bind (wpAny_pure (wpAny_bind (wpAny_dictEntries hod hdd ?_)))
  rw [if_neg (by rw [hsz]; simp)]
  refine wpAny_bind (wpAny_pure (wpAny_bind (wpAny_dictEpoch hod hdd ?_)))
  rw [if_neg (by simp)]
  refine wpAny_pure ?_
  simp only [show ¬ ((i : Int) < 0) from by omega, if_false, Int.toNat_natCast, Array.getElem?_eq_getElem hlt]
  refine wpAny_bind ?_
  first | refine wpAny_bind (wpAny_typeNameOfWhole_keyiter hit.typeIs (wpAny_pure (wpAny_bind (wpAny_isOneOf_keyiter hit.typeIs ?_)))) | refine wpAny_bind (wpAny_typeNameOf_keyiter hit.typeIs (wpAny_pure (wpAny_bind (wpAny_isOneOf_keyiter hit.typeIs ?_))))
  show wpAny _ _ (setField (.ref it) 1 (rawInt ((i : Int) + 1)) >>= _) _ _ s
  refine wpAny_bind (wpAny_setField ho hd (by simp) ?_)
  have hit' : (s.heap.update it (Obj.mapFields (·.setIfInBounds 1 (rawInt ((i : Int) + 1))))).IsKeyIter it d (i + 1) ks.length ep :=
    ⟨_, Heap.get?_update_self _ ho (Obj.isFreed_of_fields (Obj.data_mapFields hd _)), (Obj.cls_mapFields ..).trans hc, by rw [Obj.data_mapFields hd]; simp [rawInt]⟩
  refine wpAny_bind (wpAny_holding (wpAny_bind (wpAny_isOneOf_keyiter (s := { s with heap := s.heap.update it (Obj.mapFields (·.setIfInBounds 1 (rawInt ((i : Int) + 1)))) }) hit'.typeIs ?_)))
  show wpAny _ _ (pure es[i].key) _ _ _
  rw [hkey]
  exact wpAny_pure (wpAny_pure ⟨_, rfl, wpAny_pure (hQ _ hit' (Heap.SameBut.update ..))⟩)
theorem rd_end {Q : Option Value → Shared → Prop} (hh : A.handled = none) (hit : s.heap.IsKeyIter it d ks.length ks.length ep) (hm : RawD s.heap d ks ep) (hQ : ∀ h', Heap.ExtBut it s.heap h' → Q none { s with heap := h' }) : wpAny (model prog w) A (pyNext (.ref it)) Q E s := by
  obtain ⟨o, ho, hc, hd⟩ := id hit
  obtain ⟨od, es, hod, hcd, hdd, hk⟩ := id hm
  have hsz : es.size = ks.length := by rw [← hk]; simp
  have hge : es.size ≤ ks.length := Nat.le_of_eq hsz
  have hown : Builtin.Dict_items.ownsTuple "dict_keyiterator" = false := by decide
  unfold pyNext
  refine wpAny_bind (wpAny_attempt (wpAny_callSpecial?_slot (name := Str.ofString "__next__") hit.typeIs F.slot_dict_keyiterator_next (wpAny_call_entry F.slot_dict_keyiterator_next hit.typeIs F.entry_dict_keyiterator_next ?_ (F.args_dict_keyiterator_next_1 _))))
  refine wpAny_bind (wpAny_pure (wpAny_bind (wpAny_bind ?_)))
  first | refine wpAny_bind (wpAny_typeNameOfWhole_keyiter hit.typeIs (wpAny_pure (wpAny_bind (wpAny_fieldsOf ho hd ?_)))) | refine wpAny_bind (wpAny_typeNameOf_keyiter hit.typeIs (wpAny_pure (wpAny_bind (wpAny_fieldsOf ho hd ?_))))
  simp only [hown, Bool.false_eq_true, if_false]
  show wpAny _ _ (if (Value.ref d == Value.none) = true then _ else _) _ _ s
  rw [if_neg (show ¬ ((Value.ref d == Value.none) = true) from Bool.false_ne_true)]
  refine wpAny_bind (wpAny_pure (wpAny_bind (wpAny_dictEntries hod hdd ?_)))
  rw [if_neg (by rw [hsz]; simp)]
  refine wpAny_bind (wpAny_pure (wpAny_bind (wpAny_dictEpoch hod hdd ?_)))
  rw [if_neg (by simp)]
  refine wpAny_pure ?_
  simp only [show ¬ ((ks.length : Int) < 0) from by omega, if_false, Int.toNat_natCast, Array.getElem?_eq_none hge]
  refine wpAny_bind ?_
  first | refine wpAny_bind (wpAny_typeNameOfWhole_keyiter hit.typeIs (wpAny_pure ?_)) | refine wpAny_bind (wpAny_typeNameOf_keyiter hit.typeIs (wpAny_pure ?_))
  show wpAny _ _ (setField (.ref it) 0 .none >>= _) _ _ s
  refine wpAny_bind (wpAny_setField ho hd (by simp) ?_)
  show wpAny _ _ (newExc (.type "StopIteration") [] >>= _) _ _ _
  refine wpAny_bind ?_
  simp only [newExc, newTuple]
  refine wpAny_bind (wpAny_newObj_type (wpAny_bind (m := firstArgMember _ _) (wpAny_of_eq (a := Value.none) (by first | rfl | (simp only [firstArgMember]; rfl)) (wpAny_newObj_type ?_ (by size_fits)))) (by size_fits))
  simp only [raiseNew]
  refine wpAny_bind (wpAny_handled ?_)
  rw [show A.in1.handled = none from hh]
  refine wpAny_bind (wpAny_pure (wpAny_throw ?_))
  refine wpAny_bind (wpAny_isInstance (T := "StopIteration") (b := true) ⟨_, Heap.get?_push_size _ rfl, rfl⟩ isSubtype_stop ?_)
  exact wpAny_pure (hQ _ (((Heap.SameBut.update ..).extBut.push _).push _))
theorem rd_walks (hh : A.handled = none) (I d : Addr) (hne : d ≠ I) (ks : List Value) (ep : Nat) : Walks prog w A I [I, d] [I] ks.length (fun i v => ks[i]? = some v) (fun i h => h.IsKeyIter I d i ks.length ep ∧ RawD h d ks ep) where
  sub := fun b hb => by simp at hb; simp [hb]
  frame := fun _ _ _ st hk => ⟨st.1.at fun o e => hk I (by simp) o e, st.2.at fun o e => hk d (by simp) o e⟩
  item := fun i s Q E hi st hQ => by
    refine rd_item (v := ks[i]) st.1 st.2 (List.getElem?_eq_getElem hi) fun h' hit' hs' => hQ _ h' s.toks (List.getElem?_eq_getElem hi) ⟨hit', st.2.at fun o e => hs'.extBut _ _ hne e⟩ fun b o hb e => hs'.extBut b o (fun h => hb (by simp [h])) e
  done := fun s Q E st hQ => rd_end hh st.1 st.2 fun h' he' => hQ h' s.toks fun b o hb e => he' b o (fun h => hb (by simp [h])) e
  self := fun _ _ _ _ st hQ => wpAny_pyIter_keyiter st.1 hQ
theorem rd_src (lo : (d == sysModules) = false) : KdlSrc prog w "dict" d d ks.length (fun i v => ks[i]? = some v) (fun h => RawD h d ks ep) where
  type := fun _ hm => hm.ty
  there := fun _ hm => ⟨hm.lt, hm.lt⟩
  keep := fun _ _ hm hk => hm.at fun o e => hk d (.inl rfl) o e
  notList := by decide
  notTuple := by decide
  hint := fun _ _ _ _ hm hq => kdl_hint_dict hm.ty hq
  iter := fun _ _ hh hm => ⟨_, _, (fun _ _ hq => rd_iter lo hm hq), rd_walks hh _ d (Nat.ne_of_lt hm.lt) ks ep, ⟨⟨_, Heap.get?_push_size _ rfl, rfl, rfl⟩, hm.at fun o e => Heap.get?_push_of_some _ e⟩⟩
end
end HT
namespace L2
open PySem PySem.Spec PyProof.Rows PySem.W
def kI (ns : List Int) : List Key := ns.map Sum.inl
theorem kI_V (ns : List Int) : (kI ns).map kV = ns.map V.int := by unfold kI; rw [List.map_map]; rfl
theorem kI_inj {a b : List Int} (e : kI a = kI b) : a = b := by
  unfold kI at e
  exact List.map_inj_right (fun x y h => by cases h; rfl) |>.mp e
section
variable {X : Cx} {pins : List (Addr × Obj)} {σ : St} {H : Hp} {s : Shared}
theorem tupI_at (I : Inv X pins σ H s) {p : Addr} {ns : List Int} (h : H p = some (.tup (ns.map V.int))) : ∃ (its : List Value) (o : Obj) (m : Nat), IntsAre its ns ∧ s.heap.get? p = some o ∧ o.cls = .type "tuple" ∧ o.data = .seq its.toArray m := by
  obtain ⟨_, its, r, o, e, hc, m, hd⟩ := I.hok p _ h
  exact ⟨its, o, m, by simpa using intsAre_of r, e, hc, hd⟩
end
theorem lex_ints {prog : Program} {w : World} {A : Around} {Q : Bool → Shared → Prop} {s : Shared} {f : Bool} : ∀ {xs ys : List Value} {as bs : List Int} (i : Nat), IntsAre xs as → IntsAre ys bs → f = decide (as.length < bs.length) → Q (HT.lexLt as bs) s → KatLex prog w A true f Q (xs.zip ys) i s
  | [], _, _, _, i, .nil, .nil, hf, h => by subst hf; exact kat_nil h
  | [], _, _, _, i, .nil, .cons m u hj, hf, h => by subst hf; exact kat_nil h
  | _, [], _, _, i, .cons n t hi, .nil, hf, h => by subst hf; exact kat_nil h
  | _, _, _, _, i, .cons n t (ns := as) hi, .cons m u (ns := bs) hj, hf, h => by
    rw [List.zip_cons_cons]
    refine kat_cons (wpAny_eqBool_int ?_)
    rw [HT.lexLt_cons] at h
    by_cases e : n = m
    · rw [if_pos e] at h
      rw [show (n == m) = true by simp [e]]
      exact kat_yes (lex_ints (i + 1) hi hj (by rw [hf]; simp) h)
    · rw [if_neg e] at h
      rw [show (n == m) = false by simp [e]]
      refine kat_no ?_
      by_cases hi0 : i = 0
      · subst hi0
        exact oneLt_int h
      · rw [show (true && i == 0) = false by simp [hi0]]
        exact kat_one _ _ (HT.rcLt_int A s n t m u prog w _ _ h)
section
variable {X : Cx} {pins : List (Addr × Obj)} {σ : St} {H : Hp} {s : Shared}
theorem keyT_lt (I : Inv X pins σ H s) {A : Around} {p q : Addr} {as bs : List Int} (hp : H p = some (.tup (as.map V.int))) (hq : H q = some (.tup (bs.map V.int))) {Q : Bool → Shared → Prop} {E : Value → Shared → Prop} (h : Q (HT.lexLt as bs) s) :
    wpAny (model X.prog X.w) A (keyLt' (tuples' true) (.ref p) (.ref q)) Q E s := by
  obtain ⟨its, o, m, hi, e, _, hd⟩ := tupI_at I hp
  obtain ⟨its', o', m', hi', e', _, hd'⟩ := tupI_at I hq
  refine kat_lt e hd e' hd' ?_
  rw [List.size_toArray, List.size_toArray, hi.length, hi'.length]
  exact lex_ints 0 (by simpa using hi) (by simpa using hi') rfl h
end
theorem kat_tupsI {X : Cx} {pins : List (Addr × Obj)} {σ : St} {H : Hp} {s : Shared} (I : Inv X pins σ H s) : ∀ zs : List (Addr × List Int), (∀ z ∈ zs, H z.1 = some (.tup (z.2.map V.int)) ∧ z.2 ≠ []) → ∃ fs : List Value, KatTups s.heap (zs.map fun z => Value.ref z.1) fs ∧ fs.length = zs.length ∧ ∀ v ∈ fs, ∃ n t, v = Value.int n t
  | [], _ => ⟨[], KatTups.nil, rfl, fun v hv => by cases hv⟩
  | z :: zs, h => by
    obtain ⟨fs, h1, h2, h3⟩ := kat_tupsI I zs fun q hq => h q (.tail _ hq)
    obtain ⟨za, zl⟩ := z
    obtain ⟨hz, hne⟩ := h (za, zl) (.head _)
    obtain ⟨its, o, m, hi, e, hc, hd⟩ := tupI_at I hz
    simp only at hi hne
    cases hi with
    | nil => exact absurd rfl hne
    | cons n t hi =>
      refine ⟨.int n t :: fs, KatTups.cons e hc hd (by simp) h1, by simp [h2], fun v hv => ?_⟩
      rcases List.mem_cons.mp hv with rfl | hv
      · exact ⟨n, t, rfl⟩
      · exact h3 v hv
theorem lexOrd {ls : List (List Int)} (nd : ls.Nodup) : HT.Ord (fun i j => HT.lexLt (ls.getD i []) (ls.getD j [])) ls.length := by
  have ge : ∀ i, (h : i < ls.length) → ls.getD i [] = ls[i] := fun i h => by rw [List.getD_eq_getElem?_getD, List.getElem?_eq_getElem h]; rfl
  refine ⟨fun i j k _ _ _ h1 h2 => HT.lexLt_trans _ _ _ h1 h2, fun i j hi hj hij h => ?_, fun i j hi hj h => ?_⟩
  · have ne : ls.getD i [] ≠ ls.getD j [] := fun z => by
      rw [ge i hi, ge j hj] at z
      exact hij ((List.getElem_inj nd).mp z)
    have := HT.lexLt_flip _ _ ne
    rw [h] at this
    exact this
  · cases e : HT.lexLt (ls.getD j []) (ls.getD i []) with
    | false => rfl
    | true =>
      have := HT.lexLt_trans _ _ _ h e
      rw [HT.lexLt_irrefl] at this
      cases this
theorem perm_out {zs : List (Addr × List Int)} {p : List Nat} (hp : p.Perm (List.range zs.length)) (hw : p.Pairwise (fun i j => HT.lexLt ((zs.map (·.2)).getD i []) ((zs.map (·.2)).getD j []) = true)) :
    ∃ zs' : List (Addr × List Int), zs'.Perm zs ∧ zs'.Pairwise (fun x y => HT.lexLt x.2 y.2 = true) ∧ (p.map fun i => (zs.map fun z => Value.ref z.1).getD i Value.none) = zs'.map fun z => Value.ref z.1 := by
  have g : ∀ i ∈ p, (zs.map (·.2)).getD i [] = (zs.getD i (0, [])).2 ∧ (zs.map fun z => Value.ref z.1).getD i Value.none = Value.ref (zs.getD i (0, [])).1 := fun i hi => by
    have hi' := List.mem_range.mp (hp.mem_iff.mp hi)
    constructor
    · rw [List.getD_eq_getElem?_getD, List.getD_eq_getElem?_getD, List.getElem?_map, List.getElem?_eq_getElem hi']; rfl
    · rw [List.getD_eq_getElem?_getD, List.getD_eq_getElem?_getD, List.getElem?_map, List.getElem?_eq_getElem hi']; rfl
  refine ⟨p.map fun i => zs.getD i (0, []), HT.perm_getD _ zs hp, ?_, ?_⟩
  · rw [List.pairwise_map]
    refine List.Pairwise.imp_of_mem ?_ hw
    intro i j hi hj h
    rw [(g i hi).1, (g j hj).1] at h
    exact h
  · rw [List.map_map]
    exact List.map_congr_left fun i hi => (g i hi).2
theorem kt_split {H : Hp} : ∀ {kvs : List (List Key × V)} {xs : List (List Key × Addr × Value)} {ls : List (List Int)}, KT H kvs xs → kvs.map (·.1) = ls.map kI → ∃ zs : List (Addr × List Int), zs.map (·.2) = ls ∧ (xs.map fun x => Value.ref x.2.1) = zs.map (fun z => Value.ref z.1) ∧ (∀ z ∈ zs, H z.1 = some (.tup (z.2.map V.int))) ∧ xs.map (·.1) = ls.map kI
  | [], [], ls, .nil, e => by
    cases ls with
    | nil => exact ⟨[], rfl, rfl, by simp, rfl⟩
    | cons _ _ => simp at e
  | p :: kvs, q :: xs, ls, .cons h t, e => by
    cases ls with
    | nil => simp at e
    | cons l ls =>
      rw [List.map_cons, List.map_cons] at e
      injection e with e1 e2
      obtain ⟨zs, h1, h2, h3, h4⟩ := kt_split t e2
      refine ⟨(q.2.1, l) :: zs, by simp [h1], by simp [h2], fun z hz => ?_, ?_⟩
      · rcases List.mem_cons.mp hz with rfl | hz
        · have := h.2.1
          rw [e1, kI_V] at this
          exact this
        · exact h3 z hz
      · rw [List.map_cons, List.map_cons, h4, ← h.1, e1]
section
variable {X : Cx}
def rSortD : List V → Hp → VK → Prop := fun xs H Q => ∃ (a : Addr) (kvs : List (List Key × V)) (ls : List (List Int)), xs = [.ref a] ∧ H a = some (.dT kvs) ∧ kvs.map (·.1) = ls.map kI ∧ ls.length ≤ 60 ∧ (∀ l ∈ ls, l ≠ []) ∧
  ∀ (p : Addr) (zs' : List (Addr × List Int)), H p = none → (zs'.map (·.2)).Perm ls → zs'.Pairwise (fun x y => HT.lexLt x.2 y.2 = true) → (∀ z ∈ zs', H z.1 = some (.tup (z.2.map V.int))) → Q (.ref p) (upd H p (.lst (zs'.map fun z => V.ref z.1)))
theorem k_sortD (hcalm : X.calm = true := by rfl) : CallR X (.builtin "sorted") rSortD := by
  intro pins s σ H xs us Q I r h
  obtain ⟨a, kvs, ls, rfl, ha, hks, h60, hne, q⟩ := h
  obtain ⟨u, rfl, rx⟩ := vals1 r
  cases rx
  obtain ⟨z, hd, xs, rel, o, es, ep, h1, h2, h3, h4, h5, h6⟩ := dt_of I.hok ha
  obtain ⟨zs, hz2, hzr, hzt, hx1⟩ := kt_split rel hks
  have hzl : zs.length = ls.length := by rw [← hz2, List.length_map]
  have nd : (zs.map (·.2)).Nodup := by
    rw [hz2]
    rw [hx1] at h6
    exact (List.pairwise_map.mp h6).imp fun hab e => hab (by rw [e])
  have hraw : HT.RawD s.heap a (zs.map fun z => Value.ref z.1) ep := ⟨o, es, h1, h2, h3, by rw [h4, List.map_map, ← hzr]; rfl⟩
  have hkl : (zs.map fun z => Value.ref z.1).length = zs.length := List.length_map ..
  have hO := lexOrd nd
  rw [List.length_map] at hO
  have hzt' : ∀ z ∈ zs, H z.1 = some (.tup (z.2.map V.int)) ∧ z.2 ≠ [] := fun z hz => ⟨hzt z hz, hne _ (by rw [← hz2]; exact List.mem_map.mpr ⟨z, hz, rfl⟩)⟩
  refine HT.sortedX (n := zs.length) (κ := tuples' true) (Pv := fun vs => vs = zs.map fun z => Value.ref z.1) (by omega) (fun R hR => ?_) fun vs hl hv => ?_
  · refine kdu_collect (A := X.A.in1) (HT.rd_src (ks := zs.map fun z => Value.ref z.1) (ep := ep) hd) (I.ok.hd hcalm) hraw (by rw [hkl]; exact Nat.le_trans (show zs.length ≤ 60 by omega) (by decide)) fun h' tk acc hk hacc => ?_
    have hal : acc.toList.length = zs.length := by rw [Array.length_toList, hacc.1, hkl]
    refine hR h' tk acc.toList hk hal ?_
    apply List.ext_getElem?
    intro i
    cases e : acc.toList[i]? with
    | some v => exact (hacc.2 i v (by rw [← Array.getElem?_toList]; exact e)).symm
    | none => rw [List.getElem?_eq_none (by rw [hkl, ← hal]; exact List.getElem?_eq_none_iff.mp e)]
  · subst hv
    have gr : ∀ i, i < zs.length → (zs.map fun z => Value.ref z.1).getD i Value.none = .ref (zs.getD i (0, [])).1 ∧ (zs.map (·.2)).getD i [] = (zs.getD i (0, [])).2 ∧ zs.getD i (0, []) ∈ zs := fun i hi => by
      have e : zs.getD i (0, []) = zs[i] := by rw [List.getD_eq_getElem?_getD, List.getElem?_eq_getElem hi]; rfl
      rw [e]
      refine ⟨?_, ?_, List.getElem_mem _⟩
      · rw [List.getD_eq_getElem?_getD, List.getElem?_map, List.getElem?_eq_getElem hi]; rfl
      · rw [List.getD_eq_getElem?_getD, List.getElem?_map, List.getElem?_eq_getElem hi]; rfl
    refine ⟨_, hO, fun G tk kG hn2 Q' hq => ?_, fun G tk kG i j C hi hj hC => ?_, fun p h' h'' tk e hp hw k1 k2 hat => ?_⟩
    · obtain ⟨fs, ht, hfl, hfi⟩ := kat_tupsI (I.kept (t' := tk) kG) zs hzt'
      refine kat_kind (T := .type "int") ht (by omega) (fun v hv => ?_) (by decide) (by rw [show (Value.type "int" != Value.type "tuple") = true by decide]; exact hq)
      obtain ⟨n, t, rfl⟩ := hfi v hv
      exact Looks.of_pure rfl
    · obtain ⟨a1, a2, a3⟩ := gr i hi
      obtain ⟨b1, b2, b3⟩ := gr j hj
      unfold kas_ask
      rw [a1, b1]
      refine keyT_lt (I.kept (t' := tk) kG) (hzt _ a3) (hzt _ b3) ?_
      rw [a2, b2] at hC
      exact hC
    · obtain ⟨zs', pm, pw, hm⟩ := perm_out hp hw
      rw [hm] at hat
      have I1 := I.kept (t' := tk) k1
      have hfree : H h'.objs.size = none := I1.hok.fresh (Nat.le_refl _)
      have hl' : zs'.length = zs.length := pm.length_eq
      refine ⟨.ref h'.objs.size, _, I1.laid (t' := tk) (o := .lst (zs'.map fun z => V.ref z.1)) k2 (Nat.le_refl _) ⟨by rw [List.length_map]; exact Nat.le_trans (show zs'.length ≤ 60 by omega) (by decide), _, e, refs_vals zs', hat⟩, rfl, q _ zs' hfree (by rw [← hz2]; exact pm.map _) pw fun z hz => hzt z (pm.mem_iff.mp hz)⟩
end
end L2
set_option Elab.async false
set_option linter.all false
set_option maxRecDepth 100000
namespace L2
open PySem PySem.Spec PyProof.Rows
section
variable {X : Cx} {tg : Expr}
end
end L2
set_option Elab.async false
set_option linter.all false
set_option maxRecDepth 100000
namespace L2
open PySem PySem.Spec PyProof.Rows PySem.SeqAt
section
variable {X : Cx}
def rSum (K : PySem.W.Frag) : List V → Hp → VK → Prop := fun xs H Q => ∃ (a : Addr) (ns : List Int), xs = [.ref a] ∧ SqL K H a (ns.map V.int) ∧ Q (.int ns.sum) H
theorem call_sum (hc : X.calm = true) : CallR X (.builtin "sum") (rSum X.K) := by
  intro pins s σ H xs us Q I r h
  obtain ⟨a, ns, rfl, hq, q⟩ := h
  obtain ⟨u, rfl, rx⟩ := vals1 r
  cases rx
  obtain ⟨its, rv, pl, hz⟩ := I.list hq
  have hi := intsAre_of rv
  obtain ⟨ys, hy⟩ := hi.allInts.items
  have hn : (ys.toList.map (·.1)).sum = ns.sum := by
    have e := hi.numsOf
    have e2 := nums_intItems ys
    rw [← hy] at e2
    rw [← e, ← e2]
  refine sum_intListG (xs := ys) (I.ok.hd hc) (by rw [← hy]; exact pl.isList) fun h' tk t' hk => ?_
  refine ⟨.int ns.sum, H, I.kept fun b o e => hk b o e, ?_, q⟩
  refine ⟨t', ?_⟩
  rw [preSum_eq, List.take_of_length_le (by simp), hn]
theorem k_sum (K : PySem.W.Frag) (hc : X.calm = true) (e : X.K = K := by rfl) : CallR X (.builtin "sum") (rSum K) := by subst e; exact call_sum hc
end
end L2
set_option Elab.async false
set_option linter.all false
set_option maxRecDepth 100000
namespace L2
open PySem PySem.Spec PyProof.Rows PySem.SeqAt
section
variable {X : Cx}
def rIndexT (K : PySem.W.Frag) : V → List V → Hp → VK → Prop := fun x vs H Q => ∃ l xs y ts u j, x = .ref l ∧ vs = [y] ∧ SqL K H l xs ∧ TrsAt K H ts xs ∧ TrAt K H u y ∧ tdeps ts ≤ 8 ∧ j < ts.length ∧
  (∀ t, ts[j]? = some t → teq t u = true) ∧ (∀ m t, m < j → ts[m]? = some t → teq t u = false) ∧ Q (.int (j : Nat)) H
open Classical in
theorem mt_indexT (hu : X.A.units + 64 < cLine) : MtM X "list.index" (rIndexT X.K) := by
  intro pins s σ H x vs v us Q I rx rv h
  obtain ⟨l, xs, y, ts, u, j, rfl, rfl, hq, hts, ht, hd, hj, hit, hno, q⟩ := h
  cases rx
  obtain ⟨u0, rfl, ru⟩ := Vals.one rv
  obtain ⟨its, r, pl, hz⟩ := I.list hq
  obtain ⟨⟨cls, dd, data, sl⟩, ho, hc, n, hdat⟩ := id pl.isList
  simp only at hc hdat
  subst hc hdat
  have l1 := hts.length
  have m1 := r.length
  have val : ∀ (m : Nat) (hm : m < its.length) (t : Tr), ts[m]? = some t → decide (∃ t x, RelV x its[m] ∧ TrAt X.K H t x ∧ teq t u = true) = teq t u := by
    intro m hm t et
    obtain ⟨z, ez, hz'⟩ := hts.get et
    obtain ⟨w, ew, rw'⟩ := r.get ez
    have e' : its[m] = w := by
      rw [List.getElem?_eq_getElem hm] at ew
      exact Option.some.inj ew
    rw [e', Bool.eq_iff_iff, decide_eq_true_iff]
    constructor
    · rintro ⟨t', x', r', h', e3⟩
      rw [rw'.inj r'] at hz'
      rw [tr_inj I 8 (Nat.le_trans (tdep_mem (List.mem_of_getElem? et)) hd) hz' h']; exact e3
    · intro e3
      exact ⟨t, z, rw', hz', e3⟩
  have hjs : j < its.length := by omega
  have hsl : (sizeLine : Int) < 2 ^ 63 - 1 := by decide
  refine call_meets PySem.F.slot_list_index ⟨_, ho, rfl⟩ PySem.F.entry_list_index (PySem.F.args_list_index_2 _ _)
    (list_indexAt l its.toArray n dd sl u0 (fun y => decide (∃ t x, RelV x y ∧ TrAt X.K H t x ∧ teq t u = true)) j (by simpa using hjs) (by omega) ?_ ?_) ⟨ho, in_core I hu ht ru hd hts r, ?_⟩
  · have q := val j hjs _ (List.getElem?_eq_getElem hj)
    rw [hit _ (List.getElem?_eq_getElem hj)] at q
    simpa using q
  · intro m hm hlt
    have hm' : m < ts.length := by omega
    have q := val m (by omega) _ (List.getElem?_eq_getElem hm')
    rw [hno m _ hlt (List.getElem?_eq_getElem hm')] at q
    simpa using q
  · exact ⟨.int (j : Nat), H, I.kept fun b o e => e, ⟨_, rfl⟩, q⟩
theorem k_indexT (K : PySem.W.Frag) (hu : X.A.units + 64 < cLine) (e : X.K = K := by rfl) : MtM X "list.index" (rIndexT K) := by subst e; exact mt_indexT hu
end
end L2
set_option Elab.async false
set_option linter.all false
set_option maxRecDepth 100000
namespace L2
open PySem PySem.Spec PyProof.Rows
structure CScopeT (sc : Scope) (scope : Scope) (xs : List Str) (M : List Str) (ys : List Str) (js : List Nat) : Prop where
  kind : scope.kind = .function
  cell : ∀ y ∈ scope.names, y.2 ≠ .cell
  loc : ∀ y ∈ scope.names, y.2 = .local → scope.names.lookup y.1 = some .local
  var : ∀ x ∈ xs, scope.names.lookup x = some .local
  free : ∀ y ∈ scope.names, y.2 = .free → sc.names.lookup y.1 = some .cell ∨ sc.names.lookup y.1 = some .free
  caps : js.map (M[·]?) = ys.map some
  fr : ∀ y ∈ ys, scope.names.lookup y = some .free
  nd : (xs ++ ys).Nodup
theorem CScope.nofree {sc scope : Scope} {x : Str} {M : List Str} (kind : scope.kind = .function) (cell : ∀ y ∈ scope.names, y.2 ≠ .cell) (loc : ∀ y ∈ scope.names, y.2 = .local → scope.names.lookup y.1 = some .local) (var : scope.names.lookup x = some .local) (free : ∀ y ∈ scope.names, y.2 ≠ .free) : CScope sc scope x M [] [] :=
  ⟨kind, cell, loc, var, fun y hy e => absurd e (free y hy), rfl, by simp, by simp⟩
section
variable {X : Cx} {pins : List (Addr × Obj)} {σ : St} {H : Hp} {s : Shared}
end
section
variable {prog : Program} {w : World} {A : Around} {R : Result → Shared → Prop} {s : Shared}
end
section
variable {X : Cx} {elt iter : Expr} {ifs : List Expr} {tg : Expr} {xs : List Str} {pos : Pos} {g : TG} {scope : Scope} {ys : List Str} {js : List Nat} {wi : TI} {tt : TT} {te : TE}
end
end L2
set_option Elab.async false
set_option linter.all false
set_option maxRecDepth 100000
namespace L2
open PySem PySem.Spec PyProof.Rows
theorem k_fld {X : Cx} (K : PySem.W.Frag) {e : Expr} {f : Str} {pos : Pos} {ta : TE} (he : PE X e ta) (hb : attributeBase e f X.env (eval e X.env) = eval e X.env := by rfl) (ek : X.K = K := by rfl) : PE X (.Attribute e f pos) (tFld K ta f) := by subst ek; exact pe_fld he hb
structure Mt (K : PySem.W.Frag) (C : Addr) (q x : Str) (st : Stmt) (ps : List Str) (f : Addr) (fd : FuncData) : Prop where
  fn : Fun K x q st f fd
  b : Binds K fd ps []
  m : Meth K C x f
theorem pmeth {X : Cx} {C : Addr} {q x : Str} {st : Stmt} {ps : List Str} {f : Addr} {fd : FuncData} {k : Nat} {sp : Sp} {o e : Expr} {es : List Expr} {ta : TE} {t : TA} {apos pos : Pos} {pl : Sem Bool} (D : Mt X.K C q x st ps f fd) (c : Cls X.K C) (G : FnOk X.prog X.w X.K X.mg X.base CX0 k f fd ps sp) (hr : Room k X.A) (he : PE X o ta) (ha : PA X (e :: es) t)
    (hst : starEach (e :: es) X.env = (false, eval e X.env) :: starEach es X.env := by rfl) (hpl : (backTo pos (starEach es X.env)).any (·.1) = false := by rfl)
    (ht : eval (.Call (.Attribute o x apos) (e :: es) [] pos) X.env = (do
      let ov ← eval o X.env
      standAt apos.atName
      let (f, first) ← holding [ov] (getMethod ov x pl)
      callWith pos f first (backTo pos (starEach (e :: es) X.env)) (backToKw pos (keywordEach [] X.env))) := by rfl) : PE X (.Call (.Attribute o x apos) (e :: es) [] pos) (tMeth C x sp [] E0 ta t) :=
  pe_meth he c D.m G hr D.b .nil pass0 ha hst hpl ht
theorem pmeth0 {X : Cx} {C : Addr} {q x : Str} {st : Stmt} {ps : List Str} {f : Addr} {fd : FuncData} {k : Nat} {sp : Sp} {o : Expr} {ta : TE} {apos pos : Pos} {pl : Sem Bool} (D : Mt X.K C q x st ps f fd) (c : Cls X.K C) (G : FnOk X.prog X.w X.K X.mg X.base CX0 k f fd ps sp) (hr : Room k X.A) (he : PE X o ta)
    (ht : eval (.Call (.Attribute o x apos) [] [] pos) X.env = (do
      let ov ← eval o X.env
      standAt apos.atName
      let (f, first) ← holding [ov] (getMethod ov x pl)
      callWith pos f first (backTo pos (starEach [] X.env)) (backToKw pos (keywordEach [] X.env))) := by rfl) : PE X (.Call (.Attribute o x apos) [] [] pos) (tMeth C x sp [] E0 ta tNil) :=
  pe_meth0 he c D.m G hr D.b .nil pass0 ht
structure Blt2 (mg : Str → Option Value) : Prop where
  n_sum : mg "sum" = none
  n_abs : mg "abs" = none
  n_zip : mg "zip" = none
  n_str : mg "str" = none
section
variable {X : Cx} {tg : Expr}
end
end L2
set_option Elab.async false
set_option linter.all false
set_option maxRecDepth 100000
namespace L2
open PySem PySem.Spec PyProof.Rows
section
variable {X : Cx}
end
end L2
set_option Elab.async false
set_option linter.all false
set_option maxRecDepth 100000
namespace L2
open PySem PySem.Spec PyProof.Rows PySem.W
def CodeO (c : Addr) (q : Str) : HO := .ext fun h => h.CodeRec (.ref c) q
def LamAt (P : Addr) (pos : Pos) (q : Str) (H : Hp) (c : Addr) : Prop := H P = some (.tbl #[rawInt pos.line, rawInt pos.col, .ref c]) ∧ H c = some (CodeO c q)
def LamTab (P : Addr) (pos : Pos) (q : Str) (H : Hp) : Prop := H P = some (.tbl #[]) ∨ ∃ c, LamAt P pos q H c
section
variable {P : Program} {w : World} {K : Frag} {mg : Str → Option Value} {base : Heap} {N ps : List Str} {k : Nat} {A : Around} {outer : List Env} {s : Shared} {H : Hp} {us : List Value} {vs : List V} {Q : VK} {E : XK} {f : Addr} {o : Obj}
  {name qual : Str} {params : Arguments} {body : Expr} {scope : Scope} {pm cdv ct : Value} {args : Args}
theorem lam_run (ho : s.heap.get? f = some o) (hd : o.data = .func (kla_fn name qual params body scope [] pm cdv ct)) (hcd : s.heap.CodeRec cdv qual) (S : FnScope N ps scope) (hr : Room (k + 1) A) (e0 : Env0 P w K mg base A outer s H)
    (hb : BindsTo s (kla_fn name qual params body scope [] pm cdv ct) args (ps.zip us)) (hl : vs.length = ps.length) (r : Vals vs us)
    (hbody : ∃ t, PE (cxOf CX0 P w K mg base N qual scope f cdv A outer s H E) body t ∧ t (start N vs) H Q) : codeAny (model P w) A (.call (.ref f) args) (CR CX0 outer P w H s Q E) s := by
  have lim : s.heap.NoLimit := e0.mod.nolimit.keeps fun b o e => (e0.bs b o e).1
  have hkind : ∀ y ∈ ps.zip us, scope.names.lookup y.1 = some .local ∨ (scope.names.lookup y.1 = some .cell ∧ ((cellsFrom (s.heap.objs.size + 1) scope.names []).lookup y.1).isSome = true) := fun ⟨n, v⟩ hy => by
    rcases S.par n (List.of_mem_zip hy).1 with q | q
    · exact .inl q
    · exact .inr ⟨q, PySem.W.cellsFrom_some _ _ _ (.inl q)⟩
  refine kla_callFunE hr.depth ho hd S.co S.gen rfl hcd (hb _ _ _ _ ?_)
  refine wpAny_newFunctionEnv_cells S.kind hkind fun env he s1 x => ?_
  subst he
  refine ⟨lim.keeps x.toInCall.keep, kla_codeExpr ?_⟩
  obtain ⟨t, ht, hq⟩ := hbody
  have I : Inv (cxOf CX0 P w K mg base N qual scope f cdv A outer s H E) [] (start N vs) H s1 := inv_start S hr.hd e0 hl r x
  refine wpAny_mono (ht [] s1 (start N vs) H _ I hq) (fun u s' hs => ?_) fun e s' hs => hs
  obtain ⟨v, H', J, rv, q⟩ := hs
  exact ⟨v, H', J.os, J.bare, J.base, J.hok, rv, q⟩
end
section
variable {X : Cx} {pins : List (Addr × Obj)} {σ : St} {H : Hp} {s : Shared} {params : Arguments} {body : Expr} {scope : Scope} {pos : Pos} {c P : Addr} {Q : Value → Shared → Prop}
theorem lam_make (I : Inv X pins σ H s) (hdef : defaultsOf params X.env = ([], [])) (hcl : closureFor scope X.env = pure []) (hcode : X.env.code = .ref c) (hK : codeHdIn X.K c P = true) (hB : X.base.BuiltinsAt X.mg P) (hgP : mainGlobals ≠ P)
    (hT : LamTab P pos (X.env.qual ++ "<lambda>") H)
    (h : ∀ (f c' : Addr) (H' : Hp) (s' : Shared) (pm ct : Value), Inv X pins σ H' s' → LamAt P pos (X.env.qual ++ "<lambda>") H' c' → s'.heap.get? f = some (kla_obj "<lambda>" (X.env.qual ++ "<lambda>") params body scope [] pm c' ct) → H' f = none → s.heap.objs.size ≤ f →
      (∀ b u, b ≠ P → H b = some u → H' b = some u) → Q (.ref f) s') :
    wpAny (model X.prog X.w) X.A (eval (.Lambda params body scope pos) X.env) Q X.xe s := by
  have C : CodeHd s.heap c P := codeHd_of_K I.kIn hK
  have hg : s.heap.Ns mainGlobals X.mg := I.mod.glob.keeps I.bk
  have hb : s.heap.BuiltinsAt X.mg P := by
    obtain ⟨bm, o, b1, b2, b3, b4, b5, b6, b7, b8⟩ := hB
    exact ⟨bm, o, b1, b2, b3, b4, I.bk _ _ b5, b6, b7, b8⟩
  refine kla_eval hdef ?_
  rcases hT with hP | ⟨c', hP, hc'⟩
  · have hPo : s.heap.get? P = some (tabObj #[]) := I.hok P _ hP
    refine kla_makeFunction hcl I.ok.glob hg hcode C hPo (show TriplesOk [] from trivial) rfl hgP hb fun c' ct h' tk hx hge hlt hrec htb => ?_
    have htb' : h'.get? P = some (tabObj #[rawInt pos.line, rawInt pos.col, .ref c']) := htb
    have hPc : P ≠ c' := fun z => by
      have := Heap.lt_size hPo
      rw [z] at this
      exact absurd (Nat.lt_of_lt_of_le this hge) (Nat.lt_irrefl _)
    have hHc : H c' = none := I.hok.fresh hge
    have old : ∀ b o, b ≠ P → s.heap.get? b = some o → (h'.push (kla_obj "<lambda>" (X.env.qual ++ "<lambda>") params body scope [] ((X.mg "__name__").getD .none) c' ct)).get? b = some o := fun b o hb e => Heap.get?_push_of_some _ (hx b o hb e)
    have nP : ∀ b, H b = none → b ≠ P := fun b n z => by rw [z, hP] at n; cases n
    have up : ∀ b u, b ≠ P → H b = some u → upd (upd H P (.tbl #[rawInt pos.line, rawInt pos.col, .ref c'])) c' (CodeO c' (X.env.qual ++ "<lambda>")) b = some u := fun b u hb e => by
      rw [upd_ne (fun z => by rw [z, hHc] at e; cases e), upd_ne hb]; exact e
    have upn : ∀ b, b ≠ P → b ≠ c' → H b = none → upd (upd H P (.tbl #[rawInt pos.line, rawInt pos.col, .ref c'])) c' (CodeO c' (X.env.qual ++ "<lambda>")) b = none := fun b h1 h2 e => by
      rw [upd_ne h2, upd_ne h1]; exact e
    have J : Inv X pins σ (upd (upd H P (.tbl #[rawInt pos.line, rawInt pos.col, .ref c'])) c' (CodeO c' (X.env.qual ++ "<lambda>"))) { s with heap := h'.push (kla_obj "<lambda>" (X.env.qual ++ "<lambda>") params body scope [] ((X.mg "__name__").getD .none) c' ct), toks := tk } := by
      refine I.un ⟨fun b o e n _ _ => old b o (nP b n) e, fun b o e n _ _ => ⟨o.slots, old b o (nP b n) e⟩, fun b o e n _ => upn b (nP b n) (Nat.ne_of_lt (Nat.lt_of_lt_of_le (Heap.lt_size e) hge)) n, fun b o e _ => ?_, fun b xs e => up b _ (fun z => by rw [z, hP] at e; cases e) e, fun b o u e => up b _ (fun z => by rw [z, hP] at e; cases e) e, fun b ps e => ?_⟩ ?_
      · by_cases hb : b = P
        · rw [hb]; exact ⟨_, Heap.get?_push_of_some _ htb'⟩
        · exact ⟨o, old b o hb e⟩
      · by_cases hb : b = P
        · rw [hb] at e ⊢
          rw [hP] at e
          cases e
          exact ⟨#[rawInt pos.line, rawInt pos.col, .ref c'], by rw [upd_ne hPc, upd_same]; rfl⟩
        · exact ⟨#[], by rw [up b _ hb e]; simp⟩
      · intro b u e
        by_cases hbc : b = c'
        · subst hbc
          rw [upd_same] at e
          cases e
          obtain ⟨c2, oc, vs, t, e1, e2, e3, e4⟩ := id hrec
          cases e1
          have q := Heap.get?_push_of_some (kla_obj "<lambda>" (X.env.qual ++ "<lambda>") params body scope [] ((X.mg "__name__").getD .none) b ct) e2
          refine ⟨⟨b, oc, vs, t, rfl, q, e3, e4⟩, ⟨oc, q⟩, fun h1 h2 ⟨c3, o3, v3, t3, a1, a2, a3, a4⟩ k => ?_⟩
          cases a1
          exact ⟨b, o3, v3, t3, rfl, k _ a2, a3, a4⟩
        · rw [upd_ne hbc] at e
          by_cases hbP : b = P
          · rw [hbP] at e ⊢
            rw [upd_same] at e
            cases e
            exact Heap.get?_push_of_some _ htb'
          · rw [upd_ne hbP] at e
            refine (I.hok b u e).stay (fun d v hd q => old d v ?_ q) (fun d q => ?_) fun d xs q => ?_
            · rcases hd with rfl | hd
              · exact hbP
              · intro z; rw [z, hP] at hd; cases hd
            · exact up d _ (fun z => by rw [z, hP] at q; cases q) q
            · exact up d _ (fun z => by rw [z, hP] at q; cases q) q
    have hsz : s.heap.objs.size ≤ h'.objs.size := Nat.le_of_lt (Nat.lt_of_le_of_lt hge hlt)
    refine h _ c' _ _ _ ct J ⟨by rw [upd_ne hPc, upd_same], upd_same⟩ (Heap.get?_push_size _ rfl) ?_ hsz up
    exact upn _ (Nat.ne_of_gt (Nat.lt_of_lt_of_le (Heap.lt_size hPo) hsz)) (Nat.ne_of_gt hlt) (I.hok.fresh hsz)
  · have hPo : s.heap.get? P = some (tabObj #[rawInt pos.line, rawInt pos.col, .ref c']) := I.hok P _ hP
    refine kla_makeFunctionHit hcl I.ok.glob hg hcode C hPo (show TriplesOk [rawInt pos.line, rawInt pos.col, .ref c'] from trivial) (cv := .ref c') ?_ hb fun ct h' tk hk hsz => ?_
    · have := codeAmong_snoc (pos := pos) (c := .ref c') [] trivial rfl
      exact this
    · exact h _ c' H _ _ ct (I.kept (t' := tk) fun b u e => Heap.get?_push_of_some _ (hk b u e)) ⟨hP, hc'⟩ (Heap.get?_push_size _ rfl) (I.hok.fresh hsz) hsz (fun b u _ e => e)
end
end L2
set_option Elab.async false
set_option linter.all false
set_option maxRecDepth 100000
namespace HT
def kLess (a b : List Int) : Bool := if a.length = b.length then lexLt a b else decide (a.length < b.length)
theorem kLess_irrefl (a : List Int) : kLess a a = false := by unfold kLess; rw [if_pos rfl, lexLt_irrefl]
theorem kLess_trans (a b c : List Int) (h1 : kLess a b = true) (h2 : kLess b c = true) : kLess a c = true := by
  unfold kLess at *
  by_cases e1 : a.length = b.length
  · rw [if_pos e1] at h1
    by_cases e2 : b.length = c.length
    · rw [if_pos e2] at h2
      rw [if_pos (e1.trans e2)]
      exact lexLt_trans a b c h1 h2
    · rw [if_neg e2] at h2
      rw [if_neg (by omega)]
      have := of_decide_eq_true h2
      exact decide_eq_true (by omega)
  · rw [if_neg e1] at h1
    have h1' := of_decide_eq_true h1
    by_cases e2 : b.length = c.length
    · rw [if_neg (by omega)]
      exact decide_eq_true (by omega)
    · rw [if_neg e2] at h2
      have := of_decide_eq_true h2
      rw [if_neg (by omega)]
      exact decide_eq_true (by omega)
theorem kLess_flip (a b : List Int) (h : a ≠ b) : kLess b a = !kLess a b := by
  unfold kLess
  by_cases e : a.length = b.length
  · rw [if_pos e, if_pos e.symm, lexLt_flip a b h]
  · rw [if_neg e, if_neg (Ne.symm e), Bool.eq_iff_iff]
    simp
    omega
theorem kOrd {ls : List (List Int)} (nd : ls.Nodup) : Ord (fun i j => kLess (ls.getD i []) (ls.getD j [])) ls.length := by
  have ge : ∀ i, (h : i < ls.length) → ls.getD i [] = ls[i] := fun i h => by rw [List.getD_eq_getElem?_getD, List.getElem?_eq_getElem h]; rfl
  refine ⟨fun i j k _ _ _ h1 h2 => kLess_trans _ _ _ h1 h2, fun i j hi hj hij h => ?_, fun i j hi hj h => ?_⟩
  · have ne : ls.getD i [] ≠ ls.getD j [] := fun z => by
      rw [ge i hi, ge j hj] at z
      exact hij ((List.getElem_inj nd).mp z)
    have := kLess_flip _ _ ne
    rw [h] at this
    exact this
  · cases e : kLess (ls.getD j []) (ls.getD i []) with
    | false => rfl
    | true =>
      have := kLess_trans _ _ _ h e
      rw [kLess_irrefl] at this
      cases this
end HT
namespace L2
open PySem PySem.Spec PyProof.Rows PySem.W
section
variable {X : Cx} {pins : List (Addr × Obj)} {σ : St} {H : Hp} {s : Shared}
theorem key_at (I : Inv X pins σ H s) {p z : Addr} {n : Int} (h : H p = some (.tup [.int n, .ref z])) : ∃ (t : Tok) (o : Obj) (m : Nat), s.heap.get? p = some o ∧ o.cls = .type "tuple" ∧ o.data = .seq #[.int n t, .ref z] m := by
  obtain ⟨_, its, r, o, e, hc, m, hd⟩ := I.hok p _ h
  cases r with
  | cons r1 r2 =>
    cases r2 with
    | cons r3 r4 =>
      cases r4
      obtain ⟨t, rfl⟩ := r1
      cases r3
      exact ⟨t, o, m, e, hc, hd⟩
theorem key_lt (I : Inv X pins σ H s) {A : Around} {p q za zb : Addr} {as bs : List Int} (hp : H p = some (.tup [.int as.length, .ref za])) (hq : H q = some (.tup [.int bs.length, .ref zb])) (ha : H za = some (.lst (as.map V.int))) (hb : H zb = some (.lst (bs.map V.int)))
    (hu : A.units + 2 < cLine) {Q : Bool → Shared → Prop} {E : Value → Shared → Prop} (h : Q (HT.kLess as bs) s) : wpAny (model X.prog X.w) A (keyLt' (tuples' true) (.ref p) (.ref q)) Q E s := by
  obtain ⟨t, o, m, e, _, hd⟩ := key_at I hp
  obtain ⟨t', o', m', e', _, hd'⟩ := key_at I hq
  refine kat_lt e hd e' hd' ?_
  refine kat_cons (wpAny_eqBool_int ?_)
  unfold HT.kLess at h
  by_cases hl : as.length = bs.length
  · rw [if_pos hl] at h
    have e1 : ((as.length : Int) == (bs.length : Int)) = true := by rw [hl]; simp
    rw [e1]
    refine kat_yes (kat_cons ?_)
    refine (tr_cmps I (A := A) 1 (t := tInts as) (u := tInts bs) (v := .ref za) (w := .ref zb) (by rw [tdep_tInts]; exact Nat.le_refl _) (TrAt.ints (SqL.of ha)) (TrAt.ints (SqL.of hb)) rfl rfl (by omega)).eq _ _ _ _ ?_
    rw [teq_ints]
    by_cases hab : as = bs
    · rw [decide_eq_true hab]
      refine kat_yes (kat_nil ?_)
      rw [hab, HT.lexLt_irrefl] at h
      exact h
    · rw [decide_eq_false hab]
      refine kat_no (kat_one _ _ ?_)
      obtain ⟨its, r1, p1, _⟩ := I.list (SqL.of ha)
      obtain ⟨its2, r2, p2, _⟩ := I.list (SqL.of hb)
      exact HT.lt_listInts p1.isList p2.isList (by simpa using intsAre_of r1) (by simpa using intsAre_of r2) (by omega) h
  · rw [if_neg hl] at h
    have e1 : ((as.length : Int) == (bs.length : Int)) = false := by simp; omega
    rw [e1]
    refine kat_no ?_
    refine oneLt_int ?_
    have : decide ((as.length : Int) < (bs.length : Int)) = decide (as.length < bs.length) := by
      rw [Bool.eq_iff_iff]; simp
    rw [this]
    exact h
end
end L2
set_option Elab.async false
set_option linter.all false
set_option maxRecDepth 100000
set_option maxHeartbeats 4000000
namespace L2
open PySem PySem.Spec PyProof.Rows PySem.W
section
variable {X : Cx} {pins : List (Addr × Obj)} {σ : St} {H : Hp} {s : Shared}
structure Late (X : Cx) (pins : List (Addr × Obj)) (n : Nat) (a : Addr) : Prop where
  s0 : X.s₀.heap.objs.size ≤ a
  lo : a ≠ X.env.locals
  ce : ∀ x c, X.env.cells.lookup x = some c → c ≠ a
  fs : a ∉ X.fs
  pn : ∀ p ∈ X.pn ++ pins, p.1 ≠ a
  ge : n ≤ a
theorem Inv.late (I : Inv X pins σ H s) {a : Addr} (h : s.heap.objs.size ≤ a) : Late X pins s.heap.objs.size a :=
  ⟨Nat.le_trans I.sz h, Nat.ne_of_gt (Nat.lt_of_lt_of_le I.lt h), fun x c e z => by
    obtain ⟨v, o, ho, _⟩ := I.cell x c e
    rw [z] at ho
    exact absurd (Nat.lt_of_lt_of_le (Heap.lt_size ho) h) (Nat.lt_irrefl _), I.nofs h, fun p hp z => by
    obtain ⟨e, _⟩ := I.pin p hp
    rw [z] at e
    exact absurd (Nat.lt_of_lt_of_le (Heap.lt_size e) h) (Nat.lt_irrefl _), h⟩
theorem Inv.tell {a : Addr} {xs : List V} {its : List Value} {n : Nat} {h' : Heap} {t' : Nat} (I : Inv X pins σ H s) {m : Nat} (L : Late X pins m a) (hn : H a = none) (k : ∀ b o, b ≠ a → s.heap.get? b = some o → h'.get? b = some o)
    (hv : Vals xs its) (hz : xs.length ≤ sizeLine) (ha : h'.get? a = some (seqObj "list" its.toArray n)) : Inv X pins σ (upd H a (.lst xs)) { s with heap := h', toks := t' } := by
  have na : ∀ b u, H b = some u → b ≠ a := fun b u e z => by rw [z, hn] at e; cases e
  refine I.step (g' := s.gens) (d' := s.drawn) (ch := [a]) (fun b hb => ?_) (fun b o _ _ hc e _ => k b o (fun z => hc (by simp [z])) e) (fun b o _ _ hc e _ => ⟨o.slots, k b o (fun z => hc (by simp [z])) e⟩) (fun b o hc e n => by rw [upd_ne (fun z => hc (by simp [z]))]; exact n)
    (fun b o hc e => ⟨o, k b o (fun z => hc (by simp [z])) e⟩) (fun b xs e => by rw [upd_ne (na b _ e)]; exact e) (fun b o u e => by rw [upd_ne (na b _ e)]; exact e) (fun b ps e => ⟨#[], by rw [upd_ne (na b _ e), e]; simp⟩) (fun m hm => ?_) (fun b u e => ?_) I.bare
  · have e : b = a := by simpa using hb
    subst e
    exact ⟨.inr L.s0, L.lo, L.ce, L.pn⟩
  · obtain ⟨o, es, ep, ho, r⟩ := hm
    exact ⟨o, es, ep, k _ o (Ne.symm L.lo) ho, r⟩
  · by_cases hb : b = a
    · subst hb
      rw [upd_same] at e
      cases e
      exact ⟨hz, its, n, hv, ha⟩
    · rw [upd_ne hb] at e
      refine (I.hok b u e).stay (fun c v hc q => k c v ?_ q) (fun c q => by rw [upd_ne (na c _ q)]; exact q) fun c xs q => by rw [upd_ne (na c _ q)]; exact q
      rcases hc with rfl | hc
      · exact hb
      · exact na c _ hc
def Keyed' (H : Hp) (zs : List (Addr × List Int)) (pl : List Addr) : Prop := ∀ j z, zs[j]? = some z → j < pl.length → ∃ p, pl[j]? = some p ∧ H p = some (.tup [.int z.2.length, .ref z.1])
theorem kat_tups (I : Inv X pins σ H s) : ∀ pl : List Addr, (∀ p ∈ pl, ∃ (n : Int) (z : Addr), H p = some (.tup [.int n, .ref z])) → ∃ fs : List Value, KatTups s.heap (pl.map Value.ref) fs ∧ fs.length = pl.length ∧ ∀ v ∈ fs, ∃ n t, v = Value.int n t
  | [], _ => ⟨[], KatTups.nil, rfl, fun v hv => by cases hv⟩
  | p :: pl, h => by
    obtain ⟨fs, h1, h2, h3⟩ := kat_tups I pl fun q hq => h q (.tail _ hq)
    obtain ⟨n, z, e⟩ := h p (.head _)
    obtain ⟨t, o, m, e1, e2, e3⟩ := key_at I e
    refine ⟨.int n t :: fs, KatTups.cons e1 e2 e3 rfl h1, by simp [h2], fun v hv => ?_⟩
    rcases List.mem_cons.mp hv with rfl | hv
    · exact ⟨n, t, rfl⟩
    · exact h3 v hv
theorem ksk_late {zs : List (Addr × List Int)} {f kS a : Addr} {fo : Obj} {e1 : Nat} {A : Around} {P : PySem.Fin → Shared → Prop} {E : Value → Shared → Prop} {n : Nat}
    (I : Inv X ((f, fo) :: (a, seqObj "list" #[] e1) :: pins) σ H s) (La : Late X pins n a) (Lk : Late X ((f, fo) :: (a, seqObj "list" #[] e1) :: pins) n kS) (hkS : s.heap.get? kS = some (seqObj "list" #[] 0)) (hkn : H kS = none)
    (hz : ∀ z ∈ zs, H z.1 = some (.lst (z.2.map V.int))) (nd : (zs.map (·.2)).Nodup) (h60 : zs.length ≤ 60) (hu : A.units + 2 < cLine)
    (turn : ∀ (H' : Hp) (s' : Shared) (pins' : List (Addr × Obj)) (z : Addr × List Int), Inv X pins' σ H' s' → (f, fo) ∈ pins' → Same H H' → z ∈ zs →
      wpAny (model X.prog X.w) A (call (.ref f) [.ref z.1]) (EP X pins' σ fun v H2 => ∃ p, v = .ref p ∧ H' p = none ∧ H2 = upd H' p (.tup [.int z.2.length, .ref z.1])) (fun _ _ => False) s')
    (done : ∀ (H' : Hp) (s' : Shared) (zs' : List (Addr × List Int)), Inv X pins σ (upd H' a (.lst (zs'.map fun z => V.ref z.1))) s' → Same H H' → H' a = none → zs'.Perm zs → zs'.Pairwise (fun x y => HT.kLess x.2 y.2 = true) → P (.done (.ret .none)) s') :
    wpAny (model X.prog X.w) A (ksk_rest a (.ref f) false (zs.map fun z => Value.ref z.1).toArray e1 (.ref kS)) P E s := by
  unfold ksk_rest
  refine wpAny_bind (wpAny_rule ?_)
  first
    | rw [List.forIn_toArray]
    | (rw [← Array.forIn_toList]; simp only [List.toList_toArray])
    | rw [← Array.forIn_toList]
  refine wpAny_bind (ksk_fold (fun i s' => ∃ (H' : Hp) (pl : List Addr) (e : Nat), Inv X ((f, fo) :: (a, seqObj "list" #[] e1) :: pins) σ H' s' ∧ s'.heap.get? kS = some (seqObj "list" (pl.map Value.ref).toArray e) ∧ H' kS = none ∧ pl.length = i ∧ Keyed' H' zs pl ∧ Same H H') (zs.map fun z => Value.ref z.1) 0 s
    ⟨H, [], 0, I, hkS, hkn, rfl, fun j z _ h => by simp at h, Same.refl _⟩ ?step ?fin)
  case step =>
    rintro j x s' hx ⟨H', pl, e, I', hk', hkn', hpl, hkeys, sm⟩
    rw [Nat.zero_add] at hpl ⊢
    rw [List.getElem?_map] at hx
    obtain ⟨z, hzj, ez⟩ := Option.map_eq_some_iff.mp hx
    subst ez
    have hzm := List.mem_of_getElem? hzj
    have hj : j < zs.length := (List.getElem?_eq_some_iff.mp hzj).1
    have I2 : Inv X ((kS, seqObj "list" (pl.map Value.ref).toArray e) :: (f, fo) :: (a, seqObj "list" #[] e1) :: pins) σ H' s' := I'.pins_of fun p hp => by
      rcases List.mem_cons.mp hp with rfl | hp
      · exact ⟨hk', hkn', Lk.lo, Lk.fs, fun v z => by cases z⟩
      · exact I'.pin p (List.mem_append_right _ hp)
    refine wpAny_bind (wpAny_attempt (wpAny_mono (turn H' s' _ z I2 (by simp) sm hzm) (fun v s'' he => ?_) fun _ _ hF => hF.elim))
    obtain ⟨v', H2, I3, rv, p, rfl, hpf, rfl⟩ := he
    cases rv
    have pk := I3.pin (kS, seqObj "list" (pl.map Value.ref).toArray e) (List.mem_append_right _ (.head _))
    have I4 : Inv X ((f, fo) :: (a, seqObj "list" #[] e1) :: pins) σ (upd H' p (.tup [.int z.2.length, .ref z.1])) s'' := I3.pins_of fun q hq => I3.pin q (List.mem_append_right _ (.tail _ hq))
    obtain ⟨c2, hc2⟩ : ∃ c2, (s''.heap.update kS (Obj.mapSeq (·.push (.ref p)))).get? kS = some (seqObj "list" ((pl.map Value.ref).toArray.push (.ref p)) c2) := ⟨_, get?_update_seq pk.1 (·.push (.ref p))⟩
    have hsl : (pl.map Value.ref).toArray.size ≤ 60 := by rw [List.size_toArray, List.length_map]; omega
    dsimp only
    refine wpAny_bind (listUpdate_at pk.1 rfl ?_ (Nat.le_trans hsl (by decide)) (by rw [Array.size_push]; exact Nat.le_trans (Nat.succ_le_succ hsl) (by decide)))
    refine wpAny_pure ⟨rfl, _, pl ++ [p], c2, I4.turned (t' := s''.toks) (fun b o hb q => ?_) pk.2.1 Lk.lo (.inr Lk.s0) Lk.ce Lk.pn, ?_, pk.2.1, by rw [List.length_append, List.length_singleton, hpl], fun i y hy hi => ?_, sm.trans (same_upd hpf)⟩
    · rw [Heap.get?_update_other _ _ (Ne.symm hb)]; exact q
    · rw [hc2]; simp
    · by_cases hlt : i < pl.length
      · obtain ⟨p', e1', e2'⟩ := hkeys i y hy hlt
        exact ⟨p', by rw [List.getElem?_append_left hlt]; exact e1', by rw [upd_ne (ne_of_none e2' hpf)]; exact e2'⟩
      · have ei : i = pl.length := by rw [List.length_append, List.length_singleton] at hi; omega
        have ej : i = j := by omega
        rw [ej, hzj] at hy
        cases hy
        exact ⟨p, by rw [ei]; simp, upd_same⟩
  case fin =>
    rintro s' ⟨H', pl, e, I', hk', hkn', hpl, hkeys, sm⟩
    rw [Nat.zero_add, List.length_map] at hpl
    try dsimp only
    refine wpAny_bind (listItems_at hk' rfl ?_)
    have ga := I'.pin (a, seqObj "list" #[] e1) (List.mem_append_right _ (.tail _ (.head _)))
    have Ip : Inv X pins σ H' s' := I'.pins_of fun q hq => I'.pin q (by
      rcases List.mem_append.mp (List.mem_append_right X.pn hq) with h | h
      · exact List.mem_append_left _ h
      · exact List.mem_append_right _ (.tail _ (.tail _ h)))
    have nka : kS ≠ a := fun z => Lk.pn (a, seqObj "list" #[] e1) (List.mem_append_right _ (.tail _ (.head _))) z.symm
    have tail : ∀ (st : SortSt) (zs' : List (Addr × List Int)), (arrOf st).map (·.2) = (zs'.map fun z => Value.ref z.1).toArray → failedOf st = none → zs'.Perm zs → zs'.Pairwise (fun x y => HT.kLess x.2 y.2 = true) →
        wpAny (model X.prog X.w) A (ksk_tail a false e1 (.ref kS) st) P E s' := by
      intro st zs' hout hfl pm pw
      have hlen : zs'.length ≤ 60 := by rw [pm.length_eq]; exact h60
      have s1 := Heap.SameBut.update s'.heap kS (Obj.mapSeq fun _ => (#[] : Array Value))
      have na1 : (s'.heap.update kS (Obj.mapSeq fun _ => (#[] : Array Value))).get? a = some (seqObj "list" #[] e1) := (s1.2 a nka.symm).trans ga.1
      obtain ⟨c2, hc2⟩ : ∃ c2, ((s'.heap.update kS (Obj.mapSeq fun _ => (#[] : Array Value))).update a (Obj.mapSeq fun _ => (zs'.map fun z => Value.ref z.1).toArray)).get? a = some (seqObj "list" (zs'.map fun z => Value.ref z.1).toArray c2) :=
        ⟨_, get?_update_seq na1 fun _ => (zs'.map fun z => Value.ref z.1).toArray⟩
      have I5 : Inv X pins σ H' { s' with heap := s'.heap.update kS (Obj.mapSeq fun _ => (#[] : Array Value)), toks := s'.toks } := Ip.turned (fun b o hb q => by rw [Heap.get?_update_other _ _ (Ne.symm hb)]; exact q) hkn' Lk.lo (.inr Lk.s0) Lk.ce (fun q hq => Lk.pn q (by
        rcases List.mem_append.mp hq with h | h
        · exact List.mem_append_left _ h
        · exact List.mem_append_right _ (.tail _ (.tail _ h))))
      have I6 := I5.tell (t' := s'.toks) (h' := (s'.heap.update kS (Obj.mapSeq fun _ => (#[] : Array Value))).update a (Obj.mapSeq fun _ => (zs'.map fun z => Value.ref z.1).toArray)) La ga.2.1 (fun b o hb q => by rw [Heap.get?_update_other _ _ (Ne.symm hb)]; exact q) (refs_vals zs') (by rw [List.length_map]; exact Nat.le_trans hlen (by decide)) hc2
      unfold ksk_tail
      try dsimp only
      refine wpAny_bind (listUpdate_at hk' rfl ?_ (by rw [List.size_toArray, List.length_map, hpl]; exact Nat.le_trans h60 (by decide)) (Nat.zero_le _))
      refine wpAny_bind (wpAny_letGo ?_)
      refine wpAny_bind (seqEpoch_at na1 rfl ?_)
      simp only [Bool.false_eq_true, if_false]
      rw [hout]
      refine wpAny_bind (listUpdate_at na1 rfl ?_ (Nat.zero_le _) (by rw [List.size_toArray, List.length_map]; exact Nat.le_trans hlen (by decide)))
      rw [hfl]
      simp only [bne_self_eq_false, Bool.false_eq_true, if_false]
      exact wpAny_pure (done H' _ zs' I6 sm ga.2.1 pm pw)
    unfold ksk_end
    try dsimp only
    simp only [Bool.false_eq_true, if_false]
    have hvl : (zs.map fun z => Value.ref z.1).toArray.size = zs.length := by rw [List.size_toArray, List.length_map]
    by_cases h2 : (zs.map fun z => Value.ref z.1).toArray.size < 2
    · rw [if_pos h2, if_pos h2]
      refine wpAny_bind (wpAny_pure ?_)
      rw [StateT.run_pure]
      refine wpAny_bind (wpAny_pure ?_)
      try dsimp only
      refine tail _ zs ?_ rfl (List.Perm.refl _) ?_
      · show (((pl.map Value.ref).toArray.zip (zs.map fun z => Value.ref z.1).toArray).map (·.2)) = _
        apply Array.toList_inj.mp
        rw [Array.toList_map, Array.toList_zip, List.map_snd_zip (by simp [hpl])]
      · rw [hvl] at h2
        match zs, h2 with
        | [], _ => exact .nil
        | [_], _ => exact List.pairwise_singleton _ _
    · rw [if_neg h2, if_neg h2]
      rw [hvl] at h2
      have hkl : (pl.map Value.ref).length = (zs.map fun z => Value.ref z.1).length := by rw [List.length_map, List.length_map, hpl]
      have hk2 : ∀ j, j < zs.length → ∃ p, pl[j]? = some p ∧ H' p = some (.tup [.int (zs.getD j (0, [])).2.length, .ref (zs.getD j (0, [])).1]) ∧ zs.getD j (0, []) ∈ zs := fun j hj => by
        have e : zs.getD j (0, []) = zs[j] := by rw [List.getD_eq_getElem?_getD, List.getElem?_eq_getElem hj]; rfl
        rw [e]
        obtain ⟨p, e1, e2⟩ := hkeys j zs[j] (List.getElem?_eq_getElem hj) (by omega)
        exact ⟨p, e1, e2, List.getElem_mem hj⟩
      obtain ⟨fs, ht, hfl, hfi⟩ := kat_tups I' pl fun p hp => by
        obtain ⟨j, hj, rfl⟩ := List.getElem_of_mem hp
        obtain ⟨p', e1, e2, _⟩ := hk2 j (by omega)
        rw [List.getElem?_eq_getElem hj] at e1
        cases e1
        exact ⟨_, _, e2⟩
      refine wpAny_bind (kat_kind (T := .type "int") ht (by omega) (fun v hv => ?_) (by decide) ?_)
      · obtain ⟨n, t, rfl⟩ := hfi v hv
        exact Looks.of_pure rfl
      have ls2 : (zs.map (·.2)).length = zs.length := List.length_map ..
      have ask : (kas_sort (zs.map fun z => Value.ref z.1).length).kasWp (kas_ask X.prog X.w A (tuples' true) (pl.map Value.ref)) (fun p s'' => s'' = s' ∧ (HT.Pm zs.length p ∧ HT.Up (fun i j => HT.kLess ((zs.map (·.2)).getD i []) ((zs.map (·.2)).getD j [])) p zs.length)) s' := by
        rw [List.length_map]
        have O := HT.kOrd nd
        rw [ls2] at O
        refine HT.KW.wp (n := zs.length) (fun i j C hi hj hC => ?_) _ (HT.sortG O (by omega))
        obtain ⟨p, e1, e2, e3⟩ := hk2 i hi
        obtain ⟨q, d1, d2, d3⟩ := hk2 j hj
        have ei : (zs.map (·.2)).getD i [] = (zs.getD i (0, [])).2 := by rw [List.getD_eq_getElem?_getD, List.getD_eq_getElem?_getD, List.getElem?_map, List.getElem?_eq_getElem hi]; rfl
        have ej : (zs.map (·.2)).getD j [] = (zs.getD j (0, [])).2 := by rw [List.getD_eq_getElem?_getD, List.getD_eq_getElem?_getD, List.getElem?_map, List.getElem?_eq_getElem hj]; rfl
        have gi : (pl.map Value.ref).getD i Value.none = .ref p := by rw [List.getD_eq_getElem?_getD, List.getElem?_map, e1]; rfl
        have gj : (pl.map Value.ref).getD j Value.none = .ref q := by rw [List.getD_eq_getElem?_getD, List.getElem?_map, d1]; rfl
        unfold kas_ask
        rw [gi, gj]
        refine key_lt I' e2 d2 (sm _ _ (hz _ e3)) (sm _ _ (hz _ d3)) hu ?_
        try dsimp only at hC
        rw [ei, ej] at hC
        exact hC
      have eT : (Value.type "int" != Value.type "tuple") = true := by decide
      rw [eT]
      refine wpAny_bind (wpAny_mono (kat_run (ks := pl.map Value.ref) (vs := zs.map fun z => Value.ref z.1) (Q := fun st' s'' => ∃ p : Array Nat, s'' = s' ∧ arrOf st' = p.map (kas_item ((pl.map Value.ref).toArray.zip (zs.map fun z => Value.ref z.1).toArray)) ∧ failedOf st' = none ∧ HT.Pm zs.length p ∧ HT.Up (fun i j => HT.kLess ((zs.map (·.2)).getD i []) ((zs.map (·.2)).getD j [])) p zs.length)
        hkl (by rw [List.length_map]; omega) (by rw [List.length_map]; omega) (fun p st' s'' _ a2 a3 a4 => ⟨p, a4.1, a2, a3, a4.2⟩) ask) ?_ fun _ _ e => e)
      rintro ⟨⟨⟩, st'⟩ s'' ⟨p, rfl, har, hfl2, hpm, hup⟩
      try dsimp only
      have hout := kat_snds hkl har
      have hpl2 : p.toList.length = zs.length := by rw [hpm.pm.length_eq, List.length_range]
      refine tail st' (p.toList.map fun i => zs.getD i (0, [])) ?_ hfl2 (HT.perm_getD _ zs hpm.pm) ?_
      · rw [hout, List.map_map]
        congr 1
        refine List.map_congr_left fun i hi => ?_
        have hi' := List.mem_range.mp (hpm.pm.mem_iff.mp hi)
        show _ = Value.ref (zs.getD i (0, [])).1
        rw [List.getD_eq_getElem?_getD, List.getD_eq_getElem?_getD, List.getElem?_map, List.getElem?_eq_getElem hi']; rfl
      · rw [List.pairwise_map, List.pairwise_iff_getElem]
        intro i j hi hj hij
        have q1 := hup i j hij (by omega)
        have e1 : p.getD i 0 = p.toList[i] := by
          have : i < p.size := by rw [hpm.sz]; omega
          simp [Array.getD, this]
        have e2 : p.getD j 0 = p.toList[j] := by
          have : j < p.size := by rw [hpm.sz]; omega
          simp [Array.getD, this]
        rw [e1, e2] at q1
        have m1 := List.mem_range.mp (hpm.pm.mem_iff.mp (List.getElem_mem hi))
        have m2 := List.mem_range.mp (hpm.pm.mem_iff.mp (List.getElem_mem hj))
        have ei : (zs.map (·.2)).getD p.toList[i] [] = (zs.getD p.toList[i] (0, [])).2 := by rw [List.getD_eq_getElem?_getD, List.getD_eq_getElem?_getD, List.getElem?_map, List.getElem?_eq_getElem m1]; rfl
        have ej : (zs.map (·.2)).getD p.toList[j] [] = (zs.getD p.toList[j] (0, [])).2 := by rw [List.getD_eq_getElem?_getD, List.getD_eq_getElem?_getD, List.getElem?_map, List.getElem?_eq_getElem m2]; rfl
        try dsimp only at q1
        rw [ei, ej] at q1
        exact q1
end
end L2
set_option Elab.async false
set_option linter.all false
set_option maxRecDepth 100000
set_option maxHeartbeats 4000000
namespace L2
open PySem PySem.Spec PyProof.Rows PySem.W
section
variable {X : Cx} {pins : List (Addr × Obj)} {σ : St} {H : Hp} {s : Shared}
theorem sorted_late {zs : List (Addr × List Int)} {f l : Addr} {fo : Obj} {Q : VK} (I : Inv X ((f, fo) :: pins) σ H s) (hl : H l = some (.lst (zs.map fun z => V.ref z.1))) (hz : ∀ z ∈ zs, H z.1 = some (.lst (z.2.map V.int))) (nd : (zs.map (·.2)).Nodup) (h60 : zs.length ≤ 60)
    (hu : X.A.in1.in1.units + 2 < cLine)
    (turn : ∀ (H' : Hp) (s' : Shared) (pins' : List (Addr × Obj)) (z : Addr × List Int), Inv X pins' σ H' s' → (f, fo) ∈ pins' → Same H H' → z ∈ zs →
      wpAny (model X.prog X.w) X.A.in1.in1 (call (.ref f) [.ref z.1]) (EP X pins' σ fun v H2 => ∃ p, v = .ref p ∧ H' p = none ∧ H2 = upd H' p (.tup [.int z.2.length, .ref z.1])) (fun _ _ => False) s')
    (q : ∀ (D : Addr) (H' : Hp) (zs' : List (Addr × List Int)), H D = none → Same H H' → H' D = none → zs'.Perm zs → zs'.Pairwise (fun x y => HT.kLess x.2 y.2 = true) → Q (.ref D) (upd H' D (.lst (zs'.map fun z => V.ref z.1)))) :
    wpAny (model X.prog X.w) X.A (call (.builtin "sorted") [.ref l] [(Str.ofString "key", .ref f)]) (EP X pins σ Q) X.xe s := by
  obtain ⟨its, r1, p1, _⟩ := I.list (SqL.of hl)
  have e1 := vals_refs r1
  subst e1
  have hvl : (zs.map fun z => Value.ref z.1).length = zs.length := List.length_map ..
  have hsl : (zs.map fun z => Value.ref z.1).length ≤ sizeLine := by rw [hvl, sizeLine_eq]; omega
  refine call_function_entry_kw kind_sorted plain_sorted entry_sorted (ksk_s1 _ _) ?_
  unfold Builtin.«sorted»
  refine wpAny_bind (m := checkCount "sorted" 1 1 _) (wpAny_pure (wpAny_bind (collect_list p1.isList (wpAny_bind (wpAny_newList ?_ hsl)) hsl)))
  generalize hB : (s.heap.push (seqObj "list" #[] 0)).update s.heap.objs.size (Obj.mapSeq (· ++ (zs.map fun z => Value.ref z.1).toArray)) = B
  have hsz : B.objs.size = s.heap.objs.size + 1 := by rw [← hB, Heap.size_update, size_push']
  have keep : ∀ b o, s.heap.get? b = some o → (B.push (seqObj "list" (zs.map fun z => Value.ref z.1).toArray 0)).get? b = some o := fun b o q => by
    have hlt : b < s.heap.objs.size := Heap.lt_size q
    rw [Heap.get?_push_ne _ _ _ (by rw [hsz]; exact Nat.ne_of_lt (Nat.lt_succ_of_lt hlt)), ← hB, Heap.get?_update_ne _ _ _ _ (Nat.ne_of_lt hlt), Heap.get?_push_ne _ _ _ (Nat.ne_of_lt hlt)]; exact q
  have hoL : (B.push (seqObj "list" (zs.map fun z => Value.ref z.1).toArray 0)).get? (s.heap.objs.size + 1) = some (seqObj "list" (zs.map fun z => Value.ref z.1).toArray 0) := by
    rw [← hsz]; exact Heap.get?_push_size _ rfl
  have hszB : (B.push (seqObj "list" (zs.map fun z => Value.ref z.1).toArray 0)).objs.size = s.heap.objs.size + 2 := by rw [size_push', hsz]
  show wpAny _ _ _ _ _ { s with heap := B.push (seqObj "list" (zs.map fun z => Value.ref z.1).toArray 0) }
  dsimp only
  rw [hsz]
  refine wpAny_bind (wpAny_holding (wpAny_call_entry_kw slot_list_sort ⟨_, hoL, rfl⟩ entry_list_sort ?body (ksk_l1 _ _)))
  case body =>
    show wpAny (model X.prog X.w) X.A.in1.in1 (Builtin.«list.sort» ⟨[.ref (s.heap.objs.size + 1)], [(Str.ofString "key", .ref f)]⟩) _ _ _
    rw [ksk_t1]
    unfold ksk_tree
    generalize hG : B.push (seqObj "list" (zs.map fun z => Value.ref z.1).toArray 0) = G at keep hoL hszB
    generalize hLd : s.heap.objs.size + 1 = L at hoL
    have hLG : L < G.objs.size := Heap.lt_size hoL
    obtain ⟨e1, ho1⟩ : ∃ e1, (G.update L (Obj.mapSeq fun _ => (#[] : Array Value))).get? L = some (seqObj "list" #[] e1) := ⟨_, get?_update_seq hoL fun _ => #[]⟩
    refine wpAny_bind (listItems_at (s := { s with heap := G }) hoL rfl ?_)
    refine wpAny_bind (listUpdate_at (s := { s with heap := G }) hoL rfl ?_ (by rw [List.size_toArray]; exact hsl) (Nat.zero_le _))
    refine wpAny_bind (seqEpoch_at ho1 rfl ?_)
    refine wpAny_bind (wpAny_newTuple ?_ (by show (zs.map fun z => Value.ref z.1).length ≤ _; exact hsl))
    refine wpAny_bind (wpAny_newList ?_ (Nat.zero_le _))
    refine wpAny_holding ?_
    generalize hM : (G.update L (Obj.mapSeq fun _ => (#[] : Array Value))).push (seqObj "tuple" (zs.map fun z => Value.ref z.1).toArray 0) = M
    have hMs : M.objs.size = s.heap.objs.size + 3 := by rw [← hM, size_push', Heap.size_update, hszB]
    have hkS : (M.push (seqObj "list" #[] 0)).get? (s.heap.objs.size + 3) = some (seqObj "list" #[] 0) := by rw [← hMs]; exact Heap.get?_push_size _ rfl
    have hL2 : (M.push (seqObj "list" #[] 0)).get? L = some (seqObj "list" #[] e1) := Heap.get?_push_of_some _ (by rw [← hM]; exact Heap.get?_push_of_some _ ho1)
    have keep2 : ∀ b o, s.heap.get? b = some o → (M.push (seqObj "list" #[] 0)).get? b = some o := fun b o q => by
      have hlt : b < s.heap.objs.size := Heap.lt_size q
      refine Heap.get?_push_of_some _ ?_
      rw [← hM]
      refine Heap.get?_push_of_some _ ?_
      rw [Heap.get?_update_ne _ _ _ _ (by rw [← hLd]; exact Nat.ne_of_lt (Nat.lt_succ_of_lt hlt))]
      exact keep b o q
    have La0 := I.late (a := L) (by rw [← hLd]; exact Nat.le_succ _)
    have Lk0 := I.late (a := s.heap.objs.size + 3) (by omega)
    have I1 : Inv X ((f, fo) :: pins) σ H { s with heap := M.push (seqObj "list" #[] 0), toks := s.toks } := I.kept keep2
    have hLn : H L = none := I.hok.fresh (by rw [← hLd]; exact Nat.le_succ _)
    have I2 : Inv X ((f, fo) :: (L, seqObj "list" #[] e1) :: pins) σ H { s with heap := M.push (seqObj "list" #[] 0), toks := s.toks } := I1.pins_of fun p hp => by
      rcases List.mem_cons.mp hp with rfl | hp
      · exact I1.pin _ (List.mem_append_right _ (.head _))
      · rcases List.mem_cons.mp hp with rfl | hp
        · exact ⟨hL2, hLn, La0.lo, La0.fs, fun v z => by cases z⟩
        · exact I1.pin p (List.mem_append_right _ (.tail _ hp))
    have La : Late X pins s.heap.objs.size L := ⟨La0.s0, La0.lo, La0.ce, La0.fs, fun p hp => La0.pn p (by
      rcases List.mem_append.mp hp with h | h
      · exact List.mem_append_left _ h
      · exact List.mem_append_right _ (.tail _ h)), La0.ge⟩
    have Lk : Late X ((f, fo) :: (L, seqObj "list" #[] e1) :: pins) s.heap.objs.size (s.heap.objs.size + 3) := ⟨Lk0.s0, Lk0.lo, Lk0.ce, Lk0.fs, fun p hp => by
      rcases List.mem_append.mp hp with h | h
      · exact Lk0.pn p (List.mem_append_left _ h)
      · rcases List.mem_cons.mp h with rfl | h
        · exact Lk0.pn _ (List.mem_append_right _ (.head _))
        · rcases List.mem_cons.mp h with rfl | h
          · show L ≠ _
            rw [← hLd]; omega
          · exact Lk0.pn p (List.mem_append_right _ (.tail _ h)), Lk0.ge⟩
    rw [hMs]
    refine ksk_late (s := { s with heap := M.push (seqObj "list" #[] 0) }) I2 La Lk hkS (I.hok.fresh (by omega)) hz nd h60 hu turn fun H' s' zs' I' sm hn pm pw => ⟨_, rfl, ?_⟩
    exact wpAny_pure ⟨_, rfl, .ref L, _, I', rfl, q L H' zs' hLn sm hn pm pw⟩
end
end L2
set_option Elab.async false
set_option linter.all false
set_option maxRecDepth 100000
set_option maxHeartbeats 4000000
namespace L2
open PySem PySem.Spec PyProof.Rows PySem.W
section
variable {X : Cx} {σ : St} {H : Hp} {s : Shared} {params : Arguments} {body : Expr} {scope : Scope} {pos lpos kpos p : Pos} {c P : Addr} {y : Str} {e : Expr} {te : TE}
theorem lam_turn {pins : List (Addr × Obj)} {f c' : Addr} {q : Str} {pm ct : Value} {k : Nat} {v : V} {u : Value} {Q : VK} (I : Inv X pins σ H s) (hf : (f, kla_obj "<lambda>" q params body scope [] pm c' ct) ∈ pins) (hL : LamAt P lpos q H c') (S : FnScope [y] [y] scope) (hr : Room (k + 1) X.A.in1.in1)
    (hb : ∀ (pm ct : Value) (u : Value), bindArgs (kla_fn "<lambda>" q params body scope [] pm (.ref c') ct) ⟨[u], []⟩ = pure [(y, u)]) (rv : RelV v u)
    (hbody : ∃ t, PE (cxOf CX0 X.prog X.w X.K X.mg X.base [y] q scope f (.ref c') X.A.in1.in1 X.stack s H E0) body t ∧ t (start [y] [v]) H Q) :
    wpAny (model X.prog X.w) X.A.in1.in1 (call (.ref f) [u]) (EP X pins σ Q) (fun _ _ => False) s := by
  have pf := I.pin _ (List.mem_append_right X.pn hf)
  have hcd : s.heap.CodeRec (.ref c') q := (I.hok c' _ hL.2).1
  refine wpAny_call (codeAny_mono (lam_run (k := k) (N := [y]) (ps := [y]) (us := [u]) (vs := [v]) (E := E0) pf.1 rfl hcd S hr I.env0.in1.in1 (BindsTo.of_eq (hb pm ct u)) rfl (.cons rv .nil) hbody) fun r s' hq => ?_)
  cases r with
  | error e => exact hq
  | ok fl =>
    cases fl with
    | ret u => exact I.after hq
    | next => exact False.elim hq
    | brk => exact False.elim hq
    | cont => exact False.elim hq
def tSortKey (P : Addr) (lpos : Pos) (q : Str) (te : TE) : TE := fun σ H Q => te σ H fun x H1 => ∃ (l : Addr) (zs : List (Addr × List Int)), x = .ref l ∧ H1 l = some (.lst (zs.map fun z => V.ref z.1)) ∧ (∀ z ∈ zs, H1 z.1 = some (.lst (z.2.map V.int))) ∧ (zs.map (·.2)).Nodup ∧ zs.length ≤ 60 ∧ LamTab P lpos q H1 ∧
  ∀ (D : Addr) (zs' : List (Addr × List Int)) (H2 : Hp), H1 D = none → H2 D = none → (∀ b u, b ≠ P → H1 b = some u → H2 b = some u) → LamTab P lpos q H2 → zs'.Perm zs → zs'.Pairwise (fun x y => HT.kLess x.2 y.2 = true) → Q (.ref D) (upd H2 D (.lst (zs'.map fun z => V.ref z.1)))
theorem pe_sortKey {k : Nat} (he : PE X e te) (hg : Gl X "sorted") (hm : X.mg "sorted" = none) (hr : Room (k + 3) X.A) (hdef : defaultsOf params X.env = ([], [])) (hcl : closureFor scope X.env = pure []) (hcode : X.env.code = .ref c) (hK : codeHdIn X.K c P = true) (hB : X.base.BuiltinsAt X.mg P) (hgP : mainGlobals ≠ P)
    (S : FnScope [y] [y] scope) (hb : ∀ (pm cd ct : Value) (u : Value), bindArgs (kla_fn "<lambda>" (X.env.qual ++ "<lambda>") params body scope [] pm cd ct) ⟨[u], []⟩ = pure [(y, u)])
    (hbody : ∀ (f c' : Addr) (s : Shared) (H : Hp) (z : Addr × List Int), H z.1 = some (.lst (z.2.map V.int)) → ∃ t, PE (cxOf CX0 X.prog X.w X.K X.mg X.base [y] (X.env.qual ++ "<lambda>") scope f (.ref c') X.A.in1.in1 X.stack s H E0) body t ∧
      t (start [y] [.ref z.1]) H fun v H2 => ∃ p, v = .ref p ∧ H p = none ∧ H2 = upd H p (.tup [.int z.2.length, .ref z.1]))
    (hs1 : starEach [e] X.env = [(false, eval e X.env)] := by rfl) :
    PE X (.Call (.Name "sorted" p) [e] [⟨some "key", .Lambda params body scope lpos, kpos⟩] pos) (tSortKey P lpos (X.env.qual ++ "<lambda>") te) := by
  intro pins s σ H Q I h
  refine wpAny_Call_Name_kw (ld_blt I hg hm boot_sorted ?_ (by decide) (by decide))
  have ha : PA X [e] (tCons te tNil) := pa_cons he pa_nil hs1
  refine callWith_kw (thn (ha pos pins s σ H (fun vs H1 => match vs with
    | [x] => ∃ (l : Addr) (zs : List (Addr × List Int)), x = .ref l ∧ H1 l = some (.lst (zs.map fun z => V.ref z.1)) ∧ (∀ z ∈ zs, H1 z.1 = some (.lst (z.2.map V.int))) ∧ (zs.map (·.2)).Nodup ∧ zs.length ≤ 60 ∧ LamTab P lpos (X.env.qual ++ "<lambda>") H1 ∧
      ∀ (D : Addr) (zs' : List (Addr × List Int)) (H2 : Hp), H1 D = none → H2 D = none → (∀ b u, b ≠ P → H1 b = some u → H2 b = some u) → LamTab P lpos (X.env.qual ++ "<lambda>") H2 → zs'.Perm zs → zs'.Pairwise (fun x y => HT.kLess x.2 y.2 = true) → Q (.ref D) (upd H2 D (.lst (zs'.map fun z => V.ref z.1)))
    | _ => False) I h) fun us s1 ⟨vs, H1, I1, r1, q1⟩ => ?_) (by rw [hs1]; rfl) (by rw [hs1]; rfl)
  match vs, q1 with
  | [x], q1 =>
    obtain ⟨l, zs, rfl, hl, hz, nd, h60, hT, q⟩ := q1
    obtain ⟨u, rfl, rx⟩ := vals1 r1
    cases rx
    show wpAny _ _ (evalAll ((do let v ← eval (.Lambda params body scope lpos) X.env; standAt pos; pure v) :: [])) _ _ s1
    refine wpAny_evalAll_cons (wpAny_bind (lam_make I1 hdef hcl hcode hK hB hgP hT fun f c' H2 s2 pm ct I2 hL hfo hfn hsz up => wpAny_bind (wpAny_standAt (wpAny_pure ?_))))
    refine wpAny_evalAll_nil ?_
    have Lf := I1.late hsz
    have I3 : Inv X ((f, kla_obj "<lambda>" (X.env.qual ++ "<lambda>") params body scope [] pm c' ct) :: pins) σ H2 s2 := I2.pins_of fun p hp => by
      rcases List.mem_cons.mp hp with rfl | hp
      · exact ⟨hfo, hfn, Lf.lo, Lf.fs, fun v z => by cases z⟩
      · exact I2.pin p (List.mem_append_right _ hp)
    have hPl : ∀ b xs, H1 b = some (.lst xs) → b ≠ P := fun b xs e z => by
      rw [z] at e
      rcases hT with t | ⟨c2, t, _⟩
      · rw [t] at e; cases e
      · rw [t] at e; cases e
    have hr2 : Room (k + 1) X.A.in1.in1 := (hr.in1).in1
    show wpAny _ _ (call (.builtin "sorted") [.ref l] [(Str.ofString "key", .ref f)]) _ _ s2
    refine sorted_late I3 (up _ _ (hPl _ _ hl) hl) (fun z hzm => up _ _ (hPl _ _ (hz z hzm)) (hz z hzm)) nd h60 (by have := hr2.units; omega) (fun H' s' pins' z I' hf sm hzm => ?_) fun D H' zs' hD sm hn pm pw => ?_
    · have hL' : LamAt P lpos (X.env.qual ++ "<lambda>") H' c' := ⟨sm _ _ hL.1, sm _ _ hL.2⟩
      exact lam_turn (v := .ref z.1) I' hf hL' S hr2 (fun pm ct u => hb pm (.ref c') ct u) rfl (hbody f c' s' H' z (sm _ _ (up _ _ (hPl _ _ (hz z hzm)) (hz z hzm))))
    · refine q D zs' H' ?_ hn (fun b u hb e => sm _ _ (up b u hb e)) (.inr ⟨c', sm _ _ hL.1, sm _ _ hL.2⟩) pm pw
      cases e : H1 D with
      | none => rfl
      | some u =>
        by_cases hDP : D = P
        · rw [hDP, hL.1] at hD; cases hD
        · rw [up D u hDP e] at hD; cases hD
end
end L2
set_option Elab.async false
set_option linter.all false
set_option maxRecDepth 100000
set_option maxHeartbeats 4000000
namespace L2
open PySem PySem.Spec PyProof.Rows PySem.W
theorem law_callP {P : Program} {w : World} {K : Frag} {mg mb : Str → Option Value} {CX : CXT} {k : Nat} {fa a c T : Addr} {fd : FuncData} {x : Str} {sp : Sp} {s₁ : Shared} {vs : List Value} {ns : List Int}
    (KX : K.In s₁.heap) (hns : s₁.heap.Ns mainGlobals mg) (hb : s₁.heap.Ns builtinsNs mb) (hbb : ∀ x : Str, x ≠ "__name__" → mb x = bootBuiltins x) (hlim : s₁.heap.NoLimit) (hg : s₁.gens = #[])
    (hBM : ∃ bm ob, mg "__builtins__" = some (.ref bm) ∧ bm ≠ builtinsNs ∧ s₁.heap.get? bm = some ob ∧ ob.cls = .type "module" ∧ ob.dict = some builtinsNs ∧ ob.data = .plain)
    (hT : s₁.heap.get? T = some (tabObj #[])) (hKT : K.lookup T = none) (hcT : codeHdIn K c T = true)
    (ha : s₁.heap.get? a = some { cls := .type "list", data := .seq vs.toArray }) (hi : IntsAre vs ns) (hl : ns.length ≤ sizeLine) (hr : Room k callerA)
    (F : ∀ base : Heap, K.In base → base.Ns mainGlobals mg → base.BuiltinsAt mg T → FnOk P w K mg base CX k fa fd [x] sp) (hbind : ∀ (s : Shared) (u : Value), BindsTo s fd ⟨[u], []⟩ [(x, u)])
    (hsp : ∀ H : Hp, H T = some (.tbl #[]) → SqL K H a (ns.map V.int) → sp [.ref a] H (fun v _ => v = .bl true) fun _ _ _ => False)
    (hCX : ∀ H e s', CX [] H s₁ (fun _ _ _ => False) e s' → False) :
    codeAny (model P w) callerA (.call (.ref fa) ⟨[.ref a], []⟩) (fun r s' => r = .ok (.ret (.bool true)) ∧ OldK s₁.heap s'.heap ∧ s'.os = s₁.os ∧ AllBare s'.gens) s₁ := by
  have rv := vals_ints hi
  have lenV := hi.length
  have tabT : s₁.heap.TableAt c T #[] := (codeHd_of_K KX hcT).tab hT
  have core : ∀ H : Hp, H T = some (.tbl #[]) → SqL K H a (ns.map V.int) → HOk P w H s₁.heap → (∀ b, H b ≠ none → b = a ∨ b = T) → (∀ b, b ≠ T → H b = none ∨ ∃ o xs, H b = some (.frz o (.lst xs))) → (∀ b, H b ≠ none → K.lookup b = none) →
      codeAny (model P w) callerA (.call (.ref fa) ⟨[.ref a], []⟩) (fun r s' => r = .ok (.ret (.bool true)) ∧ OldK s₁.heap s'.heap ∧ s'.os = s₁.os ∧ AllBare s'.gens) s₁ := by
    intro H hHT hS hok hA hO hK
    have base_of : ∀ {b : Addr} {o : Obj}, s₁.heap.get? b = some o → H b = none → (hidT s₁.heap H).get? b = some o := fun e n => hidT_get e n
    have noA : ∀ {b : Addr} {o : Obj}, s₁.heap.get? b = some o → (∀ xs n, o.data ≠ .seq xs n) → (∀ ps, o.data ≠ .fields ps) → H b = none := fun {b o} e d1 d2 => by
      cases q : H b with
      | none => rfl
      | some u =>
        rcases hA b (by rw [q]; simp) with e' | e'
        · subst e'
          rw [ha] at e; cases e
          exact absurd rfl (d1 _ _)
        · subst e'
          rw [hT] at e; cases e
          exact absurd rfl (d2 _)
    have nsK : ∀ {b : Addr} {m : Str → Option Value}, s₁.heap.Ns b m → (hidT s₁.heap H).Ns b m := fun {b m} ⟨o, es, ep, e, d, r⟩ => ⟨o, es, ep, base_of e (noA e (fun xs n z => by rw [d] at z; cases z) (fun ps z => by rw [d] at z; cases z)), d, r⟩
    have hKb : K.In (hidT s₁.heap H) := fun b o e => base_of (KX b o e) (by
      cases q : H b with
      | none => rfl
      | some u => rw [hK b (by rw [q]; simp)] at e; cases e)
    have hM : Mod K mg (hidT s₁.heap H) := ⟨hKb, nsK hns, ⟨mb, nsK hb, hbb⟩, let ⟨mc, h1, h2⟩ := hlim; ⟨mc, nsK h1, h2⟩⟩
    have hBA : (hidT s₁.heap H).BuiltinsAt mg T := by
      obtain ⟨bm, ob, b1, b2, b3, b4, b5, b6⟩ := hBM
      refine ⟨bm, ob, b1, b2, fun z => ?_, fun z => ?_, base_of b3 (noA b3 (fun xs n z => by rw [b6] at z; cases z) (fun ps z => by rw [b6] at z; cases z)), b4, b5, b6⟩
      · obtain ⟨o, es, ep, e, hd, _⟩ := hns
        rw [z, e] at b3; cases b3
        rw [hd] at b6; cases b6
      · rw [z, hT] at b3; cases b3; cases b4
    have e0 : Env0 P w K mg (hidT s₁.heap H) callerA [] s₁ H := ⟨rfl, hM, fun b o e => of_hidT e, Nat.le_of_eq (hidT_size _ _), trivial, fun b hb => absurd (show b ∈ ([] : List Addr) from hb) (by simp), hok, .of_eq hg⟩
    refine codeAny_mono ((F _ hKb (nsK hns) hBA).run callerA [] s₁ H ⟨[.ref a], []⟩ [.ref a] [.ref a] _ _ hr e0 (hbind s₁ (.ref a)) (.cons rfl .nil) (hsp H hHT hS)) fun r s' h => ?_
    cases r with
    | error e => exact (hCX H e s' h).elim
    | ok fl =>
      cases fl with
      | next => exact False.elim h
      | brk => exact False.elim h
      | cont => exact False.elim h
      | ret u =>
        obtain ⟨v, H', os, bare, un, hok', r', q⟩ := h
        have q' : v = .bl true := q
        subst q'
        obtain rfl : u = Value.bool true := r'
        have oth : ∀ b o, b ≠ T → s₁.heap.get? b = some o → s'.heap.get? b = some o := fun b o hbT e => by
          cases q : H b with
          | none => exact un.keep b o e q (by intro z; exact absurd (show b ∈ ([] : List Addr) from z) (by simp)) (by simp)
          | some u =>
            rcases hO b hbT with z | ⟨ob, xs, z⟩
            · rw [q] at z; cases z
            · have z2 := un.frzs b ob _ z
              obtain ⟨e1, _⟩ := hok b _ z
              obtain ⟨e2, _⟩ := hok' b _ z2
              rw [e] at e1; cases e1
              exact e2
        obtain ⟨more, hm⟩ := un.tbls T _ hHT
        have hTm : s'.heap.get? T = some { cls := .none, data := .fields (#[] ++ more) } := hok' T _ hm
        refine ⟨rfl, ⟨fun b o e => ?_, fun b o e => ?_⟩, os, bare⟩
        · by_cases hbT : b = T
          · subst hbT
            rw [hT] at e; cases e
            exact .inr (.inl ⟨tabT.isCodeTable, rfl, #[], more, rfl, hTm⟩)
          · exact .inl (oth b o hbT e)
        · by_cases hbT : b = T
          · subst hbT; exact ⟨_, hTm⟩
          · exact ⟨o, oth b o hbT e⟩
  have hTa : T ≠ a := fun z => by rw [z, ha] at hT; cases hT
  cases hk : K.lookup a with
  | some o =>
    have e := KX a o hk
    rw [ha] at e
    cases e
    refine core (fun b => if b = T then some (.tbl #[]) else none) (if_pos rfl) (.inr ⟨_, vs.toArray, _, hk, rfl, rfl, rfl, by rw [List.size_toArray, lenV]; exact hl, by simpa using rv⟩) (fun b u z => ?_) (fun b z => ?_) (fun b hb => .inl (if_neg hb)) fun b z => ?_
    · by_cases hb : b = T
      · have z' := (if_pos hb).symm.trans z
        cases z'
        subst hb
        exact hT
      · have z' := (if_neg hb).symm.trans z
        cases z'
    · by_cases hb : b = T
      · exact .inr hb
      · exact absurd (if_neg hb) z
    · by_cases hb : b = T
      · rw [hb]; exact hKT
      · exact absurd (if_neg hb) z
  | none =>
    refine core (fun b => if b = a then some (.frz { cls := .type "list", data := .seq vs.toArray } (.lst (ns.map V.int))) else if b = T then some (.tbl #[]) else none) (by rw [if_neg hTa, if_pos rfl]) (.inl (.inr ⟨{ cls := .type "list", data := .seq vs.toArray }, if_pos rfl⟩)) (fun b u z => ?_) (fun b z => ?_) (fun b hb => ?_) fun b z => ?_
    · by_cases hb : b = a
      · have z' := (if_pos hb).symm.trans z
        cases z'
        subst hb
        exact ⟨ha, by rw [List.length_map]; exact hl, vs, _, rv, ha⟩
      · have z' := (if_neg hb).symm.trans z
        by_cases hb2 : b = T
        · have z2 := (if_pos hb2).symm.trans z'
          cases z2
          subst hb2
          exact hT
        · have z2 := (if_neg hb2).symm.trans z'
          cases z2
    · by_cases hb : b = a
      · exact .inl hb
      · by_cases hb2 : b = T
        · exact .inr hb2
        · exact absurd (by rw [if_neg hb, if_neg hb2]) z
    · by_cases hba : b = a
      · exact .inr ⟨_, _, if_pos hba⟩
      · exact .inl (by rw [if_neg hba, if_neg hb])
    · by_cases hb : b = a
      · rw [hb]; exact hk
      · by_cases hb2 : b = T
        · rw [hb2]; exact hKT
        · exact absurd (by rw [if_neg hb, if_neg hb2]) z
theorem walkP {l : PySem.W.OpenLaw} {n k : Nat} {q : Program} {loose : List Str} {XP : (Str → Option Value) → Heap → Prop} {YP : World → Heap → Prop} {d : DefRec} {K : Params → PySem.W.Frag} {sp : World → Sp} {x : Str} {c T : Addr}
    (hn : l.most = some n) (hn2 : n ≤ sizeLine) (hdf : d.params.defaults = []) (hr : Room k callerA)
    (hY : ∀ (w : World) (h : Heap), YP w h → (K w.params).In h) (hYT : ∀ (w : World) (h : Heap), YP w h → h.get? T = some (tabObj #[])) (hKT : ∀ w : World, (K w.params).lookup T = none) (hcT : ∀ w : World, codeHdIn (K w.params) c T = true)
    (F : ∀ (w : World) (mg : Str → Option Value) (fa : Addr) (h : Heap), (K w.params).In h → h.Ns mainGlobals mg → mg d.name = some (.ref fa) →
      ∃ fd : FuncData, (∀ (s : Shared) (u : Value), BindsTo s fd ⟨[u], []⟩ [(x, u)]) ∧
        ∀ base : Heap, (K w.params).In base → base.Ns mainGlobals mg → base.BuiltinsAt mg T → FnOk l.prog w (K w.params) mg base CX0 k fa fd [x] (sp w))
    (hsp : ∀ (w : World) (H : Hp) (a : Addr) (ns : List Int), ns.length ≤ n → H T = some (.tbl #[]) → SqL (K w.params) H a (ns.map V.int) → sp w [.ref a] H (fun v _ => v = .bl true) fun _ _ _ => False) :
    PySem.W.WalkO q loose XP YP l.row.toRowW d [] (fun f vs => PySem.call f vs) := by
  refine Att.attach_call hn hdf fun w s₀ s₁ mg mb fa o pm cd doc a vs ns G Y ho hd hcd hmg hobj hints hlen hg => ?_
  have KX := hY w _ Y
  obtain ⟨fd, hb, hF⟩ := F w mg fa _ KX G.T.g hmg
  exact law_callP KX G.T.g G.T.b G.T.builtins G.T.nolimit hg G.T.bmain (hYT w _ Y) (hKT w) (hcT w) hobj hints (Nat.le_trans hlen hn2) hr hF hb (fun H hO hS => hsp w H a ns hlen hO hS) fun H e s' h => h
end L2
set_option linter.all false
namespace Lw
def figs (b n : Nat) : List Int := if h : 2 ≤ b ∧ b ≤ n then figs b (n / b) ++ [((n % b : Nat) : Int)] else [(n : Int)]
termination_by n
decreasing_by exact Nat.div_lt_self (by omega) (by omega)
theorem figs_lt {b n : Nat} (h : n < b) : figs b n = [(n : Int)] := by
  rw [figs, dif_neg (by omega)]
theorem figs_ge {b n : Nat} (h2 : 2 ≤ b) (h : b ≤ n) : figs b n = figs b (n / b) ++ [((n % b : Nat) : Int)] := by
  rw [figs, dif_pos ⟨h2, h⟩]
def ahead (b r : Nat) : List Int := if r = 0 then [] else figs b r
theorem figs_step {b n : Nat} (h2 : 2 ≤ b) : figs b n = ahead b (n / b) ++ [((n % b : Nat) : Int)] := by
  unfold ahead
  by_cases h : n < b
  · rw [figs_lt h, if_pos (Nat.div_eq_of_lt h), Nat.mod_eq_of_lt h]; rfl
  · rw [figs_ge h2 (by omega), if_neg]
    have := Nat.div_pos (a := n) (b := b) (by omega) (by omega)
    omega
theorem ahead_step {b r : Nat} (h2 : 2 ≤ b) (hr : 0 < r) : ahead b r = ahead b (r / b) ++ [((r % b : Nat) : Int)] := by
  rw [← figs_step h2]
  unfold ahead
  rw [if_neg (by omega)]
theorem figs_len {b : Nat} (h2 : 2 ≤ b) : ∀ (m n : Nat), n < 2 ^ m → (figs b n).length ≤ m + 1
  | 0, n, h => by rw [figs_lt (by simp at h; omega)]; simp
  | m + 1, n, h => by
    by_cases hn : n < b
    · rw [figs_lt hn]; simp
    · rw [figs_ge h2 (by omega), List.length_append, List.length_singleton]
      have h3 : n / b ≤ n / 2 := Nat.div_le_div_left h2 (by omega)
      have h4 : n / 2 < 2 ^ m := by rw [Nat.pow_succ] at h; omega
      have := figs_len h2 m (n / b) (by omega)
      omega
theorem figs_ne {b n : Nat} : figs b n ≠ [] := by
  rw [figs]
  split
  · simp
  · simp
def tops (b : Nat) : Nat → Nat → List Int
  | 0, n => [((n / b ^ 0 : Nat) : Int)]
  | k + 1, n => ((n / b ^ (k + 1) : Nat) : Int) :: tops b k (n % b ^ (k + 1))
theorem tops_snoc {b : Nat} : ∀ (k n : Nat), tops b (k + 1) n = tops b k (n / b) ++ [((n % b : Nat) : Int)]
  | 0, n => by simp [tops]
  | k + 1, n => by
    rw [tops, tops_snoc k (n % b ^ (k + 2)), tops, List.cons_append]
    have e : b ^ (k + 1 + 1) = b * b ^ (k + 1) := by rw [Nat.pow_succ, Nat.mul_comm]
    have e1 : n % b ^ (k + 1 + 1) / b = n / b % b ^ (k + 1) := by rw [e, Nat.mod_mul_right_div_self]
    have e2 : n % b ^ (k + 1 + 1) % b = n % b := by rw [e, Nat.mod_mul_right_mod]
    have e3 : n / b ^ (k + 1 + 1) = n / b / b ^ (k + 1) := by rw [e, Nat.div_div_eq_div_mul]
    rw [e1, e2, e3]
theorem tops_figs {b : Nat} (h2 : 2 ≤ b) : ∀ (k n : Nat), n < b ^ (k + 1) → (k = 0 ∨ b ^ k ≤ n) → tops b k n = figs b n
  | 0, n, h, _ => by
    rw [figs_lt (by simpa using h)]; simp [tops]
  | k + 1, n, h, hk => by
    have hge : b ^ (k + 1) ≤ n := by
      rcases hk with z | z
      · omega
      · exact z
    have hb : b ≤ n := Nat.le_trans (by rw [Nat.pow_succ]; exact Nat.le_mul_of_pos_left b (Nat.pow_pos (by omega))) hge
    rw [tops_snoc, figs_ge h2 hb]
    have h3 : n / b < b ^ (k + 1) := by
      rw [Nat.div_lt_iff_lt_mul (by omega), ← Nat.pow_succ]; exact h
    have h4 : b ^ k ≤ n / b := by
      rw [Nat.le_div_iff_mul_le (by omega), ← Nat.pow_succ]; exact hge
    rw [tops_figs h2 k (n / b) h3 (.inr h4)]
theorem tops_len {b : Nat} : ∀ (k n : Nat), (tops b k n).length = k + 1
  | 0, n => rfl
  | k + 1, n => by rw [tops, List.length_cons, tops_len k]
end Lw
set_option linter.all false
namespace Lw
structure GoodFs (b : Nat) (ns : List Int) : Prop where
  ne : ns ≠ []
  len : ns.length ≤ 200
  fig : ∀ f ∈ ns, 0 ≤ f ∧ f < b
  first : ns.head? ≠ some 0 ∨ ns.length = 1
end Lw
set_option linter.all false
namespace Lw
def hasS (st fs : List Int) : Bool := (List.range fs.length).any fun k => decide ((fs.drop k).take st.length = st)
theorem hasS_iff {st fs : List Int} (h : st ≠ []) : hasS st fs = true ↔ ∃ k, (fs.drop k).take st.length = st := by
  unfold hasS
  simp only [List.any_eq_true, List.mem_range, decide_eq_true_eq]
  constructor
  · rintro ⟨k, _, e⟩; exact ⟨k, e⟩
  · rintro ⟨k, e⟩
    refine ⟨k, ?_, e⟩
    have hl := congrArg List.length e
    rw [List.length_take, List.length_drop] at hl
    have : 0 < st.length := List.length_pos_iff.mpr h
    omega
theorem hasS_short {st fs : List Int} (h : st ≠ []) : hasS st fs = (List.range ((fs.length : Int) - st.length + 1).toNat).any fun k => decide ((fs.drop k).take st.length = st) := by
  rw [Bool.eq_iff_iff, hasS_iff h]
  simp only [List.any_eq_true, List.mem_range, decide_eq_true_eq]
  constructor
  · rintro ⟨k, e⟩
    refine ⟨k, ?_, e⟩
    have hl := congrArg List.length e
    rw [List.length_take, List.length_drop] at hl
    have : 0 < st.length := List.length_pos_iff.mpr h
    omega
  · rintro ⟨k, _, e⟩; exact ⟨k, e⟩
def lacks (ls : List (List Int)) (fs : List Int) : Bool := !ls.any fun st => hasS st fs
end Lw
set_option linter.all false
namespace Lw
theorem hasS_pre {st fs gs : List Int} (h : st ≠ []) (q : hasS st fs = true) : hasS st (fs ++ gs) = true := by
  rw [hasS_iff h] at q ⊢
  obtain ⟨k, e⟩ := q
  refine ⟨k, ?_⟩
  have hl := congrArg List.length e
  rw [List.length_take, List.length_drop] at hl
  have hp : 0 < st.length := List.length_pos_iff.mpr h
  rw [List.drop_append_of_le_length (by omega), List.take_append_of_le_length (by rw [List.length_drop]; omega)]
  exact e
theorem lacks_pre {ls : List (List Int)} {fs gs : List Int} (ne : ∀ l ∈ ls, l ≠ []) (h : lacks ls (fs ++ gs) = true) : lacks ls fs = true := by
  unfold lacks at *
  rw [Bool.not_eq_true', List.any_eq_false] at h ⊢
  intro l hl q
  exact h l hl (hasS_pre (ne l hl) q)
end Lw
set_option linter.all false
namespace Lw
def begs (ls : List (List Int)) (fs : List Int) : Bool := ls.any fun st => decide (st.take fs.length = fs)
def tailS (ls : List (List Int)) : List Int → List Int
  | [] => []
  | x :: fs => if begs ls (x :: fs) then x :: fs else tailS ls fs
theorem tailS_skip {ls : List (List Int)} : ∀ (i : Nat) (fs : List Int), i ≤ fs.length → (∀ k, k < i → begs ls (fs.drop k) = false) → tailS ls fs = tailS ls (fs.drop i)
  | 0, _, _, _ => rfl
  | i + 1, [], h, _ => by simp at h
  | i + 1, x :: fs, h, q => by
    have h0 := q 0 (by omega)
    rw [List.drop_zero] at h0
    rw [tailS, if_neg (by rw [h0]; decide), List.drop_succ_cons]
    exact tailS_skip i fs (by simpa using h) fun k hk => by have := q (k + 1) (by omega); rwa [List.drop_succ_cons] at this
theorem tailS_here {ls : List (List Int)} {fs : List Int} (h : begs ls fs = true) : tailS ls fs = fs := by
  cases fs with
  | nil => rfl
  | cons x fs => rw [tailS, if_pos h]
theorem tailS_at {ls : List (List Int)} {fs : List Int} {i : Nat} (hi : i ≤ fs.length) (h : ∀ k, k < i → begs ls (fs.drop k) = false) (q : begs ls (fs.drop i) = true) : tailS ls fs = fs.drop i := by
  rw [tailS_skip i fs hi h, tailS_here q]
theorem tailS_none {ls : List (List Int)} {fs : List Int} (h : ∀ k, k < fs.length → begs ls (fs.drop k) = false) : tailS ls fs = [] := by
  rw [tailS_skip fs.length fs (Nat.le_refl _) h, List.drop_length]; rfl
end Lw
set_option linter.all false
namespace Lw
def isSt (ls : List (List Int)) (x : List Int) : Prop := x = [] ∨ ∃ st ∈ ls, ∃ k, 1 ≤ k ∧ k < st.length ∧ x = st.take k ∧ lacks ls x = true
structure StandsL (ls : List (List Int)) (xs : List (List Int)) : Prop where
  mem : ∀ x, x ∈ xs ↔ isSt ls x
  up : xs.Pairwise fun x y => HT.kLess x y = true
theorem StandsL.nodup {ls xs : List (List Int)} (h : StandsL ls xs) : xs.Nodup := by
  refine h.up.imp fun {x y} q z => ?_
  rw [z, HT.kLess_irrefl] at q
  cases q
theorem isSt_len {ls : List (List Int)} (h : ∀ st ∈ ls, st.length ≤ 4) {x : List Int} (q : isSt ls x) : x.length ≤ 3 := by
  rcases q with rfl | ⟨st, hst, k, h1, h2, rfl, _⟩
  · decide
  · have := h st hst
    rw [List.length_take]; omega
end Lw
set_option linter.all false
namespace Lw
theorem begs_init {ls : List (List Int)} {y : List Int} {x : Int} (h : begs ls (y ++ [x]) = true) : begs ls y = true := by
  unfold begs at *
  rw [List.any_eq_true] at h ⊢
  obtain ⟨st, hst, q⟩ := h
  refine ⟨st, hst, decide_eq_true ?_⟩
  have q := of_decide_eq_true q
  have e := congrArg (List.take y.length) q
  rw [List.take_left, List.take_take, List.length_append] at e
  rw [Nat.min_eq_left (by omega)] at e
  exact e
theorem tailS_spec {ls : List (List Int)} : ∀ fs : List Int, ∃ j, j ≤ fs.length ∧ tailS ls fs = fs.drop j ∧ (∀ k, k < j → begs ls (fs.drop k) = false) ∧ (j < fs.length → begs ls (fs.drop j) = true)
  | [] => ⟨0, Nat.le_refl _, rfl, fun k hk => by omega, fun h => by simp at h⟩
  | x :: fs => by
    by_cases h : begs ls (x :: fs) = true
    · exact ⟨0, Nat.zero_le _, by rw [tailS, if_pos h]; rfl, fun k hk => by omega, fun _ => h⟩
    · obtain ⟨j, h1, h2, h3, h4⟩ := tailS_spec (ls := ls) fs
      refine ⟨j + 1, by rw [List.length_cons]; omega, by rw [tailS, if_neg h, h2, List.drop_succ_cons], fun k hk => ?_, fun hj => by rw [List.drop_succ_cons]; exact h4 (by rw [List.length_cons] at hj; omega)⟩
      cases k with
      | zero => rw [List.drop_zero]; simpa using h
      | succ k => rw [List.drop_succ_cons]; exact h3 k (by omega)
theorem tailS_step {ls : List (List Int)} (fs : List Int) (x : Int) : tailS ls (tailS ls fs ++ [x]) = tailS ls (fs ++ [x]) := by
  obtain ⟨j, h1, h2, h3, _⟩ := tailS_spec (ls := ls) fs
  rw [h2, tailS_skip j (fs ++ [x]) (by rw [List.length_append]; omega) (fun k hk => ?_), List.drop_append_of_le_length h1]
  rw [List.drop_append_of_le_length (by omega)]
  cases e : begs ls (fs.drop k ++ [x]) with
  | false => rfl
  | true => rw [← h3 k hk, begs_init e]
theorem hasS_drop {st fs : List Int} (ne : st ≠ []) {j : Nat} (h : hasS st (fs.drop j) = true) : hasS st fs = true := by
  rw [hasS_iff ne] at h ⊢
  obtain ⟨k, e⟩ := h
  exact ⟨j + k, by rw [← List.drop_drop]; exact e⟩
theorem lacks_drop {ls : List (List Int)} (ne : ∀ l ∈ ls, l ≠ []) {fs : List Int} (j : Nat) (h : lacks ls fs = true) : lacks ls (fs.drop j) = true := by
  unfold lacks at *
  rw [Bool.not_eq_true', List.any_eq_false] at h ⊢
  intro st hst q
  exact h st hst (hasS_drop (ne st hst) q)
theorem lacks_step {ls : List (List Int)} (ne : ∀ l ∈ ls, l ≠ []) {fs : List Int} (x : Int) (h : lacks ls fs = true) : lacks ls (tailS ls fs ++ [x]) = lacks ls (fs ++ [x]) := by
  obtain ⟨j, h1, h2, h3, _⟩ := tailS_spec (ls := ls) fs
  rw [h2, ← List.drop_append_of_le_length h1]
  rw [Bool.eq_iff_iff]
  constructor
  · intro q
    unfold lacks at *
    rw [Bool.not_eq_true', List.any_eq_false] at h q ⊢
    intro st hst hs
    rw [hasS_iff (ne st hst)] at hs
    obtain ⟨k, e⟩ := hs
    have hp : 0 < st.length := List.length_pos_iff.mpr (ne st hst)
    have hl := congrArg List.length e
    rw [List.length_take, List.length_drop, List.length_append, List.length_singleton] at hl
    by_cases hin : k + st.length ≤ fs.length
    · refine h st hst ((hasS_iff (ne st hst)).mpr ⟨k, ?_⟩)
      rw [List.drop_append_of_le_length (by omega), List.take_append_of_le_length (by rw [List.length_drop]; omega)] at e
      exact e
    · have hk : k + st.length = fs.length + 1 := by omega
      rw [List.take_of_length_le (by rw [List.length_drop, List.length_append, List.length_singleton]; omega)] at e
      by_cases hkj : j ≤ k
      · refine q st hst ((hasS_iff (ne st hst)).mpr ⟨k - j, ?_⟩)
        rw [List.drop_drop, show j + (k - j) = k by omega, e, List.take_of_length_le (Nat.le_refl _)]
      · have h3k := h3 k (by omega)
        rw [List.drop_append_of_le_length (by omega)] at e
        unfold begs at h3k
        rw [List.any_eq_false] at h3k
        refine h3k st hst (decide_eq_true ?_)
        rw [← e, List.take_left]
  · intro q
    exact lacks_drop ne j q
theorem tailS_isSt {ls : List (List Int)} (ne : ∀ l ∈ ls, l ≠ []) {fs : List Int} (h : lacks ls fs = true) : isSt ls (tailS ls fs) := by
  obtain ⟨j, h1, h2, _, h4⟩ := tailS_spec (ls := ls) fs
  rw [h2]
  by_cases hj : j < fs.length
  · have q := h4 hj
    unfold begs at q
    rw [List.any_eq_true] at q
    obtain ⟨st, hst, q⟩ := q
    have q := of_decide_eq_true q
    have hl := congrArg List.length q
    rw [List.length_take] at hl
    have hlen : (fs.drop j).length = fs.length - j := List.length_drop ..
    have hlk := lacks_drop ne j h
    refine .inr ⟨st, hst, (fs.drop j).length, by omega, ?_, q.symm, hlk⟩
    by_cases hlt : (fs.drop j).length < st.length
    · exact hlt
    · exfalso
      have hle : st.length ≤ (fs.drop j).length := by omega
      rw [List.take_of_length_le hle] at q
      unfold lacks at hlk
      rw [Bool.not_eq_true', List.any_eq_false] at hlk
      refine hlk st hst ((hasS_iff (ne st hst)).mpr ⟨0, ?_⟩)
      rw [List.drop_zero, ← q, List.take_of_length_le (Nat.le_refl _)]
  · left
    exact List.drop_of_length_le (by omega)
end Lw
set_option linter.all false
namespace Lw
theorem StandsL.first {ls xs : List (List Int)} (a : StandsL ls xs) : ∃ r, xs = [] :: r := by
  have h0 : ([] : List Int) ∈ xs := (a.mem []).mpr (.inl rfl)
  cases xs with
  | nil => cases h0
  | cons x r =>
    rcases List.mem_cons.mp h0 with e | e
    · exact ⟨r, by rw [e]⟩
    · have := (List.pairwise_cons.mp a.up).1 [] e
      unfold HT.kLess at this
      by_cases hl : x.length = ([] : List Int).length
      · have : x = [] := List.eq_nil_of_length_eq_zero hl
        exact ⟨r, by rw [this]⟩
      · rw [if_neg hl] at this
        have := of_decide_eq_true this
        simp at this
end Lw
set_option linter.all false
namespace Lw
def cnt (ls : List (List Int)) (b : Nat) : Nat → List Int → Nat
  | 0, _ => 1
  | t + 1, x => ((List.range b).map fun (c : Nat) => if lacks ls (x ++ [(c : Int)]) = true then cnt ls b t (tailS ls (x ++ [(c : Int)])) else 0).sum
def padF (b : Nat) : Nat → Nat → List Int
  | 0, _ => []
  | t + 1, r => ((r / b ^ t : Nat) : Int) :: padF b t (r % b ^ t)
def many (p : Nat → Bool) : Nat → Nat
  | 0 => 0
  | n + 1 => many p n + (if p n = true then 1 else 0)
theorem many_congr {p q : Nat → Bool} : ∀ {N : Nat}, (∀ n, n < N → p n = q n) → many p N = many q N
  | 0, _ => rfl
  | N + 1, h => by rw [many, many, many_congr (N := N) fun n hn => h n (by omega), h N (by omega)]
theorem many_none {p : Nat → Bool} : ∀ {N : Nat}, (∀ n, n < N → p n = false) → many p N = 0
  | 0, _ => rfl
  | N + 1, h => by rw [many, many_none (N := N) fun n hn => h n (by omega), h N (by omega)]; rfl
theorem many_add (p : Nat → Bool) (A : Nat) : ∀ B : Nat, many p (A + B) = many p A + many (fun n => p (A + n)) B
  | 0 => rfl
  | B + 1 => by rw [← Nat.add_assoc, many, many, many_add p A B, Nat.add_assoc]
theorem many_mul (p : Nat → Bool) (B : Nat) : ∀ A : Nat, many p (A * B) = ((List.range A).map fun c => many (fun r => p (c * B + r)) B).sum
  | 0 => by simp [many]
  | A + 1 => by
    rw [Nat.succ_mul, many_add, many_mul p B A, List.range_succ, List.map_append, List.sum_append]
    simp
theorem pad_cons {b t c r : Nat} (hr : r < b ^ t) : padF b (t + 1) (c * b ^ t + r) = (c : Int) :: padF b t r := by
  have h0 : 0 < b ^ t := by omega
  rw [padF, Nat.add_comm, Nat.add_mul_div_right _ _ h0, Nat.div_eq_of_lt hr, Nat.zero_add, Nat.add_mul_mod_self_right, Nat.mod_eq_of_lt hr]
theorem map_sum_congr {f g : Nat → Nat} : ∀ {N : Nat}, (∀ c, c < N → f c = g c) → ((List.range N).map f).sum = ((List.range N).map g).sum := by
  intro N h
  congr 1
  apply List.map_congr_left
  intro c hc
  exact h c (List.mem_range.mp hc)
theorem cnt_part {ls : List (List Int)} (ne : ∀ l ∈ ls, l ≠ []) {b t : Nat} (ih : ∀ x, lacks ls x = true → many (fun r => lacks ls (x ++ padF b t r)) (b ^ t) = cnt ls b t (tailS ls x)) {x : List Int} (c : Nat) :
    many (fun r => lacks ls (x ++ padF b (t + 1) (c * b ^ t + r))) (b ^ t) = if lacks ls (x ++ [(c : Int)]) = true then cnt ls b t (tailS ls (x ++ [(c : Int)])) else 0 := by
  have e1 : many (fun r => lacks ls (x ++ padF b (t + 1) (c * b ^ t + r))) (b ^ t) = many (fun r => lacks ls (x ++ [(c : Int)] ++ padF b t r)) (b ^ t) := by
    apply many_congr
    intro r hr
    show lacks ls _ = lacks ls _
    rw [pad_cons hr, List.append_assoc]
    rfl
  rw [e1]
  by_cases h : lacks ls (x ++ [(c : Int)]) = true
  · rw [if_pos h, ih _ h]
  · rw [if_neg h]
    apply many_none
    intro r _
    cases hc : lacks ls (x ++ [(c : Int)] ++ padF b t r) with
    | false => rfl
    | true => exact absurd (lacks_pre ne hc) h
theorem cnt_pad {ls : List (List Int)} (ne : ∀ l ∈ ls, l ≠ []) {b : Nat} : ∀ (t : Nat) (x : List Int), lacks ls x = true → many (fun r => lacks ls (x ++ padF b t r)) (b ^ t) = cnt ls b t (tailS ls x)
  | 0, x, h => by
    rw [Nat.pow_zero, many, many, cnt, padF, List.append_nil, if_pos h]
  | t + 1, x, h => by
    rw [Nat.pow_succ', many_mul, cnt]
    apply map_sum_congr
    intro c _
    rw [cnt_part ne (cnt_pad ne t), lacks_step ne _ h, tailS_step]
def gd (ls : List (List Int)) (b n : Nat) : Bool := lacks ls (figs b n)
theorem pad_tops {b : Nat} : ∀ (t n : Nat), padF b (t + 1) n = tops b t n
  | 0, n => by simp [padF, tops]
  | t + 1, n => by rw [padF, pad_tops t, tops]
theorem figs_pad {b t c r : Nat} (h2 : 2 ≤ b) (h1 : 1 ≤ c) (hc : c < b) (hr : r < b ^ t) : figs b (c * b ^ t + r) = (c : Int) :: padF b t r := by
  rw [← pad_cons hr, pad_tops]
  refine (tops_figs h2 t _ ?_ (.inr ?_)).symm
  · rw [Nat.pow_succ']
    have : (c + 1) * b ^ t ≤ b * b ^ t := Nat.mul_le_mul_right _ hc
    rw [Nat.succ_mul] at this
    omega
  · have : 1 * b ^ t ≤ c * b ^ t := Nat.mul_le_mul_right _ h1
    omega
def cntO (ls : List (List Int)) (b : Nat) : Nat → Nat
  | 0 => if lacks ls [0] = true then 1 else 0
  | t + 1 => ((List.range b).map fun (c : Nat) => if c = 0 then cntO ls b t else if lacks ls [(c : Int)] = true then cnt ls b t (tailS ls [(c : Int)]) else 0).sum
theorem cntO_part {ls : List (List Int)} (ne : ∀ l ∈ ls, l ≠ []) {b t c : Nat} (h2 : 2 ≤ b) (h1 : 1 ≤ c) (hc : c < b) : many (fun r => gd ls b (c * b ^ t + r)) (b ^ t) = if lacks ls [(c : Int)] = true then cnt ls b t (tailS ls [(c : Int)]) else 0 := by
  have e := cnt_part (x := []) ne (b := b) (t := t) (cnt_pad ne t) c
  rw [List.nil_append] at e
  rw [← e]
  apply many_congr
  intro r hr
  show gd ls b _ = lacks ls _
  rw [gd, figs_pad h2 h1 hc hr, List.nil_append, pad_cons hr]
theorem cntO_many {ls : List (List Int)} (ne : ∀ l ∈ ls, l ≠ []) {b : Nat} (h2 : 2 ≤ b) : ∀ t : Nat, cntO ls b t = many (gd ls b) (b ^ t)
  | 0 => by
    rw [Nat.pow_zero, many, many, cntO, Nat.zero_add]
    unfold gd
    rw [figs_lt (show 0 < b by omega)]
    rfl
  | t + 1 => by
    rw [Nat.pow_succ', many_mul, cntO]
    apply map_sum_congr
    intro c hc
    by_cases h0 : c = 0
    · subst h0
      rw [if_pos rfl, cntO_many ne h2 t]
      apply many_congr
      intro r _
      rw [Nat.zero_mul, Nat.zero_add]
    · rw [if_neg h0, cntO_part ne h2 (by omega) hc]
end Lw
set_option linter.all false
namespace Lw
theorem pigeon {α : Type} [DecidableEq α] : ∀ (xs ws : List α), (∀ x ∈ xs, x ∈ ws) → ws.length < xs.length → ∃ (i j : Nat) (x : α), i < j ∧ xs[i]? = some x ∧ xs[j]? = some x
  | [], ws, _, h => by simp at h
  | x :: xs, ws, hm, h => by
    by_cases hx : x ∈ xs
    · obtain ⟨j, hj⟩ := List.getElem?_of_mem hx
      exact ⟨0, j + 1, x, by omega, rfl, by simpa using hj⟩
    · have hxw := hm x List.mem_cons_self
      obtain ⟨i, j, z, hij, h1, h2⟩ := pigeon xs (ws.erase x) (fun y hy => (List.mem_erase_of_ne (fun e : y = x => hx (by rw [← e]; exact hy))).mpr (hm y (List.mem_cons_of_mem _ hy))) (by
        rw [List.length_erase_of_mem hxw]
        rw [List.length_cons] at h
        have : 0 < ws.length := List.length_pos_of_mem hxw
        omega)
      exact ⟨i + 1, j + 1, z, by omega, by simpa using h1, by simpa using h2⟩
theorem figs_size {b n k : Nat} (h2 : 2 ≤ b) (hn : n < b ^ (k + 1)) (h : k = 0 ∨ b ^ k ≤ n) : (figs b n).length = k + 1 := by
  rw [← tops_figs h2 k n hn h, tops_len]
theorem size_ex {b : Nat} (h2 : 2 ≤ b) (n : Nat) : ∃ k, n < b ^ (k + 1) ∧ (k = 0 ∨ b ^ k ≤ n) := by
  have key : ∀ K : Nat, n < b ^ (K + 1) → ∃ k, n < b ^ (k + 1) ∧ (k = 0 ∨ b ^ k ≤ n) := by
    intro K
    induction K with
    | zero => intro h; exact ⟨0, h, .inl rfl⟩
    | succ K ih =>
      intro h
      by_cases q : n < b ^ (K + 1)
      · exact ih q
      · exact ⟨K + 1, h, .inr (by omega)⟩
  refine key n ?_
  have : n < 2 ^ n := Nat.lt_two_pow_self
  have h3 : 2 ^ n ≤ b ^ n := Nat.pow_le_pow_left h2 n
  have h4 : b ^ n ≤ b ^ (n + 1) := Nat.pow_le_pow_right (by omega) (Nat.le_succ n)
  omega
theorem size_iff {b n k : Nat} (h2 : 2 ≤ b) : (figs b n).length = k + 1 ↔ n < b ^ (k + 1) ∧ (k = 0 ∨ b ^ k ≤ n) := by
  refine ⟨fun h => ?_, fun h => figs_size h2 h.1 h.2⟩
  obtain ⟨m, h1, h3⟩ := size_ex h2 n
  have e := figs_size h2 h1 h3
  rw [h] at e
  obtain rfl : k = m := by omega
  exact ⟨h1, h3⟩
end Lw
set_option linter.all false
namespace Lw
def stepC (ls : List (List Int)) (b t : Nat) : Option (List Int) → Nat → Nat
  | some x, c => if lacks ls (x ++ [(c : Int)]) = true then cnt ls b t (tailS ls (x ++ [(c : Int)])) else 0
  | none, c => if c = 0 then cntO ls b t else if lacks ls [(c : Int)] = true then cnt ls b t (tailS ls [(c : Int)]) else 0
def under (ls : List (List Int)) (b t : Nat) (o : Option (List Int)) (s : Nat) : Nat := ((List.range s).map (stepC ls b t o)).sum
theorem under_zero (ls : List (List Int)) (b t : Nat) (o : Option (List Int)) : under ls b t o 0 = 0 := rfl
theorem under_succ (ls : List (List Int)) (b t : Nat) (o : Option (List Int)) (s : Nat) : under ls b t o (s + 1) = under ls b t o s + stepC ls b t o s := by
  unfold under
  rw [List.range_succ, List.map_append, List.sum_append]
  simp
def Rep (ls : List (List Int)) (b m : Nat) (o : Option (List Int)) : Prop := (m = 0 ∧ o = none) ∨ (1 ≤ m ∧ gd ls b m = true ∧ o = some (tailS ls (figs b m)))
theorem figs_moreN {b m c : Nat} (h2 : 2 ≤ b) (h1 : 1 ≤ m) (hc : c < b) : figs b (m * b + c) = figs b m ++ [(c : Int)] := by
  have hge : b ≤ m * b + c := by
    have : 1 * b ≤ m * b := Nat.mul_le_mul_right b h1
    omega
  rw [figs_ge h2 hge]
  have e1 : (m * b + c) / b = m := by rw [Nat.add_comm, Nat.add_mul_div_right _ _ (by omega), Nat.div_eq_of_lt hc, Nat.zero_add]
  have e2 : (m * b + c) % b = c := by rw [Nat.add_comm, Nat.add_mul_mod_self_right, Nat.mod_eq_of_lt hc]
  rw [e1, e2]
theorem go_on {b m c : Nat} (h2 : 2 ≤ b) (h1 : 1 ≤ m) : 1 ≤ m * b + c := by
  have : 1 * b ≤ m * b := Nat.mul_le_mul_right b h1
  omega
theorem figs_padM {b m : Nat} (h2 : 2 ≤ b) (h1 : 1 ≤ m) : ∀ (t r : Nat), r < b ^ t → figs b (m * b ^ t + r) = figs b m ++ padF b t r
  | 0, r, hr => by
    have : r = 0 := by rw [Nat.pow_zero] at hr; omega
    subst this
    rw [Nat.pow_zero, Nat.mul_one, Nat.add_zero, padF, List.append_nil]
  | t + 1, r, hr => by
    have hp : 0 < b ^ t := Nat.pow_pos (by omega)
    have hc : r / b ^ t < b := by
      rw [Nat.div_lt_iff_lt_mul hp]
      rw [Nat.pow_succ', ] at hr
      exact hr
    have hm : r % b ^ t < b ^ t := Nat.mod_lt _ hp
    have e : m * b ^ (t + 1) + r = (m * b + r / b ^ t) * b ^ t + r % b ^ t := by
      have h := Nat.div_add_mod r (b ^ t)
      rw [Nat.pow_succ', Nat.add_mul, Nat.mul_assoc, Nat.add_assoc, Nat.mul_comm (r / b ^ t), h]
    have h1' : 1 ≤ m * b + r / b ^ t := go_on h2 h1
    rw [e, figs_padM h2 h1' t _ hm, figs_moreN h2 h1 hc, padF, List.append_assoc]
    rfl
theorem stepC_many {ls : List (List Int)} (ne : ∀ l ∈ ls, l ≠ []) {b m : Nat} {o : Option (List Int)} (h2 : 2 ≤ b) (R : Rep ls b m o) (t : Nat) {c : Nat} (hc : c < b) : stepC ls b t o c = many (fun r => gd ls b ((m * b + c) * b ^ t + r)) (b ^ t) := by
  rcases R with ⟨rfl, rfl⟩ | ⟨h1, hg, rfl⟩
  · rw [Nat.zero_mul, Nat.zero_add]
    show (if c = 0 then _ else _) = _
    by_cases h0 : c = 0
    · subst h0
      rw [if_pos rfl, cntO_many ne h2]
      apply many_congr
      intro r _
      rw [Nat.zero_mul, Nat.zero_add]
    · rw [if_neg h0, cntO_part ne h2 (by omega) hc]
  · have e := cnt_part (x := figs b m) ne (b := b) (t := t) (cnt_pad ne t) c
    show (if lacks ls (tailS ls (figs b m) ++ [(c : Int)]) = true then cnt ls b t (tailS ls (tailS ls (figs b m) ++ [(c : Int)])) else 0) = _
    rw [lacks_step ne _ hg, tailS_step, ← e]
    apply many_congr
    intro r hr
    show lacks ls _ = gd ls b _
    rw [gd, figs_padM h2 (go_on h2 h1) t r hr, figs_moreN h2 h1 hc, pad_cons hr, List.append_assoc]
    rfl
theorem under_many {ls : List (List Int)} (ne : ∀ l ∈ ls, l ≠ []) {b m : Nat} {o : Option (List Int)} (h2 : 2 ≤ b) (R : Rep ls b m o) (t : Nat) : ∀ {s : Nat}, s ≤ b → many (gd ls b) (m * b ^ (t + 1)) + under ls b t o s = many (gd ls b) ((m * b + s) * b ^ t)
  | 0, _ => by rw [under_zero, Nat.add_zero, Nat.pow_succ', show (m * b + 0) * b ^ t = m * (b * b ^ t) by rw [Nat.add_zero, Nat.mul_assoc]]
  | s + 1, hs => by
    rw [under_succ, ← Nat.add_assoc, under_many ne h2 R t (s := s) (by omega), stepC_many ne h2 R t (show s < b by omega), ← Nat.add_assoc, Nat.succ_mul (m * b + s), many_add]
theorem Rep.step {ls : List (List Int)} (ne : ∀ l ∈ ls, l ≠ []) {b m : Nat} {o : Option (List Int)} (h2 : 2 ≤ b) (R : Rep ls b m o) {c : Nat} (hc : c < b) :
    (o = none ∧ c = 0 ∧ Rep ls b (m * b + c) none) ∨ (¬ (o = none ∧ c = 0) ∧ ((lacks ls (o.getD [] ++ [(c : Int)]) = true ∧ Rep ls b (m * b + c) (some (tailS ls (o.getD [] ++ [(c : Int)])))) ∨ (lacks ls (o.getD [] ++ [(c : Int)]) = false ∧ 1 ≤ m * b + c ∧ gd ls b (m * b + c) = false))) := by
  rcases R with ⟨rfl, rfl⟩ | ⟨h1, hg, rfl⟩
  · by_cases h0 : c = 0
    · left; exact ⟨rfl, h0, .inl ⟨by rw [h0]; omega, rfl⟩⟩
    · right
      refine ⟨fun z => h0 z.2, ?_⟩
      rw [Nat.zero_mul, Nat.zero_add]
      show (lacks ls [(c : Int)] = true ∧ _) ∨ (lacks ls [(c : Int)] = false ∧ _)
      have eg : gd ls b c = lacks ls [(c : Int)] := by unfold gd; rw [figs_lt hc]
      cases hl : lacks ls [(c : Int)] with
      | true => left; exact ⟨rfl, .inr ⟨by omega, by rw [eg]; exact hl, by rw [figs_lt hc]; rfl⟩⟩
      | false => right; exact ⟨rfl, by omega, by rw [eg]; exact hl⟩
  · right
    refine ⟨fun z => (nomatch z.1), ?_⟩
    have hm : 1 ≤ m * b + c := go_on h2 h1
    show (lacks ls (tailS ls (figs b m) ++ [(c : Int)]) = true ∧ Rep ls b (m * b + c) (some (tailS ls (tailS ls (figs b m) ++ [(c : Int)])))) ∨ (lacks ls (tailS ls (figs b m) ++ [(c : Int)]) = false ∧ _)
    rw [lacks_step ne _ hg, tailS_step]
    have eg : gd ls b (m * b + c) = lacks ls (figs b m ++ [(c : Int)]) := by unfold gd; rw [figs_moreN h2 h1 hc]
    cases hl : lacks ls (figs b m ++ [(c : Int)]) with
    | true => left; exact ⟨rfl, .inr ⟨hm, by rw [eg]; exact hl, by rw [figs_moreN h2 h1 hc]⟩⟩
    | false => right; exact ⟨rfl, hm, by rw [eg]; exact hl⟩
theorem bad_on {ls : List (List Int)} (ne : ∀ l ∈ ls, l ≠ []) {b m : Nat} (h2 : 2 ≤ b) (h1 : 1 ≤ m) (hg : gd ls b m = false) (t : Nat) {r : Nat} (hr : r ≤ b ^ t) : many (gd ls b) (m * b ^ t + r) = many (gd ls b) (m * b ^ t) := by
  rw [many_add, many_none (N := r)]
  · omega
  intro k hk
  show gd ls b _ = false
  cases hc : gd ls b (m * b ^ t + k) with
  | false => rfl
  | true =>
    unfold gd at hc hg
    rw [figs_padM h2 h1 t k (by omega)] at hc
    rw [lacks_pre ne hc] at hg
    cases hg
end Lw
set_option linter.all false
namespace Lw
theorem padF_get {b : Nat} : ∀ {t n k : Nat}, k < t → n < b ^ t → (padF b t n)[k]? = some (((n / b ^ (t - 1 - k)) % b : Nat) : Int)
  | 0, _, _, hk, _ => by omega
  | t + 1, n, 0, _, hn => by
    have : n / b ^ t < b := by
      rw [Nat.pow_succ'] at hn
      rcases Nat.eq_zero_or_pos (b ^ t) with h | h
      · rw [h] at hn; omega
      · rw [Nat.div_lt_iff_lt_mul h]; exact hn
    rw [padF, List.getElem?_cons_zero, show t + 1 - 1 - 0 = t by omega, Nat.mod_eq_of_lt this]
  | t + 1, n, k + 1, hk, hn => by
    have hb : 0 < b := by
      rcases Nat.eq_zero_or_pos b with h | h
      · subst h; rw [Nat.zero_pow (by omega)] at hn; omega
      · exact h
    rw [padF, List.getElem?_cons_succ, padF_get (by omega) (Nat.mod_lt _ (Nat.pow_pos hb))]
    have e : t + 1 - 1 - (k + 1) = t - 1 - k := by omega
    rw [e]
    generalize hj : t - 1 - k = j
    obtain ⟨q, hq⟩ : ∃ q, t = j + (q + 1) := ⟨t - j - 1, by omega⟩
    rw [hq, Nat.pow_add, Nat.mod_mul_right_div_self, Nat.pow_succ', Nat.mod_mul_right_mod]
theorem figs_get {b n N k : Nat} (h2 : 2 ≤ b) (hN : (figs b n).length = N) (hk : k < N) : (figs b n)[k]? = some (((n / b ^ (N - 1 - k)) % b : Nat) : Int) := by
  obtain ⟨K, rfl⟩ : ∃ K, N = K + 1 := ⟨N - 1, by omega⟩
  obtain ⟨h1, h3⟩ := (size_iff h2).mp hN
  rw [← tops_figs h2 K n h1 h3, ← pad_tops]
  exact padF_get hk h1
theorem figs_lt_pow {b n N : Nat} (h2 : 2 ≤ b) (hN : (figs b n).length = N) : n < b ^ N := by
  cases N with
  | zero => exact absurd (List.length_eq_zero_iff.mp hN) figs_ne
  | succ K => exact ((size_iff h2).mp hN).1
theorem next_top {b n t : Nat} (hb : 0 < b) : n / b ^ t = n / b ^ (t + 1) * b + (n / b ^ t) % b := by
  have h := Nat.div_add_mod (n / b ^ t) b
  rw [Nat.div_div_eq_div_mul, ← Nat.pow_succ, Nat.mul_comm] at h
  exact h.symm
end Lw
set_option linter.all false
namespace Lw
end Lw
set_option linter.all false
namespace Lw
end Lw
set_option Elab.async false
set_option linter.all false
set_option maxRecDepth 100000
namespace Lw
open PySem L2 PyProof.Rows
def top (i : Nat) : Stmt := PySem.Challenge.pw_lackstretch_k36_whole_there_and_back.main.body.getD i (.Pass ⟨0, 0, 0, 0⟩)
abbrev s__wall : Stmt := top 0
abbrev s_is_whole : Stmt := top 13
abbrev s_is_number : Stmt := top 14
abbrev s_is_base : Stmt := top 15
abbrev s_is_figure : Stmt := top 16
abbrev s_are_figures : Stmt := top 17
abbrev s_is_stretch : Stmt := top 18
abbrev s_is_rising : Stmt := top 19
abbrev s_is_bad_list : Stmt := top 20
abbrev s_is_rule : Stmt := top 21
abbrev s_check_base : Stmt := top 22
abbrev s_check_number : Stmt := top 23
abbrev s_check_rule : Stmt := top 24
abbrev s_copy_of : Stmt := top 25
abbrev s_stands_within : Stmt := top 26
abbrev s_lacks_all : Stmt := top 27
abbrev s_figures_of : Stmt := top 28
abbrev s_begins_one : Stmt := top 30
abbrev s_longest_stand : Stmt := top 31
abbrev s_stands_of : Stmt := top 32
abbrev s_place_behind : Stmt := top 34
abbrev s_steps_from : Stmt := top 35
abbrev s_all_steps : Stmt := top 36
abbrev s_Tails___init__ : Stmt := inClass (top 37) 0
abbrev s_Tails_layer : Stmt := inClass (top 37) 1
abbrev s_Tails_many_by : Stmt := inClass (top 37) 2
abbrev s_Tails_many_under : Stmt := inClass (top 37) 3
abbrev s_Tails_many_below : Stmt := inClass (top 37) 4
abbrev s_Tails_many_within : Stmt := inClass (top 37) 5
abbrev s_Tails_figure_at : Stmt := inClass (top 37) 6
abbrev s_Tails_number_at : Stmt := inClass (top 37) 7
abbrev s_Tails_are_endless : Stmt := inClass (top 37) 8
abbrev s_Keeper___init__ : Stmt := inClass (top 39) 0
abbrev s_Keeper_come : Stmt := inClass (top 39) 1
abbrev s_Keeper_go : Stmt := inClass (top 39) 2
abbrev s_Keeper_turn_to : Stmt := inClass (top 39) 3
abbrev s_Keeper_rule : Stmt := inClass (top 39) 4
abbrev s_Keeper_good : Stmt := inClass (top 39) 5
abbrev s_Keeper_below : Stmt := inClass (top 39) 6
abbrev s__law_cell : Stmt := top 41
abbrev s__law_store : Stmt := top 42
abbrev s__law_take : Stmt := top 43
abbrev s__law_stretch : Stmt := top 44
abbrev s__law_bad : Stmt := top 45
abbrev s__law_base : Stmt := top 46
abbrev s__law_copy : Stmt := top 48
abbrev s__law_number : Stmt := top 49
abbrev s__law_stand : Stmt := top 50
abbrev s__law_fresh : Stmt := top 51
abbrev s__law_round_right : Stmt := top 52
abbrev s__law_order_right : Stmt := top 53
abbrev s__law_within_right : Stmt := top 54
abbrev s__law_long_right : Stmt := top 55
abbrev s_law : Stmt := top 56
end Lw
namespace Lw
open PySem L2 PyProof.Rows
section
variable {P : Program} {w : World} {K : PySem.W.Frag} {mg : Str → Option Value} {base : Heap}
def sp_is_whole : Sp := fun vs H Q _ => ∃ i : Int, vs = [.int i] ∧ Q (.bl true) H
theorem sc_is_whole : FnScope ["thing"] ["thing"] (defScope s_is_whole) := ⟨rfl, rfl, rfl, by decide +kernel, rfl, by decide +kernel, by decide +kernel⟩
theorem ok_is_whole {f : Addr} {fd : FuncData} (D : Df K mg "is_whole" s_is_whole ["thing"] f fd) (T : Blt mg) : FnOk P w K mg base CX0 1 f fd ["thing"] sp_is_whole := by
  refine D.fn.ok sc_is_whole (fun vs H Q E h => ?_) (fun cdv A outer s H vs Q E hr h => ?_)
  · obtain ⟨i, rfl, _⟩ := h; rfl
  · obtain ⟨i, rfl, q⟩ := h
    refine ⟨_, (pss_one (ps_ret (pe_and (pe_callB call_isi (by rfl) T.n_isinstance boot_isinstance (pa_cons (pv 0) (pa_cons (pe_bltn (v := .ty "int") rfl T.n_int boot_int rfl) pa_nil))) (pe_one (pe_not (pe_callB call_isi (by rfl) T.n_isinstance boot_isinstance (pa_cons (pv 0) (pa_cons (pe_bltn (v := .ty "bool") rfl T.n_bool boot_bool rfl) pa_nil)))))))), ?_⟩
    refine ⟨_, rfl, _, _, _, _, rfl, .int i, kit_int_int, _, rfl, iteT ?_⟩
    refine ⟨_, rfl, _, _, _, _, rfl, .int i, kit_int_bool, _, rfl, ?_⟩
    exact q
def sp_is_base : Sp := fun vs H Q _ => ∃ i : Int, vs = [.int i] ∧ Q (.bl (decide (2 ≤ i ∧ i ≤ 16))) H
theorem sc_is_base : FnScope ["thing"] ["thing"] (defScope s_is_base) := ⟨rfl, rfl, rfl, by decide +kernel, rfl, by decide +kernel, by decide +kernel⟩
theorem ok_is_base {f f1 : Addr} {fd fd1 : FuncData} {t1 t2 : Tok} (D : Df K mg "is_base" s_is_base ["thing"] f fd) (Dis_whole : Df K mg "is_whole" s_is_whole ["thing"] f1 fd1) (T : Blt mg) (c_LEAST_BASE : mg "LEAST_BASE" = some (.int 2 t1)) (c_GREATEST_BASE : mg "GREATEST_BASE" = some (.int 16 t2)) :
    FnOk P w K mg base CX0 2 f fd ["thing"] sp_is_base := by
  have Gis_whole : FnOk P w K mg base CX0 1 f1 fd1 ["thing"] sp_is_whole := ok_is_whole Dis_whole T
  refine D.fn.ok sc_is_base (fun vs H Q E h => ?_) (fun cdv A outer s H vs Q E hr h => ?_)
  · obtain ⟨i, rfl, _⟩ := h; rfl
  · obtain ⟨i, rfl, q⟩ := h
    refine ⟨_, (pss_one (ps_ret (pe_and (pcall Dis_whole Gis_whole (hr.mono (by decide)) (pa_cons (pv 0) pa_nil)) (pe_one (pe_chain op_le op_le (pe_glob (v := .int 2) rfl c_LEAST_BASE ⟨_, rfl⟩) (pv 0) (pe_glob (v := .int 16) rfl c_GREATEST_BASE ⟨_, rfl⟩)))))), ?_⟩
    refine ⟨_, rfl, i, rfl, _, rfl, iteT ?_⟩
    refine ⟨_, rfl, _, _, rfl, rfl, _, rfl, ?_⟩
    refine ite2 (fun h1 => ?_) (fun h1 => ?_)
    · have h1' : (2 : Int) ≤ i := of_decide_eq_true h1
      refine ⟨_, _, rfl, rfl, ?_⟩
      rw [show decide (2 ≤ i ∧ i ≤ 16) = decide (i ≤ 16) by simp [h1']] at q
      exact q
    · have h1' : ¬ (2 : Int) ≤ i := fun z => h1 (decide_eq_true z)
      rw [show decide (2 ≤ i ∧ i ≤ 16) = false by simp [h1']] at q
      exact q
def sp_check_base : Sp := fun vs H Q _ => ∃ i : Int, vs = [.int i] ∧ 2 ≤ i ∧ i ≤ 16 ∧ Q .non H
theorem sc_check_base : FnScope ["thing"] ["thing"] (defScope s_check_base) := ⟨rfl, rfl, rfl, by decide +kernel, rfl, by decide +kernel, by decide +kernel⟩
theorem ok_check_base {f f1 : Addr} {fd fd1 : FuncData} (D : Df K mg "check_base" s_check_base ["thing"] f fd) (Dis_base : Df K mg "is_base" s_is_base ["thing"] f1 fd1) (Gis_base : FnOk P w K mg base CX0 2 f1 fd1 ["thing"] sp_is_base) :
    FnOk P w K mg base CX0 3 f fd ["thing"] sp_check_base := by
  refine D.fn.ok sc_check_base (fun vs H Q E h => ?_) (fun cdv A outer s H vs Q E hr h => ?_)
  · obtain ⟨i, rfl, _⟩ := h; rfl
  · obtain ⟨i, rfl, h1, h2, q⟩ := h
    refine ⟨_, (pss_one (ps_if (pt_not (pt_val (pcall Dis_base Gis_base (hr.mono (by decide)) (pa_cons (pv 0) pa_nil))))
        (pss_one ps_never)
        pss_nil)), ?_⟩
    refine ⟨_, rfl, i, rfl, _, rfl, ?_⟩
    rw [decide_eq_true (show 2 ≤ i ∧ i ≤ 16 from ⟨h1, h2⟩)]
    exact iteF q
end
section
variable {P : Program} {w : World} {K : PySem.W.Frag} {mg : Str → Option Value} {base : Heap}
def sp_is_number : Sp := fun vs H Q _ => ∃ i : Int, vs = [.int i] ∧ Q (.bl (decide (0 ≤ i))) H
theorem sc_is_number : FnScope ["thing"] ["thing"] (defScope s_is_number) := ⟨rfl, rfl, rfl, by decide +kernel, rfl, by decide +kernel, by decide +kernel⟩
theorem ok_is_number {f f1 : Addr} {fd fd1 : FuncData} (D : Df K mg "is_number" s_is_number ["thing"] f fd) (Dis_whole : Df K mg "is_whole" s_is_whole ["thing"] f1 fd1) (T : Blt mg) :
    FnOk P w K mg base CX0 2 f fd ["thing"] sp_is_number := by
  have Gis_whole : FnOk P w K mg base CX0 1 f1 fd1 ["thing"] sp_is_whole := ok_is_whole Dis_whole T
  refine D.fn.ok sc_is_number (fun vs H Q E h => ?_) (fun cdv A outer s H vs Q E hr h => ?_)
  · obtain ⟨i, rfl, _⟩ := h; rfl
  · obtain ⟨i, rfl, q⟩ := h
    refine ⟨_, (pss_one (ps_ret (pe_and (pcall Dis_whole Gis_whole (hr.mono (by decide)) (pa_cons (pv 0) pa_nil)) (pe_one (pe_cmpR op_ge (pv 0) pe_int (nomark _)))))), ?_⟩
    refine ⟨_, rfl, i, rfl, _, rfl, iteT ?_⟩
    exact ⟨_, rfl, _, _, rfl, rfl, q⟩
def sp_check_number : Sp := fun vs H Q _ => ∃ i : Int, vs = [.int i] ∧ 0 ≤ i ∧ Q .non H
theorem sc_check_number : FnScope ["thing"] ["thing"] (defScope s_check_number) := ⟨rfl, rfl, rfl, by decide +kernel, rfl, by decide +kernel, by decide +kernel⟩
theorem ok_check_number {f f1 f2 : Addr} {fd fd1 fd2 : FuncData} (D : Df K mg "check_number" s_check_number ["thing"] f fd) (Dis_number : Df K mg "is_number" s_is_number ["thing"] f2 fd2) (Dis_whole : Df K mg "is_whole" s_is_whole ["thing"] f1 fd1) (T : Blt mg) :
    FnOk P w K mg base CX0 3 f fd ["thing"] sp_check_number := by
  have Gis_number : FnOk P w K mg base CX0 2 f2 fd2 ["thing"] sp_is_number := ok_is_number Dis_number Dis_whole T
  refine D.fn.ok sc_check_number (fun vs H Q E h => ?_) (fun cdv A outer s H vs Q E hr h => ?_)
  · obtain ⟨i, rfl, _⟩ := h; rfl
  · obtain ⟨i, rfl, h1, q⟩ := h
    refine ⟨_, (pss_one (ps_if (pt_not (pt_val (pcall Dis_number Gis_number (hr.mono (by decide)) (pa_cons (pv 0) pa_nil))))
        (pss_one ps_never)
        pss_nil)), ?_⟩
    refine ⟨_, rfl, i, rfl, _, rfl, ?_⟩
    rw [decide_eq_true h1]
    exact iteF q
end
section
variable {P : Program} {w : World} {K : PySem.W.Frag} {mg : Str → Option Value} {base : Heap}
def sp_figures_of : Sp := fun vs H Q _ => ∃ b n : Nat, vs = [.int b, .int n] ∧ 2 ≤ b ∧ b ≤ 16 ∧ n < 2 ^ 900 ∧
  ∀ l H', H l = none → H' l = some (.lst ((figs b n).map V.int)) → Same H H' → Q (.ref l) H'
theorem sc_figures_of : FnScope ["base", "n", "backwards", "rest"] ["base", "n"] (defScope s_figures_of) := ⟨rfl, rfl, rfl, by decide +kernel, rfl, by decide +kernel, by decide +kernel⟩
theorem ok_figures_of {f f1 f2 : Addr} {fd fd1 fd2 : FuncData} (D : Df K mg "figures_of" s_figures_of ["base", "n"] f fd) (Dcheck_base : Df K mg "check_base" s_check_base ["thing"] f1 fd1) (Gcheck_base : FnOk P w K mg base CX0 3 f1 fd1 ["thing"] sp_check_base)
    (Dcheck_number : Df K mg "check_number" s_check_number ["thing"] f2 fd2) (Gcheck_number : FnOk P w K mg base CX0 3 f2 fd2 ["thing"] sp_check_number) (T : Blt mg) : FnOk P w K mg base CX0 4 f fd ["base", "n"] sp_figures_of := by
  refine D.fn.ok sc_figures_of (fun vs H Q E h => ?_) (fun cdv A outer s H vs Q E hr h => ?_)
  · obtain ⟨b, n, rfl, _⟩ := h; rfl
  · obtain ⟨b, n, rfl, h2, h16, hn, k⟩ := h
    refine ⟨_, (pss_cons (ps_expr (pcall Dcheck_base Gcheck_base (hr.mono (by decide)) (pa_cons (pv 0) pa_nil)))
      (pss_cons (ps_expr (pcall Dcheck_number Gcheck_number (hr.mono (by decide)) (pa_cons (pv 1) pa_nil)))
      (pss_cons (ps_set (i := 2) sc_figures_of.nd rfl (Or.inl rfl) (pe_lst (pa_cons (pe_op op_mod (pv 1) (pv 0)) pa_nil)))
      (pss_cons (ps_set (i := 3) sc_figures_of.nd rfl (Or.inl rfl) (pe_op op_fdivB (pv 1) (pv 0)))
      (pss_cons (ps_while PassesOwn.never (pt_cmpR op_gt (pv 3) pe_int (nomark _))
        (pss_cons (ps_expr (pe_bm PySem.F.plainAttrs_list PySem.F.slot_list_append PySem.F.type_list_append mt_append (pv 2) (pa_cons (pe_op op_mod (pv 3) (pv 0)) pa_nil)))
        (pss_one (ps_set (i := 3) sc_figures_of.nd rfl (Or.inl rfl) (pe_op op_fdivB (pv 3) (pv 0))))))
      (pss_one (ps_ret (pe_listRev rfl rfl T.n_list rfl T.n_reversed (pv 2))))))))), ?_⟩
    refine ⟨_, rfl, (b : Int), rfl, by omega, by omega, ?_⟩
    refine ⟨_, rfl, (n : Int), rfl, by omega, ?_⟩
    refine ⟨_, rfl, _, rfl, _, _, rfl, rfl, (by omega : (0 : Int) < b), (by decide : 1 ≤ sizeLine), fun l hl => ?_⟩
    refine ⟨_, rfl, _, rfl, _, _, rfl, rfl, ⟨by omega, by omega⟩, ?_⟩
    have hlen := figs_len h2 900 n hn
    refine while_by (fun σ H2 => ∃ (r : Nat) (L : List Int), σ = [some (.int b), some (.int n), some (.ref l), some (.int r)] ∧ H2 l = some (.lst (L.map V.int)) ∧ Same H H2 ∧ figs b n = ahead b r ++ L.reverse)
      (fun σ _ => match σ with | [_, _, _, some (.int r)] => r.toNat | _ => 0) ?_ ?_ ?_
    · refine ⟨n / b, [((n % b : Nat) : Int)], ?_, ?_, same_upd hl, ?_⟩
      · rfl
      · rw [upd_same]; simp
      · rw [figs_step h2]; simp
    · rintro σ H2 ⟨r, L, rfl, hL, sH, he⟩
      refine ⟨_, rfl, _, _, rfl, rfl, _, rfl, ?_⟩
      refine ite2 (fun h1 => ?_) (fun h1 => ?_)
      · have hr0 : 0 < r := by have := of_decide_eq_true h1; omega
        have hLl : L.length ≤ 901 := by
          have := congrArg List.length he
          rw [List.length_append, List.length_reverse] at this
          omega
        refine ⟨_, rfl, .inl ⟨rfl, _, SqL.of hL⟩, _, rfl, _, rfl, _, _, rfl, rfl, (by omega : (0 : Int) < b), l, _, _, rfl, rfl, hL, by rw [List.length_map]; exact Nat.lt_of_le_of_lt hLl (by decide), ?_⟩
        refine ⟨_, rfl, _, rfl, _, _, rfl, rfl, ⟨by omega, by omega⟩, ?_⟩
        refine ⟨⟨r / b, L ++ [((r % b : Nat) : Int)], ?_, ?_, ?_, ?_⟩, ?_⟩
        · simp
        · rw [upd_same]; simp
        · exact fun b' o e => by rw [upd_ne (ne_of_none e hl)]; exact sH b' o e
        · rw [he, ahead_step h2 hr0, List.reverse_append]; simp
        · show ((r : Int) / (b : Int)).toNat < (r : Int).toNat
          have : r / b < r := Nat.div_lt_self hr0 (by omega)
          omega
      · have hr0 : r = 0 := by
          by_cases z : r = 0
          · exact z
          · exact absurd (decide_eq_true (by omega : (0 : Int) < r)) h1
        subst hr0
        refine ⟨_, rfl, l, _, rfl, SqL.of hL, fun q hq => ?_⟩
        have hlq : q ≠ l := fun z => by rw [z, hL] at hq; cases hq
        refine k q _ (sH.free hq) ?_ (sH.trans (same_upd hq))
        rw [upd_same, he]
        simp [ahead]
    · intro σ H2 Q Q' hq
      rintro ⟨v, e, i, j, e1, e2, k, e3, q⟩
      exact ⟨v, e, i, j, e1, e2, k, e3, hq _ _ q⟩
end
end Lw
set_option Elab.async false
set_option linter.all false
set_option maxRecDepth 100000
namespace Lw
open PySem L2 PyProof.Rows
section
variable {P : Program} {w : World} {K : PySem.W.Frag} {mg : Str → Option Value} {base : Heap}
def sp_is_figure : Sp := fun vs H Q _ => ∃ b i : Int, vs = [.int b, .int i] ∧ Q (.bl (decide (0 ≤ i ∧ i < b))) H
theorem sc_is_figure : FnScope ["base", "thing"] ["base", "thing"] (defScope s_is_figure) := ⟨rfl, rfl, rfl, by decide +kernel, rfl, by decide +kernel, by decide +kernel⟩
theorem ok_is_figure {f f1 : Addr} {fd fd1 : FuncData} (D : Df K mg "is_figure" s_is_figure ["base", "thing"] f fd) (Dis_whole : Df K mg "is_whole" s_is_whole ["thing"] f1 fd1) (T : Blt mg) : FnOk P w K mg base CX0 2 f fd ["base", "thing"] sp_is_figure := by
  have Gis_whole : FnOk P w K mg base CX0 1 f1 fd1 ["thing"] sp_is_whole := ok_is_whole Dis_whole T
  refine D.fn.ok sc_is_figure (fun vs H Q E h => ?_) (fun cdv A outer s H vs Q E hr h => ?_)
  · obtain ⟨b, i, rfl, _⟩ := h; rfl
  · obtain ⟨b, i, rfl, q⟩ := h
    refine ⟨_, (pss_one (ps_ret (pe_and (pcall Dis_whole Gis_whole (hr.mono (by decide)) (pa_cons (pv 1) pa_nil)) (pe_one (pe_chain op_le op_lt pe_int (pv 1) (pv 0)))))), ?_⟩
    refine ⟨_, rfl, i, rfl, _, rfl, iteT ?_⟩
    refine ⟨_, rfl, _, _, rfl, rfl, _, rfl, ?_⟩
    refine ite2 (fun h1 => ?_) (fun h1 => ?_)
    · have h1' : (0 : Int) ≤ i := of_decide_eq_true h1
      refine ⟨_, rfl, _, _, rfl, rfl, ?_⟩
      rw [show decide (0 ≤ i ∧ i < b) = decide (i < b) by simp [h1']] at q
      exact q
    · have h1' : ¬ (0 : Int) ≤ i := fun z => h1 (decide_eq_true z)
      rw [show decide (0 ≤ i ∧ i < b) = false by simp [h1']] at q
      exact q
def sp_are_figures : Sp := fun vs H Q _ => ∃ (b : Int) (a : Addr) (ns : List Int), vs = [.int b, .ref a] ∧ H a = some (.lst (ns.map V.int)) ∧ ns.length ≤ 1000 ∧ ∀ H', Same H H' → Q (.bl (ns.all fun i => decide (0 ≤ i ∧ i < b))) H'
theorem sc_are_figures : FnScope ["base", "thing"] ["base", "thing"] (defScope s_are_figures) := ⟨rfl, rfl, rfl, by decide +kernel, rfl, by decide +kernel, by decide +kernel⟩
theorem ok_are_figures {f f1 : Addr} {fd fd1 : FuncData} (D : Df K mg "are_figures" s_are_figures ["base", "thing"] f fd) (Dis_figure : Df K mg "is_figure" s_is_figure ["base", "thing"] f1 fd1) (Gis_figure : FnOk P w K mg base CX0 2 f1 fd1 ["base", "thing"] sp_is_figure) (T : Blt mg) :
    FnOk P w K mg base CX0 3 f fd ["base", "thing"] sp_are_figures := by
  refine D.fn.ok sc_are_figures (fun vs H Q E h => ?_) (fun cdv A outer s H vs Q E hr h => ?_)
  · obtain ⟨b, a, ns, rfl, _⟩ := h; rfl
  · obtain ⟨b, a, ns, rfl, ha, hlen, kk⟩ := h
    refine ⟨_, (pss_one (ps_ret (pe_and (pe_callB (k_isi K) (by rfl) T.n_isinstance boot_isinstance (pa_cons (pv 1) (pa_cons (pe_bltn (v := .ty "list") rfl T.n_list boot_list rfl) pa_nil))) (pe_one (pe_callB (k_all K rfl) (by rfl) T.n_all boot_all (pa_cons (pe_comp (show CScope (defScope s_are_figures) _ "each" ["base", "thing"] ["base"] [0] from ⟨rfl, by decide +kernel, by decide +kernel, rfl, by decide +kernel, rfl, by decide +kernel, by decide +kernel⟩) rfl (k_pi K (pv 1)) (fun _ _ _ _ => pts_nil) (fun _ _ _ _ => (pcall Dis_figure Gis_figure (hr.mono (by decide)) (pa_cons (pv 1) (pa_cons (pv 0) pa_nil))))) pa_nil)))))), ?_⟩
    refine ⟨_, rfl, _, _, _, _, rfl, .lst ha, kit_list_list, _, rfl, iteT ?_⟩
    refine ⟨_, rfl, a, rfl, ⟨_, SqL.of ha⟩, comp_list (K := K) (a := a) (xs := ns.map V.int) (fun i ys H4 => ys = ((ns.take i).map fun i => decide (0 ≤ i ∧ i < b)).map V.bl ∧ H4 = H) ⟨by simp, rfl⟩ (fun i ys H4 _ ⟨_, e⟩ => by rw [e]; exact SqL.of ha) ?_ ?_⟩
    · rintro j x ys H4 hx ⟨rfl, rfl⟩
      refine ⟨?_, ?_⟩
      · rw [List.length_map, List.length_map, List.length_take]
        exact Nat.lt_of_le_of_lt (Nat.le_trans (Nat.min_le_right _ _) hlen) (by decide)
      obtain ⟨z, hz, rfl⟩ : ∃ z, ns[j]? = some z ∧ x = V.int z := by
        rw [List.getElem?_map] at hx
        obtain ⟨z, h, e⟩ := Option.map_eq_some_iff.mp hx
        exact ⟨z, h, e.symm⟩
      unfold tYes
      dsimp only
      rw [if_pos rfl]
      refine ⟨_, rfl, _, rfl, b, z, rfl, ?_, rfl⟩
      rw [List.take_succ, hz]
      simp
    · rintro ys H4 ⟨rfl, rfl⟩ Dd hD
      refine ⟨Dd, _, rfl, SqL.of upd_same, ?_⟩
      have q := kk _ (same_upd hD (o := .lst (((ns.take (ns.map V.int).length).map fun i => decide (0 ≤ i ∧ i < b)).map V.bl)))
      rw [List.length_map, List.take_length] at q ⊢
      rw [List.all_map]
      exact q
end
section
variable {P : Program} {w : World} {K : PySem.W.Frag} {mg : Str → Option Value} {base : Heap}
structure RuleAt (H : Hp) (r : Addr) (b : Nat) (bl : Addr) (zs : List (Addr × List Int)) : Prop where
  tu : H r = some (.tup [.int b, .ref bl])
  li : H bl = some (.lst (zs.map fun z => V.ref z.1))
  st : ∀ z ∈ zs, H z.1 = some (.lst (z.2.map V.int))
theorem RuleAt.same {H H' : Hp} {r bl : Addr} {b : Nat} {zs : List (Addr × List Int)} (R : RuleAt H r b bl zs) (s : Same H H') : RuleAt H' r b bl zs := ⟨s _ _ R.tu, s _ _ R.li, fun z hz => s _ _ (R.st z hz)⟩
structure GoodSt (b : Nat) (l : List Int) : Prop where
  ne : l ≠ []
  len : l.length ≤ 4
  fig : ∀ f ∈ l, 0 ≤ f ∧ f < b
structure GoodRule (b : Nat) (ls : List (List Int)) : Prop where
  b2 : 2 ≤ b
  b16 : b ≤ 16
  len : ls.length ≤ 4
  st : ∀ l ∈ ls, GoodSt b l
  up : ls.Pairwise fun x y => HT.lexLt x y = true
theorem all_figs' {b : Nat} {ns : List Int} (h : ∀ f ∈ ns, 0 ≤ f ∧ f < (b : Int)) : (ns.all fun i => decide (0 ≤ i ∧ i < (b : Int))) = true := by
  rw [List.all_eq_true]; intro x hx; exact decide_eq_true (h x hx)
def sp_is_stretch : Sp := fun vs H Q _ => ∃ (b : Nat) (a : Addr) (ns : List Int), vs = [.int b, .ref a] ∧ H a = some (.lst (ns.map V.int)) ∧ GoodSt b ns ∧ ∀ H', Same H H' → Q (.bl true) H'
theorem sc_is_stretch : FnScope ["base", "thing"] ["base", "thing"] (defScope s_is_stretch) := ⟨rfl, rfl, rfl, by decide +kernel, rfl, by decide +kernel, by decide +kernel⟩
theorem ok_is_stretch {f f1 : Addr} {fd fd1 : FuncData} {t1 : Tok} (D : Df K mg "is_stretch" s_is_stretch ["base", "thing"] f fd) (Dare_figures : Df K mg "are_figures" s_are_figures ["base", "thing"] f1 fd1) (Gare_figures : FnOk P w K mg base CX0 3 f1 fd1 ["base", "thing"] sp_are_figures) (c_LONGEST_STRETCH : mg "LONGEST_STRETCH" = some (.int 4 t1)) (T : Blt mg) :
    FnOk P w K mg base CX0 4 f fd ["base", "thing"] sp_is_stretch := by
  refine D.fn.ok sc_is_stretch (fun vs H Q E h => ?_) (fun cdv A outer s H vs Q E hr h => ?_)
  · obtain ⟨b, a, ns, rfl, _⟩ := h; rfl
  · obtain ⟨b, a, ns, rfl, ha, g, kk⟩ := h
    refine ⟨_, (pss_one (ps_ret (pe_and (pcall Dare_figures Gare_figures (hr.mono (by decide)) (pa_cons (pv 0) (pa_cons (pv 1) pa_nil))) (pe_one (pe_chain op_le op_le pe_int (pe_callB (k_len K) (by rfl) T.n_len PySem.boot_len (pa_cons (pv 1) pa_nil)) (pe_glob (v := .int 4) rfl c_LONGEST_STRETCH ⟨_, rfl⟩)))))), ?_⟩
    have hlen := g.len
    refine ⟨_, rfl, _, rfl, b, a, ns, rfl, ha, Nat.le_trans hlen (by decide), fun H1 s1 => ?_⟩
    rw [all_figs' g.fig]
    refine ⟨_, rfl, iteT ?_⟩
    have hpos : 0 < ns.length := List.length_pos_iff.mpr g.ne
    refine ⟨_, rfl, a, _, rfl, .inl (SqL.of (s1 _ _ ha)), _, _, rfl, rfl, _, rfl, ?_⟩
    rw [List.length_map, decide_eq_true (show (1 : Int) ≤ (ns.length : Int) by omega)]
    refine iteT ?_
    refine ⟨_, _, rfl, rfl, ?_⟩
    dsimp only
    rw [decide_eq_true (show (ns.length : Int) ≤ 4 by omega)]
    exact kk H1 s1
def sp_is_rising : Sp := fun vs H Q _ => ∃ (bl : Addr) (zs : List (Addr × List Int)), vs = [.ref bl] ∧ H bl = some (.lst (zs.map fun z => V.ref z.1)) ∧ (∀ z ∈ zs, H z.1 = some (.lst (z.2.map V.int))) ∧ zs.length ≤ 4 ∧ (zs.map (·.2)).Pairwise (fun x y => HT.lexLt x y = true) ∧ ∀ H', Same H H' → Q (.bl true) H'
theorem sc_is_rising : FnScope ["stretches"] ["stretches"] (defScope s_is_rising) := ⟨rfl, rfl, rfl, by decide +kernel, rfl, by decide +kernel, by decide +kernel⟩
theorem all_rep {n : Nat} : (List.replicate n true).all id = true := by
  rw [List.all_eq_true]; intro x hx; exact (List.mem_replicate.mp hx).2
theorem ok_is_rising {f : Addr} {fd : FuncData} (D : Df K mg "is_rising" s_is_rising ["stretches"] f fd) (T : Blt mg) : FnOk P w K mg base CX0 1 f fd ["stretches"] sp_is_rising := by
  refine D.fn.ok sc_is_rising (fun vs H Q E h => ?_) (fun cdv A outer s H vs Q E hr h => ?_)
  · obtain ⟨bl, zs, rfl, _⟩ := h; rfl
  · obtain ⟨bl, zs, rfl, hb, hz, h4, up, kk⟩ := h
    have HU := HUof hr
    refine ⟨_, (pss_one (ps_ret (pe_callB (k_all K rfl) (by rfl) T.n_all boot_all (pa_cons (pe_comp (show CScope (defScope s_is_rising) _ "k" ["stretches"] ["stretches"] [0] from ⟨rfl, by decide +kernel, by decide +kernel, rfl, by decide +kernel, rfl, by decide +kernel, by decide +kernel⟩) rfl (pi_range1 rfl T.n_range (pa_cons (pe_op op_sub (pe_callB (k_len K) (by rfl) T.n_len PySem.boot_len (pa_cons (pv 0) pa_nil)) pe_int) pa_nil)) (fun _ _ _ _ => pts_nil) (fun _ _ _ _ => (pe_cmpR (k_ltL K HU) (pe_ix (k_ixL K) (pv 1) (pv 0) (fun _ _ => rfl)) (pe_ix (k_ixL K) (pv 1) (pe_op op_add (pv 0) pe_int) (fun _ _ => rfl)) (nomark _)))) pa_nil)))), ?_⟩
    refine ⟨_, rfl, bl, _, rfl, .inl (SqL.of hb), _, _, rfl, rfl, _, rfl, ?_⟩
    rw [List.length_map]
    refine ⟨by omega, by omega, comp_range (lo := 0) (n := ((zs.length : Int) - 1).toNat) (fun i ys H4 => ys = (List.replicate i true).map V.bl ∧ H4 = H) ⟨by simp, rfl⟩ ?_ ?_⟩
    · rintro i ys H4 hi ⟨rfl, rfl⟩
      refine ⟨by rw [List.length_map, List.length_replicate]; exact Nat.lt_of_lt_of_le (show i < 5 by omega) (by decide), ?_⟩
      unfold tYes
      dsimp only
      rw [if_pos rfl]
      have hi0 : i < zs.length := by omega
      have hi1 : i + 1 < zs.length := by omega
      have g0 : atI (zs.map fun z => V.ref z.1) (0 + (i : Int)) = some (.ref (zs[i]).1) := by rw [Int.zero_add]; exact atI_nat (by rw [List.getElem?_map, List.getElem?_eq_getElem hi0]; rfl)
      have g1 : atI (zs.map fun z => V.ref z.1) (0 + (i : Int) + 1) = some (.ref (zs[i + 1]).1) := by rw [Int.zero_add]; exact atI_nat (j := i + 1) (by rw [List.getElem?_map, List.getElem?_eq_getElem hi1]; rfl)
      refine ⟨_, rfl, _, rfl, bl, _, _, _, rfl, rfl, SqL.of hb, g0, ?_⟩
      refine ⟨_, rfl, _, rfl, _, _, rfl, rfl, bl, _, _, _, rfl, rfl, SqL.of hb, g1, ?_⟩
      refine ⟨_, _, _, _, rfl, rfl, SqL.of (hz _ (List.getElem_mem hi0)), SqL.of (hz _ (List.getElem_mem hi1)), ?_, rfl⟩
      rw [List.pairwise_map, List.pairwise_iff_getElem] at up
      rw [up i (i + 1) hi0 hi1 (by omega), List.replicate_succ']
      simp
    · rintro ys H4 ⟨rfl, rfl⟩ Dd hD
      refine ⟨Dd, _, rfl, SqL.of upd_same, ?_⟩
      rw [all_rep]
      exact kk _ (same_upd hD)
def sp_is_bad_list : Sp := fun vs H Q _ => ∃ (b : Nat) (bl : Addr) (zs : List (Addr × List Int)), vs = [.int b, .ref bl] ∧ H bl = some (.lst (zs.map fun z => V.ref z.1)) ∧ (∀ z ∈ zs, H z.1 = some (.lst (z.2.map V.int))) ∧ GoodRule b (zs.map (·.2)) ∧ ∀ H', Same H H' → Q (.bl true) H'
theorem sc_is_bad_list : FnScope ["base", "thing"] ["base", "thing"] (defScope s_is_bad_list) := ⟨rfl, rfl, rfl, by decide +kernel, rfl, by decide +kernel, by decide +kernel⟩
theorem ok_is_bad_list {f f1 f2 : Addr} {fd fd1 fd2 : FuncData} {t1 : Tok} (D : Df K mg "is_bad_list" s_is_bad_list ["base", "thing"] f fd) (Dis_stretch : Df K mg "is_stretch" s_is_stretch ["base", "thing"] f1 fd1) (Gis_stretch : FnOk P w K mg base CX0 4 f1 fd1 ["base", "thing"] sp_is_stretch) (Dis_rising : Df K mg "is_rising" s_is_rising ["stretches"] f2 fd2) (c_MOST_STRETCHES : mg "MOST_STRETCHES" = some (.int 4 t1)) (T : Blt mg) :
    FnOk P w K mg base CX0 5 f fd ["base", "thing"] sp_is_bad_list := by
  have Gis_rising : FnOk P w K mg base CX0 1 f2 fd2 ["stretches"] sp_is_rising := ok_is_rising Dis_rising T
  refine D.fn.ok sc_is_bad_list (fun vs H Q E h => ?_) (fun cdv A outer s H vs Q E hr h => ?_)
  · obtain ⟨b, bl, zs, rfl, _⟩ := h; rfl
  · obtain ⟨b, bl, zs, rfl, hb, hz, g, kk⟩ := h
    have h4 : zs.length ≤ 4 := by have := g.len; rwa [List.length_map] at this
    refine ⟨_, (pss_cons (ps_if (PW.pt (pw_or (pt_not (pt_val (pe_callB (k_isi K) (by rfl) T.n_isinstance boot_isinstance (pa_cons (pv 1) (pa_cons (pe_bltn (v := .ty "list") rfl T.n_list boot_list rfl) pa_nil))))) (pw_or1 (pt_cmpR op_gt (pe_callB (k_len K) (by rfl) T.n_len PySem.boot_len (pa_cons (pv 1) pa_nil)) (pe_glob (v := .int 4) rfl c_MOST_STRETCHES ⟨_, rfl⟩) (nomark _)))))
        (pss_one (ps_ret pe_bl))
        pss_nil)
      (pss_one (ps_ret (pe_and (pe_callB (k_all K rfl) (by rfl) T.n_all boot_all (pa_cons (pe_comp (show CScope (defScope s_is_bad_list) _ "each" ["base", "thing"] ["base"] [0] from ⟨rfl, by decide +kernel, by decide +kernel, rfl, by decide +kernel, rfl, by decide +kernel, by decide +kernel⟩) rfl (k_pi K (pv 1)) (fun _ _ _ _ => pts_nil) (fun _ _ _ _ => (pcall Dis_stretch Gis_stretch (hr.mono (by decide)) (pa_cons (pv 1) (pa_cons (pv 0) pa_nil))))) pa_nil)) (pe_one (pcall Dis_rising Gis_rising (hr.mono (by decide)) (pa_cons (pv 1) pa_nil))))))), ?_⟩
    refine ⟨_, rfl, _, _, _, _, rfl, .lst hb, kit_list_list, _, rfl, iteF ?_⟩
    refine ⟨_, rfl, bl, _, rfl, .inl (SqL.of hb), _, _, rfl, rfl, _, rfl, ?_⟩
    rw [List.length_map, decide_eq_false (show ¬ (4 : Int) < (zs.length : Int) by omega)]
    refine iteF ?_
    refine ⟨_, rfl, bl, rfl, ⟨_, SqL.of hb⟩, comp_list (K := K) (a := bl) (xs := zs.map fun z => V.ref z.1) (fun i ys H4 => ys = (List.replicate i true).map V.bl ∧ Same H H4) ⟨by simp, Same.refl _⟩ (fun i ys H4 _ ⟨_, e⟩ => SqL.of (e _ _ hb)) ?_ ?_⟩
    · rintro j x ys H4 hx ⟨rfl, s4⟩
      rw [List.getElem?_map] at hx
      obtain ⟨z, hzj, e⟩ := Option.map_eq_some_iff.mp hx
      subst e
      have hzm := List.mem_of_getElem? hzj
      have hj : j < zs.length := (List.getElem?_eq_some_iff.mp hzj).1
      refine ⟨by rw [List.length_map, List.length_replicate]; exact Nat.lt_of_lt_of_le (show j < 5 by omega) (by decide), ?_⟩
      unfold tYes
      dsimp only
      rw [if_pos rfl]
      refine ⟨_, rfl, _, rfl, b, z.1, z.2, rfl, s4 _ _ (hz z hzm), g.st _ (List.mem_map.mpr ⟨z, hzm, rfl⟩), fun H5 s5 => ⟨?_, s4.trans s5⟩⟩
      rw [List.replicate_succ']; simp
    · rintro ys H4 ⟨rfl, s4⟩ Dd hD
      refine ⟨Dd, _, rfl, SqL.of upd_same, ?_⟩
      rw [all_rep]
      have s5 := s4.trans (same_upd hD (o := .lst ((List.replicate (zs.map fun z => V.ref z.1).length true).map V.bl)))
      refine ⟨_, rfl, iteT ?_⟩
      exact ⟨_, rfl, bl, zs, rfl, s5 _ _ hb, fun z hzm => s5 _ _ (hz z hzm), h4, g.up, fun H6 s6 => kk H6 (s5.trans s6)⟩
def sp_is_rule : Sp := fun vs H Q _ => ∃ (r : Addr) (b : Nat) (bl : Addr) (zs : List (Addr × List Int)), vs = [.ref r] ∧ RuleAt H r b bl zs ∧ GoodRule b (zs.map (·.2)) ∧ ∀ H', Same H H' → Q (.bl true) H'
theorem sc_is_rule : FnScope ["thing"] ["thing"] (defScope s_is_rule) := ⟨rfl, rfl, rfl, by decide +kernel, rfl, by decide +kernel, by decide +kernel⟩
theorem ok_is_rule {f f1 f2 : Addr} {fd fd1 fd2 : FuncData} (D : Df K mg "is_rule" s_is_rule ["thing"] f fd) (Dis_base : Df K mg "is_base" s_is_base ["thing"] f1 fd1) (Gis_base : FnOk P w K mg base CX0 2 f1 fd1 ["thing"] sp_is_base) (Dis_bad_list : Df K mg "is_bad_list" s_is_bad_list ["base", "thing"] f2 fd2) (Gis_bad_list : FnOk P w K mg base CX0 5 f2 fd2 ["base", "thing"] sp_is_bad_list) (T : Blt mg) :
    FnOk P w K mg base CX0 6 f fd ["thing"] sp_is_rule := by
  refine D.fn.ok sc_is_rule (fun vs H Q E h => ?_) (fun cdv A outer s H vs Q E hr h => ?_)
  · obtain ⟨r, b, bl, zs, rfl, _⟩ := h; rfl
  · obtain ⟨r, b, bl, zs, rfl, R, g, kk⟩ := h
    have b2 := g.b2
    have b16 := g.b16
    refine ⟨_, (pss_cons (ps_if (PW.pt (pw_or (pt_not (pt_val (pe_callB (k_isi K) (by rfl) T.n_isinstance boot_isinstance (pa_cons (pv 0) (pa_cons (pe_bltn (v := .ty "tuple") rfl T.n_tuple boot_tuple rfl) pa_nil))))) (pw_or1 (pt_cmpR op_ne (pe_callB (k_len K) (by rfl) T.n_len PySem.boot_len (pa_cons (pv 0) pa_nil)) pe_int (nomark _)))))
        (pss_one (ps_ret pe_bl))
        pss_nil)
      (pss_one (ps_ret (pe_and (pcall Dis_base Gis_base (hr.mono (by decide)) (pa_cons (pe_ix (k_ixT K) (pv 0) pe_int (fun _ _ => rfl)) pa_nil)) (pe_one (pcall Dis_bad_list Gis_bad_list (hr.mono (by decide)) (pa_cons (pe_ix (k_ixT K) (pv 0) pe_int (fun _ _ => rfl)) (pa_cons (pe_ix (k_ixT K) (pv 0) pe_int (fun _ _ => rfl)) pa_nil)))))))), ?_⟩
    refine ⟨_, rfl, _, _, _, _, rfl, .tup R.tu, kit_tuple_tuple, _, rfl, iteF ?_⟩
    refine ⟨_, rfl, r, _, rfl, .inr (SqT.of R.tu), rfl, _, rfl, ?_⟩
    refine iteF ?_
    refine ⟨_, rfl, r, _, _, V.int b, rfl, rfl, SqT.of R.tu, rfl, (b : Int), rfl, ?_⟩
    rw [decide_eq_true (show (2 : Int) ≤ b ∧ (b : Int) ≤ 16 from ⟨by omega, by omega⟩)]
    refine ⟨_, rfl, iteT ?_⟩
    refine ⟨_, rfl, r, _, _, V.int b, rfl, rfl, SqT.of R.tu, rfl, _, rfl, r, _, _, V.ref bl, rfl, rfl, SqT.of R.tu, rfl, b, bl, zs, rfl, R.li, R.st, g, kk⟩
def sp_check_rule : Sp := fun vs H Q _ => ∃ (r : Addr) (b : Nat) (bl : Addr) (zs : List (Addr × List Int)), vs = [.ref r] ∧ RuleAt H r b bl zs ∧ GoodRule b (zs.map (·.2)) ∧ ∀ H', Same H H' → Q .non H'
theorem sc_check_rule : FnScope ["thing"] ["thing"] (defScope s_check_rule) := ⟨rfl, rfl, rfl, by decide +kernel, rfl, by decide +kernel, by decide +kernel⟩
theorem ok_check_rule {f f1 : Addr} {fd fd1 : FuncData} (D : Df K mg "check_rule" s_check_rule ["thing"] f fd) (Dis_rule : Df K mg "is_rule" s_is_rule ["thing"] f1 fd1) (Gis_rule : FnOk P w K mg base CX0 6 f1 fd1 ["thing"] sp_is_rule) : FnOk P w K mg base CX0 7 f fd ["thing"] sp_check_rule := by
  refine D.fn.ok sc_check_rule (fun vs H Q E h => ?_) (fun cdv A outer s H vs Q E hr h => ?_)
  · obtain ⟨r, b, bl, zs, rfl, _⟩ := h; rfl
  · obtain ⟨r, b, bl, zs, rfl, R, g, kk⟩ := h
    refine ⟨_, (pss_one (ps_if (pt_not (pt_val (pcall Dis_rule Gis_rule (hr.mono (by decide)) (pa_cons (pv 0) pa_nil))))
        (pss_one ps_never)
        pss_nil)), ?_⟩
    exact ⟨_, rfl, r, b, bl, zs, rfl, R, g, fun H1 s1 => ⟨_, rfl, iteF (kk H1 s1)⟩⟩
end
section
variable {P : Program} {w : World} {K : PySem.W.Frag} {mg : Str → Option Value} {base : Heap}
theorem cutV_nat (xs : List V) (k m : Nat) : cutV xs (some (k : Int)) (some (m : Int)) = (xs.drop k).take (m - k) := by
  unfold cutV
  rw [HT.sIx_nat, HT.sIx_nat]
  by_cases hk : k ≤ xs.length
  · rw [Nat.min_eq_left hk]
    by_cases hm : m ≤ xs.length
    · rw [Nat.min_eq_left hm]
    · rw [Nat.min_eq_right (by omega), List.take_of_length_le (by rw [List.length_drop]; omega), List.take_of_length_le (by rw [List.length_drop]; omega)]
  · rw [List.drop_of_length_le (show xs.length ≤ k by omega), Nat.min_eq_right (show xs.length ≤ k by omega), List.drop_of_length_le (Nat.le_refl _)]
    simp
def sp_stands_within : Sp := fun vs H Q _ => ∃ (sa fa : Addr) (st fs : List Int), vs = [.ref sa, .ref fa] ∧ H sa = some (.lst (st.map V.int)) ∧ H fa = some (.lst (fs.map V.int)) ∧ st ≠ [] ∧ st.length ≤ 1000 ∧ fs.length ≤ 1000 ∧ ∀ H', Same H H' → Q (.bl (hasS st fs)) H'
theorem sc_stands_within : FnScope ["stretch", "figures", "size"] ["stretch", "figures"] (defScope s_stands_within) := ⟨rfl, rfl, rfl, by decide +kernel, rfl, by decide +kernel, by decide +kernel⟩
theorem ok_stands_within {f : Addr} {fd : FuncData} (D : Df K mg "stands_within" s_stands_within ["stretch", "figures"] f fd) (T : Blt mg) : FnOk P w K mg base CX0 1 f fd ["stretch", "figures"] sp_stands_within := by
  refine D.fn.ok sc_stands_within (fun vs H Q E h => ?_) (fun cdv A outer s H vs Q E hr h => ?_)
  · obtain ⟨sa, fa, st, fs, rfl, _⟩ := h; rfl
  · obtain ⟨sa, fa, st, fs, rfl, hs, hf, ne, hl1, hl2, kk⟩ := h
    have HU := HUof hr
    refine ⟨_, (pss_cons (ps_set (i := 2) sc_stands_within.nd rfl (Or.inr rfl) (pe_callB (k_len K) (by rfl) T.n_len PySem.boot_len (pa_cons (pv 0) pa_nil)))
      (pss_one (ps_ret (pe_callB (k_any K rfl) (by rfl) T.n_any boot_any (pa_cons (pe_comp (show CScope (defScope s_stands_within) _ "k" ["stretch", "figures", "size"] ["stretch", "figures", "size"] [0, 1, 2] from ⟨rfl, by decide +kernel, by decide +kernel, rfl, by decide +kernel, rfl, by decide +kernel, by decide +kernel⟩) rfl (pi_range1 rfl T.n_range (pa_cons (pe_op op_add (pe_op op_sub (pe_callB (k_len K) (by rfl) T.n_len PySem.boot_len (pa_cons (pv 1) pa_nil)) (pv 2)) pe_int) pa_nil)) (fun _ _ _ _ => pts_nil) (fun _ _ _ _ => (pe_cmpR (k_eqT K HU) (pe_slice (k_slL K) (pv 2) (po_some (pv 0)) (po_some (pe_op op_add (pv 0) (pv 3)))) (pv 1) (nomark _)))) pa_nil))))), ?_⟩
    refine ⟨_, rfl, sa, _, rfl, .inl (SqL.of hs), ?_⟩
    rw [List.length_map]
    refine ⟨_, rfl, fa, _, rfl, .inl (SqL.of hf), _, rfl, _, _, rfl, rfl, _, _, rfl, rfl, _, rfl, ?_⟩
    rw [List.length_map]
    refine ⟨by omega, by omega, comp_range (lo := 0) (n := ((fs.length : Int) - st.length + 1).toNat) (fun i ys H4 => ys = ((List.range i).map fun k => decide ((fs.drop k).take st.length = st)).map V.bl ∧ Same H H4) ⟨by simp, Same.refl _⟩ ?_ ?_⟩
    · rintro i ys H4 hi ⟨rfl, s4⟩
      refine ⟨by rw [List.length_map, List.length_map, List.length_range]; exact Nat.lt_of_lt_of_le (show i < 2000 by omega) (by decide), ?_⟩
      unfold tYes
      dsimp only
      rw [if_pos rfl]
      refine ⟨_, rfl, _, rfl, _, rfl, _, rfl, _, rfl, _, _, rfl, rfl, _, rfl, fa, _, rfl, SqL.of (s4 _ _ hf), fun p hp => ?_⟩
      have e1 : cutV (fs.map V.int) (some (0 + (i : Int))) (some (0 + (i : Int) + (st.length : Int))) = ((fs.drop i).take st.length).map V.int := by
        have e : (0 + (i : Int) + (st.length : Int)) = ((i + st.length : Nat) : Int) := by omega
        rw [e, Int.zero_add, cutV_nat, List.map_take, List.map_drop, Nat.add_sub_cancel_left]
      rw [e1]
      refine ⟨_, rfl, tInts ((fs.drop i).take st.length), tInts st, TrAt.ints (a := p) (SqL.of upd_same), TrAt.ints (a := sa) (SqL.of (same_upd hp _ _ (s4 _ _ hs))), (by rw [tdep_tInts]; decide), ?_, s4.trans (same_upd hp)⟩
      rw [List.range_succ, List.map_append, List.map_append]
      have e2 := teq_ints ((fs.drop i).take st.length) st
      show _ = _ ++ [V.bl (decide ((fs.drop i).take st.length = st))]
      rw [← e2]; rfl
    · rintro ys H4 ⟨rfl, s4⟩ Dd hD
      refine ⟨Dd, _, rfl, SqL.of upd_same, ?_⟩
      have q := kk _ (s4.trans (same_upd hD (o := .lst (((List.range ((fs.length : Int) - st.length + 1).toNat).map fun k => decide ((fs.drop k).take st.length = st)).map V.bl))))
      rw [hasS_short ne] at q
      rw [List.any_map]
      exact q
def sp_lacks_all : Sp := fun vs H Q _ => ∃ (bl fa : Addr) (zs : List (Addr × List Int)) (fs : List Int), vs = [.ref bl, .ref fa] ∧ H bl = some (.lst (zs.map fun z => V.ref z.1)) ∧ (∀ z ∈ zs, H z.1 = some (.lst (z.2.map V.int))) ∧ H fa = some (.lst (fs.map V.int)) ∧ zs.length ≤ 100 ∧ fs.length ≤ 1000 ∧ (∀ z ∈ zs, z.2 ≠ [] ∧ z.2.length ≤ 1000) ∧ ∀ H', Same H H' → Q (.bl (lacks (zs.map (·.2)) fs)) H'
theorem sc_lacks_all : FnScope ["bad", "figures"] ["bad", "figures"] (defScope s_lacks_all) := ⟨rfl, rfl, rfl, by decide +kernel, rfl, by decide +kernel, by decide +kernel⟩
theorem ok_lacks_all {f f1 : Addr} {fd fd1 : FuncData} (D : Df K mg "lacks_all" s_lacks_all ["bad", "figures"] f fd) (Dstands_within : Df K mg "stands_within" s_stands_within ["stretch", "figures"] f1 fd1) (T : Blt mg) : FnOk P w K mg base CX0 2 f fd ["bad", "figures"] sp_lacks_all := by
  have Gstands_within : FnOk P w K mg base CX0 1 f1 fd1 ["stretch", "figures"] sp_stands_within := ok_stands_within Dstands_within T
  refine D.fn.ok sc_lacks_all (fun vs H Q E h => ?_) (fun cdv A outer s H vs Q E hr h => ?_)
  · obtain ⟨bl, fa, zs, fs, rfl, _⟩ := h; rfl
  · obtain ⟨bl, fa, zs, fs, rfl, hb, hz, hf, hl1, hl2, ne, kk⟩ := h
    refine ⟨_, (pss_one (ps_ret (pe_not (pe_callB (k_any K rfl) (by rfl) T.n_any boot_any (pa_cons (pe_comp (show CScope (defScope s_lacks_all) _ "stretch" ["bad", "figures"] ["figures"] [1] from ⟨rfl, by decide +kernel, by decide +kernel, rfl, by decide +kernel, rfl, by decide +kernel, by decide +kernel⟩) rfl (k_pi K (pv 0)) (fun _ _ _ _ => pts_nil) (fun _ _ _ _ => (pcall Dstands_within Gstands_within (hr.mono (by decide)) (pa_cons (pv 0) (pa_cons (pv 1) pa_nil))))) pa_nil))))), ?_⟩
    refine ⟨_, rfl, bl, rfl, ⟨_, SqL.of hb⟩, comp_list (K := K) (a := bl) (xs := zs.map fun z => V.ref z.1) (fun i ys H4 => ys = ((zs.take i).map fun z => hasS z.2 fs).map V.bl ∧ Same H H4) ⟨by simp, Same.refl _⟩ (fun i ys H4 _ ⟨_, e⟩ => SqL.of (e _ _ hb)) ?_ ?_⟩
    · rintro j x ys H4 hx ⟨rfl, s4⟩
      rw [List.getElem?_map] at hx
      obtain ⟨z, hzj, e⟩ := Option.map_eq_some_iff.mp hx
      subst e
      have hzm := List.mem_of_getElem? hzj
      refine ⟨?_, ?_⟩
      · rw [List.length_map, List.length_map, List.length_take]
        exact Nat.lt_of_le_of_lt (Nat.le_trans (Nat.min_le_right _ _) hl1) (by decide)
      unfold tYes
      dsimp only
      rw [if_pos rfl]
      refine ⟨_, rfl, _, rfl, z.1, fa, z.2, fs, rfl, s4 _ _ (hz z hzm), s4 _ _ hf, (ne z hzm).1, (ne z hzm).2, hl2, fun H5 s5 => ⟨?_, s4.trans s5⟩⟩
      rw [List.take_succ, hzj]
      simp
    · rintro ys H4 ⟨rfl, s4⟩ Dd hD
      refine ⟨Dd, _, rfl, SqL.of upd_same, _, rfl, ?_⟩
      have q := kk _ (s4.trans (same_upd hD (o := .lst (((zs.take (zs.map fun z => V.ref z.1).length).map fun z => hasS z.2 fs).map V.bl))))
      rw [List.length_map, List.take_length] at q ⊢
      unfold lacks at q
      rw [List.any_map] at q ⊢
      exact q
end
theorem cutV_upto (xs : List V) (m : Nat) : cutV xs none (some (m : Int)) = xs.take m := by
  unfold cutV
  rw [HT.sIx_nat, HT.sIx_none, List.drop_zero, Nat.sub_zero]
  by_cases h : m ≤ xs.length
  · rw [Nat.min_eq_left h]
  · rw [Nat.min_eq_right (by omega), List.take_of_length_le (Nat.le_refl _), List.take_of_length_le (by omega)]
theorem cutV_from (xs : List V) (m : Nat) : cutV xs (some (m : Int)) none = xs.drop m := by
  unfold cutV
  rw [HT.sIx_nat, HT.sIx_none]
  by_cases h : m ≤ xs.length
  · rw [Nat.min_eq_left h, List.take_of_length_le (by rw [List.length_drop]; omega)]
  · rw [Nat.min_eq_right (by omega), List.drop_of_length_le (Nat.le_refl _), List.drop_of_length_le (by omega)]; simp
theorem RuleAt.all {fp : List Addr} {r bl : Addr} {H : Hp} {b : Nat} {zs : List (Addr × List Int)} (R : RuleAt (aw fp H) r b bl zs) : RuleAt H r b bl zs := R.same (aw_same fp H)
theorem notin_any {ls : List (List Int)} {x : List Int} : ((ls.map tInts).any fun t => teq t (tInts x)) = decide (x ∈ ls) := by
  rw [Bool.eq_iff_iff]
  simp only [List.any_eq_true, List.mem_map, decide_eq_true_eq]
  constructor
  · rintro ⟨t, ⟨l, hl, rfl⟩, e⟩
    rw [teq_ints] at e
    rw [← of_decide_eq_true e]; exact hl
  · intro h
    exact ⟨tInts x, ⟨x, h, rfl⟩, teq_refl _⟩
theorem tdeps_tInts : ∀ ls : List (List Int), tdeps (ls.map tInts) ≤ 1
  | [] => by simp [tdeps]
  | l :: ls => by rw [List.map_cons, tdeps, tdep_tInts]; have := tdeps_tInts ls; omega
theorem TrsAt.lists {K : PySem.W.Frag} {H : Hp} : ∀ {zs : List (Addr × List Int)}, (∀ z ∈ zs, H z.1 = some (.lst (z.2.map V.int))) → TrsAt K H ((zs.map (·.2)).map tInts) (zs.map fun z => V.ref z.1)
  | [], _ => by rw [List.map_nil, List.map_nil, TrsAt]; rfl
  | z :: zs, h => by
    rw [List.map_cons, List.map_cons, TrsAt]
    exact ⟨_, _, rfl, TrAt.ints (SqL.of (h z List.mem_cons_self)), TrsAt.lists fun z hz => h z (List.mem_cons_of_mem _ hz)⟩
end Lw
set_option Elab.async false
set_option linter.all false
set_option maxRecDepth 100000
namespace Lw
open PySem L2 PyProof.Rows
section
variable {P : Program} {w : World} {K : PySem.W.Frag} {mg : Str → Option Value} {base : Heap}
def sp_begins_one : Sp := fun vs H Q _ => ∃ (bl fa : Addr) (zs : List (Addr × List Int)) (fs : List Int), vs = [.ref bl, .ref fa] ∧ H bl = some (.lst (zs.map fun z => V.ref z.1)) ∧ (∀ z ∈ zs, H z.1 = some (.lst (z.2.map V.int))) ∧ H fa = some (.lst (fs.map V.int)) ∧ zs.length ≤ 100 ∧ ∀ H', Same H H' → Q (.bl (begs (zs.map (·.2)) fs)) H'
theorem sc_begins_one : FnScope ["bad", "figures"] ["bad", "figures"] (defScope s_begins_one) := ⟨rfl, rfl, rfl, by decide +kernel, rfl, by decide +kernel, by decide +kernel⟩
theorem ok_begins_one {f : Addr} {fd : FuncData} (D : Df K mg "begins_one" s_begins_one ["bad", "figures"] f fd) (T : Blt mg) : FnOk P w K mg base CX0 1 f fd ["bad", "figures"] sp_begins_one := by
  refine D.fn.ok sc_begins_one (fun vs H Q E h => ?_) (fun cdv A outer s H vs Q E hr h => ?_)
  · obtain ⟨bl, fa, zs, fs, rfl, _⟩ := h; rfl
  · obtain ⟨bl, fa, zs, fs, rfl, hb, hz, hf, hl1, kk⟩ := h
    have HU := HUof hr
    refine ⟨_, (pss_one (ps_ret (pe_callB (k_any K rfl) (by rfl) T.n_any boot_any (pa_cons (pe_comp (show CScope (defScope s_begins_one) _ "stretch" ["bad", "figures"] ["figures"] [1] from ⟨rfl, by decide +kernel, by decide +kernel, rfl, by decide +kernel, rfl, by decide +kernel, by decide +kernel⟩) rfl (k_pi K (pv 0)) (fun _ _ _ _ => pts_nil) (fun _ _ _ _ => (pe_cmpR (k_eqT K HU) (pe_slice (k_slL K) (pv 0) po_none (po_some (pe_callB (k_len K) (by rfl) T.n_len PySem.boot_len (pa_cons (pv 1) pa_nil)))) (pv 1) (nomark _)))) pa_nil)))), ?_⟩
    refine ⟨_, rfl, bl, rfl, ⟨_, SqL.of hb⟩, comp_list (K := K) (a := bl) (xs := zs.map fun z => V.ref z.1) (fun i ys H4 => ys = ((zs.take i).map fun z => decide (z.2.take fs.length = fs)).map V.bl ∧ Same H H4) ⟨by simp, Same.refl _⟩ (fun i ys H4 _ ⟨_, e⟩ => SqL.of (e _ _ hb)) ?_ ?_⟩
    · rintro j x ys H4 hx ⟨rfl, s4⟩
      rw [List.getElem?_map] at hx
      obtain ⟨z, hzj, e⟩ := Option.map_eq_some_iff.mp hx
      subst e
      have hzm := List.mem_of_getElem? hzj
      refine ⟨?_, ?_⟩
      · rw [List.length_map, List.length_map, List.length_take]
        exact Nat.lt_of_le_of_lt (Nat.le_trans (Nat.min_le_right _ _) hl1) (by decide)
      unfold tYes
      dsimp only
      rw [if_pos rfl]
      refine ⟨_, rfl, _, rfl, fa, _, rfl, .inl (SqL.of (s4 _ _ hf)), _, rfl, z.1, _, rfl, SqL.of (s4 _ _ (hz z hzm)), fun p hp => ?_⟩
      rw [List.length_map, cutV_upto, ← List.map_take]
      refine ⟨_, rfl, tInts (z.2.take fs.length), tInts fs, TrAt.ints (a := p) (SqL.of upd_same), TrAt.ints (a := fa) (SqL.of (same_upd hp _ _ (s4 _ _ hf))), (by rw [tdep_tInts]; decide), ?_, s4.trans (same_upd hp)⟩
      rw [List.take_succ, hzj]
      have e2 := teq_ints (z.2.take fs.length) fs
      show _ ++ [V.bl (teq _ _)] = _
      rw [e2]
      simp
    · rintro ys H4 ⟨rfl, s4⟩ Dd hD
      refine ⟨Dd, _, rfl, SqL.of upd_same, ?_⟩
      have q := kk _ (s4.trans (same_upd hD (o := .lst (((zs.take (zs.map fun z => V.ref z.1).length).map fun z => decide (z.2.take fs.length = fs)).map V.bl))))
      rw [List.length_map, List.take_length] at q ⊢
      unfold begs at q
      rw [List.any_map] at q ⊢
      exact q
def StandV (ls : List (List Int)) (fs : List Int) (H H' : Hp) (v : V) : Prop := (lacks ls fs = false ∧ v = .non) ∨ (lacks ls fs = true ∧ ∃ l, v = .ref l ∧ H l = none ∧ H' l = some (.lst ((tailS ls fs).map V.int)))
def sp_longest_stand : Sp := fun vs H Q _ => ∃ (bl fa : Addr) (zs : List (Addr × List Int)) (fs : List Int), vs = [.ref bl, .ref fa] ∧ H bl = some (.lst (zs.map fun z => V.ref z.1)) ∧ (∀ z ∈ zs, H z.1 = some (.lst (z.2.map V.int))) ∧ H fa = some (.lst (fs.map V.int)) ∧ zs.length ≤ 100 ∧ fs.length ≤ 1000 ∧ (∀ z ∈ zs, z.2 ≠ [] ∧ z.2.length ≤ 1000) ∧
  ∀ v H', StandV (zs.map (·.2)) fs H H' v → Same H H' → Q v H'
theorem sc_longest_stand : FnScope ["bad", "figures", "start"] ["bad", "figures"] (defScope s_longest_stand) := ⟨rfl, rfl, rfl, by decide +kernel, rfl, by decide +kernel, by decide +kernel⟩
theorem ok_longest_stand {f f1 f2 : Addr} {fd fd1 fd2 : FuncData} (D : Df K mg "longest_stand" s_longest_stand ["bad", "figures"] f fd) (Dlacks_all : Df K mg "lacks_all" s_lacks_all ["bad", "figures"] f1 fd1) (Glacks_all : FnOk P w K mg base CX0 2 f1 fd1 ["bad", "figures"] sp_lacks_all)
    (Dbegins_one : Df K mg "begins_one" s_begins_one ["bad", "figures"] f2 fd2) (T : Blt mg) : FnOk P w K mg base CX0 3 f fd ["bad", "figures"] sp_longest_stand := by
  have Gbegins_one : FnOk P w K mg base CX0 1 f2 fd2 ["bad", "figures"] sp_begins_one := ok_begins_one Dbegins_one T
  refine D.fn.ok sc_longest_stand (fun vs H Q E h => ?_) (fun cdv A outer s H vs Q E hr h => ?_)
  · obtain ⟨bl, fa, zs, fs, rfl, _⟩ := h; rfl
  · obtain ⟨bl, fa, zs, fs, rfl, hb, hz, hf, hl1, hl2, ne, kk⟩ := h
    refine ⟨_, (pss_cons (ps_if (pt_not (pt_val (pcall Dlacks_all Glacks_all (hr.mono (by decide)) (pa_cons (pv 0) (pa_cons (pv 1) pa_nil)))))
        (pss_one (ps_ret pe_non))
        pss_nil)
      (pss_cons (ps_for PassesOwn.never rfl (pi_range1 rfl T.n_range (pa_cons (pe_callB (k_len K) (by rfl) T.n_len PySem.boot_len (pa_cons (pv 1) pa_nil)) pa_nil)) (pg_name (i := 2) sc_longest_stand.nd rfl (Or.inl rfl))
        (pss_one (ps_if (pt_val (pcall Dbegins_one Gbegins_one (hr.mono (by decide)) (pa_cons (pv 0) (pa_cons (pe_slice (k_slL K) (pv 1) (po_some (pv 2)) po_none) pa_nil))))
          (pss_one (ps_ret (pe_slice (k_slL K) (pv 1) (po_some (pv 2)) po_none)))
          pss_nil)))
      (pss_one (ps_ret (pe_lst pa_nil))))), ?_⟩
    refine ⟨_, rfl, _, rfl, bl, fa, zs, fs, rfl, hb, hz, hf, hl1, hl2, ne, fun H1 s1 => ⟨_, rfl, ?_⟩⟩
    cases hL : lacks (zs.map (·.2)) fs with
    | false => exact iteT (kk _ _ (.inl ⟨hL, rfl⟩) s1)
    | true =>
      refine iteF ?_
      refine ⟨_, rfl, fa, _, rfl, .inl (SqL.of (s1 _ _ hf)), (((fs.map V.int).length : Nat) : Int), rfl, by rw [List.length_map]; omega, by rw [List.length_map]; omega, for_range (lo := 0) (n := (((fs.map V.int).length : Nat) : Int).toNat) (fun i σ H2 => ∃ v1 : Option V, σ = [some (.ref bl), some (.ref fa), v1] ∧ Same H H2 ∧ ∀ k, k < i → begs (zs.map (·.2)) (fs.drop k) = false) ⟨none, rfl, s1, fun k hk => by omega⟩ ?_ ?_⟩
      · rintro i σ H2 hi ⟨v1, rfl, s2, hno⟩
        have hi' : i < fs.length := by rw [List.length_map] at hi; omega
        refine ⟨_, rfl, _, rfl, _, rfl, _, rfl, fa, _, rfl, SqL.of (s2 _ _ hf), fun p hp => ?_⟩
        rw [Int.zero_add, cutV_from, ← List.map_drop]
        have t := s2.trans (same_upd hp (o := .lst ((fs.drop i).map V.int)))
        refine ⟨bl, p, zs, fs.drop i, rfl, t _ _ hb, fun z hzm => t _ _ (hz z hzm), upd_same, hl1, fun H3 s3 => ⟨_, rfl, ?_⟩⟩
        have t3 := t.trans s3
        cases hB : begs (zs.map (·.2)) (fs.drop i) with
        | true =>
          refine iteT ⟨_, rfl, _, rfl, _, rfl, fa, _, rfl, SqL.of (t3 _ _ hf), fun q hq => ?_⟩
          rw [cutV_from, ← List.map_drop]
          refine kk _ _ (.inr ⟨hL, q, rfl, t3.free hq, ?_⟩) (t3.trans (same_upd hq))
          rw [upd_same, tailS_at (by omega) hno hB]
        | false =>
          refine iteF ⟨_, rfl, t3, fun k hk => ?_⟩
          by_cases e : k < i
          · exact hno k e
          · have : k = i := by omega
            rw [this]; exact hB
      · rintro σ H2 ⟨v1, rfl, s2, hno⟩
        refine ⟨(by decide : 0 ≤ sizeLine), fun q hq => kk _ _ (.inr ⟨hL, q, rfl, s2.free hq, ?_⟩) (s2.trans (same_upd hq))⟩
        rw [upd_same, tailS_none (fun k hk => hno k (by rw [List.length_map]; omega))]
        rfl
end
section
variable {P : Program} {w : World} {K : PySem.W.Frag} {mg : Str → Option Value} {base : Heap} {T0 : Addr}
def lamP : Pos := ⟨86, 29, 86, 59⟩
def lamSc : Scope := match (defBody s_stands_of).getLast? with
  | some (.Return (some (.Call _ _ [⟨_, .Lambda _ _ sc _, _⟩] _)) _) => sc
  | _ => defScope s_stands_of
theorem sc_lam : FnScope ["each"] ["each"] lamSc := ⟨rfl, rfl, rfl, by decide +kernel, rfl, by decide +kernel, by decide +kernel⟩
theorem same_put {H H' : Hp} {p : Addr} {o : HO} (s : Same H H') (h : H p = none) : Same H (upd H' p o) := fun b u e => by rw [upd_ne (ne_of_none e h)]; exact s b u e
def SameL (T : Addr) (H H' : Hp) : Prop := ∀ b u, b ≠ T → H b = some u → H' b = some u
abbrev LT (T : Addr) (H : Hp) : Prop := LamTab T lamP ((("stands_of" : Str) ++ (".<locals>." : Str)) ++ ("<lambda>" : Str)) H
theorem SameL.of {T : Addr} {H H' : Hp} (s : Same H H') : SameL T H H' := fun b u _ e => s b u e
theorem SameL.trans {T : Addr} {H H1 H2 : Hp} (a : SameL T H H1) (b : SameL T H1 H2) : SameL T H H2 := fun c u h e => b c u h (a c u h e)
theorem LT.same {T : Addr} {H H' : Hp} (h : LT T H) (s : Same H H') : LT T H' := by
  rcases h with h | ⟨c, h1, h2⟩
  · exact .inl (s _ _ h)
  · exact .inr ⟨c, s _ _ h1, s _ _ h2⟩
theorem LT.lst {T : Addr} {H : Hp} (h : LT T H) {b : Addr} {xs : List V} (e : H b = some (.lst xs)) : b ≠ T := fun z => by
  rw [z] at e
  rcases h with h | ⟨c, h, _⟩
  · rw [h] at e; cases e
  · rw [h] at e; cases e
theorem LT.tup {T : Addr} {H : Hp} (h : LT T H) {b : Addr} {xs : List V} (e : H b = some (.tup xs)) : b ≠ T := fun z => by
  rw [z] at e
  rcases h with h | ⟨c, h, _⟩
  · rw [h] at e; cases e
  · rw [h] at e; cases e
theorem LT.none {T : Addr} {H : Hp} (h : LT T H) {b : Addr} (e : H b = none) : b ≠ T := fun z => by
  rw [z] at e
  rcases h with h | ⟨c, h, _⟩
  · rw [h] at e; cases e
  · rw [h] at e; cases e
def sp_stands_of (T : Addr) : Sp := fun vs H Q _ => ∃ (bl : Addr) (zs : List (Addr × List Int)), vs = [.ref bl] ∧ H bl = some (.lst (zs.map fun z => V.ref z.1)) ∧ (∀ z ∈ zs, H z.1 = some (.lst (z.2.map V.int))) ∧ zs.length ≤ 4 ∧ (∀ z ∈ zs, z.2 ≠ [] ∧ z.2.length ≤ 4) ∧ LT T H ∧
  ∀ (D : Addr) (ws : List (Addr × List Int)) (H' : Hp), H D = none → H' D = some (.lst (ws.map fun z => V.ref z.1)) → (∀ z ∈ ws, H z.1 = none ∧ H' z.1 = some (.lst (z.2.map V.int)) ∧ z.1 ≠ D) → StandsL (zs.map (·.2)) (ws.map (·.2)) → ws.length ≤ 13 → SameL T H H' → LT T H' → Q (.ref D) H'
theorem sc_stands_of : FnScope ["bad", "found", "stretch", "size", "stand"] ["bad"] (defScope s_stands_of) := ⟨rfl, rfl, rfl, by decide +kernel, rfl, by decide +kernel, by decide +kernel⟩
theorem ok_stands_of {f f1 c : Addr} {fd fd1 : FuncData} (D : Df K mg "stands_of" s_stands_of ["bad"] f fd) (hc : fd.code = .ref c) (hcT : PySem.W.codeHdIn K c T0 = true) (hBM : base.BuiltinsAt mg T0) (hgT : mainGlobals ≠ T0) (Dlacks_all : Df K mg "lacks_all" s_lacks_all ["bad", "figures"] f1 fd1) (Glacks_all : FnOk P w K mg base CX0 2 f1 fd1 ["bad", "figures"] sp_lacks_all) (T : Blt mg) :
    FnOk P w K mg base CX0 6 f fd ["bad"] (sp_stands_of T0) := by
  obtain ⟨oc, od, kV, doc, pm, an, cdv, ct, osl, rfl, lk, hcd⟩ := D.fn.ex
  obtain rfl : cdv = .ref c := hc
  refine fn_of lk hcd sc_stands_of (fun vs H Q E h => ?_) (fun A outer s H vs Q E hr h => ?_)
  · obtain ⟨bl, zs, rfl, _⟩ := h; rfl
  · obtain ⟨bl, zs, rfl, hb, hz, h4, hst, hLT, kk⟩ := h
    have HU := HUof hr
    have lam_body : ∀ (f' c' : Addr) (s' : Shared) (H' : Hp) (z : Addr × List Int), H' z.1 = some (.lst (z.2.map V.int)) → ∃ t, PE (cxOf CX0 P w K mg base ["each"] ((("stands_of" : Str) ++ (".<locals>." : Str)) ++ ("<lambda>" : Str)) lamSc f' (.ref c') (A.deeper (envOfC "stands_of" (defScope s_stands_of) s.heap.objs.size f (.ref c))).in1.in1 (envOfC "stands_of" (defScope s_stands_of) s.heap.objs.size f (.ref c) :: outer) s' H' E0)
        (match (defBody s_stands_of).getLast? with
          | some (.Return (some (.Call _ _ [⟨_, .Lambda _ b _ _, _⟩] _)) _) => b
          | _ => .Constant .none 0 ⟨0, 0, 0, 0⟩) t ∧
        t (start ["each"] [.ref z.1]) H' fun v H2 => ∃ p, v = .ref p ∧ H' p = none ∧ H2 = upd H' p (.tup [.int z.2.length, .ref z.1]) := by
      intro f' c' s' H' z hz'
      refine ⟨_, (pe_tup (pa_cons (pe_callB (k_len K) (by rfl) T.n_len PySem.boot_len (pa_cons (pv 0) pa_nil)) (pa_cons (pv 0) pa_nil))), ?_⟩
      refine ⟨_, rfl, z.1, _, rfl, .inl (SqL.of hz'), _, rfl, (by show 2 ≤ sizeLine; decide), fun p hp => ⟨p, rfl, hp, ?_⟩⟩
      rw [List.length_map]
    refine Exists.elim (?key : ∃ t, PSs (cxOf CX0 P w K mg base ["bad", "found", "stretch", "size", "stand"] "stands_of" (defScope s_stands_of) f (.ref c) A outer s H E).nox (defBody s_stands_of) t ∧ t { nx := fun _ H' => Q .non H', rt := Q } (start ["bad", "found", "stretch", "size", "stand"] [.ref bl]) H) fun t h => ⟨t, h.1.nox, h.2⟩
    refine ⟨_, (pss_cons (ps_set (i := 1) sc_stands_of.nd rfl (Or.inl rfl) (pe_lst (pa_cons (pe_lst pa_nil) pa_nil)))
      (pss_cons (ps_for PassesOwn.never rfl (k_pi K (pv 0)) (pg_name (i := 2) sc_stands_of.nd rfl (Or.inl rfl))
        (pss_one (ps_for PassesOwn.never rfl (pi_range2 rfl T.n_range (pa_cons pe_int (pa_cons (pe_callB (k_len K) (by rfl) T.n_len PySem.boot_len (pa_cons (pv 2) pa_nil)) pa_nil))) (pg_name (i := 3) sc_stands_of.nd rfl (Or.inl rfl))
          (pss_cons (ps_set (i := 4) sc_stands_of.nd rfl (Or.inl rfl) (pe_slice (k_slL K) (pv 2) po_none (po_some (pv 3))))
          (pss_one (ps_if (PW.pt (pw_and (pt_cmpR (k_notInT K HU) (pv 4) (pv 1) (by with_unfolding_all rfl)) (pw_and1 (pt_val (pcall Dlacks_all Glacks_all (hr.mono (by decide)) (pa_cons (pv 0) (pa_cons (pv 4) pa_nil)))))))
            (pss_one (ps_expr (pe_bm PySem.F.plainAttrs_list PySem.F.slot_list_append PySem.F.type_list_append mt_append (pv 1) (pa_cons (pv 4) pa_nil))))
            pss_nil))))))
      (pss_one (ps_ret (pe_sortKey (k := 1) (pv 1) rfl T.n_sorted (hr.mono (by decide)) rfl rfl rfl hcT hBM hgT sc_lam (fun _ _ _ _ => rfl) lam_body))))), ?_⟩
    have hls : ∀ st ∈ zs.map (·.2), st ≠ [] ∧ st.length ≤ 4 := fun st h => by obtain ⟨z, hz, rfl⟩ := List.mem_map.mp h; exact hst z hz
    refine ⟨(by decide : 0 ≤ sizeLine), fun e0 he0 => ⟨(by show 1 ≤ sizeLine; decide), fun fo hfo => ?_⟩⟩
    have hfoH : H fo = none := (same_upd he0).free hfo
    have nef : e0 ≠ fo := fun z => by rw [← z, upd_same] at hfo; cases hfo
    let Inv1 : List (Addr × List Int) → (List Int → Prop) → Hp → Prop := fun ws M H2 => H2 fo = some (.lst (ws.map fun z => V.ref z.1)) ∧ (∀ z ∈ ws, H z.1 = none ∧ H2 z.1 = some (.lst (z.2.map V.int)) ∧ z.1 ≠ fo) ∧ (ws.map (·.2)).Nodup ∧ (∀ x, x ∈ ws.map (·.2) ↔ M x) ∧ Same H H2
    let M1 : Nat → List Int → Prop := fun i x => x = [] ∨ ∃ z ∈ zs.take i, ∃ k, 1 ≤ k ∧ k < z.2.length ∧ x = z.2.take k ∧ lacks (zs.map (·.2)) x = true
    refine ⟨_, rfl, bl, rfl, ⟨_, SqL.of ((same_upd he0).trans (same_upd hfo) _ _ hb)⟩, for_list (K := K) (a := bl) (xs := zs.map fun z => V.ref z.1) (fun i σ H2 => ∃ (v2 v3 v4 : Option V) (ws : List (Addr × List Int)), σ = [some (.ref bl), some (.ref fo), v2, v3, v4] ∧ Inv1 ws (M1 i) H2 ∧ ws.length ≤ 1 + 3 * i)
      ⟨none, none, none, [(e0, [])], rfl, ⟨upd_same, fun z hz' => ?_, by simp, fun x => ?_, (same_upd he0).trans (same_upd hfo)⟩, by simp⟩ (fun i σ H2 _ ⟨_, _, _, _, _, ⟨_, _, _, _, e⟩, _⟩ => SqL.of (e _ _ hb)) ?_ ?_⟩
    · have e : z = (e0, []) := by simpa using hz'
      subst e
      exact ⟨he0, by rw [upd_ne nef, upd_same]; rfl, nef⟩
    · constructor
      · intro hx
        exact .inl (by simpa using hx)
      · rintro (rfl | ⟨z, hz', _⟩)
        · simp
        · simp at hz'
    · rintro i x σ H2 hx ⟨v2, v3, v4, ws, rfl, ⟨hF, hW, ndW, hM, sm⟩, hlen⟩
      rw [List.getElem?_map] at hx
      obtain ⟨z, hzj, e⟩ := Option.map_eq_some_iff.mp hx
      subst e
      have hzm := List.mem_of_getElem? hzj
      have hi4 : i < zs.length := (List.getElem?_eq_some_iff.mp hzj).1
      obtain ⟨hne, hz4⟩ := hst z hzm
      have hpos : 0 < z.2.length := List.length_pos_iff.mpr hne
      refine ⟨_, rfl, z.1, _, rfl, .inl (SqL.of (sm _ _ (hz z hzm))), 1, _, rfl, ?_, ?_⟩
      · rw [List.length_map]; omega
      rw [List.length_map]
      refine for_range (lo := 1) (n := ((z.2.length : Int) - 1).toNat) (fun j σ H3 => ∃ (v3 v4 : Option V) (ws : List (Addr × List Int)), σ = [some (.ref bl), some (.ref fo), some (.ref z.1), v3, v4] ∧ Inv1 ws (fun x => M1 i x ∨ ∃ k, 1 ≤ k ∧ k ≤ j ∧ x = z.2.take k ∧ lacks (zs.map (·.2)) x = true) H3 ∧ ws.length ≤ 1 + 3 * i + j)
        ⟨_, _, ws, rfl, ⟨hF, hW, ndW, fun x => ?_, sm⟩, hlen⟩ ?_ ?_
      · rw [hM]
        constructor
        · exact .inl
        · rintro (h | ⟨k, h1, h2, _⟩)
          · exact h
          · omega
      · rintro j σ H3 hj ⟨v3, v4, ws, rfl, ⟨hF, hW, ndW, hM, sm⟩, hlen⟩
        have hj' : j + 1 < z.2.length := by omega
        refine ⟨_, rfl, _, rfl, _, rfl, z.1, _, rfl, SqL.of (sm _ _ (hz z hzm)), fun p hp => ?_⟩
        rw [show (1 : Int) + (j : Int) = ((j + 1 : Nat) : Int) by omega, cutV_upto, ← List.map_take]
        have sm2 := sm.trans (same_upd hp (o := .lst ((z.2.take (j + 1)).map V.int)))
        have hF2 : (upd H3 p (.lst ((z.2.take (j + 1)).map V.int))) fo = some (.lst (ws.map fun z => V.ref z.1)) := same_upd hp _ _ hF
        have hW2 : ∀ y ∈ ws, H y.1 = none ∧ (upd H3 p (.lst ((z.2.take (j + 1)).map V.int))) y.1 = some (.lst (y.2.map V.int)) ∧ y.1 ≠ fo := fun y hy => ⟨(hW y hy).1, same_upd hp _ _ (hW y hy).2.1, (hW y hy).2.2⟩
        have npf : p ≠ fo := fun y => by rw [y, hF] at hp; cases hp
        have hpH : H p = none := sm.free hp
        generalize hx : z.2.take (j + 1) = x at *
        have hxl : x.length ≤ 4 := by rw [← hx, List.length_take]; omega
        have stay : (x ∈ ws.map (·.2) ∨ lacks (zs.map (·.2)) x = false) → ∀ y, y ∈ ws.map (·.2) ↔ (M1 i y ∨ ∃ k, 1 ≤ k ∧ k ≤ j + 1 ∧ y = z.2.take k ∧ lacks (zs.map (·.2)) y = true) := fun hor y => by
          constructor
          · intro hy
            rcases (hM y).mp hy with h | ⟨k, h1, h2, h3⟩
            · exact .inl h
            · exact .inr ⟨k, h1, by omega, h3⟩
          · rintro (h | ⟨k, h1, h2, h3, h4⟩)
            · exact (hM y).mpr (.inl h)
            · by_cases hk : k ≤ j
              · exact (hM y).mpr (.inr ⟨k, h1, hk, h3, h4⟩)
              · have : k = j + 1 := by omega
                rw [this, hx] at h3
                rw [h3] at h4 ⊢
                rcases hor with h | h
                · exact h
                · rw [h] at h4; cases h4
        refine ⟨_, rfl, _, rfl, fo, _, (ws.map (·.2)).map tInts, tInts x, rfl, SqL.of hF2, TrsAt.lists (fun y hy => (hW2 y hy).2.1), TrAt.ints (a := p) (SqL.of upd_same), Nat.le_trans (tdeps_tInts _) (by decide), _, rfl, ?_⟩
        rw [if_pos rfl, notin_any]
        by_cases hin : x ∈ ws.map (·.2)
        · rw [decide_eq_true hin]
          refine iteF ?_
          exact iteF ⟨_, _, ws, rfl, ⟨hF2, hW2, ndW, stay (.inl hin), sm2⟩, by omega⟩
        · rw [decide_eq_false hin]
          refine iteT ?_
          refine ⟨_, rfl, _, rfl, bl, p, zs, x, rfl, sm2 _ _ hb, fun y hy => sm2 _ _ (hz y hy), upd_same, by omega, by omega, fun y hy => ⟨(hst y hy).1, Nat.le_trans (hst y hy).2 (by decide)⟩, fun H4 s4 => ⟨_, rfl, ?_⟩⟩
          have sm4 := sm2.trans s4
          have hF4 := s4 _ _ hF2
          have hW4 : ∀ y ∈ ws, H y.1 = none ∧ H4 y.1 = some (.lst (y.2.map V.int)) ∧ y.1 ≠ fo := fun y hy => ⟨(hW2 y hy).1, s4 _ _ (hW2 y hy).2.1, (hW2 y hy).2.2⟩
          have hp4 := s4 _ _ (upd_same (H := H3) (a := p) (o := .lst (x.map V.int)))
          cases hLk : lacks (zs.map (·.2)) x with
          | false => exact iteF ⟨_, _, ws, rfl, ⟨hF4, hW4, ndW, stay (.inr hLk), sm4⟩, by omega⟩
          | true =>
            refine iteT ⟨_, rfl, .inl ⟨rfl, _, SqL.of hF4⟩, _, rfl, fo, _, _, rfl, rfl, hF4, by rw [List.length_map]; exact Nat.lt_of_le_of_lt (show ws.length ≤ 100 by omega) (by decide), ?_⟩
            refine ⟨_, _, ws ++ [(p, x)], rfl, ⟨by rw [upd_same, List.map_append]; rfl, fun y hy => ?_, ?_, fun y => ?_, same_put sm4 hfoH⟩, by rw [List.length_append, List.length_singleton]; omega⟩
            · rcases List.mem_append.mp hy with hy | hy
              · obtain ⟨a1, a2, a3⟩ := hW4 y hy
                exact ⟨a1, by rw [upd_ne a3]; exact a2, a3⟩
              · rw [List.mem_singleton.mp hy]
                exact ⟨hpH, by rw [upd_ne npf]; exact hp4, npf⟩
            · rw [List.map_append]
              refine List.nodup_append.mpr ⟨ndW, by simp, fun a ha b hb' => ?_⟩
              have e : b = x := by simpa using hb'
              rw [e]
              exact fun q => hin (q ▸ ha)
            · rw [List.map_append, List.mem_append]
              constructor
              · rintro (h | h)
                · rcases (hM y).mp h with h | ⟨k, h1, h2, h3⟩
                  · exact .inl h
                  · exact .inr ⟨k, h1, by omega, h3⟩
                · have e : y = x := by simpa using h
                  rw [e]
                  exact .inr ⟨j + 1, by omega, Nat.le_refl _, hx.symm, hLk⟩
              · rintro (h | ⟨k, h1, h2, h3, h4⟩)
                · exact .inl ((hM y).mpr (.inl h))
                · by_cases hk : k ≤ j
                  · exact .inl ((hM y).mpr (.inr ⟨k, h1, hk, h3, h4⟩))
                  · have : k = j + 1 := by omega
                    rw [this, hx] at h3
                    exact .inr (by simp [h3])
      · rintro σ H3 ⟨v3, v4, ws, rfl, ⟨hF, hW, ndW, hM, sm⟩, hlen⟩
        refine ⟨_, _, _, ws, rfl, ⟨hF, hW, ndW, fun x => ?_, sm⟩, by omega⟩
        rw [hM]
        constructor
        · rintro ((h | ⟨y, hy, h⟩) | ⟨k, h1, h2, h3⟩)
          · exact .inl h
          · exact .inr ⟨y, by rw [List.take_succ]; exact List.mem_append_left _ hy, h⟩
          · exact .inr ⟨z, by rw [List.take_succ, hzj]; simp, k, h1, by omega, h3⟩
        · rintro (h | ⟨y, hy, k, h1, h2, h3⟩)
          · exact .inl (.inl h)
          · rw [List.take_succ, hzj] at hy
            rcases List.mem_append.mp hy with hy | hy
            · exact .inl (.inr ⟨y, hy, k, h1, h2, h3⟩)
            · have e : y = z := by simpa using hy
              rw [e] at h2 h3
              exact .inr ⟨k, h1, by omega, h3⟩
    · rintro σ H2 ⟨v2, v3, v4, ws, rfl, ⟨hF, hW, ndW, hM, sm⟩, hlen⟩
      rw [List.length_map] at hM hlen
      refine ⟨_, rfl, fo, ws, rfl, hF, fun z hz' => (hW z hz').2.1, ndW, by omega, hLT.same sm, fun D ws' H3 hD hD3 up lt pm pw => ?_⟩
      have lt2 := hLT.same sm
      have inw : ∀ z ∈ ws', z ∈ ws := fun z hz' => pm.mem_iff.mp hz'
      refine kk D ws' _ (sm.free hD) upd_same (fun z hz' => ?_) ⟨fun x => ?_, by rw [List.pairwise_map]; exact pw⟩ (by rw [pm.length_eq]; omega) (fun b u hb' e => ?_) ?_
      · obtain ⟨a1, a2, a3⟩ := hW z (inw z hz')
        have n1 : z.1 ≠ D := ne_of_none a2 hD
        exact ⟨a1, by rw [upd_ne n1]; exact up _ _ (lt2.lst a2) a2, n1⟩
      · have e : x ∈ ws'.map (·.2) ↔ x ∈ ws.map (·.2) := (pm.map (·.2)).mem_iff
        rw [e, hM]
        show (x = [] ∨ _) ↔ (x = [] ∨ _)
        constructor
        · rintro (h | ⟨z, hz', k, h1, h2, h3, h4⟩)
          · exact .inl h
          · rw [List.take_length] at hz'
            exact .inr ⟨z.2, List.mem_map.mpr ⟨z, hz', rfl⟩, k, h1, h2, h3, h4⟩
        · rintro (h | ⟨st, hst', k, h1, h2, h3, h4⟩)
          · exact .inl h
          · obtain ⟨z, hz', rfl⟩ := List.mem_map.mp hst'
            exact .inr ⟨z, by rw [List.take_length]; exact hz', k, h1, h2, h3, h4⟩
      · have q := up b u hb' (sm _ _ e)
        rw [upd_ne (ne_of_none q hD3)]; exact q
      · exact LT.same (show LT T0 H3 from lt) (same_upd hD3)
end
end Lw
set_option Elab.async false
set_option linter.all false
set_option maxRecDepth 100000
namespace Lw
open PySem L2 PyProof.Rows
section
variable {P : Program} {w : World} {K : PySem.W.Frag} {mg : Str → Option Value} {base : Heap} {T0 : Addr}
def plc (ls ws : List (List Int)) (fs : List Int) : V := if lacks ls fs = true then .int ((ws.idxOf (tailS ls fs) : Nat) : Int) else .non
theorem not_of_lt_idxOf {x : List Int} : ∀ {xs : List (List Int)} {m : Nat}, m < xs.idxOf x → ∀ h : m < xs.length, xs[m] ≠ x
  | [], m, h, h' => by simp at h'
  | y :: ys, m, h, h' => by
    rw [List.idxOf_cons] at h
    by_cases e : y = x
    · subst e; simp at h
    · have e' : (y == x) = false := by simpa using e
      rw [e'] at h
      cases m with
      | zero => simpa using e
      | succ m => simpa using not_of_lt_idxOf (x := x) (xs := ys) (m := m) (by simpa using h) (by simpa using h')
def sp_place_behind : Sp := fun vs H Q _ => ∃ (bl Dd fa : Addr) (zs ws : List (Addr × List Int)) (fs : List Int), vs = [.ref bl, .ref Dd, .ref fa] ∧ H bl = some (.lst (zs.map fun z => V.ref z.1)) ∧ (∀ z ∈ zs, H z.1 = some (.lst (z.2.map V.int))) ∧ H Dd = some (.lst (ws.map fun z => V.ref z.1)) ∧ (∀ z ∈ ws, H z.1 = some (.lst (z.2.map V.int))) ∧ H fa = some (.lst (fs.map V.int)) ∧ zs.length ≤ 4 ∧ ws.length ≤ 13 ∧ fs.length ≤ 1000 ∧ (∀ z ∈ zs, z.2 ≠ [] ∧ z.2.length ≤ 4) ∧
  (lacks (zs.map (·.2)) fs = true → tailS (zs.map (·.2)) fs ∈ ws.map (·.2)) ∧ ∀ H', Same H H' → Q (plc (zs.map (·.2)) (ws.map (·.2)) fs) H'
theorem sc_place_behind : FnScope ["bad", "stands", "figures", "stand"] ["bad", "stands", "figures"] (defScope s_place_behind) := ⟨rfl, rfl, rfl, by decide +kernel, rfl, by decide +kernel, by decide +kernel⟩
theorem ok_place_behind {f f1 : Addr} {fd fd1 : FuncData} (D : Df K mg "place_behind" s_place_behind ["bad", "stands", "figures"] f fd) (Dlongest_stand : Df K mg "longest_stand" s_longest_stand ["bad", "figures"] f1 fd1) (Glongest_stand : FnOk P w K mg base CX0 3 f1 fd1 ["bad", "figures"] sp_longest_stand) : FnOk P w K mg base CX0 4 f fd ["bad", "stands", "figures"] sp_place_behind := by
  refine D.fn.ok sc_place_behind (fun vs H Q E h => ?_) (fun cdv A outer s H vs Q E hr h => ?_)
  · obtain ⟨bl, Dd, fa, zs, ws, fs, rfl, _⟩ := h; rfl
  · obtain ⟨bl, Dd, fa, zs, ws, fs, rfl, hb, hz, hD, hw, hf, h4, h13, hl, hst, hin, kk⟩ := h
    have HU := HUof hr
    refine ⟨_, (pss_cons (ps_set (i := 3) sc_place_behind.nd rfl (Or.inl rfl) (pcall Dlongest_stand Glongest_stand (hr.mono (by decide)) (pa_cons (pv 0) (pa_cons (pv 2) pa_nil))))
      (pss_cons (ps_if (pt_cmpR op_isN (pv 3) pe_non (nomark _))
        (pss_one (ps_ret pe_non))
        pss_nil)
      (pss_one (ps_ret (pe_bm PySem.F.plainAttrs_list PySem.F.slot_list_index PySem.F.type_list_index (k_indexT K HU) (pv 1) (pa_cons (pv 3) pa_nil)))))), ?_⟩
    refine ⟨_, rfl, _, rfl, bl, fa, zs, fs, rfl, hb, hz, hf, by omega, hl, fun z hz => ⟨(hst z hz).1, Nat.le_trans (hst z hz).2 (by decide)⟩, fun v H1 sv s1 => ?_⟩
    have q := kk H1 s1
    unfold plc at q
    rcases sv with ⟨hL, rfl⟩ | ⟨hL, l, rfl, hn, hv⟩
    · rw [hL, if_neg (by decide)] at q
      exact ⟨_, rfl, rfl, _, rfl, iteT q⟩
    · rw [if_pos hL] at q
      have hm := hin hL
      have hlt := List.idxOf_lt_length_iff.mpr hm
      refine ⟨_, rfl, rfl, _, rfl, iteF ?_⟩
      refine ⟨_, rfl, .inl ⟨rfl, _, SqL.of (s1 _ _ hD)⟩, _, rfl, Dd, _, _, (ws.map (·.2)).map tInts, tInts (tailS (zs.map (·.2)) fs), (ws.map (·.2)).idxOf (tailS (zs.map (·.2)) fs), rfl, rfl, SqL.of (s1 _ _ hD), TrsAt.lists (fun z hz => s1 _ _ (hw z hz)), TrAt.ints (a := l) (SqL.of hv), Nat.le_trans (tdeps_tInts _) (by decide), by rw [List.length_map]; exact hlt, ?_, ?_, q⟩
      · intro t ht
        rw [List.getElem?_map, List.getElem?_eq_getElem hlt, Option.map_some] at ht
        rw [← Option.some.inj ht, List.getElem_idxOf hlt, teq_ints, decide_eq_true rfl]
      · intro m t hm' ht
        rw [List.getElem?_map, List.getElem?_eq_getElem (Nat.lt_trans hm' hlt), Option.map_some] at ht
        rw [← Option.some.inj ht, teq_ints, decide_eq_false]
        intro e
        have q3 := not_of_lt_idxOf hm' (Nat.lt_trans hm' hlt)
        exact q3 e
def rowV (ls ws : List (List Int)) (b : Nat) (x : List Int) : List V := (List.range b).map fun (c : Nat) => plc ls ws (x ++ [(c : Int)])
def sp_steps_from : Sp := fun vs H Q _ => ∃ (r : Addr) (b : Nat) (bl : Addr) (zs : List (Addr × List Int)) (Dd : Addr) (ws : List (Addr × List Int)) (sa : Addr) (xs : List Int), vs = [.ref r, .ref Dd, .ref sa] ∧ RuleAt H r b bl zs ∧ GoodRule b (zs.map (·.2)) ∧ H Dd = some (.lst (ws.map fun z => V.ref z.1)) ∧ (∀ z ∈ ws, H z.1 = some (.lst (z.2.map V.int))) ∧ StandsL (zs.map (·.2)) (ws.map (·.2)) ∧ ws.length ≤ 13 ∧ H sa = some (.lst (xs.map V.int)) ∧ xs.length ≤ 100 ∧
  ∀ p H', H p = none → Same H H' → H' p = some (.lst (rowV (zs.map (·.2)) (ws.map (·.2)) b xs)) → Q (.ref p) H'
theorem sc_steps_from : FnScope ["rule", "stands", "stand"] ["rule", "stands", "stand"] (defScope s_steps_from) := ⟨rfl, rfl, rfl, by decide +kernel, rfl, by decide +kernel, by decide +kernel⟩
theorem ok_steps_from {f f1 : Addr} {fd fd1 : FuncData} (D : Df K mg "steps_from" s_steps_from ["rule", "stands", "stand"] f fd) (Dplace_behind : Df K mg "place_behind" s_place_behind ["bad", "stands", "figures"] f1 fd1) (Gplace_behind : FnOk P w K mg base CX0 4 f1 fd1 ["bad", "stands", "figures"] sp_place_behind) (T : Blt mg) : FnOk P w K mg base CX0 5 f fd ["rule", "stands", "stand"] sp_steps_from := by
  refine D.fn.ok sc_steps_from (fun vs H Q E h => ?_) (fun cdv A outer s H vs Q E hr h => ?_)
  · obtain ⟨r, b, bl, zs, Dd, ws, sa, xs, rfl, _⟩ := h; rfl
  · obtain ⟨r, b, bl, zs, Dd, ws, sa, xs, rfl, R, g, hD, hw, SL, h13, hs, hl, kk⟩ := h
    have h4 : zs.length ≤ 4 := by have := g.len; rwa [List.length_map] at this
    have ne : ∀ l ∈ zs.map (·.2), l ≠ [] := fun l hl => (g.st l hl).ne
    refine ⟨_, (pss_one (ps_ret (pe_comp (show CScope (defScope s_steps_from) _ "figure" ["rule", "stands", "stand"] ["stands", "rule", "stand"] [1, 0, 2] from ⟨rfl, by decide +kernel, by decide +kernel, rfl, by decide +kernel, rfl, by decide +kernel, by decide +kernel⟩) rfl (pi_range1 rfl T.n_range (pa_cons (pe_ix (k_ixT K) (pv 0) pe_int (fun _ _ => rfl)) pa_nil)) (fun _ _ _ _ => pts_nil) (fun _ _ _ _ => (pcall Dplace_behind Gplace_behind (hr.mono (by decide)) (pa_cons (pe_ix (k_ixT K) (pv 2) pe_int (fun _ _ => rfl)) (pa_cons (pv 1) (pa_cons (pe_op op_cat (pv 3) (pe_lst (pa_cons (pv 0) pa_nil))) pa_nil)))))))), ?_⟩
    have b16 := g.b16
    refine ⟨_, rfl, r, _, _, V.int b, rfl, rfl, SqT.of R.tu, rfl, (b : Int), rfl, by omega, by omega, comp_range (lo := 0) (n := (b : Int).toNat) (fun i ys H4 => ys = rowV (zs.map (·.2)) (ws.map (·.2)) i xs ∧ Same H H4) ⟨rfl, Same.refl _⟩ ?_ ?_⟩
    · rintro i ys H4 hi ⟨rfl, s4⟩
      have hi' : i < b := by omega
      refine ⟨?_, ?_⟩
      · unfold rowV
        rw [List.length_map, List.length_range]
        exact Nat.lt_of_lt_of_le (show i < 16 by omega) (by decide)
      unfold tYes
      dsimp only
      rw [if_pos rfl]
      have R4 := R.same s4
      have hs4 := s4 _ _ hs
      refine ⟨_, rfl, r, _, _, V.ref bl, rfl, rfl, SqT.of R4.tu, rfl, _, rfl, _, rfl, _, rfl, (by show 1 ≤ sizeLine; decide), fun p1 q1 => ?_⟩
      have n1 : sa ≠ p1 := ne_of_none hs4 q1
      refine ⟨sa, p1, _, _, rfl, rfl, by rw [upd_ne n1]; exact hs4, upd_same, by rw [List.length_map]; exact Nat.le_trans (show xs.length + 1 ≤ 101 by omega) (by decide), fun p2 q2 => ?_⟩
      have t2 := s4.trans ((same_upd q1 (o := .lst [V.int (0 + (i : Int))])).trans (same_upd q2 (o := .lst (xs.map V.int ++ [V.int (0 + (i : Int))]))))
      have R5 := R.same t2
      refine ⟨bl, Dd, p2, zs, ws, xs ++ [0 + (i : Int)], rfl, R5.li, R5.st, t2 _ _ hD, fun z hz => t2 _ _ (hw z hz), by rw [upd_same, List.map_append]; rfl, h4, h13, by rw [List.length_append, List.length_singleton]; omega, fun z hz => ⟨(g.st _ (List.mem_map.mpr ⟨z, hz, rfl⟩)).ne, (g.st _ (List.mem_map.mpr ⟨z, hz, rfl⟩)).len⟩, fun h => (SL.mem _).mpr (tailS_isSt ne h), fun H5 s5 => ⟨?_, t2.trans s5⟩⟩
      unfold rowV
      rw [List.range_succ, List.map_append, Int.zero_add]
      rfl
    · rintro ys H4 ⟨rfl, s4⟩ p hp
      refine kk p _ (s4.free hp) (s4.trans (same_upd hp)) ?_
      rw [upd_same, Int.toNat_natCast]
def stepsV (ls ws : List (List Int)) (b : Nat) : List (List V) := ws.map (rowV ls ws b) ++ [V.int (ws.length : Nat) :: (rowV ls ws b []).drop 1]
def sp_all_steps : Sp := fun vs H Q _ => ∃ (r : Addr) (b : Nat) (bl : Addr) (zs : List (Addr × List Int)) (Dd : Addr) (ws : List (Addr × List Int)), vs = [.ref r, .ref Dd] ∧ RuleAt H r b bl zs ∧ GoodRule b (zs.map (·.2)) ∧ H Dd = some (.lst (ws.map fun z => V.ref z.1)) ∧ (∀ z ∈ ws, H z.1 = some (.lst (z.2.map V.int))) ∧ StandsL (zs.map (·.2)) (ws.map (·.2)) ∧ ws.length ≤ 13 ∧
  ∀ (p : Addr) (rs : List (Addr × List V)) (H' : Hp), H p = none → Same H H' → H' p = some (.lst (rs.map fun z => V.ref z.1)) → (∀ z ∈ rs, H z.1 = none ∧ H' z.1 = some (.lst z.2)) → rs.map (·.2) = stepsV (zs.map (·.2)) (ws.map (·.2)) b → Q (.ref p) H'
theorem sc_all_steps : FnScope ["rule", "stands", "steps"] ["rule", "stands"] (defScope s_all_steps) := ⟨rfl, rfl, rfl, by decide +kernel, rfl, by decide +kernel, by decide +kernel⟩
theorem ok_all_steps {f f1 : Addr} {fd fd1 : FuncData} (D : Df K mg "all_steps" s_all_steps ["rule", "stands"] f fd) (Dsteps_from : Df K mg "steps_from" s_steps_from ["rule", "stands", "stand"] f1 fd1) (Gsteps_from : FnOk P w K mg base CX0 5 f1 fd1 ["rule", "stands", "stand"] sp_steps_from) (T : Blt mg) : FnOk P w K mg base CX0 6 f fd ["rule", "stands"] sp_all_steps := by
  refine D.fn.ok sc_all_steps (fun vs H Q E h => ?_) (fun cdv A outer s H vs Q E hr h => ?_)
  · obtain ⟨r, b, bl, zs, Dd, ws, rfl, _⟩ := h; rfl
  · obtain ⟨r, b, bl, zs, Dd, ws, rfl, R, g, hD, hw, SL, h13, kk⟩ := h
    have l3 : ∀ z ∈ ws, z.2.length ≤ 3 := fun z hz => isSt_len (fun st h => (g.st st h).len) ((SL.mem _).mp (List.mem_map.mpr ⟨z, hz, rfl⟩))
    obtain ⟨w1, hw1⟩ := SL.first
    refine ⟨_, (pss_cons (ps_setComp (i := 2) (show CScope (defScope s_all_steps) _ "stand" ["rule", "stands", "steps"] ["rule", "stands"] [0, 1] from ⟨rfl, by decide +kernel, by decide +kernel, rfl, by decide +kernel, rfl, by decide +kernel, by decide +kernel⟩) rfl sc_all_steps.nd rfl (Or.inl rfl) (k_pi K (pv 1)) (fun _ _ _ _ => pts_nil) (fun _ _ _ _ => (pcall Dsteps_from Gsteps_from (hr.mono (by decide)) (pa_cons (pv 1) (pa_cons (pv 2) (pa_cons (pv 0) pa_nil))))))
      (pss_one (ps_ret (pe_op op_cat (pv 2) (pe_lst (pa_cons (pe_op op_cat (pe_lst (pa_cons (pe_callB (k_len K) (by rfl) T.n_len PySem.boot_len (pa_cons (pv 1) pa_nil)) pa_nil)) (pe_slice (k_slL K) (pe_ix (k_ixL K) (pv 2) pe_int (fun _ _ => rfl)) (po_some pe_int) po_none)) pa_nil)))))), ?_⟩
    refine ⟨_, rfl, Dd, rfl, ⟨_, SqL.of hD⟩, comp_list (K := K) (a := Dd) (xs := ws.map fun z => V.ref z.1) (fun i ys H4 => ∃ rs : List (Addr × List V), ys = (rs.map fun z => V.ref z.1) ∧ (∀ z ∈ rs, H z.1 = none ∧ H4 z.1 = some (.lst z.2)) ∧ rs.map (·.2) = (ws.take i).map (fun z => rowV (zs.map (·.2)) (ws.map (·.2)) b z.2) ∧ Same H H4) ⟨[], rfl, fun z hz => (by cases hz), rfl, Same.refl _⟩ (fun i ys H4 _ ⟨_, _, _, _, e⟩ => SqL.of (e _ _ hD)) ?_ ?_⟩
    · rintro j x ys H4 hx ⟨rs, rfl, hrs, hr2, s4⟩
      rw [List.getElem?_map] at hx
      obtain ⟨z, hzj, e⟩ := Option.map_eq_some_iff.mp hx
      subst e
      have hzm := List.mem_of_getElem? hzj
      refine ⟨?_, ?_⟩
      · have e1 := congrArg List.length hr2
        rw [List.length_map, List.length_map, List.length_take] at e1
        rw [List.length_map, e1]
        exact Nat.lt_of_le_of_lt (Nat.le_trans (Nat.min_le_right _ _) h13) (by decide)
      unfold tYes
      dsimp only
      rw [if_pos rfl]
      refine ⟨_, rfl, _, rfl, _, rfl, r, b, bl, zs, Dd, ws, z.1, z.2, rfl, R.same s4, g, s4 _ _ hD, fun z hz => s4 _ _ (hw z hz), SL, h13, s4 _ _ (hw z hzm), Nat.le_trans (l3 z hzm) (by decide), fun p H5 hp s5 hv => ?_⟩
      refine ⟨rs ++ [(p, rowV (zs.map (·.2)) (ws.map (·.2)) b z.2)], by simp, fun y hy => ?_, ?_, s4.trans s5⟩
      · rcases List.mem_append.mp hy with h | h
        · exact ⟨(hrs y h).1, s5 _ _ (hrs y h).2⟩
        · rw [List.mem_singleton] at h
          subst h
          exact ⟨s4.free hp, hv⟩
      · rw [List.map_append, hr2, List.take_succ, hzj]
        simp
    · rintro ys H4 ⟨rs, rfl, hrs, hr2, s4⟩ p hp
      have hl2 := congrArg List.length hr2
      rw [List.length_map, List.take_length] at hr2
      rw [List.length_map, List.length_map, List.length_take, List.length_map, Nat.min_self] at hl2
      obtain ⟨w0, ws', rfl⟩ : ∃ w0 ws', ws = w0 :: ws' := by
        cases ws with
        | nil => simp at hw1
        | cons a b => exact ⟨a, b, rfl⟩
      have hw0 : w0.2 = [] := by
        rw [List.map_cons] at hw1
        exact (List.cons.inj hw1).1
      obtain ⟨r0, rs', rfl⟩ : ∃ r0 rs', rs = r0 :: rs' := by
        cases rs with
        | nil => simp at hl2
        | cons a b => exact ⟨a, b, rfl⟩
      have hr0 : r0.2 = rowV (zs.map (·.2)) ((w0 :: ws').map (·.2)) b [] := by
        have e := (List.cons.inj hr2).1
        rw [← hw0]
        exact e
      have t4 := s4.trans (same_upd hp (o := .lst ((r0 :: rs').map fun z => V.ref z.1)))
      have hr04 : ∀ z ∈ r0 :: rs', upd H4 p (.lst ((r0 :: rs').map fun z => V.ref z.1)) z.1 = some (.lst z.2) := fun z hz => same_upd hp _ _ (hrs z hz).2
      refine ⟨_, rfl, _, rfl, Dd, _, rfl, .inl (SqL.of (t4 _ _ hD)), (by show 1 ≤ sizeLine; decide), fun p1 q1 => ?_⟩
      have u1 := same_upd q1 (o := .lst [V.int (((w0 :: ws').map fun z => V.ref z.1).length : Nat)])
      refine ⟨_, rfl, p, _, _, V.ref r0.1, rfl, rfl, SqL.of (u1 _ _ upd_same), atI_nat (j := 0) rfl, _, rfl, r0.1, _, rfl, SqL.of (u1 _ _ (hr04 r0 List.mem_cons_self)), fun p2 q2 => ?_⟩
      have hb1 : r0.2.length ≤ 16 := by
        rw [hr0]
        unfold rowV
        rw [List.length_map, List.length_range]
        exact g.b16
      have u2 := u1.trans (same_upd q2 (o := .lst (cutV r0.2 (some 1) none)))
      refine ⟨p1, p2, _, _, rfl, rfl, same_upd q2 _ _ upd_same, upd_same, ?_, fun p3 q3 => ?_⟩
      · rw [show (1 : Int) = ((1 : Nat) : Int) from rfl, cutV_from, List.length_drop, List.length_singleton]
        exact Nat.le_trans (show 1 + (r0.2.length - 1) ≤ 100 by omega) (by decide)
      have ev : ([V.int (((w0 :: ws').map fun z => V.ref z.1).length : Nat)] ++ cutV r0.2 (some 1) none) = V.int (((w0 :: ws').map (·.2)).length : Nat) :: (rowV (zs.map (·.2)) ((w0 :: ws').map (·.2)) b []).drop 1 := by
        rw [show (1 : Int) = ((1 : Nat) : Int) from rfl, cutV_from, hr0, List.length_map, List.length_map]
        rfl
      have u3 := u2.trans (same_upd q3 (o := .lst ([V.int (((w0 :: ws').map fun z => V.ref z.1).length : Nat)] ++ cutV r0.2 (some 1) none)))
      refine ⟨(by show 1 ≤ sizeLine; decide), fun p4 q4 => ?_⟩
      have u4 := u3.trans (same_upd q4 (o := .lst [V.ref p3]))
      refine ⟨p, p4, _, _, rfl, rfl, u4 _ _ upd_same, upd_same, ?_, fun p5 q5 => ?_⟩
      · rw [List.length_map, List.length_singleton]
        exact Nat.le_trans (show (r0 :: rs').length + 1 ≤ 100 by omega) (by decide)
      have u5 := u4.trans (same_upd q5 (o := .lst ((r0 :: rs').map (fun z => V.ref z.1) ++ [V.ref p3])))
      refine kk p5 (r0 :: rs' ++ [(p3, [V.int (((w0 :: ws').map fun z => V.ref z.1).length : Nat)] ++ cutV r0.2 (some 1) none)]) _ (t4.free (u4.free q5)) (t4.trans u5) ?_ ?_ ?_
      · rw [upd_same, List.map_append]
        rfl
      · intro z hz
        rcases List.mem_append.mp hz with h | h
        · exact ⟨(hrs z h).1, u5 _ _ (hr04 z h)⟩
        · rw [List.mem_singleton] at h
          subst h
          exact ⟨t4.free (u2.free q3), same_upd q5 _ _ (same_upd q4 _ _ upd_same)⟩
      · rw [List.map_append, hr2, ev]
        unfold stepsV
        rw [List.map_map]
        rfl
end
end Lw
set_option Elab.async false
set_option linter.all false
set_option maxRecDepth 100000
namespace Lw
open PySem L2 PyProof.Rows
structure ClT (K : PySem.W.Frag) (mg : Str → Option Value) (C : Addr) : Prop where
  cl : Cls K C
  nm : mg "Tails" = some (.ref C)
  n_base : NoAttr K C "base"
  n_outset : NoAttr K C "outset"
  n_steps : NoAttr K C "steps"
  n_layers : NoAttr K C "layers"
def fldT (b n : Nat) (sa la : Addr) : List (Str × V) := putF "layers" (.ref la) (putF "steps" (.ref sa) (putF "outset" (.int n) (putF "base" (.int b) [])))
theorem fldT_base (b n : Nat) (sa la : Addr) : (fldT b n sa la).lookup ("base" : Str) = some (.int b) := by
  unfold fldT
  rw [lookup_putF, if_neg (by decide +kernel), lookup_putF, if_neg (by decide +kernel), lookup_putF, if_neg (by decide +kernel), lookup_putF, if_pos rfl]
theorem fldT_outset (b n : Nat) (sa la : Addr) : (fldT b n sa la).lookup ("outset" : Str) = some (.int n) := by
  unfold fldT
  rw [lookup_putF, if_neg (by decide +kernel), lookup_putF, if_neg (by decide +kernel), lookup_putF, if_pos rfl]
theorem fldT_steps (b n : Nat) (sa la : Addr) : (fldT b n sa la).lookup ("steps" : Str) = some (.ref sa) := by
  unfold fldT
  rw [lookup_putF, if_neg (by decide +kernel), lookup_putF, if_pos rfl]
theorem fldT_layers (b n : Nat) (sa la : Addr) : (fldT b n sa la).lookup ("layers" : Str) = some (.ref la) := by
  unfold fldT
  rw [lookup_putF, if_pos rfl]
theorem fldT_no (b n : Nat) (sa la : Addr) {m : Str} (h1 : ¬ m = "layers") (h2 : ¬ m = "steps") (h3 : ¬ m = "outset") (h4 : ¬ m = "base") : (fldT b n sa la).lookup m = none := by
  unfold fldT
  rw [lookup_putF, if_neg h1, lookup_putF, if_neg h2, lookup_putF, if_neg h3, lookup_putF, if_neg h4]
  rfl
def layerV (ls ws : List (List Int)) (b t : Nat) : List Int := (ws.map fun x => ((cnt ls b t x : Nat) : Int)) ++ [((cntO ls b t : Nat) : Int)]
def stepV (ls ws : List (List Int)) : Option (List Int) → Nat → V
  | some x, c => plc ls ws (x ++ [(c : Int)])
  | none, c => if c = 0 then .int (ws.length : Nat) else plc ls ws [(c : Int)]
theorem stepV_none (ls ws : List (List Int)) (c : Nat) : stepV ls ws none c = if c = 0 then .int (ws.length : Nat) else plc ls ws [(c : Int)] := rfl
theorem stepC_some (ls : List (List Int)) (b t : Nat) (x : List Int) (c : Nat) : stepC ls b t (some x) c = if lacks ls (x ++ [(c : Int)]) = true then cnt ls b t (tailS ls (x ++ [(c : Int)])) else 0 := rfl
theorem stepC_none (ls : List (List Int)) (b t : Nat) (c : Nat) : stepC ls b t none c = if c = 0 then cntO ls b t else if lacks ls [(c : Int)] = true then cnt ls b t (tailS ls [(c : Int)]) else 0 := rfl
theorem stepsV_get {ls ws : List (List Int)} {b i : Nat} (hb : 1 ≤ b) (hi : i ≤ ws.length) : (stepsV ls ws b)[i]? = some ((List.range b).map (stepV ls ws ws[i]?)) := by
  unfold stepsV
  by_cases h : i < ws.length
  · rw [List.getElem?_append_left (by rw [List.length_map]; exact h), List.getElem?_map, List.getElem?_eq_getElem h]
    rfl
  · have e : i = ws.length := by omega
    subst e
    rw [List.getElem?_append_right (by rw [List.length_map]; exact Nat.le_refl _), List.length_map, Nat.sub_self, List.getElem?_eq_none (Nat.le_refl _)]
    show some _ = some _
    congr 1
    obtain ⟨k, rfl⟩ : ∃ k, b = k + 1 := ⟨b - 1, by omega⟩
    unfold rowV
    rw [List.range_succ_eq_map, List.map_cons, List.map_cons, List.drop_succ_cons, List.drop_zero]
    rw [List.map_map, List.map_map]
    rfl
structure TailsAt (C : Addr) (H : Hp) (p la : Addr) (b : Nat) (ls ws : List (List Int)) (L : Nat) : Prop where
  ob : ∃ (dx sa : Addr) (srs : List (Addr × List V)), aw [la] H p = some (.ins C dx (fldT b ws.length sa la)) ∧ aw [la] H sa = some (.lst (srs.map fun z => V.ref z.1)) ∧ (∀ z ∈ srs, aw [la] H z.1 = some (.lst z.2)) ∧ srs.map (·.2) = stepsV ls ws b
  ly : ∃ lrs : List (Addr × List Int), H la = some (.lst (lrs.map fun z => V.ref z.1)) ∧ (∀ z ∈ lrs, aw [la] H z.1 = some (.lst (z.2.map V.int))) ∧ lrs.map (·.2) = (List.range L).map (layerV ls ws b)
  l1 : 1 ≤ L
structure GoodT (b : Nat) (ls ws : List (List Int)) : Prop where
  g : GoodRule b ls
  s : StandsL ls ws
  h13 : ws.length ≤ 13
theorem GoodT.ne {b : Nat} {ls ws : List (List Int)} (G : GoodT b ls ws) : ∀ l ∈ ls, l ≠ [] := fun l hl => (G.g.st l hl).ne
theorem TailsAt.same {C p la b : Nat} {H H' : Hp} {ls ws : List (List Int)} {L : Nat} (A : TailsAt C H p la b ls ws L) (m : Same H H') : TailsAt C H' p la b ls ws L := by
  obtain ⟨dx, sa, srs, h1, h2, h3, h4⟩ := A.ob
  obtain ⟨lrs, g1, g2, g3⟩ := A.ly
  have m' := m.aw [la]
  exact ⟨⟨dx, sa, srs, m' _ _ h1, m' _ _ h2, fun z hz => m' _ _ (h3 z hz), h4⟩, ⟨lrs, m _ _ g1, fun z hz => m' _ _ (g2 z hz), g3⟩, A.l1⟩
theorem stepV_cases {ls ws : List (List Int)} {b t : Nat} (G : GoodT b ls ws) {i c : Nat} (hi : i ≤ ws.length) :
    (stepV ls ws ws[i]? c = .non ∧ stepC ls b t ws[i]? c = 0) ∨ ∃ j : Nat, stepV ls ws ws[i]? c = .int j ∧ j ≤ ws.length ∧ (layerV ls ws b t)[j]? = some ((stepC ls b t ws[i]? c : Nat) : Int) := by
  have at_ : ∀ fs : List Int, lacks ls fs = true → ∃ j : Nat, plc ls ws fs = .int j ∧ j ≤ ws.length ∧ (layerV ls ws b t)[j]? = some ((cnt ls b t (tailS ls fs) : Nat) : Int) := by
    intro fs h
    have hm : tailS ls fs ∈ ws := (G.s.mem _).mpr (tailS_isSt G.ne h)
    have hlt := List.idxOf_lt_length_iff.mpr hm
    refine ⟨ws.idxOf (tailS ls fs), by unfold plc; rw [if_pos h], Nat.le_of_lt hlt, ?_⟩
    unfold layerV
    rw [List.getElem?_append_left (by rw [List.length_map]; exact hlt), List.getElem?_map, List.getElem?_eq_getElem hlt, List.getElem_idxOf hlt]
    rfl
  cases hw : ws[i]? with
  | some x =>
    show (plc ls ws (x ++ [(c : Int)]) = .non ∧ (if lacks ls (x ++ [(c : Int)]) = true then _ else 0) = 0) ∨ _
    by_cases h : lacks ls (x ++ [(c : Int)]) = true
    · right
      obtain ⟨j, h1, h2, h3⟩ := at_ _ h
      refine ⟨j, h1, h2, ?_⟩
      rw [h3, stepC_some, if_pos h]
    · left
      exact ⟨by unfold plc; rw [if_neg h], by rw [if_neg h]⟩
  | none =>
    by_cases h0 : c = 0
    · right
      refine ⟨ws.length, by rw [stepV_none, if_pos h0], Nat.le_refl _, ?_⟩
      unfold layerV
      rw [stepC_none, if_pos h0, List.getElem?_append_right (by rw [List.length_map]; exact Nat.le_refl _), List.length_map, Nat.sub_self]
      rfl
    · by_cases h : lacks ls [(c : Int)] = true
      · right
        obtain ⟨j, h1, h2, h3⟩ := at_ _ h
        refine ⟨j, by rw [stepV_none, if_neg h0]; exact h1, h2, ?_⟩
        rw [h3, stepC_none, if_neg h0, if_pos h]
      · left
        refine ⟨?_, ?_⟩
        · rw [stepV_none, if_neg h0]; unfold plc; rw [if_neg h]
        · rw [stepC_none, if_neg h0, if_neg h]
theorem aw_upd_in' {fp : List Addr} {H : Hp} {b : Addr} {o : HO} (h : b ∈ fp) : aw fp (upd H b o) = aw fp H := by
  funext c
  by_cases hc : c ∈ fp
  · rw [aw_in hc, aw_in hc]
  · rw [aw_out hc, aw_out hc, upd_ne (fun z : c = b => hc (by rw [z]; exact h))]
section
variable {P : Program} {w : World} {K : PySem.W.Frag} {mg : Str → Option Value} {base : Heap} {T0 C : Addr}
def sp_many_by (C : Addr) : Sp := fun vs H Q _ => ∃ (p la : Addr) (b : Nat) (ls ws : List (List Int)) (L t : Nat) (lay : Addr) (i s : Nat), vs = [.ref p, .ref lay, .int i, .int s] ∧ TailsAt C H p la b ls ws L ∧ GoodT b ls ws ∧ H lay = some (.lst ((layerV ls ws b t).map V.int)) ∧ i ≤ ws.length ∧ s ≤ b ∧
  ∀ H', Same H H' → Q (.int (under ls b t ws[i]? s : Nat)) H'
theorem sc_Tails_many_by : FnScope ["self", "layer", "place", "stop"] ["self", "layer", "place", "stop"] (defScope s_Tails_many_by) := ⟨rfl, rfl, rfl, by decide +kernel, rfl, by decide +kernel, by decide +kernel⟩
theorem ok_many_by {f : Addr} {fd : FuncData} (D : Mt K C "Tails.many_by" "many_by" s_Tails_many_by ["self", "layer", "place", "stop"] f fd) (cTails : ClT K mg C) (T : Blt mg) (U : Blt2 mg) : FnOk P w K mg base CX0 1 f fd ["self", "layer", "place", "stop"] (sp_many_by C) := by
  refine D.fn.ok sc_Tails_many_by (fun vs H Q E h => ?_) (fun cdv A outer s H vs Q E hr h => ?_)
  · obtain ⟨p, la, b, ls, ws, L, t, lay, i, s, rfl, _⟩ := h; rfl
  · obtain ⟨p, la, b, ls, ws, L, t, lay, i, s, rfl, TA, G, hlay, hi, hs, kk⟩ := h
    obtain ⟨dx, sa, srs, h1, h2, h3, h4⟩ := TA.ob
    have b16 := G.g.b16
    have b2 := G.g.b2
    refine ⟨_, (pss_one (ps_ret (pe_callB (k_sum K rfl) (by rfl) U.n_sum boot_sum (pa_cons (pe_comp (show CScope (defScope s_Tails_many_by) _ "behind" ["self", "layer", "place", "stop"] ["layer"] [1] from ⟨rfl, by decide +kernel, by decide +kernel, rfl, by decide +kernel, rfl, by decide +kernel, by decide +kernel⟩) rfl (k_pi K (pe_slice (k_slL K) (pe_ix (k_ixL K) (k_fld K (pv 0)) (pv 2) (fun _ _ => rfl)) po_none (po_some (pv 3)))) (fun _ _ _ _ => (pts_one (pt_cmpR op_notN (pv 0) pe_non (nomark _)))) (fun _ _ _ _ => (pe_ix (k_ixL K) (pv 1) (pv 0) (fun _ _ => rfl)))) pa_nil)))), ?_⟩
    have hrow := stepsV_get (ls := ls) (b := b) (by omega) hi
    rw [← h4, List.getElem?_map] at hrow
    obtain ⟨z, hz, ez⟩ := Option.map_eq_some_iff.mp hrow
    have hzm := List.mem_of_getElem? hz
    have hz3 := aw_same _ _ _ _ (h3 z hzm)
    refine ⟨_, rfl, p, C, dx, _, _, rfl, aw_same _ _ _ _ h1, cTails.cl, cTails.n_steps, fldT_steps _ _ _ _, _, rfl, sa, _, _, V.ref z.1, rfl, rfl, SqL.of (aw_same _ _ _ _ h2), atI_nat (by rw [List.getElem?_map, hz]; rfl), ?_⟩
    refine ⟨_, rfl, _, rfl, z.1, _, rfl, SqL.of hz3, fun q hq => ?_⟩
    have m1 := same_upd hq (o := .lst (cutV z.2 none (some (s : Int))))
    have ecut : cutV z.2 none (some (s : Int)) = (List.range s).map (stepV ls ws ws[i]?) := by
      rw [cutV_upto, ez, ← List.map_take, List.take_range, Nat.min_eq_left hs]
    rw [ecut] at m1 ⊢
    refine ⟨q, rfl, ⟨_, SqL.of upd_same⟩, comp_list (K := K) (a := q) (xs := (List.range s).map (stepV ls ws ws[i]?)) (fun k ys H4 => H4 = upd H q (.lst ((List.range s).map (stepV ls ws ws[i]?))) ∧ ∃ ms : List Int, ys = ms.map V.int ∧ ms.length ≤ k ∧ ms.sum = ((under ls b t ws[i]? k : Nat) : Int)) ⟨rfl, [], rfl, Nat.le_refl _, by simp [under]⟩ (fun k ys H4 _ ⟨e, _⟩ => by rw [e]; exact SqL.of upd_same) ?_ ?_⟩
    · rintro k x ys H4 hx ⟨rfl, ms, rfl, hml, hms⟩
      rw [List.getElem?_map] at hx
      obtain ⟨c, hc, e⟩ := Option.map_eq_some_iff.mp hx
      have hk : k < s := by have := (List.getElem?_eq_some_iff.mp hc).1; rwa [List.length_range] at this
      have ec : c = k := by
        rw [List.getElem?_range hk] at hc
        exact (Option.some.inj hc).symm
      subst ec
      subst e
      refine ⟨by rw [List.length_map]; exact Nat.lt_of_le_of_lt (show ms.length ≤ 16 by omega) (by decide), ?_⟩
      have hus := under_succ ls b t ws[i]? c
      rcases stepV_cases (t := t) G (c := c) hi with ⟨e1, e2⟩ | ⟨j, e1, e2, e3⟩
      · rw [e1]
        refine ⟨_, rfl, rfl, _, rfl, iteF ⟨rfl, ms, rfl, by omega, ?_⟩⟩
        rw [hus, e2, hms]
        omega
      · rw [e1]
        refine ⟨_, rfl, rfl, _, rfl, iteT ?_⟩
        refine ⟨_, rfl, _, rfl, lay, _, _, V.int ((stepC ls b t ws[i]? c : Nat) : Int), rfl, rfl, SqL.of (m1 _ _ hlay), atI_nat (by rw [List.getElem?_map, e3]; rfl), rfl, ms ++ [((stepC ls b t ws[i]? c : Nat) : Int)], by simp, by rw [List.length_append, List.length_singleton]; omega, ?_⟩
        rw [List.sum_append, hms, hus]
        simp
    · rintro ys H4 ⟨rfl, ms, rfl, hml, hms⟩ Dd hD
      refine ⟨Dd, ms, rfl, SqL.of upd_same, ?_⟩
      rw [hms, List.length_map, List.length_range]
      exact kk _ (m1.trans (same_upd hD))
def NoRef (H : Hp) (a c : Addr) : Prop := ∀ xs, H a = some (.lst xs) → V.ref c ∉ xs
def NR (la : Addr) (H H' : Hp) : Prop := ∀ c o, c ≠ la → H c = some o → NoRef H la c → NoRef H' la c
theorem NR.refl (la : Addr) (H : Hp) : NR la H H := fun _ _ _ _ h => h
theorem go_la {la c : Addr} {H H' : Hp} {o : HO} (m : Same (aw [la] H) (aw [la] H')) (hc : c ≠ la) (e : H c = some o) : H' c = some o := by
  have hc' : c ∉ [la] := by simpa using hc
  have := m c o (by rw [aw_out hc']; exact e)
  rwa [aw_out hc'] at this
theorem NR.trans {la : Addr} {H H1 H2 : Hp} (a : NR la H H1) (m : Same (aw [la] H) (aw [la] H1)) (b : NR la H1 H2) : NR la H H2 := fun c o hc e h => b c o hc (go_la m hc e) (a c o hc e h)
theorem NoRef.same {H H' : Hp} {a c : Addr} {o : HO} (n : NoRef H a c) (h : H a = some o) (h' : H' a = some o) : NoRef H' a c := fun xs hx => n xs (by rw [h, ← h']; exact hx)
theorem NR.same {la : Addr} {H H1 H2 : Hp} {o : HO} (a : NR la H H1) (h : H1 la = some o) (m : Same H1 H2) : NR la H H2 := fun c u hc e n => (a c u hc e n).same h (m _ _ h)
def TQ (C : Addr) (H : Hp) (p la : Addr) (b : Nat) (ls ws : List (List Int)) (L : Nat) (R : Nat → Hp → Prop) : Prop := ∀ (L' : Nat) (H' : Hp), L ≤ L' → TailsAt C H' p la b ls ws L' → Same (aw [la] H) (aw [la] H') → NR la H H' → R L' H'
def sp_layer (C : Addr) : Sp := fun vs H Q _ => ∃ (p la : Addr) (b : Nat) (ls ws : List (List Int)) (L t : Nat), vs = [.ref p, .int t] ∧ TailsAt C H p la b ls ws L ∧ GoodT b ls ws ∧ L ≤ 1000 ∧ t < 1000 ∧
  ∀ lay : Addr, TQ C H p la b ls ws L fun L' H' => L' ≤ max L (t + 1) → aw [la] H' lay = some (.lst ((layerV ls ws b t).map V.int)) → Q (.ref lay) H'
theorem sc_Tails_layer : FnScope ["self", "left", "shorter"] ["self", "left"] (defScope s_Tails_layer) := ⟨rfl, rfl, rfl, by decide +kernel, rfl, by decide +kernel, by decide +kernel⟩
theorem layerV_more {ls ws : List (List Int)} {b t : Nat} : ((List.range (ws.length + 1)).map fun i => ((under ls b t ws[i]? b : Nat) : Int)) = layerV ls ws b (t + 1) := by
  unfold layerV
  apply List.ext_getElem?
  intro i
  rw [List.getElem?_map]
  by_cases h : i < ws.length
  · rw [List.getElem?_range (by omega), List.getElem?_append_left (by rw [List.length_map]; exact h), List.getElem?_map, Option.map_some, List.getElem?_eq_getElem h]
    rfl
  · by_cases h2 : i = ws.length
    · subst h2
      rw [List.getElem?_range (by omega), List.getElem?_append_right (by rw [List.length_map]; exact Nat.le_refl _), List.length_map, Nat.sub_self, Option.map_some, List.getElem?_eq_none (Nat.le_refl _)]
      rfl
    · rw [List.getElem?_eq_none (by rw [List.length_range]; omega), List.getElem?_eq_none (by rw [List.length_append, List.length_map, List.length_singleton]; omega)]
      rfl
theorem ok_layer {f f1 : Addr} {fd fd1 : FuncData} (D : Mt K C "Tails.layer" "layer" s_Tails_layer ["self", "left"] f fd) (MTails_many_by : Mt K C "Tails.many_by" "many_by" s_Tails_many_by ["self", "layer", "place", "stop"] f1 fd1) (cTails : ClT K mg C) (T : Blt mg) (U : Blt2 mg) : FnOk P w K mg base CX0 2 f fd ["self", "left"] (sp_layer C) := by
  have GTails_many_by : FnOk P w K mg base CX0 1 f1 fd1 ["self", "layer", "place", "stop"] (sp_many_by C) := ok_many_by MTails_many_by cTails T U
  refine D.fn.ok sc_Tails_layer (fun vs H Q E h => ?_) (fun cdv A outer s H vs Q E hr h => ?_)
  · obtain ⟨p, la, b, ls, ws, L, t, rfl, _⟩ := h; rfl
  · obtain ⟨p, la, b, ls, ws, L, t, rfl, TA, G, hL, ht, kk⟩ := h
    have h13 := G.h13
    refine ⟨_, (pss_cons (ps_while PassesOwn.never (pt_cmpR op_le (pe_callB (k_len K) (by rfl) T.n_len PySem.boot_len (pa_cons (k_fld K (pv 0)) pa_nil)) (pv 1) (nomark _))
        (pss_cons (ps_set (i := 2) sc_Tails_layer.nd rfl (Or.inr rfl) (pe_ix (k_ixL K) (k_fld K (pv 0)) (pe_un un_neg pe_int) (fun _ _ => rfl)))
        (pss_one (ps_expr (pe_bm PySem.F.plainAttrs_list PySem.F.slot_list_append PySem.F.type_list_append mt_append (k_fld K (pv 0)) (pa_cons (pe_comp (show CScope (defScope s_Tails_layer) _ "place" ["self", "left", "shorter"] ["shorter", "self"] [2, 0] from ⟨rfl, by decide +kernel, by decide +kernel, rfl, by decide +kernel, rfl, by decide +kernel, by decide +kernel⟩) rfl (pi_range1 rfl T.n_range (pa_cons (pe_op op_add (k_fld K (pv 0)) pe_int) pa_nil)) (fun _ _ _ _ => pts_nil) (fun _ _ _ _ => (pmeth MTails_many_by cTails.cl GTails_many_by (hr.mono (by decide)) (pv 2) (pa_cons (pv 1) (pa_cons (pv 0) (pa_cons (k_fld K (pv 2)) pa_nil)))))) pa_nil))))))
      (pss_one (ps_ret (pe_ix (k_ixL K) (k_fld K (pv 0)) (pv 1) (fun _ _ => rfl))))), ?_⟩
    refine while_by (fun σ H2 => ∃ (v : Option V) (L' : Nat), σ = [some (.ref p), some (.int t), v] ∧ L ≤ L' ∧ L' ≤ max L (t + 1) ∧ TailsAt C H2 p la b ls ws L' ∧ Same (aw [la] H) (aw [la] H2) ∧ NR la H H2)
      (fun σ H2 => match H2 la with | some (.lst xs) => t + 1 - xs.length | _ => 0) ⟨none, L, rfl, Nat.le_refl _, Nat.le_max_left _ _, TA, Same.refl _, NR.refl _ _⟩ ?_ ?_
    · rintro σ H2 ⟨v, L', rfl, hLL, hLm, TA2, m2, nr2⟩
      obtain ⟨dx, sa, srs, h1, h2, h3, h4⟩ := TA2.ob
      obtain ⟨lrs, g1, g2, g3⟩ := TA2.ly
      have hl : lrs.length = L' := by have := congrArg List.length g3; rwa [List.length_map, List.length_map, List.length_range] at this
      have hp := aw_same _ _ _ _ h1
      have l1 := TA2.l1
      refine ⟨_, rfl, p, C, dx, _, _, rfl, hp, cTails.cl, cTails.n_layers, fldT_layers _ _ _ _, la, _, rfl, .inl (SqL.of g1), _, rfl, _, _, rfl, rfl, _, rfl, ?_⟩
      rw [List.length_map, hl]
      refine ite2 (fun hc => ?_) (fun hc => ?_)
      · have hc' : L' ≤ t := by have := of_decide_eq_true hc; omega
        have hlast : lrs[L' - 1]? = some lrs[L' - 1] := List.getElem?_eq_getElem (by omega)
        generalize hz : lrs[L' - 1] = z at hlast
        have hzm : z ∈ lrs := List.mem_of_getElem? hlast
        have hz2 : z.2 = layerV ls ws b (L' - 1) := by
          have e := congrArg (fun l => l[L' - 1]?) g3
          simp only [List.getElem?_map, hlast, List.getElem?_range (show L' - 1 < L' by omega), Option.map_some] at e
          exact Option.some.inj e
        have elr : lrs = lrs.take (L' - 1) ++ [z] := by
          have e := (List.take_append_drop (L' - 1) lrs).symm
          rw [List.drop_eq_getElem_cons (show L' - 1 < lrs.length by omega), hz, List.drop_of_length_le (by omega)] at e
          exact e
        have eat : atI (lrs.map fun z => V.ref z.1) (-1) = some (V.ref z.1) := by
          rw [elr, List.map_append]
          exact atI_last _ _
        refine ⟨_, rfl, p, C, dx, _, _, rfl, hp, cTails.cl, cTails.n_layers, fldT_layers _ _ _ _, _, rfl, la, _, _, V.ref z.1, rfl, rfl, SqL.of g1, eat, ?_⟩
        refine ⟨_, rfl, p, C, dx, _, _, rfl, hp, cTails.cl, cTails.n_layers, fldT_layers _ _ _ _, .inl ⟨rfl, _, SqL.of g1⟩, ?_⟩
        refine ⟨_, rfl, p, C, dx, _, _, rfl, hp, cTails.cl, cTails.n_outset, fldT_outset _ _ _ _, _, _, rfl, rfl, ((ws.length : Int) + 1), rfl, by omega, by omega, comp_range (lo := 0) (n := ((ws.length : Int) + 1).toNat) (fun i ys H4 => ys = (((List.range i).map fun i => ((under ls b (L' - 1) ws[i]? b : Nat) : Int))).map V.int ∧ Same H2 H4) ⟨rfl, Same.refl _⟩ ?_ ?_⟩
        · rintro i ys H4 hi ⟨rfl, m4⟩
          refine ⟨by rw [List.length_map, List.length_map, List.length_range]; exact Nat.lt_of_lt_of_le (show i < 20 by omega) (by decide), ?_⟩
          unfold tYes
          dsimp only
          rw [if_pos rfl]
          have TA4 := TA2.same m4
          have hp4 := m4 _ _ hp
          refine ⟨_, rfl, p, dx, _, rfl, hp4, fldT_no _ _ _ _ (by decide +kernel) (by decide +kernel) (by decide +kernel) (by decide +kernel), _, rfl, _, rfl, _, rfl, p, C, dx, _, _, rfl, hp4, cTails.cl, cTails.n_base, fldT_base _ _ _ _, ?_⟩
          refine ⟨p, la, b, ls, ws, L', L' - 1, z.1, i, b, by rw [Int.zero_add]; rfl, TA4, G, ?_, by omega, Nat.le_refl _, fun H5 m5 => ⟨?_, m4.trans m5⟩⟩
          · rw [← hz2]; exact m4 _ _ (aw_same _ _ _ _ (g2 z hzm))
          · rw [List.range_succ, List.map_append, List.map_append]
            rfl
        rintro ys H4 ⟨rfl, m4⟩ q hq
        rw [show ((ws.length : Int) + 1).toNat = ws.length + 1 by omega, layerV_more, show L' - 1 + 1 = L' by omega]
        have m5 := same_upd hq (o := .lst ((layerV ls ws b L').map V.int))
        have gla := m5 _ _ (m4 _ _ g1)
        have nq : q ≠ la := fun e => by rw [e, m4 _ _ g1] at hq; cases hq
        refine ⟨la, _, _, rfl, rfl, gla, by rw [List.length_map, hl]; exact Nat.lt_of_le_of_lt (show L' ≤ 1000 by omega) (by decide), ?_⟩
        have m25 : Same (aw [la] H2) (aw [la] (upd (upd H4 q (.lst ((layerV ls ws b L').map V.int))) la (.lst (lrs.map (fun z => V.ref z.1) ++ [.ref q])))) := by
          rw [aw_upd_in' (by simp)]
          exact (m4.trans m5).aw [la]
        refine ⟨⟨_, L' + 1, rfl, by omega, by omega, ⟨⟨dx, sa, srs, m25 _ _ h1, m25 _ _ h2, fun y hy => m25 _ _ (h3 y hy), h4⟩, ⟨lrs ++ [(q, layerV ls ws b L')], by rw [upd_same]; simp, fun y hy => ?_, ?_⟩, by omega⟩, m2.trans m25, nr2.trans m2 ?_⟩, ?_⟩
        · rcases List.mem_append.mp hy with hy | hy
          · exact m25 _ _ (g2 y hy)
          · have e : y = (q, layerV ls ws b L') := by simpa using hy
            subst e
            rw [aw_upd_in' (by simp), aw_out (by simp [nq]), upd_same]
        · rw [List.map_append, g3, List.range_succ, List.map_append]
          rfl
        · intro c o hc e n xs hx
          rw [upd_same] at hx
          injection hx with hx
          injection hx with hx
          rw [← hx, List.mem_append]
          rintro (h | h)
          · exact n _ g1 h
          · rw [List.mem_singleton] at h
            injection h with h
            rw [← h, m4 _ _ e] at hq; cases hq
        · show (match (upd (upd H4 q (.lst ((layerV ls ws b L').map V.int))) la (.lst (lrs.map (fun z => V.ref z.1) ++ [.ref q]))) la with | some (.lst xs) => t + 1 - xs.length | _ => 0) < (match H2 la with | some (.lst xs) => t + 1 - xs.length | _ => 0)
          rw [upd_same, g1]
          show t + 1 - (lrs.map (fun z => V.ref z.1) ++ [V.ref q]).length < t + 1 - (lrs.map fun z => V.ref z.1).length
          rw [List.length_append, List.length_map, List.length_singleton]
          omega
      · have hc' : t < L' := by
          by_cases z : t < L'
          · exact z
          · exact absurd (decide_eq_true (by omega : (L' : Int) ≤ t)) hc
        have hlast : lrs[t]? = some lrs[t] := List.getElem?_eq_getElem (by omega)
        generalize hz : lrs[t] = z at hlast
        have hzm : z ∈ lrs := List.mem_of_getElem? hlast
        have hz2 : z.2 = layerV ls ws b t := by
          have e := congrArg (fun l => l[t]?) g3
          simp only [List.getElem?_map, hlast, List.getElem?_range hc', Option.map_some] at e
          exact Option.some.inj e
        refine ⟨_, rfl, p, C, dx, _, _, rfl, hp, cTails.cl, cTails.n_layers, fldT_layers _ _ _ _, _, rfl, la, _, _, V.ref z.1, rfl, rfl, SqL.of g1, atI_nat (by rw [List.getElem?_map, hlast]; rfl), ?_⟩
        exact kk z.1 L' H2 hLL TA2 m2 nr2 hLm (by rw [← hz2]; exact g2 z hzm)
    · intro σ H2 Q Q' hq
      rintro ⟨v0, e0, a, C', dx, fs, v, h1, h2, h3, h4, h5, p', ys, h6, h7, v1, e1, i, j, e3, e4, k, e5, q⟩
      exact ⟨v0, e0, a, C', dx, fs, v, h1, h2, h3, h4, h5, p', ys, h6, h7, v1, e1, i, j, e3, e4, k, e5, hq _ _ q⟩
def sp_many_under (C : Addr) : Sp := fun vs H Q _ => ∃ (p la : Addr) (b : Nat) (ls ws : List (List Int)) (L i s t : Nat), vs = [.ref p, .int i, .int s, .int t] ∧ TailsAt C H p la b ls ws L ∧ GoodT b ls ws ∧ L ≤ 1000 ∧ t < 1000 ∧ i ≤ ws.length ∧ s ≤ b ∧ TQ C H p la b ls ws L fun L' H' => L' ≤ max L (t + 1) → Q (.int (under ls b t ws[i]? s : Nat)) H'
theorem sc_Tails_many_under : FnScope ["self", "place", "stop", "left"] ["self", "place", "stop", "left"] (defScope s_Tails_many_under) := ⟨rfl, rfl, rfl, by decide +kernel, rfl, by decide +kernel, by decide +kernel⟩
theorem ok_many_under {f f1 f2 : Addr} {fd fd1 fd2 : FuncData} (D : Mt K C "Tails.many_under" "many_under" s_Tails_many_under ["self", "place", "stop", "left"] f fd) (MTails_layer : Mt K C "Tails.layer" "layer" s_Tails_layer ["self", "left"] f1 fd1) (MTails_many_by : Mt K C "Tails.many_by" "many_by" s_Tails_many_by ["self", "layer", "place", "stop"] f2 fd2) (cTails : ClT K mg C) (T : Blt mg) (U : Blt2 mg) : FnOk P w K mg base CX0 3 f fd ["self", "place", "stop", "left"] (sp_many_under C) := by
  have GTails_many_by : FnOk P w K mg base CX0 1 f2 fd2 ["self", "layer", "place", "stop"] (sp_many_by C) := ok_many_by MTails_many_by cTails T U
  have GTails_layer : FnOk P w K mg base CX0 2 f1 fd1 ["self", "left"] (sp_layer C) := ok_layer MTails_layer MTails_many_by cTails T U
  refine D.fn.ok sc_Tails_many_under (fun vs H Q E h => ?_) (fun cdv A outer s H vs Q E hr h => ?_)
  · obtain ⟨p, la, b, ls, ws, L, i, s, t, rfl, _⟩ := h; rfl
  · obtain ⟨p, la, b, ls, ws, L, i, s, t, rfl, TA, G, hL, ht, hi, hs, kk⟩ := h
    obtain ⟨dx, sa, srs, h1, h2, h3, h4⟩ := TA.ob
    have hp := aw_same _ _ _ _ h1
    refine ⟨_, (pss_one (ps_ret (pmeth MTails_many_by cTails.cl GTails_many_by (hr.mono (by decide)) (pv 0) (pa_cons (pmeth MTails_layer cTails.cl GTails_layer (hr.mono (by decide)) (pv 0) (pa_cons (pv 3) pa_nil)) (pa_cons (pv 1) (pa_cons (pv 2) pa_nil)))))), ?_⟩
    refine ⟨_, rfl, p, dx, _, rfl, hp, fldT_no _ _ _ _ (by decide +kernel) (by decide +kernel) (by decide +kernel) (by decide +kernel), ?_⟩
    refine ⟨_, rfl, p, dx, _, rfl, hp, fldT_no _ _ _ _ (by decide +kernel) (by decide +kernel) (by decide +kernel) (by decide +kernel), _, rfl, p, la, b, ls, ws, L, t, rfl, TA, G, hL, ht, fun lay L' H' hLL TA' m' nr' hm hlay => ?_⟩
    exact ⟨_, rfl, _, rfl, p, la, b, ls, ws, L', t, lay, i, s, rfl, TA', G, aw_same _ _ _ _ hlay, hi, hs, fun H2 m2 => kk L' H2 hLL (TA'.same m2) (m'.trans (m2.aw [la])) (let ⟨_, g, _⟩ := TA'.ly; nr'.same g m2) hm⟩
end
end Lw
set_option Elab.async false
set_option linter.all false
set_option maxRecDepth 100000
namespace Lw
open PySem L2 PyProof.Rows
theorem stepV_rep {ls ws : List (List Int)} {b m : Nat} (G : GoodT b ls ws) {i c : Nat} (hi : i ≤ ws.length) (R : Rep ls b m ws[i]?) (hc : c < b) :
    (∃ j : Nat, stepV ls ws ws[i]? c = .int j ∧ j ≤ ws.length ∧ Rep ls b (m * b + c) ws[j]?) ∨ (stepV ls ws ws[i]? c = .non ∧ 1 ≤ m * b + c ∧ gd ls b (m * b + c) = false) := by
  have b2 := G.g.b2
  have ep : ∀ h : ¬ (ws[i]? = none ∧ c = 0), stepV ls ws ws[i]? c = plc ls ws (ws[i]?.getD [] ++ [(c : Int)]) := by
    intro h
    cases hw : ws[i]? with
    | some x => rfl
    | none =>
      rw [stepV_none, if_neg (fun z => h ⟨hw, z⟩)]
      rfl
  rcases R.step G.ne b2 hc with ⟨h1, h2, h3⟩ | ⟨h0, ⟨h1, h2⟩ | ⟨h1, h2, h3⟩⟩
  · left
    refine ⟨ws.length, by rw [h1, stepV_none, if_pos h2], Nat.le_refl _, by rw [List.getElem?_eq_none (Nat.le_refl _)]; exact h3⟩
  · left
    have hm : tailS ls (ws[i]?.getD [] ++ [(c : Int)]) ∈ ws := (G.s.mem _).mpr (tailS_isSt G.ne h1)
    have hlt := List.idxOf_lt_length_iff.mpr hm
    refine ⟨ws.idxOf (tailS ls (ws[i]?.getD [] ++ [(c : Int)])), by rw [ep h0]; unfold plc; rw [if_pos h1], Nat.le_of_lt hlt, ?_⟩
    rw [List.getElem?_eq_getElem hlt, List.getElem_idxOf hlt]
    exact h2
  · right
    exact ⟨by rw [ep h0]; unfold plc; rw [if_neg (by rw [h1]; exact Bool.false_ne_true)], h2, h3⟩
section
variable {P : Program} {w : World} {K : PySem.W.Frag} {mg : Str → Option Value} {base : Heap} {T0 C : Addr}
theorem steps_at {H : Hp} {p la b : Nat} {ls ws : List (List Int)} {L i c : Nat} (TA : TailsAt C H p la b ls ws L) (G : GoodT b ls ws) (hi : i ≤ ws.length) (hc : c < b) :
    ∃ (dx sa : Addr) (srs : List (Addr × List V)) (z : Addr × List V), H p = some (.ins C dx (fldT b ws.length sa la)) ∧ H sa = some (.lst (srs.map fun z => V.ref z.1)) ∧ atI (srs.map fun z => V.ref z.1) (i : Int) = some (V.ref z.1) ∧ H z.1 = some (.lst z.2) ∧ atI z.2 (c : Int) = some (stepV ls ws ws[i]? c) := by
  obtain ⟨dx, sa, srs, h1, h2, h3, h4⟩ := TA.ob
  have hrow := stepsV_get (ls := ls) (b := b) (by have := G.g.b2; omega) hi
  rw [← h4, List.getElem?_map] at hrow
  obtain ⟨z, hz, ez⟩ := Option.map_eq_some_iff.mp hrow
  refine ⟨dx, sa, srs, z, aw_same _ _ _ _ h1, aw_same _ _ _ _ h2, atI_nat (by rw [List.getElem?_map, hz]; rfl), aw_same _ _ _ _ (h3 z (List.mem_of_getElem? hz)), atI_nat ?_⟩
  rw [ez, List.getElem?_map, List.getElem?_range hc]
  rfl
theorem TailsAt.obj {H : Hp} {p la b : Nat} {ls ws : List (List Int)} {L : Nat} (TA : TailsAt C H p la b ls ws L) : ∃ dx sa, H p = some (.ins C dx (fldT b ws.length sa la)) := by
  obtain ⟨dx, sa, srs, h1, _⟩ := TA.ob
  exact ⟨dx, sa, aw_same _ _ _ _ h1⟩
def sp_many_below (C : Addr) : Sp := fun vs H Q _ => ∃ (p la : Addr) (b : Nat) (ls ws : List (List Int)) (L : Nat) (fa : Addr) (n : Nat), vs = [.ref p, .ref fa] ∧ TailsAt C H p la b ls ws L ∧ GoodT b ls ws ∧ L ≤ 1000 ∧ aw [la] H fa = some (.lst ((figs b n).map V.int)) ∧ n < 2 ^ 900 ∧ TQ C H p la b ls ws L fun L' H' => L' ≤ 1000 → Q (.int (many (gd ls b) n : Nat)) H'
theorem sc_Tails_many_below : FnScope ["self", "figures", "place", "many", "k"] ["self", "figures"] (defScope s_Tails_many_below) := ⟨rfl, rfl, rfl, by decide +kernel, rfl, by decide +kernel, by decide +kernel⟩
theorem ok_many_below {f f1 : Addr} {fd fd1 : FuncData} (D : Mt K C "Tails.many_below" "many_below" s_Tails_many_below ["self", "figures"] f fd) (MTails_many_under : Mt K C "Tails.many_under" "many_under" s_Tails_many_under ["self", "place", "stop", "left"] f1 fd1) (GTails_many_under : FnOk P w K mg base CX0 3 f1 fd1 ["self", "place", "stop", "left"] (sp_many_under C)) (cTails : ClT K mg C) (T : Blt mg) : FnOk P w K mg base CX0 4 f fd ["self", "figures"] (sp_many_below C) := by
  refine D.fn.ok sc_Tails_many_below (fun vs H Q E h => ?_) (fun cdv A outer s H vs Q E hr h => ?_)
  · obtain ⟨p, la, b, ls, ws, L, fa, n, rfl, _⟩ := h; rfl
  · obtain ⟨p, la, b, ls, ws, L, fa, n, rfl, TA, G, hL, hf, hn, kk⟩ := h
    have b2 := G.g.b2
    have hlen := figs_len b2 900 n hn
    obtain ⟨dx0, sa0, hp0⟩ := TA.obj
    generalize hN : (figs b n).length = N at hlen
    have hnN := figs_lt_pow b2 hN
    refine ⟨_, (pss_cons (ps_set (i := 2) sc_Tails_many_below.nd rfl (Or.inl rfl) (k_fld K (pv 0)))
      (pss_cons (ps_set (i := 3) sc_Tails_many_below.nd rfl (Or.inl rfl) pe_int)
      (pss_cons (ps_for PassesOwn.never rfl (pi_range1 rfl T.n_range (pa_cons (pe_callB (k_len K) (by rfl) T.n_len PySem.boot_len (pa_cons (pv 1) pa_nil)) pa_nil)) (pg_name (i := 4) sc_Tails_many_below.nd rfl (Or.inl rfl))
        (pss_cons (ps_aug (i := 3) sc_Tails_many_below.nd rfl (Or.inl rfl) (pmeth MTails_many_under cTails.cl GTails_many_under (hr.mono (by decide)) (pv 0) (pa_cons (pv 2) (pa_cons (pe_ix (k_ixL K) (pv 1) (pv 4) (fun _ _ => rfl)) (pa_cons (pe_op op_sub (pe_op op_sub (pe_callB (k_len K) (by rfl) T.n_len PySem.boot_len (pa_cons (pv 1) pa_nil)) (pv 4)) pe_int) pa_nil)))) ip_add)
        (pss_cons (ps_set (i := 2) sc_Tails_many_below.nd rfl (Or.inl rfl) (pe_ix (k_ixL K) (pe_ix (k_ixL K) (k_fld K (pv 0)) (pv 2) (fun _ _ => rfl)) (pe_ix (k_ixL K) (pv 1) (pv 4) (fun _ _ => rfl)) (fun _ _ => rfl)))
        (pss_one (ps_if (pt_cmpR op_isN (pv 2) pe_non (nomark _))
          (pss_one (ps_ret (pv 3)))
          pss_nil)))))
      (pss_one (ps_ret (pv 3)))))), ?_⟩
    refine ⟨_, rfl, p, C, dx0, _, _, rfl, hp0, cTails.cl, cTails.n_outset, fldT_outset _ _ _ _, ?_⟩
    refine ⟨_, rfl, fa, _, rfl, .inl (SqL.of (aw_same _ _ _ _ hf)), ?_⟩
    rw [List.length_map, hN]
    refine ⟨_, rfl, by omega, by omega, for_range (lo := 0) (n := (N : Int).toNat) (fun k σ H2 => ∃ (v4 : Option V) (i L' : Nat), σ = [some (.ref p), some (.ref fa), some (.int i), some (.int (many (gd ls b) (n / b ^ (N - k) * b ^ (N - k)) : Nat)), v4] ∧ i ≤ ws.length ∧ Rep ls b (n / b ^ (N - k)) ws[i]? ∧ L ≤ L' ∧ L' ≤ 1000 ∧ TailsAt C H2 p la b ls ws L' ∧ Same (aw [la] H) (aw [la] H2) ∧ NR la H H2) ⟨none, ws.length, L, ?_, Nat.le_refl _, ?_, Nat.le_refl _, hL, TA, Same.refl _, NR.refl _ _⟩ ?_ ?_⟩
    · rw [Nat.sub_zero, Nat.div_eq_of_lt hnN, Nat.zero_mul]
      rfl
    · rw [Nat.sub_zero, Nat.div_eq_of_lt hnN, List.getElem?_eq_none (Nat.le_refl _)]
      exact .inl ⟨rfl, rfl⟩
    · rintro k σ H2 hk ⟨v4, i, L', rfl, hi, R, hLL, hL', TA2, m2, nr2⟩
      have hkN : k < N := by omega
      obtain ⟨t, ht⟩ : ∃ t, N - k = t + 1 := ⟨N - k - 1, by omega⟩
      have et : N - 1 - k = t := by omega
      have hfk := figs_get b2 hN hkN
      rw [et] at hfk
      rw [ht] at R ⊢
      have hnx := next_top (b := b) (n := n) (t := t) (by omega)
      have hcb : n / b ^ t % b < b := Nat.mod_lt _ (by omega)
      generalize hc : n / b ^ t % b = c at hfk hnx hcb
      have hf2 := m2 _ _ hf
      have hfH2 := aw_same _ _ _ _ hf2
      obtain ⟨dx2, sa2, hp2⟩ := TA2.obj
      have hat : atI ((figs b n).map V.int) (0 + (k : Int)) = some (V.int (c : Nat)) := by rw [Int.zero_add]; exact atI_nat (by rw [List.getElem?_map, hfk]; rfl)
      refine ⟨_, rfl, _, rfl, p, dx2, _, rfl, hp2, fldT_no _ _ _ _ (by decide +kernel) (by decide +kernel) (by decide +kernel) (by decide +kernel), _, rfl, _, rfl, _, rfl, fa, _, _, _, rfl, rfl, SqL.of hfH2, hat, _, rfl, fa, _, rfl, .inl (SqL.of hfH2), _, rfl, _, _, rfl, rfl, _, _, rfl, rfl, ?_⟩
      refine ⟨p, la, b, ls, ws, L', i, c, t, ?_, TA2, G, hL', by omega, hi, by omega, fun L3 H3 hL3 TA3 m3 nr3 hmx => ?_⟩
      · rw [List.length_map, hN]
        show [V.ref p, V.int i, V.int c, V.int ((N : Int) - (0 + (k : Int)) - 1)] = _
        rw [show ((N : Int) - (0 + (k : Int)) - 1) = (t : Int) by omega]
      have hL3' : L3 ≤ 1000 := by omega
      have m23 := m2.trans m3
      have nr23 := nr2.trans m2 nr3
      have hf3 := aw_same _ _ _ _ (m23 _ _ hf)
      refine ⟨_, _, rfl, rfl, ?_⟩
      have eum := under_many G.ne b2 R t (s := c) (by omega)
      rw [← hnx] at eum
      obtain ⟨dx3, sa3, srs3, z3, q1, q2, q3, q4, q5⟩ := steps_at TA3 G hi hcb
      refine ⟨_, rfl, p, C, dx3, _, _, rfl, q1, cTails.cl, cTails.n_steps, fldT_steps _ _ _ _, _, rfl, sa3, _, _, _, rfl, rfl, SqL.of q2, q3, _, rfl, _, rfl, fa, _, _, _, rfl, rfl, SqL.of hf3, hat, z3.1, _, _, _, rfl, rfl, SqL.of q4, q5, ?_⟩
      rcases stepV_rep G hi R hcb with ⟨j, e1, e2, e3⟩ | ⟨e1, e2, e3⟩
      · rw [e1]
        refine ⟨_, rfl, rfl, _, rfl, iteF ⟨some (.int (0 + (k : Int))), j, L3, ?_, e2, ?_, by omega, hL3', TA3, m23, nr23⟩⟩
        · rw [show N - (k + 1) = t by omega, ← eum]
          show [_, _, _, some (V.int ((many (gd ls b) (n / b ^ (t + 1) * b ^ (t + 1)) : Nat) + (under ls b t ws[i]? c : Nat) : Int)), _] = [_, _, _, some (V.int ((many (gd ls b) (n / b ^ (t + 1) * b ^ (t + 1)) + under ls b t ws[i]? c : Nat) : Int)), _]
          rw [Int.natCast_add]
        · rw [show N - (k + 1) = t by omega, hnx]; exact e3
      · rw [e1]
        refine ⟨_, rfl, rfl, _, rfl, iteT ⟨_, rfl, ?_⟩⟩
        have q := kk L3 H3 (by omega) TA3 m23 nr23 hL3'
        rw [← hnx] at e2 e3
        have ebad := bad_on G.ne b2 e2 e3 t (r := n % b ^ t) (Nat.le_of_lt (Nat.mod_lt _ (Nat.pow_pos (by omega))))
        rw [Nat.mul_comm, Nat.div_add_mod, Nat.mul_comm] at ebad
        rw [ebad, ← eum, Int.natCast_add] at q
        exact q
    · rintro σ H2 ⟨v4, i, L', rfl, hi, R, hLL, hL', TA2, m2, nr2⟩
      refine ⟨_, rfl, ?_⟩
      have q := kk L' H2 hLL TA2 m2 nr2 hL'
      rw [Int.toNat_natCast, Nat.sub_self, Nat.pow_zero, Nat.div_one, Nat.mul_one]
      exact q
end
end Lw
set_option Elab.async false
set_option linter.all false
set_option maxRecDepth 100000
namespace Lw
open PySem L2 PyProof.Rows
theorem LT.off {T la : Addr} {H H' : Hp} {xs : List V} (h : LT T H) (hla : H la = some (.lst xs)) (m : Same (aw [la] H) (aw [la] H')) : LT T H' := by
  have go : ∀ c o, c ≠ la → H c = some o → H' c = some o := fun c o hc e => by
    have hc' : c ∉ [la] := by simpa using hc
    have := m c o (by rw [aw_out hc']; exact e)
    rwa [aw_out hc'] at this
  have n0 : T ≠ la := Ne.symm (h.lst hla)
  rcases h with h | ⟨c, h1, h2⟩
  · exact .inl (go _ _ n0 h)
  · refine .inr ⟨c, go _ _ n0 h1, go _ _ (fun z => ?_) h2⟩
    rw [z, hla] at h2
    cases h2
theorem rep_one {α : Type} {f : α → V} (h : ∀ a, f a = V.int 1) : ∀ l : List α, (List.replicate l.length [V.int 1]).flatten = l.map f
  | [] => rfl
  | a :: l => by rw [List.length_cons, List.replicate_succ, List.flatten_cons, rep_one h l, List.map_cons, h a]; rfl
section
variable {P : Program} {w : World} {K : PySem.W.Frag} {mg : Str → Option Value} {base : Heap} {T0 C : Addr}
def sp_tails (T0 C : Addr) : Sp := fun vs H Q _ => ∃ (p dx r : Addr) (b : Nat) (bl : Addr) (zs : List (Addr × List Int)), vs = [.ref p, .ref r] ∧ H p = some (.ins C dx []) ∧ RuleAt H r b bl zs ∧ GoodRule b (zs.map (·.2)) ∧ LT T0 H ∧
  ∀ (la : Addr) (ws : List (List Int)) (H' : Hp), TailsAt C H' p la b (zs.map (·.2)) ws 1 → GoodT b (zs.map (·.2)) ws → (∀ c o, c ≠ p → c ≠ T0 → H c = some o → H' c = some o) → LT T0 H' → H la = none → (∃ dx sa, H' p = some (.ins C dx (fldT b ws.length sa la)) ∧ H sa = none ∧ ∀ c o, H c = some o → NoRef H' la c ∧ NoRef H' sa c) → Q .non H'
theorem sc_Tails___init__ : FnScope ["self", "rule", "stands"] ["self", "rule"] (defScope s_Tails___init__) := ⟨rfl, rfl, rfl, by decide +kernel, rfl, by decide +kernel, by decide +kernel⟩
theorem ok_tails {f f1 f2 f3 : Addr} {fd fd1 fd2 fd3 : FuncData} (D : Mt K C "Tails.__init__" "__init__" s_Tails___init__ ["self", "rule"] f fd) (Dstands_of : Df K mg "stands_of" s_stands_of ["bad"] f1 fd1) (Gstands_of : FnOk P w K mg base CX0 6 f1 fd1 ["bad"] (sp_stands_of T0)) (Dall_steps : Df K mg "all_steps" s_all_steps ["rule", "stands"] f2 fd2) (Gall_steps : FnOk P w K mg base CX0 6 f2 fd2 ["rule", "stands"] sp_all_steps)
    (Dlacks_all : Df K mg "lacks_all" s_lacks_all ["bad", "figures"] f3 fd3) (Glacks_all : FnOk P w K mg base CX0 2 f3 fd3 ["bad", "figures"] sp_lacks_all) (cTails : ClT K mg C) (T : Blt mg) : FnOk P w K mg base CX0 7 f fd ["self", "rule"] (sp_tails T0 C) := by
  refine D.fn.ok sc_Tails___init__ (fun vs H Q E h => ?_) (fun cdv A outer s H vs Q E hr h => ?_)
  · obtain ⟨p, dx, r, b, bl, zs, rfl, _⟩ := h; rfl
  · obtain ⟨p, dx, r, b, bl, zs, rfl, hp, R, g, hT, kk⟩ := h
    have h4 : zs.length ≤ 4 := by have := g.len; rwa [List.length_map] at this
    have gz : ∀ z ∈ zs, z.2 ≠ [] ∧ z.2.length ≤ 4 := fun z hz => ⟨(g.st _ (List.mem_map.mpr ⟨z, hz, rfl⟩)).ne, (g.st _ (List.mem_map.mpr ⟨z, hz, rfl⟩)).len⟩
    have npT : p ≠ T0 := fun z => by
      rw [z] at hp
      rcases hT with h | ⟨c, h, _⟩
      · rw [h] at hp; cases hp
      · rw [h] at hp; cases hp
    refine ⟨_, (pss_cons (ps_set (i := 2) sc_Tails___init__.nd rfl (Or.inl rfl) (pcall Dstands_of Gstands_of (hr.mono (by decide)) (pa_cons (pe_ix (k_ixT K) (pv 1) pe_int (fun _ _ => rfl)) pa_nil)))
      (pss_cons (ps_fld (pv 0) (pe_ix (k_ixT K) (pv 1) pe_int (fun _ _ => rfl)) rfl)
      (pss_cons (ps_fld (pv 0) (pe_callB (k_len K) (by rfl) T.n_len PySem.boot_len (pa_cons (pv 2) pa_nil)) rfl)
      (pss_cons (ps_fld (pv 0) (pcall Dall_steps Gall_steps (hr.mono (by decide)) (pa_cons (pv 1) (pa_cons (pv 2) pa_nil))) rfl)
      (pss_one (ps_fld (pv 0) (pe_lst (pa_cons (pe_op op_cat (pe_op op_rep (pe_lst (pa_cons pe_int pa_nil)) (pe_callB (k_len K) (by rfl) T.n_len PySem.boot_len (pa_cons (pv 2) pa_nil))) (pe_lst (pa_cons (pe_ifExp (pt_val (pcall Dlacks_all Glacks_all (hr.mono (by decide)) (pa_cons (pe_ix (k_ixT K) (pv 1) pe_int (fun _ _ => rfl)) (pa_cons (pe_lst (pa_cons pe_int pa_nil)) pa_nil)))) pe_int pe_int) pa_nil))) pa_nil)) rfl)))))), ?_⟩
    refine ⟨_, rfl, r, _, _, V.ref bl, rfl, rfl, SqT.of R.tu, rfl, bl, zs, rfl, R.li, R.st, h4, gz, hT, fun Dd ws H1 hDn hD hws SL h13 mL hT1 => ?_⟩
    have R1 : RuleAt H1 r b bl zs := ⟨mL _ _ (hT.tup R.tu) R.tu, mL _ _ (hT.lst R.li) R.li, fun z hz => mL _ _ (hT.lst (R.st z hz)) (R.st z hz)⟩
    have hp1 := mL _ _ npT hp
    have rp : r ≠ p := ne_of R1.tu hp1 (fun z => nomatch z)
    have lp : ∀ {c : Addr} {xs : List V}, H1 c = some (.lst xs) → c ≠ p := fun h => ne_of h hp1 (fun z => nomatch z)
    refine ⟨_, rfl, r, _, _, V.int b, rfl, rfl, SqT.of R1.tu, rfl, _, rfl, p, C, dx, _, rfl, hp1, cTails.cl, cTails.n_base, (by show 0 < 1000; decide), ?_⟩
    refine ⟨_, rfl, Dd, _, rfl, .inl (SqL.of (by rw [upd_ne (lp hD)]; exact hD)), _, rfl, p, C, dx, _, rfl, upd_same, cTails.cl, cTails.n_outset, (by show 1 < 1000; decide), ?_⟩
    rw [upd_upd, List.length_map]
    generalize hH3 : upd H1 p (.ins C dx (putF "outset" (.int (ws.length : Nat)) (putF "base" (.int b) []))) = H3
    have m3 : ∀ c o, c ≠ p → H1 c = some o → H3 c = some o := fun c o hc e => by rw [← hH3, upd_ne hc]; exact e
    have hp3 : H3 p = some (.ins C dx (putF "outset" (.int (ws.length : Nat)) (putF "base" (.int b) []))) := by rw [← hH3, upd_same]
    have R3 : RuleAt H3 r b bl zs := ⟨m3 _ _ rp R1.tu, m3 _ _ (lp R1.li) R1.li, fun z hz => m3 _ _ (lp (R1.st z hz)) (R1.st z hz)⟩
    refine ⟨_, rfl, _, rfl, r, b, bl, zs, Dd, ws, rfl, R3, g, m3 _ _ (lp hD) hD, fun z hz => m3 _ _ (lp (hws z hz).2.1) (hws z hz).2.1, SL, h13, fun sa srs H4 hsa m4 hsal hsrs hsr2 => ?_⟩
    have hp4 := m4 _ _ hp3
    have len2 : (putF "outset" (.int (ws.length : Nat)) (putF "base" (.int b) [])).length ≤ 2 := Nat.le_trans (length_putF _ _ _) (Nat.succ_le_succ (length_putF _ _ _))
    refine ⟨_, rfl, p, C, dx, _, rfl, hp4, cTails.cl, cTails.n_steps, by omega, ?_⟩
    generalize hH5 : upd H4 p (.ins C dx (putF "steps" (.ref sa) (putF "outset" (.int (ws.length : Nat)) (putF "base" (.int b) [])))) = H5
    have m5 : ∀ c o, c ≠ p → H4 c = some o → H5 c = some o := fun c o hc e => by rw [← hH5, upd_ne hc]; exact e
    have hp5 : H5 p = some (.ins C dx (putF "steps" (.ref sa) (putF "outset" (.int (ws.length : Nat)) (putF "base" (.int b) [])))) := by rw [← hH5, upd_same]
    have lp4 : ∀ {c : Addr} {xs : List V}, H4 c = some (.lst xs) → c ≠ p := fun h => ne_of h hp4 (fun z => nomatch z)
    have R4 := R3.same m4
    have R5 : RuleAt H5 r b bl zs := ⟨m5 _ _ (ne_of R4.tu hp4 (fun z => nomatch z)) R4.tu, m5 _ _ (lp4 R4.li) R4.li, fun z hz => m5 _ _ (lp4 (R4.st z hz)) (R4.st z hz)⟩
    have hD5 : H5 Dd = some (.lst (ws.map fun z => V.ref z.1)) := m5 _ _ (lp4 (m4 _ _ (m3 _ _ (lp hD) hD))) (m4 _ _ (m3 _ _ (lp hD) hD))
    refine ⟨(by show 1 ≤ sizeLine; decide), fun q1 n1 => ?_⟩
    refine ⟨_, rfl, Dd, _, rfl, .inl (SqL.of (same_upd n1 _ _ hD5)), ?_⟩
    rw [List.length_map]
    refine ⟨q1, _, _, rfl, rfl, upd_same, by omega, by omega, ?_, fun q2 n2 => ?_⟩
    · show 1 * (ws.length : Int).toNat ≤ sizeLine
      exact Nat.le_trans (show 1 * (ws.length : Int).toNat ≤ 13 by omega) (by decide)
    have s1 := same_upd n1 (o := .lst [V.int 1])
    have s2 := s1.trans (same_upd n2 (o := .lst (List.replicate (ws.length : Int).toNat [V.int 1]).flatten))
    have R6 := R5.same s2
    refine ⟨_, rfl, r, _, _, V.ref bl, rfl, rfl, SqT.of R6.tu, rfl, (by show 1 ≤ sizeLine; decide), fun q3 n3 => ?_⟩
    have s3 := s2.trans (same_upd n3 (o := .lst [V.int 0]))
    have R7 := R5.same s3
    refine ⟨bl, q3, zs, [0], rfl, R7.li, R7.st, upd_same, by omega, by decide, fun z hz => ⟨(gz z hz).1, Nat.le_trans (gz z hz).2 (by decide)⟩, fun H8 s8 => ⟨_, rfl, ?_⟩⟩
    have s38 := s3.trans s8
    have fin : ∀ x : Int, x = ((cntO (zs.map (·.2)) b 0 : Nat) : Int) → ∀ q4, H8 q4 = none → q2 ≠ q4 → ∀ q5, upd H8 q4 (.lst [V.int x]) q5 = none → ∀ q6, upd (upd H8 q4 (.lst [V.int x])) q5 (.lst ((List.replicate (ws.length : Int).toNat [V.int 1]).flatten ++ [V.int x])) q6 = none →
        Q .non (upd (upd (upd (upd H8 q4 (.lst [V.int x])) q5 (.lst ((List.replicate (ws.length : Int).toNat [V.int 1]).flatten ++ [V.int x]))) q6 (.lst [V.ref q5])) p (.ins C dx (putF "layers" (.ref q6) (putF "steps" (.ref sa) (putF "outset" (.int (ws.length : Nat)) (putF "base" (.int b) [])))))) := by
      intro x hx q4 n4 _ q5 n5 q6 n6
      have t4 := same_upd n4 (o := .lst [V.int x])
      have t5 := same_upd n5 (o := .lst ((List.replicate (ws.length : Int).toNat [V.int 1]).flatten ++ [V.int x]))
      have t6 := same_upd n6 (o := .lst [V.ref q5])
      have t46 := t4.trans (t5.trans t6)
      have s56 := s38.trans t46
      have hp9 := s56 _ _ hp5
      have f3 : ∀ c, H3 c = none → H c = none := fun c h3' => by
        have h1' : H1 c = none := by
          rw [← hH3] at h3'
          by_cases z : c = p
          · subst z; rw [upd_same] at h3'; cases h3'
          · rwa [upd_ne z] at h3'
        cases e : H c with
        | none => rfl
        | some o =>
          by_cases z : c = T0
          · subst z
            exact absurd h1' (by
              rcases hT1 with h | ⟨d, h, _⟩
              · rw [h]; simp
              · rw [h]; simp)
          · rw [mL c o z e] at h1'; cases h1'
      have f5 : ∀ c, H5 c = none → H c = none := fun c hc => by
        have h5 : H4 c = none := by
          rw [← hH5] at hc
          by_cases z : c = p
          · subst z; rw [upd_same] at hc; cases hc
          · rwa [upd_ne z] at hc
        exact f3 c (m4.free h5)
      have q6H5 : H5 q6 = none := (s38.trans (t4.trans t5)).free n6
      have q6p : q6 ≠ p := fun z => by rw [z, hp5] at q6H5; cases q6H5
      have np5 : q5 ≠ q6 := fun z => by rw [← z, upd_same] at n6; cases n6
      generalize hH9 : upd (upd (upd H8 q4 (.lst [V.int x])) q5 (.lst ((List.replicate (ws.length : Int).toNat [V.int 1]).flatten ++ [V.int x]))) q6 (.lst [V.ref q5]) = H9 at t6 t46 s56 hp9
      have hq6 : H9 q6 = some (.lst [V.ref q5]) := by rw [← hH9, upd_same]
      have hq5 : H9 q5 = some (.lst ((List.replicate (ws.length : Int).toNat [V.int 1]).flatten ++ [V.int x])) := by rw [← hH9, upd_ne np5, upd_same]
      have q5p : q5 ≠ p := ne_of hq5 hp9 (fun z => nomatch z)
      have off : ∀ c o, c ≠ p → H5 c = some o → aw [q6] (upd H9 p (.ins C dx (fldT b ws.length sa q6))) c = some o := fun c o hc e => by
        have hcq : c ≠ q6 := ne_of_none e q6H5
        rw [aw_out (by simpa using hcq), upd_ne hc]
        exact s56 c o e
      have sa4 : H4 sa = some (.lst (srs.map fun z => V.ref z.1)) := hsal
      have l1 : ∀ {c : Addr} {xs : List V}, H4 c = some (.lst xs) → H5 c = some (.lst xs) ∧ c ≠ p := fun h => ⟨m5 _ _ (lp4 h) h, lp4 h⟩
      refine kk q6 (ws.map (·.2)) _ ⟨⟨dx, sa, srs, ?_, off _ _ (l1 hsal).2 (l1 hsal).1, fun z hz => off _ _ (l1 (hsrs z hz).2).2 (l1 (hsrs z hz).2).1, hsr2⟩, ⟨[(q5, layerV (zs.map (·.2)) (ws.map (·.2)) b 0)], by rw [upd_ne q6p]; exact hq6, fun z hz => ?_, rfl⟩, Nat.le_refl _⟩ ⟨g, SL, by rw [List.length_map]; exact h13⟩ (fun c o hc hcT e => ?_) ?_ (f5 _ q6H5) ⟨dx, sa, by rw [upd_same, List.length_map]; rfl, f3 _ hsa, fun c o e => ⟨fun xs hx => ?_, fun xs hx => ?_⟩⟩
      · rw [aw_out (by simpa using Ne.symm q6p), List.length_map]
        exact upd_same
      · have e : z = (q5, layerV (zs.map (·.2)) (ws.map (·.2)) b 0) := by simpa using hz
        subst e
        rw [aw_out (by simpa using np5), upd_ne q5p, hq5]
        congr 2
        unfold layerV
        rw [List.map_append, hx, Int.toNat_natCast, List.map_map, List.map_map]
        rw [rep_one (fun _ => rfl) ws]
        rfl
      · rw [upd_ne hc]
        have h1 := mL c o hcT e
        exact s56 c o (m5 c o hc (m4 c o (m3 c o hc h1)))
      · have a1 : LT T0 H3 := by
          rcases hT1 with h | ⟨d, h1, h2⟩
          · exact .inl (m3 _ _ (Ne.symm npT) h)
          · exact .inr ⟨d, m3 _ _ (Ne.symm npT) h1, m3 _ _ (ne_of h2 hp1 (fun z => nomatch z)) h2⟩
        have a2 := a1.same m4
        have a3 : LT T0 H5 := by
          rcases a2 with h | ⟨d, h1, h2⟩
          · exact .inl (m5 _ _ (Ne.symm npT) h)
          · exact .inr ⟨d, m5 _ _ (Ne.symm npT) h1, m5 _ _ (ne_of h2 hp4 (fun z => nomatch z)) h2⟩
        have a4 := a3.same s56
        rcases a4 with h | ⟨d, h1, h2⟩
        · exact .inl (by rw [upd_ne (Ne.symm npT)]; exact h)
        · exact .inr ⟨d, by rw [upd_ne (Ne.symm npT)]; exact h1, by rw [upd_ne (ne_of h2 hp9 (fun z => nomatch z))]; exact h2⟩
      · rw [upd_ne q6p, hq6] at hx
        injection hx with hx
        injection hx with hx
        rw [← hx, List.mem_singleton]
        intro z
        injection z with z
        have q5n : H5 q5 = none := (s38.trans t4).free n5
        rw [z, f5 _ q5n] at e; cases e
      · rw [upd_ne (l1 hsal).2, s56 _ _ (l1 hsal).1] at hx
        injection hx with hx
        injection hx with hx
        rw [← hx]
        intro hm
        obtain ⟨z, hz, ez⟩ := List.mem_map.mp hm
        injection ez with ez
        rw [← ez, f3 _ (hsrs z hz).1] at e; cases e
    have hq2 : H8 q2 = some (.lst (List.replicate (ws.length : Int).toNat [V.int 1]).flatten) := s8 _ _ (same_upd n3 _ _ upd_same)
    have lenr : (List.replicate (ws.length : Int).toNat [V.int 1]).flatten.length ≤ 13 := by rw [Int.toNat_natCast, rep_one (f := fun _ => V.int 1) (fun _ => rfl) ws, List.length_map]; exact h13
    have len3 : (putF "steps" (.ref sa) (putF "outset" (.int (ws.length : Nat)) (putF "base" (.int b) []))).length ≤ 3 := Nat.le_trans (length_putF _ _ _) (Nat.succ_le_succ len2)
    have tail : ∀ x : Int, x = ((cntO (zs.map (·.2)) b 0 : Nat) : Int) → ∀ q4, H8 q4 = none → ∃ l b' xs zs', V.ref q2 = V.ref l ∧ V.ref q4 = V.ref b' ∧ upd H8 q4 (.lst [V.int x]) l = some (.lst xs) ∧ upd H8 q4 (.lst [V.int x]) b' = some (.lst zs') ∧ xs.length + zs'.length ≤ sizeLine ∧ ∀ q5, upd H8 q4 (.lst [V.int x]) q5 = none →
        1 ≤ sizeLine ∧ ∀ q6, upd (upd H8 q4 (.lst [V.int x])) q5 (.lst (xs ++ zs')) q6 = none → ∃ v, some (some (V.ref p)) = some (some v) ∧ ∃ a C' dx' fs, v = .ref a ∧ upd (upd (upd H8 q4 (.lst [V.int x])) q5 (.lst (xs ++ zs'))) q6 (.lst [V.ref q5]) a = some (.ins C' dx' fs) ∧ Cls K C' ∧ NoAttr K C' "layers" ∧ fs.length < 1000 ∧ Q .non (upd (upd (upd (upd H8 q4 (.lst [V.int x])) q5 (.lst (xs ++ zs'))) q6 (.lst [V.ref q5])) a (.ins C' dx' (putF "layers" (.ref q6) fs))) := by
      intro x hx q4 n4
      have nq : q2 ≠ q4 := ne_of_none hq2 n4
      refine ⟨q2, q4, _, _, rfl, rfl, by rw [upd_ne nq]; exact hq2, upd_same, Nat.le_trans (Nat.add_le_add lenr (Nat.le_refl 1)) (by decide), fun q5 n5 => ⟨(by decide), fun q6 n6 => ?_⟩⟩
      have hp8 := s38 _ _ hp5
      exact ⟨_, rfl, p, C, dx, _, rfl, (same_upd n4).trans ((same_upd n5).trans (same_upd n6)) _ _ hp8, cTails.cl, cTails.n_layers, by omega, fin x hx q4 n4 nq q5 n5 q6 n6⟩
    cases hlk : lacks (zs.map (·.2)) [0] with
    | true =>
      refine iteT ?_
      refine ⟨(by show 1 ≤ sizeLine; decide), fun q4 n4 => ?_⟩
      exact tail 1 (by unfold cntO; rw [hlk]; rfl) q4 n4
    | false =>
      refine iteF ?_
      refine ⟨(by show 1 ≤ sizeLine; decide), fun q4 n4 => ?_⟩
      exact tail 0 (by unfold cntO; rw [hlk]; rfl) q4 n4
end
theorem mk_same {H : Hp} {x dx : Addr} {C : Addr} (nx : H x = none) (ndx : H dx = none) : Same H (upd (upd H dx (.own x)) x (.ins C dx [])) := fun b o e => by
  rw [upd_ne (ne_of_none e nx), upd_ne (ne_of_none e ndx)]
  exact e
theorem RuleAt.sameL {T0 r bl : Addr} {H H' : Hp} {b : Nat} {zs : List (Addr × List Int)} (R : RuleAt H r b bl zs) (hT : LT T0 H) (m : SameL T0 H H') : RuleAt H' r b bl zs :=
  ⟨m _ _ (hT.tup R.tu) R.tu, m _ _ (hT.lst R.li) R.li, fun z hz => m _ _ (hT.lst (R.st z hz)) (R.st z hz)⟩
theorem TailsAt.la {C p la b : Nat} {H : Hp} {ls ws : List (List Int)} {L : Nat} (TA : TailsAt C H p la b ls ws L) : ∃ xs, H la = some (.lst xs) := let ⟨_, h, _⟩ := TA.ly; ⟨_, h⟩
section
variable {P : Program} {w : World} {K : PySem.W.Frag} {mg : Str → Option Value} {base : Heap} {T0 C : Addr}
def MadeT (T0 C : Addr) (b : Nat) (ls : List (List Int)) (H : Hp) (x : Addr) (H' : Hp) : Prop := ∃ (la : Addr) (ws : List (List Int)), TailsAt C H' x la b ls ws 1 ∧ GoodT b ls ws ∧ SameL T0 H H' ∧ LT T0 H' ∧ H la = none ∧ H x = none ∧ ∃ dx sa, H' x = some (.ins C dx (fldT b ws.length sa la)) ∧ H sa = none ∧ ∀ c o, H c = some o → NoRef H' la c ∧ NoRef H' sa c
theorem made_of {r : Addr} {b : Nat} {bl : Addr} {zs : List (Addr × List Int)} {H : Hp} (R : RuleAt H r b bl zs) (g : GoodRule b (zs.map (·.2))) (hT : LT T0 H) {R' : Addr → Hp → Prop} (k : ∀ x H', MadeT T0 C b (zs.map (·.2)) H x H' → R' x H') :
    ∀ x dx, H x = none → H dx = none → dx ≠ x → sp_tails T0 C (.ref x :: ([.ref r] ++ [])) (upd (upd H dx (.own x)) x (.ins C dx [])) (fun v H2 => v = .non ∧ R' x H2) E0 := by
  intro x dx nx ndx nex
  have s0 := mk_same (C := C) nx ndx
  refine ⟨x, dx, r, b, bl, zs, rfl, upd_same, R.same s0, g, hT.same s0, fun la ws H' TA G fr hT' hla ⟨dx', sa, e1, e2, e3⟩ => ⟨rfl, k x H' ⟨la, ws, TA, G, fun c o hc e => fr c o (ne_of_none e nx) hc (s0 c o e), hT', s0.free hla, nx, dx', sa, e1, s0.free e2, fun c o e => e3 c o (s0 _ _ e)⟩⟩⟩
end
end Lw
set_option Elab.async false
set_option linter.all false
set_option maxRecDepth 100000
namespace Lw
open PySem L2 PyProof.Rows
def Sto (H : Hp) (s : Addr) : Prop := ∃ g x k : Int, H s = some (.lst [.int g, .int x, .int k])
theorem Sto.ne {H : Hp} {s p : Addr} (S : Sto H s) (h : H p = none) : p ≠ s := fun z => by
  obtain ⟨g, x, k, e⟩ := S
  rw [z, e] at h; cases h
structure Stq (s : Addr) (H H' : Hp) : Prop where
  st : Sto H' s
  sm : ∀ b o, b ≠ s → H b = some o → H' b = some o
theorem Stq.refl {s : Addr} {H : Hp} (S : Sto H s) : Stq s H H := ⟨S, fun _ _ _ e => e⟩
theorem Stq.trans {s : Addr} {H H1 H2 : Hp} (a : Stq s H H1) (b : Stq s H1 H2) : Stq s H H2 := ⟨b.st, fun c o h e => b.sm c o h (a.sm c o h e)⟩
theorem Stq.same {s : Addr} {H H1 H2 : Hp} (a : Stq s H H1) (m : Same H1 H2) : Stq s H H2 := ⟨by obtain ⟨g, x, k, e⟩ := a.st; exact ⟨g, x, k, m _ _ e⟩, fun c o h e => m c o (a.sm c o h e)⟩
theorem Stq.of {s : Addr} {H H' : Hp} (S : Sto H s) (m : Same H H') : Stq s H H' := (Stq.refl S).same m
theorem Stq.free {s p : Addr} {H H' : Hp} (a : Stq s H H') (h : H' p = none) : H p = none := by
  cases e : H p with
  | none => rfl
  | some o =>
    have := a.sm p o (a.st.ne h) e
    rw [h] at this; cases this
theorem Stq.new {s p : Addr} {H H' : Hp} {o : HO} (a : Stq s H H') (h : H' p = none) : Stq s H (upd H' p o) := a.same (same_upd h)
theorem Stq.put {s p : Addr} {H H' : Hp} {o : HO} (a : Stq s H H') (hs : p ≠ s) (h : H p = none) : Stq s H (upd H' p o) := ⟨by
  obtain ⟨g, x, k, e⟩ := a.st
  exact ⟨g, x, k, by rw [upd_ne (Ne.symm hs)]; exact e⟩, fun c u hc e => by
    rw [upd_ne (ne_of_none e h)]; exact a.sm c u hc e⟩
section
variable {P : Program} {w : World} {K : PySem.W.Frag} {mg : Str → Option Value} {base : Heap}
def sp__law_cell (K : PySem.W.Frag) : Sp := fun vs H Q _ => ∃ (a : Addr) (ns : List Int) (k : Nat), vs = [.ref a, .int k] ∧ SqL K H a (ns.map V.int) ∧ ns.length ≤ 63 ∧ k ≤ 1000 ∧ ∀ c : Int, Q (.int c) H
theorem sc__law_cell : FnScope ["script", "k"] ["script", "k"] (defScope s__law_cell) := ⟨rfl, rfl, rfl, by decide +kernel, rfl, by decide +kernel, by decide +kernel⟩
theorem ok__law_cell {f : Addr} {fd : FuncData} (D : Df K mg "_law_cell" s__law_cell ["script", "k"] f fd) (T : Blt mg) : FnOk P w K mg base CX0 1 f fd ["script", "k"] (sp__law_cell K) := by
  refine D.fn.ok sc__law_cell (fun vs H Q E h => ?_) (fun cdv A outer s H vs Q E hr h => ?_)
  · obtain ⟨a, ns, k, rfl, _⟩ := h; rfl
  · obtain ⟨a, ns, k, rfl, hS, hlen, hk, kk⟩ := h
    refine ⟨_, (pss_cons (ps_if (pt_cmpR op_lt (pv 1) (pe_callB (k_len K) (by rfl) T.n_len PySem.boot_len (pa_cons (pv 0) pa_nil)) (nomark _))
        (pss_one (ps_ret (pe_ix (k_ixL K) (pv 0) (pv 1) (fun _ _ => rfl))))
        pss_nil)
      (pss_one (ps_ret (pe_op op_add (pe_op op_add (pe_op op_mul (pe_op op_mul pe_int (pv 1)) (pv 1)) (pe_op op_mul pe_int (pv 1))) pe_int)))), ?_⟩
    refine ⟨_, rfl, _, rfl, a, _, rfl, .inl hS, _, _, rfl, rfl, _, rfl, ?_⟩
    refine ite2 (fun hlt => ?_) (fun _ => ?_)
    · have hlt' : k < ns.length := by
        have := of_decide_eq_true hlt
        rw [List.length_map] at this
        omega
      refine ⟨_, rfl, _, rfl, a, _, _, .int (ns[k]), rfl, rfl, hS, ?_, kk _⟩
      exact atI_nat (by rw [List.getElem?_map, List.getElem?_eq_getElem hlt']; rfl)
    · refine ⟨_, rfl, _, _, rfl, rfl, .inl ⟨by decide, by decide⟩, _, rfl, _, _, rfl, rfl, .inr ⟨by omega, by omega⟩, _, rfl, _, _, rfl, rfl, .inl ⟨by decide, by decide⟩, _, _, rfl, rfl, _, _, rfl, rfl, kk _⟩
def sp__law_store : Sp := fun vs H Q _ => ∃ c : Int, vs = [.int c] ∧ ∀ (s : Addr) (H' : Hp), H s = none → Sto H' s → Same H H' → Q (.ref s) H'
theorem sc__law_store : FnScope ["cell", "great"] ["cell"] (defScope s__law_store) := ⟨rfl, rfl, rfl, by decide +kernel, rfl, by decide +kernel, by decide +kernel⟩
theorem ok__law_store {f : Addr} {fd : FuncData} (D : Df K mg "_law_store" s__law_store ["cell"] f fd) (T : Blt mg) : FnOk P w K mg base CX0 1 f fd ["cell"] sp__law_store := by
  refine D.fn.ok sc__law_store (fun vs H Q E h => ?_) (fun cdv A outer s H vs Q E hr h => ?_)
  · obtain ⟨c, rfl, _⟩ := h; rfl
  · obtain ⟨c, rfl, kk⟩ := h
    refine ⟨_, (pss_cons (ps_set (i := 1) sc__law_store.nd rfl (Or.inl rfl) pe_int)
      (pss_cons (ps_if (pt_cmpR op_ge (pv 0) (pe_op op_pow pe_int pe_int) (nomark _))
        (pss_one (ps_set (i := 1) sc__law_store.nd rfl (Or.inl rfl) (pv 0)))
        pss_nil)
      (pss_one (ps_ret (pe_lst (pa_cons (pv 1) (pa_cons (pe_op op_mod (pv 0) pe_int) (pa_cons pe_int pa_nil)))))))), ?_⟩
    refine ⟨_, rfl, _, _, rfl, rfl, ⟨by decide, by decide, by decide⟩, _, _, rfl, rfl, _, rfl, ?_⟩
    generalize decide ((10 : Int) ^ (18 : Int).toNat ≤ c) = bb
    cases bb with
    | true =>
      refine iteT ?_
      refine ⟨_, rfl, _, rfl, _, rfl, _, _, rfl, rfl, (by decide : (0 : Int) < 2147483629), (by decide : 3 ≤ sizeLine), fun l hl => ?_⟩
      exact kk l _ hl ⟨_, _, _, upd_same⟩ (same_upd hl)
    | false =>
      refine iteF ?_
      refine ⟨_, rfl, _, rfl, _, _, rfl, rfl, (by decide : (0 : Int) < 2147483629), (by decide : 3 ≤ sizeLine), fun l hl => ?_⟩
      exact kk l _ hl ⟨_, _, _, upd_same⟩ (same_upd hl)
def sp__law_take : Sp := fun vs H Q _ => ∃ (s : Addr) (m : Int), vs = [.ref s, .int m] ∧ Sto H s ∧ 0 < m ∧ m < 2 ^ 200 ∧ ∀ (r : Nat) (H' : Hp), (r : Int) < m → Stq s H H' → Q (.int r) H'
theorem sc__law_take : FnScope ["store", "many", "told", "one"] ["store", "many"] (defScope s__law_take) := ⟨rfl, rfl, rfl, by decide +kernel, rfl, by decide +kernel, by decide +kernel⟩
theorem ok__law_take {f : Addr} {fd : FuncData} (D : Df K mg "_law_take" s__law_take ["store", "many"] f fd) (T : Blt mg) : FnOk P w K mg base CX0 1 f fd ["store", "many"] sp__law_take := by
  refine D.fn.ok sc__law_take (fun vs H Q E h => ?_) (fun cdv A outer s H vs Q E hr h => ?_)
  · obtain ⟨s, m, rfl, _⟩ := h; rfl
  · obtain ⟨sa, m, rfl, S, hm0, hm1, kk⟩ := h
    obtain ⟨g, x, k, hs⟩ := id S
    refine ⟨_, (pss_cons (ps_if (pt_cmpR op_gt (pe_ix (k_ixL K) (pv 0) pe_int (fun _ _ => rfl)) pe_int (nomark _))
        (pss_cons (ps_set (i := 2) sc__law_take.nd rfl (Or.inl rfl) (pe_op op_mod (pe_ix (k_ixL K) (pv 0) pe_int (fun _ _ => rfl)) (pv 1)))
        (pss_cons (ps_asg (pe_op op_fdivB (pe_ix (k_ixL K) (pv 0) pe_int (fun _ _ => rfl)) (pv 1)) (pg_sub (pv 0) pe_int set_list))
        (pss_one (ps_ret (pv 2)))))
        pss_nil)
      (pss_cons (ps_asg (pe_op op_add (pe_ix (k_ixL K) (pv 0) pe_int (fun _ _ => rfl)) pe_int) (pg_sub (pv 0) pe_int set_list))
      (pss_cons (ps_set (i := 3) sc__law_take.nd rfl (Or.inl rfl) (pe_op op_mod (pe_op op_mul (pe_op op_add (pe_ix (k_ixL K) (pv 0) pe_int (fun _ _ => rfl)) (pe_op op_mul pe_int (pe_ix (k_ixL K) (pv 0) pe_int (fun _ _ => rfl)))) pe_int) pe_int))
      (pss_cons (ps_set (i := 3) sc__law_take.nd rfl (Or.inl rfl) (pe_op op_mod (pe_op op_mul (pv 3) (pv 3)) pe_int))
      (pss_cons (ps_set (i := 3) sc__law_take.nd rfl (Or.inl rfl) (pe_op op_mod (pe_op op_mul (pe_op op_add (pv 3) (pe_op op_mul pe_int (pe_ix (k_ixL K) (pv 0) pe_int (fun _ _ => rfl)))) pe_int) pe_int))
      (pss_one (ps_ret (pe_op op_mod (pe_op op_fdivB (pv 3) pe_int) (pv 1))))))))), ?_⟩
    have fin : ∀ (H' : Hp) (y : Int) (g x k : Int), H' = upd H sa (.lst [.int g, .int x, .int k]) → Q (.int (y % m)) H' := by
      intro H' y g x k e
      subst e
      have h0 : 0 ≤ y % m := Int.emod_nonneg _ (by omega)
      have h1 : y % m < m := Int.emod_lt_of_pos _ hm0
      obtain ⟨r, hr⟩ : ∃ r : Nat, y % m = (r : Int) := ⟨(y % m).toNat, by omega⟩
      rw [hr]
      exact kk r _ (by omega) ⟨⟨_, _, _, upd_same⟩, fun b o hb e => by rw [upd_ne hb]; exact e⟩
    refine ⟨_, rfl, sa, _, _, _, rfl, rfl, SqL.of hs, rfl, _, _, rfl, rfl, _, rfl, ?_⟩
    refine ite2 (fun _ => ?_) (fun _ => ?_)
    · refine ⟨_, rfl, sa, _, _, V.int g, rfl, rfl, SqL.of hs, rfl, _, rfl, _, _, rfl, rfl, hm0, ?_⟩
      refine ⟨_, rfl, sa, _, _, V.int g, rfl, rfl, SqL.of hs, rfl, _, rfl, _, _, rfl, rfl, ⟨hm0, hm1⟩, _, rfl, sa, _, _, 0, rfl, rfl, hs, rfl, ?_⟩
      refine ⟨_, rfl, ?_⟩
      exact fin _ g (g / m) x k rfl
    · refine ⟨_, rfl, sa, _, _, V.int k, rfl, rfl, SqL.of hs, rfl, _, _, rfl, rfl, _, rfl, sa, _, _, 2, rfl, rfl, hs, rfl, ?_⟩
      have hs1 : upd H sa (.lst [V.int g, V.int x, V.int (k + 1)]) sa = some (.lst [V.int g, V.int x, V.int (k + 1)]) := upd_same
      refine ⟨_, rfl, sa, _, _, V.int x, rfl, rfl, SqL.of hs1, rfl, ?_⟩
      refine ⟨_, rfl, sa, _, _, V.int (k + 1), rfl, rfl, SqL.of hs1, rfl, _, _, rfl, rfl, .inl ⟨by decide, by decide⟩, _, _, rfl, rfl, _, _, rfl, rfl, .inr ⟨by decide, by decide⟩, _, _, rfl, rfl, (by decide : (0 : Int) < 2147483647), ?_⟩
      generalize hn1 : (x + 7919 * (k + 1)) * 48271 % 2147483647 = n1
      have n1b : 0 ≤ n1 ∧ n1 < 2147483647 := by rw [← hn1]; exact ⟨Int.emod_nonneg _ (by decide), Int.emod_lt_of_pos _ (by decide)⟩
      refine ⟨_, rfl, _, rfl, _, _, rfl, rfl, .inl ⟨by omega, by omega⟩, _, _, rfl, rfl, (by decide : (0 : Int) < 2147483629), ?_⟩
      generalize hn2 : n1 * n1 % 2147483629 = n2
      refine ⟨_, rfl, _, rfl, sa, _, _, V.int (k + 1), rfl, rfl, SqL.of hs1, rfl, _, _, rfl, rfl, .inl ⟨by decide, by decide⟩, _, _, rfl, rfl, _, _, rfl, rfl, .inr ⟨by decide, by decide⟩, _, _, rfl, rfl, (by decide : (0 : Int) < 2147483587), ?_⟩
      generalize hn3 : (n2 + 40692 * (k + 1)) * 69621 % 2147483587 = n3
      refine ⟨_, rfl, _, _, rfl, rfl, ⟨by decide, by decide⟩, _, rfl, _, _, rfl, rfl, hm0, ?_⟩
      exact fin _ _ _ _ _ rfl
end
section
variable {P : Program} {w : World} {K : PySem.W.Frag} {mg : Str → Option Value} {base : Heap}
def sp__law_base : Sp := fun vs H Q _ => ∃ s : Addr, vs = [.ref s] ∧ Sto H s ∧ ∀ (b : Nat) (H' : Hp), 2 ≤ b → b ≤ 16 → Stq s H H' → Q (.int b) H'
theorem sc__law_base : FnScope ["store"] ["store"] (defScope s__law_base) := ⟨rfl, rfl, rfl, by decide +kernel, rfl, by decide +kernel, by decide +kernel⟩
set_option maxHeartbeats 2000000 in
theorem ok__law_base {f f1 : Addr} {fd fd1 : FuncData} (D : Df K mg "_law_base" s__law_base ["store"] f fd) (D_law_take : Df K mg "_law_take" s__law_take ["store", "many"] f1 fd1) (T : Blt mg) : FnOk P w K mg base CX0 2 f fd ["store"] sp__law_base := by
  have G_law_take : FnOk P w K mg base CX0 1 f1 fd1 ["store", "many"] sp__law_take := ok__law_take D_law_take T
  refine D.fn.ok sc__law_base (fun vs H Q E h => ?_) (fun cdv A outer s H vs Q E hr h => ?_)
  · obtain ⟨s, rfl, _⟩ := h; rfl
  · obtain ⟨sa, rfl, S, kk⟩ := h
    refine ⟨_, (pss_one (ps_ret (pe_ix (k_ixL K) (pe_lst (pa_cons pe_int (pa_cons pe_int (pa_cons pe_int (pa_cons pe_int (pa_cons (pe_op op_add pe_int (pcall D_law_take G_law_take (hr.mono (by decide)) (pa_cons (pv 0) (pa_cons pe_int pa_nil)))) pa_nil)))))) (pcall D_law_take G_law_take (hr.mono (by decide)) (pa_cons (pv 0) (pa_cons pe_int pa_nil))) (fun _ _ => rfl)))), ?_⟩
    refine ⟨_, rfl, ?_⟩
    refine ⟨sa, 15, rfl, S, (by decide), (by decide), fun x1 H1 hx1 S1 => ?_⟩
    refine ⟨2, x1, rfl, rfl, ?_⟩
    refine ⟨(by show 5 ≤ sizeLine; decide), fun l1 hl1 => ?_⟩
    have n1 := S1.st.ne hl1
    have S2 := S1.new hl1 (o := .lst [.int 2, .int 3, .int 10, .int 16, .int (2 + (x1 : Int))])
    refine ⟨_, rfl, sa, _, rfl, S2.st, (by decide), (by decide), fun x2 H3 hx2 S3 => ?_⟩
    obtain ⟨b, hb, hb2, hb16⟩ : ∃ b : Nat, atI [V.int 2, V.int 3, V.int 10, V.int 16, V.int (2 + (x1 : Int))] (x2 : Int) = some (.int b) ∧ 2 ≤ b ∧ b ≤ 16 := by
      have h5 : x2 < 5 := by omega
      match x2, h5 with
      | 0, _ => exact ⟨2, rfl, by omega, by omega⟩
      | 1, _ => exact ⟨3, rfl, by omega, by omega⟩
      | 2, _ => exact ⟨10, rfl, by omega, by omega⟩
      | 3, _ => exact ⟨16, rfl, by omega, by omega⟩
      | 4, _ => exact ⟨2 + x1, rfl, by omega, by omega⟩
    exact ⟨l1, _, _, _, rfl, rfl, SqL.of (S3.sm _ _ n1 upd_same), hb, kk b H3 hb2 hb16 (S2.trans S3)⟩
def sp__law_stretch : Sp := fun vs H Q _ => ∃ (s : Addr) (b few : Nat), vs = [.ref s, .int b, .int few] ∧ Sto H s ∧ 2 ≤ few ∧ few ≤ b ∧ b ≤ 16 ∧ ∀ (l : Addr) (ms : List Int) (H' : Hp), Stq s H H' → H l = none → H' l = some (.lst (ms.map V.int)) → GoodSt b ms → Q (.ref l) H'
theorem sc__law_stretch : FnScope ["store", "base", "few", "many"] ["store", "base", "few"] (defScope s__law_stretch) := ⟨rfl, rfl, rfl, by decide +kernel, rfl, by decide +kernel, by decide +kernel⟩
theorem ok__law_stretch {f f1 : Addr} {fd fd1 : FuncData} (D : Df K mg "_law_stretch" s__law_stretch ["store", "base", "few"] f fd) (D_law_take : Df K mg "_law_take" s__law_take ["store", "many"] f1 fd1) (T : Blt mg) : FnOk P w K mg base CX0 2 f fd ["store", "base", "few"] sp__law_stretch := by
  have G_law_take : FnOk P w K mg base CX0 1 f1 fd1 ["store", "many"] sp__law_take := ok__law_take D_law_take T
  refine D.fn.ok sc__law_stretch (fun vs H Q E h => ?_) (fun cdv A outer s H vs Q E hr h => ?_)
  · obtain ⟨s, b, few, rfl, _⟩ := h; rfl
  · obtain ⟨sa, b, few, rfl, S, hf2, hfb, hb16, kk⟩ := h
    refine ⟨_, (pss_cons (ps_set (i := 3) sc__law_stretch.nd rfl (Or.inl rfl) (pe_op op_add pe_int (pcall D_law_take G_law_take (hr.mono (by decide)) (pa_cons (pv 0) (pa_cons pe_int pa_nil)))))
      (pss_one (ps_ret (pe_comp (show CScope (defScope s__law_stretch) _ "k" ["store", "base", "few", "many"] ["store", "few", "base"] [0, 2, 1] from ⟨rfl, by decide +kernel, by decide +kernel, rfl, by decide +kernel, rfl, by decide +kernel, by decide +kernel⟩) rfl (pi_range1 rfl T.n_range (pa_cons (pv 3) pa_nil)) (fun _ _ _ _ => pts_nil) (fun _ _ _ _ => (pcall D_law_take G_law_take (hr.mono (by decide)) (pa_cons (pv 1) (pa_cons (pe_ix (k_ixL K) (pe_lst (pa_cons (pv 2) (pa_cons (pv 2) (pa_cons (pv 3) pa_nil)))) (pcall D_law_take G_law_take (hr.mono (by decide)) (pa_cons (pv 1) (pa_cons pe_int pa_nil))) (fun _ _ => rfl)) pa_nil)))))))), ?_⟩
    refine ⟨_, rfl, sa, _, rfl, S, (by decide), (by decide), fun x1 H1 hx1 S1 => ⟨_, _, rfl, rfl, ?_⟩⟩
    refine ⟨_, rfl, (1 + (x1 : Int)), rfl, by omega, by omega, comp_range (lo := 0) (n := (1 + (x1 : Int)).toNat) (fun j ys Hc => Stq sa H Hc ∧ ∃ ms : List Int, ys = ms.map V.int ∧ ms.length = j ∧ ∀ f ∈ ms, 0 ≤ f ∧ f < (b : Int)) ⟨S1, [], rfl, rfl, by simp⟩ ?_ ?_⟩
    · rintro j ys Hc hj ⟨Sc, ms, rfl, hml, hmf⟩
      refine ⟨by rw [List.length_map, hml]; exact Nat.lt_of_lt_of_le (show j < 5 by omega) (by decide), ?_⟩
      unfold tYes
      dsimp only
      rw [if_pos rfl]
      refine ⟨_, rfl, _, rfl, _, rfl, _, rfl, (by show 3 ≤ sizeLine; decide), fun l2 hl2 => ?_⟩
      have n2 := Sc.st.ne hl2
      have S3 := Sc.new hl2 (o := .lst [.int few, .int few, .int b])
      refine ⟨_, rfl, sa, _, rfl, S3.st, (by decide), (by decide), fun x2 H4 hx2 S4 => ?_⟩
      obtain ⟨m, hm, hm1, hm2⟩ : ∃ m : Nat, atI [V.int few, V.int few, V.int b] (x2 : Int) = some (.int m) ∧ 2 ≤ m ∧ m ≤ b := by
        have h3 : x2 < 3 := by omega
        match x2, h3 with
        | 0, _ => exact ⟨few, rfl, by omega, by omega⟩
        | 1, _ => exact ⟨few, rfl, by omega, by omega⟩
        | 2, _ => exact ⟨b, rfl, by omega, by omega⟩
      refine ⟨l2, _, _, _, rfl, rfl, SqL.of (S4.sm _ _ n2 upd_same), hm, sa, _, rfl, S4.st, by omega, by omega, fun x3 H5 hx3 S5 => ⟨(S3.trans S4).trans S5, ms ++ [(x3 : Int)], by simp, by simp [hml], fun f hf => ?_⟩⟩
      rcases List.mem_append.mp hf with hf | hf
      · exact hmf f hf
      · have e : f = (x3 : Int) := by simpa using hf
        omega
    · rintro ys Hc ⟨Sc, ms, rfl, hml, hmf⟩ p hp
      exact kk p ms _ (Sc.new hp) (Sc.free hp) upd_same ⟨fun z => by rw [z] at hml; simp at hml; omega, by omega, hmf⟩
structure BadAt (H0 H : Hp) (bl : Addr) (b : Nat) (zs : List (Addr × List Int)) : Prop where
  li : H bl = some (.lst (zs.map fun z => V.ref z.1))
  st : ∀ z ∈ zs, H z.1 = some (.lst (z.2.map V.int))
  nl : H0 bl = none
  ns : ∀ z ∈ zs, H0 z.1 = none
  len : zs.length ≤ 4
  good : ∀ z ∈ zs, GoodSt b z.2
  up : (zs.map (·.2)).Pairwise fun x y => HT.lexLt x y = true
def sp__law_bad : Sp := fun vs H Q _ => ∃ (s : Addr) (b : Nat), vs = [.ref s, .int b] ∧ Sto H s ∧ 2 ≤ b ∧ b ≤ 16 ∧ ∀ (bl : Addr) (zs : List (Addr × List Int)) (H' : Hp), Stq s H H' → BadAt H H' bl b zs → Q (.ref bl) H'
theorem sc__law_bad : FnScope ["store", "base", "few", "known", "k", "one"] ["store", "base"] (defScope s__law_bad) := ⟨rfl, rfl, rfl, by decide +kernel, rfl, by decide +kernel, by decide +kernel⟩
theorem ok__law_bad {f f1 f2 : Addr} {fd fd1 fd2 : FuncData} (D : Df K mg "_law_bad" s__law_bad ["store", "base"] f fd) (D_law_take : Df K mg "_law_take" s__law_take ["store", "many"] f1 fd1) (D_law_stretch : Df K mg "_law_stretch" s__law_stretch ["store", "base", "few"] f2 fd2) (T : Blt mg) : FnOk P w K mg base CX0 3 f fd ["store", "base"] sp__law_bad := by
  have G_law_take : FnOk P w K mg base CX0 1 f1 fd1 ["store", "many"] sp__law_take := ok__law_take D_law_take T
  have G_law_stretch : FnOk P w K mg base CX0 2 f2 fd2 ["store", "base", "few"] sp__law_stretch := ok__law_stretch D_law_stretch D_law_take T
  refine D.fn.ok sc__law_bad (fun vs H Q E h => ?_) (fun cdv A outer s H vs Q E hr h => ?_)
  · obtain ⟨s, b, rfl, _⟩ := h; rfl
  · obtain ⟨sa, b, rfl, S, hb2, hb16, kk⟩ := h
    refine ⟨_, (pss_cons (ps_set (i := 2) sc__law_bad.nd rfl (Or.inl rfl) (pe_callB (call_min2 rfl) (by rfl) T.n_min boot_min (pa_cons (pv 1) (pa_cons (pe_ix (k_ixL K) (pe_lst (pa_cons pe_int (pa_cons pe_int (pa_cons (pv 1) pa_nil)))) (pcall D_law_take G_law_take (hr.mono (by decide)) (pa_cons (pv 0) (pa_cons pe_int pa_nil))) (fun _ _ => rfl)) pa_nil))))
      (pss_cons (ps_set (i := 3) sc__law_bad.nd rfl (Or.inl rfl) pe_dnewT)
      (pss_cons (ps_for PassesOwn.never rfl (pi_range1 rfl T.n_range (pa_cons (pcall D_law_take G_law_take (hr.mono (by decide)) (pa_cons (pv 0) (pa_cons pe_int pa_nil))) pa_nil)) (pg_name (i := 4) sc__law_bad.nd rfl (Or.inl rfl))
        (pss_cons (ps_set (i := 5) sc__law_bad.nd rfl (Or.inl rfl) (pcall D_law_stretch G_law_stretch (hr.mono (by decide)) (pa_cons (pv 0) (pa_cons (pv 1) (pa_cons (pv 2) pa_nil)))))
        (pss_one (ps_dput (hu_of hr) (pv 3) (pe_callTy call_tuple_of (by rfl) T.n_tuple boot_tuple (pa_cons (pv 5) pa_nil)) pe_bl rfl))))
      (pss_one (ps_ret (pe_comp (show CScope (defScope s__law_bad) _ "one" ["store", "base", "few", "known", "k", "one"] [] [] from ⟨rfl, by decide +kernel, by decide +kernel, rfl, by decide +kernel, rfl, by decide +kernel, by decide +kernel⟩) rfl (k_pi K (pe_callB k_sortD (by rfl) T.n_sorted boot_sorted (pa_cons (pv 3) pa_nil))) (fun _ _ _ _ => pts_nil) (fun _ _ _ _ => (pe_callTy (k_listOf K) (by rfl) T.n_list boot_list (pa_cons (pv 0) pa_nil))))))))), ?_⟩
    refine ⟨_, rfl, _, rfl, (by show 3 ≤ sizeLine; decide), fun l1 hl1 => ?_⟩
    have n1 := S.ne hl1
    have S1 := (Stq.refl S).new hl1 (o := .lst [.int 2, .int 3, .int b])
    refine ⟨_, rfl, sa, _, rfl, S1.st, (by decide), (by decide), fun x1 H2 hx1 S2 => ?_⟩
    obtain ⟨m, hm, hm2⟩ : ∃ m : Nat, atI [V.int 2, V.int 3, V.int b] (x1 : Int) = some (.int m) ∧ 2 ≤ m := by
      have h3 : x1 < 3 := by omega
      match x1, h3 with
      | 0, _ => exact ⟨2, rfl, by omega⟩
      | 1, _ => exact ⟨3, rfl, by omega⟩
      | 2, _ => exact ⟨b, rfl, by omega⟩
    refine ⟨l1, _, _, _, rfl, rfl, SqL.of (S2.sm _ _ n1 upd_same), hm, _, _, rfl, ?_⟩
    obtain ⟨few, hfew, hfew1, hfew2⟩ : ∃ few : Nat, (if (m : Int) < (b : Int) then (m : Int) else (b : Int)) = (few : Int) ∧ 2 ≤ few ∧ few ≤ b := by
      by_cases z : m < b
      · exact ⟨m, by rw [if_pos (by omega)], by omega, by omega⟩
      · exact ⟨b, by rw [if_neg (by omega)], by omega, by omega⟩
    rw [hfew]
    have S12 := S1.trans S2
    intro kd hkd
    have nkd := S12.st.ne hkd
    have hkd0 := S12.free hkd
    have S3 := S12.new hkd (o := .dT [])
    refine ⟨_, rfl, sa, _, rfl, S3.st, (by decide), (by decide), fun x2 H4 hx2 S4 => ?_⟩
    refine ⟨_, rfl, by omega, by omega, for_range (lo := 0) (n := (x2 : Int).toNat) (fun i σ H5 => ∃ (v1 v2 : Option V) (kvs : List (List Key × V)) (ls : List (List Int)), σ = [some (.ref sa), some (.int b), some (.int few), some (.ref kd), v1, v2] ∧ Stq sa H H5 ∧ H5 kd = some (.dT kvs) ∧ kvs.map (·.1) = ls.map kI ∧ ls.length ≤ i ∧ ∀ l ∈ ls, GoodSt b l)
      ⟨none, none, [], [], rfl, S3.trans S4, S4.sm _ _ nkd upd_same, rfl, Nat.le_refl _, by simp⟩ ?_ ?_⟩
    · rintro i σ H5 hi ⟨v1, v2, kvs, ls, rfl, S5, hk5, hks, hll, hgd⟩
      refine ⟨_, rfl, _, rfl, _, rfl, sa, b, few, rfl, S5.st, hfew1, hfew2, hb16, fun l ms H6 S6 hl0 hl6 gms => ?_⟩
      have hk6 := S6.sm _ _ nkd hk5
      refine ⟨_, rfl, _, rfl, l, _, rfl, .inl ⟨SqL.of hl6, fun tp htp => ?_⟩⟩
      have hk7 : upd H6 tp (.tup (ms.map V.int)) kd = some (.dT kvs) := same_upd htp _ _ hk6
      have hkl : kvs.length = ls.length := by have := congrArg List.length hks; rwa [List.length_map, List.length_map] at this
      refine ⟨kd, _, rfl, DPut.t (k := kI ms) hk7 (by rw [kI_V]; exact upd_same) (Nat.lt_of_le_of_lt (show kvs.length ≤ 4 by omega) (by decide)), ?_⟩
      have S7 := ((S5.trans S6).new htp (o := .tup (ms.map V.int))).put (p := kd) (o := .dT (putK kvs (kI ms) (.bl true))) nkd hkd0
      by_cases hin : ms ∈ ls
      · refine ⟨_, _, putK kvs (kI ms) (.bl true), ls, rfl, S7, upd_same, ?_, by omega, hgd⟩
        unfold putK
        rw [if_pos (by
          rw [List.any_eq_true]
          have : kI ms ∈ kvs.map (·.1) := by rw [hks]; exact List.mem_map.mpr ⟨ms, hin, rfl⟩
          obtain ⟨kv, h1, h2⟩ := List.mem_map.mp this
          exact ⟨kv, h1, decide_eq_true h2⟩), List.map_map, ← hks]
        refine List.map_congr_left fun kv _ => ?_
        show (if kv.1 = kI ms then (kv.1, V.bl true) else kv).1 = kv.1
        split <;> rfl
      · refine ⟨_, _, putK kvs (kI ms) (.bl true), ls ++ [ms], rfl, S7, upd_same, ?_, by rw [List.length_append, List.length_singleton]; omega, fun l hl => ?_⟩
        · unfold putK
          rw [if_neg (by
            rw [List.any_eq_true]
            rintro ⟨kv, h1, h2⟩
            have h3 : kI ms ∈ kvs.map (·.1) := List.mem_map.mpr ⟨kv, h1, of_decide_eq_true h2⟩
            rw [hks] at h3
            obtain ⟨l, h4, h5⟩ := List.mem_map.mp h3
            exact hin (kI_inj h5 ▸ h4)), List.map_append, List.map_append, hks]
          rfl
        · rcases List.mem_append.mp hl with hl | hl
          · exact hgd l hl
          · have e : l = ms := by simpa using hl
            rw [e]; exact gms
    · rintro σ H5 ⟨v1, v2, kvs, ls, rfl, S5, hk5, hks, hll, hgd⟩
      refine ⟨_, rfl, kd, kvs, ls, rfl, hk5, hks, by omega, fun l hl => (hgd l hl).ne, fun p zs hp pm pw hz => ?_⟩
      have hzl : zs.length = ls.length := by have := pm.length_eq; rwa [List.length_map] at this
      have S6 := S5.new hp (o := .lst (zs.map fun z => V.ref z.1))
      refine ⟨p, rfl, ⟨_, SqL.of upd_same⟩, comp_list (K := K) (a := p) (xs := zs.map fun z => V.ref z.1) (fun i ys H7 => Same (upd H5 p (.lst (zs.map fun z => V.ref z.1))) H7 ∧ ∃ ws : List (Addr × List Int), ys = ws.map (fun z => V.ref z.1) ∧ ws.map (·.2) = (zs.take i).map (·.2) ∧ ∀ z ∈ ws, H z.1 = none ∧ H7 z.1 = some (.lst (z.2.map V.int))) ⟨Same.refl _, [], rfl, by simp, by simp⟩ (fun i ys H7 _ ⟨m7, _⟩ => SqL.of (m7 _ _ upd_same)) ?_ ?_⟩
      · rintro j x ys H7 hx ⟨m7, ws, rfl, hw2, hws⟩
        rw [List.getElem?_map] at hx
        obtain ⟨z, hzj, e⟩ := Option.map_eq_some_iff.mp hx
        subst e
        have hzm := List.mem_of_getElem? hzj
        have hj : j < zs.length := (List.getElem?_eq_some_iff.mp hzj).1
        have hwl : ws.length ≤ j := by have := congrArg List.length hw2; rw [List.length_map, List.length_map, List.length_take] at this; omega
        refine ⟨by rw [List.length_map]; exact Nat.lt_of_le_of_lt (show ws.length ≤ 4 by omega) (by decide), ?_⟩
        unfold tYes
        dsimp only
        rw [if_pos rfl]
        refine ⟨_, rfl, z.1, _, rfl, .inr (SqT.of (m7 _ _ (same_upd hp _ _ (hz z hzm)))), fun q hq => ⟨m7.trans (same_upd hq), ws ++ [(q, z.2)], by simp, ?_, fun y hy => ?_⟩⟩
        · rw [List.map_append, hw2, List.take_succ, hzj]; simp
        · rcases List.mem_append.mp hy with hy | hy
          · exact ⟨(hws y hy).1, same_upd hq _ _ (hws y hy).2⟩
          · have e : y = (q, z.2) := by simpa using hy
            subst e
            exact ⟨S6.free (m7.free hq), upd_same⟩
      · rintro ys H7 ⟨m7, ws, rfl, hw2, hws⟩ bl hbl
        rw [List.length_map, List.take_length] at hw2
        have hwl : ws.length = zs.length := by have := congrArg List.length hw2; rwa [List.length_map, List.length_map] at this
        have m8 := same_upd hbl (o := .lst (ws.map fun z => V.ref z.1))
        refine kk bl ws _ (S6.same (m7.trans m8)) ⟨upd_same, fun z hz' => m8 _ _ (hws z hz').2, S6.free (m7.free hbl), fun z hz' => (hws z hz').1, by omega, fun z hz' => ?_, ?_⟩
        · refine hgd _ ?_
          have : z.2 ∈ zs.map (·.2) := by rw [← hw2]; exact List.mem_map.mpr ⟨z, hz', rfl⟩
          exact pm.mem_iff.mp this
        · rw [hw2, List.pairwise_map]; exact pw
end
end Lw
set_option Elab.async false
set_option linter.all false
set_option maxRecDepth 100000
namespace Lw
open PySem L2 PyProof.Rows
theorem TailsAt.updI {C tl la b p CS dxp : Nat} {H : Hp} {ls ws : List (List Int)} {L : Nat} {o : HO} {fs : List (Str × V)} (TA : TailsAt C H tl la b ls ws L) (h : H p = some (.ins CS dxp fs)) (hne : tl ≠ p) : TailsAt C (upd H p o) tl la b ls ws L := by
  obtain ⟨dx, sa, srs, h1, h2, h3, h4⟩ := TA.ob
  obtain ⟨lrs, g1, g2, g3⟩ := TA.ly
  have nl : ∀ {c : Addr} {xs : List V}, H c = some (.lst xs) → c ≠ p := fun e z => by rw [z, h] at e; cases e
  have go : ∀ c u, c ≠ p → aw [la] H c = some u → aw [la] (upd H p o) c = some u := fun c u hc e => by
    have hcl : c ∉ [la] := fun hz => by rw [aw_in hz] at e; cases e
    rw [aw_out hcl] at e ⊢
    rw [upd_ne hc]; exact e
  exact ⟨⟨dx, sa, srs, go _ _ hne h1, go _ _ (nl (aw_same _ _ _ _ h2)) h2, fun z hz => go _ _ (nl (aw_same _ _ _ _ (h3 z hz))) (h3 z hz), h4⟩, ⟨lrs, by rw [upd_ne (nl g1)]; exact g1, fun z hz => go _ _ (nl (aw_same _ _ _ _ (g2 z hz))) (g2 z hz), g3⟩, TA.l1⟩
theorem LT.putI {T p CS dx : Addr} {H : Hp} {o : HO} {fs : List (Str × V)} (h : LT T H) (e : H p = some (.ins CS dx fs)) : LT T (upd H p o) := by
  have nT : p ≠ T := fun z => by
    rw [z] at e
    rcases h with h | ⟨c, h, _⟩
    · rw [h] at e; cases e
    · rw [h] at e; cases e
  rcases h with h | ⟨c, h1, h2⟩
  · exact .inl (by rw [upd_ne (Ne.symm nT)]; exact h)
  · exact .inr ⟨c, by rw [upd_ne (Ne.symm nT)]; exact h1, by rw [upd_ne (fun z => by rw [z, e] at h2; cases h2)]; exact h2⟩
structure ClK (K : PySem.W.Frag) (mg : Str → Option Value) (C : Addr) : Prop where
  cl : Cls K C
  nm : mg "Keeper" = some (.ref C)
  n_base : NoAttr K C "base"
  n_bad : NoAttr K C "bad"
  n_bound : NoAttr K C "bound"
  n_tails : NoAttr K C "tails"
def fldK (b : Nat) (bl : Addr) (bd : Nat) (tl : Addr) : List (Str × V) := putF "tails" (.ref tl) (putF "bound" (.int bd) (putF "bad" (.ref bl) (putF "base" (.int b) [])))
section
variable (b : Nat) (bl : Addr) (bd : Nat) (tl : Addr)
theorem fldK_tails : (fldK b bl bd tl).lookup ("tails" : Str) = some (.ref tl) := by unfold fldK; rw [lookup_putF, if_pos rfl]
theorem fldK_bound : (fldK b bl bd tl).lookup ("bound" : Str) = some (.int bd) := by unfold fldK; rw [lookup_putF, if_neg (by decide +kernel), lookup_putF, if_pos rfl]
theorem fldK_bad : (fldK b bl bd tl).lookup ("bad" : Str) = some (.ref bl) := by unfold fldK; rw [lookup_putF, if_neg (by decide +kernel), lookup_putF, if_neg (by decide +kernel), lookup_putF, if_pos rfl]
theorem fldK_base : (fldK b bl bd tl).lookup ("base" : Str) = some (.int b) := by unfold fldK; rw [lookup_putF, if_neg (by decide +kernel), lookup_putF, if_neg (by decide +kernel), lookup_putF, if_neg (by decide +kernel), lookup_putF, if_pos rfl]
theorem fldK_no {m : Str} (h1 : ¬ m = "tails" := by decide +kernel) (h2 : ¬ m = "bound" := by decide +kernel) (h3 : ¬ m = "bad" := by decide +kernel) (h4 : ¬ m = "base" := by decide +kernel) : (fldK b bl bd tl).lookup m = none := by
  unfold fldK
  rw [lookup_putF, if_neg h1, lookup_putF, if_neg h2, lookup_putF, if_neg h3, lookup_putF, if_neg h4]
  rfl
theorem fldK_len : (fldK b bl bd tl).length ≤ 4 := Nat.le_trans (length_putF _ _ _) (Nat.succ_le_succ (Nat.le_trans (length_putF _ _ _) (Nat.succ_le_succ (Nat.le_trans (length_putF _ _ _) (Nat.succ_le_succ (length_putF _ _ _))))))
theorem fldK_is : fldK b bl bd tl = [(("base" : Str), V.int (b : Int)), (("bad" : Str), V.ref bl), (("bound" : Str), V.int (bd : Int)), (("tails" : Str), V.ref tl)] := by
  unfold fldK
  rw [putF, putF, if_neg (by decide +kernel), putF, putF, if_neg (by decide +kernel), putF, if_neg (by decide +kernel), putF, putF, if_neg (by decide +kernel), putF, if_neg (by decide +kernel), putF, if_neg (by decide +kernel), putF]
theorem fldK_putBad (bl2 : Addr) : putF "bad" (.ref bl2) (fldK b bl bd tl) = fldK b bl2 bd tl := by
  rw [fldK_is, fldK_is, putF, if_neg (by decide +kernel), putF, if_pos rfl]
theorem fldK_putTails (tl2 : Addr) : putF "tails" (.ref tl2) (fldK b bl bd tl) = fldK b bl bd tl2 := by
  rw [fldK_is, fldK_is, putF, if_neg (by decide +kernel), putF, if_neg (by decide +kernel), putF, if_neg (by decide +kernel), putF, if_pos rfl]
end
structure KpAt (C CK : Addr) (H : Hp) (k tl sa la : Addr) (b bd : Nat) (bl : Addr) (zs : List (Addr × List Int)) (ws : List (List Int)) (L : Nat) : Prop where
  ob : ∃ dx, H k = some (.ins CK dx (fldK b bl bd tl))
  li : H bl = some (.lst (zs.map fun z => V.ref z.1))
  st : ∀ z ∈ zs, H z.1 = some (.lst (z.2.map V.int))
  ta : TailsAt C H tl la b (zs.map (·.2)) ws L
  sa : ∃ dx, H tl = some (.ins C dx (fldT b ws.length sa la))
  gt : GoodT b (zs.map (·.2)) ws
  bla : bl ≠ la
  l : L ≤ 1000
section
variable {C CK : Addr} {H H' : Hp} {k tl sa la : Addr} {b bd : Nat} {bl : Addr} {zs : List (Addr × List Int)} {ws : List (List Int)} {L L' : Nat}
theorem KpAt.zla (A : KpAt C CK H k tl sa la b bd bl zs ws L) {z : Addr × List Int} (hz : z ∈ zs) : z.1 ≠ la := fun e => by
  obtain ⟨lrs, h1, _, h3⟩ := A.ta.ly
  have h := A.st z hz
  rw [e, h1] at h
  have hne := (A.gt.g.st z.2 (List.mem_map.mpr ⟨z, hz, rfl⟩)).ne
  injection h with h
  injection h with h
  cases hz2 : z.2 with
  | nil => exact hne hz2
  | cons x y =>
    rw [hz2] at h
    cases lrs with
    | nil => cases h
    | cons x' y' => injection h with h _; cases h
theorem KpAt.kla (A : KpAt C CK H k tl sa la b bd bl zs ws L) : k ≠ la := by
  obtain ⟨dx, h⟩ := A.ob
  obtain ⟨lrs, h1, _⟩ := A.ta.ly
  exact ne_of h h1 (fun z => nomatch z)
theorem KpAt.tla (A : KpAt C CK H k tl sa la b bd bl zs ws L) : tl ≠ la := by
  obtain ⟨dx, h⟩ := A.sa
  obtain ⟨lrs, h1, _⟩ := A.ta.ly
  exact ne_of h h1 (fun z => nomatch z)
theorem KpAt.more (A : KpAt C CK H k tl sa la b bd bl zs ws L) (TA : TailsAt C H' tl la b (zs.map (·.2)) ws L') (m : Same (aw [la] H) (aw [la] H')) (hL : L' ≤ 1000) : KpAt C CK H' k tl sa la b bd bl zs ws L' := by
  have go : ∀ c o, c ≠ la → H c = some o → H' c = some o := fun c o hc e => by
    have hc' : c ∉ [la] := by simpa using hc
    have := m c o (by rw [aw_out hc']; exact e)
    rwa [aw_out hc'] at this
  obtain ⟨dx, h1⟩ := A.ob
  obtain ⟨dt, h2⟩ := A.sa
  exact ⟨⟨dx, go _ _ A.kla h1⟩, go _ _ A.bla A.li, fun z hz => go _ _ (A.zla hz) (A.st z hz), TA, ⟨dt, go _ _ A.tla h2⟩, A.gt, A.bla, hL⟩
theorem KpAt.same (A : KpAt C CK H k tl sa la b bd bl zs ws L) (m : Same H H') : KpAt C CK H' k tl sa la b bd bl zs ws L := A.more (A.ta.same m) (m.aw [la]) A.l
end
theorem KpAt.las {C CK : Addr} {H : Hp} {k tl sa la : Addr} {b bd : Nat} {bl : Addr} {zs : List (Addr × List Int)} {ws : List (List Int)} {L : Nat} (A : KpAt C CK H k tl sa la b bd bl zs ws L) : ∃ as : List Addr, H la = some (.lst (as.map V.ref)) := by
  obtain ⟨lrs, g1, _⟩ := A.ta.ly
  exact ⟨lrs.map (·.1), by rw [List.map_map]; exact g1⟩
theorem KpAt.sas' {C CK : Addr} {H : Hp} {k tl sa la : Addr} {b bd : Nat} {bl : Addr} {zs : List (Addr × List Int)} {ws : List (List Int)} {L : Nat} (A : KpAt C CK H k tl sa la b bd bl zs ws L) : ∃ xs, aw [la] H sa = some (.lst xs) := by
  obtain ⟨dq, saq, srs, q1, q2, _⟩ := A.ta.ob
  obtain ⟨dt, q3⟩ := A.sa
  have es : saq = sa := by
    have := aw_same _ _ _ _ q1
    rw [q3] at this
    injection this with this
    injection this with _ _ this
    have e := fldT_steps b ws.length saq la
    rw [← this, fldT_steps] at e
    injection e with e
    injection e with e
    exact e.symm
  rw [es] at q2
  exact ⟨_, q2⟩
theorem KpAt.sas {C CK : Addr} {H : Hp} {k tl sa la : Addr} {b bd : Nat} {bl : Addr} {zs : List (Addr × List Int)} {ws : List (List Int)} {L : Nat} (A : KpAt C CK H k tl sa la b bd bl zs ws L) : ∃ xs, H sa = some (.lst xs) := let ⟨_, h⟩ := A.sas'; ⟨_, aw_same _ _ _ _ h⟩
theorem KpAt.sla {C CK : Addr} {H : Hp} {k tl sa la : Addr} {b bd : Nat} {bl : Addr} {zs : List (Addr × List Int)} {ws : List (List Int)} {L : Nat} (A : KpAt C CK H k tl sa la b bd bl zs ws L) : sa ≠ la := fun e => by
  obtain ⟨xs, h⟩ := A.sas'
  rw [aw_in (by simp [e])] at h; cases h
structure ClrK (c : Addr) (H : Hp) (k tl sa la bl : Addr) (zs : List (Addr × List Int)) : Prop where
  nk : c ≠ k
  ntl : c ≠ tl
  nsa : c ≠ sa
  nla : c ≠ la
  nbl : c ≠ bl
  nz : ∀ z ∈ zs, c ≠ z.1
  rla : NoRef H la c
  rsa : NoRef H sa c
def KpS (H H' : Hp) (k tl sa la bl : Addr) (zs : List (Addr × List Int)) : Prop := ∀ c o, H c = some o → ClrK c H k tl sa la bl zs → ClrK c H' k tl sa la bl zs
theorem KpAt.kps {C CK : Addr} {H H' : Hp} {k tl sa la : Addr} {b bd : Nat} {bl : Addr} {zs : List (Addr × List Int)} {ws : List (List Int)} {L : Nat} (A : KpAt C CK H k tl sa la b bd bl zs ws L) (m : Same H H') : KpS H H' k tl sa la bl zs := fun c o e q => by
  obtain ⟨_, h1⟩ := A.las
  obtain ⟨_, h2⟩ := A.sas
  exact ⟨q.nk, q.ntl, q.nsa, q.nla, q.nbl, q.nz, q.rla.same h1 (m _ _ h1), q.rsa.same h2 (m _ _ h2)⟩
section
variable {P : Program} {w : World} {K : PySem.W.Frag} {mg : Str → Option Value} {base : Heap} {T0 C CK : Addr}
def sp_copy_of : Sp := fun vs H Q _ => ∃ (r : Addr) (b : Nat) (bl : Addr) (zs : List (Addr × List Int)), vs = [.ref r] ∧ RuleAt H r b bl zs ∧ zs.length ≤ 100 ∧
  ∀ (r' bl' : Addr) (zs' : List (Addr × List Int)) (H' : Hp), Same H H' → RuleAt H' r' b bl' zs' → zs'.map (·.2) = zs.map (·.2) → H bl' = none → H r' = none → (∀ z ∈ zs', H z.1 = none ∧ z.1 ≠ bl') → Q (.ref r') H'
theorem sc_copy_of : FnScope ["rule"] ["rule"] (defScope s_copy_of) := ⟨rfl, rfl, rfl, by decide +kernel, rfl, by decide +kernel, by decide +kernel⟩
theorem ok_copy_of {f : Addr} {fd : FuncData} (D : Df K mg "copy_of" s_copy_of ["rule"] f fd) (T : Blt mg) : FnOk P w K mg base CX0 1 f fd ["rule"] sp_copy_of := by
  refine D.fn.ok sc_copy_of (fun vs H Q E h => ?_) (fun cdv A outer s H vs Q E hr h => ?_)
  · obtain ⟨r, b, bl, zs, rfl, _⟩ := h; rfl
  · obtain ⟨r, b, bl, zs, rfl, R, hl, kk⟩ := h
    refine ⟨_, (pss_one (ps_ret (pe_tup (pa_cons (pe_ix (k_ixT K) (pv 0) pe_int (fun _ _ => rfl)) (pa_cons (pe_comp (show CScope (defScope s_copy_of) _ "stretch" ["rule"] [] [] from ⟨rfl, by decide +kernel, by decide +kernel, rfl, by decide +kernel, rfl, by decide +kernel, by decide +kernel⟩) rfl (k_pi K (pe_ix (k_ixT K) (pv 0) pe_int (fun _ _ => rfl))) (fun _ _ _ _ => pts_nil) (fun _ _ _ _ => (pe_callTy (k_listOf K) (by rfl) T.n_list boot_list (pa_cons (pv 0) pa_nil)))) pa_nil))))), ?_⟩
    refine ⟨_, rfl, r, _, _, V.int b, rfl, rfl, SqT.of R.tu, rfl, ?_⟩
    refine ⟨_, rfl, r, _, _, V.ref bl, rfl, rfl, SqT.of R.tu, rfl, bl, rfl, ⟨_, SqL.of R.li⟩, comp_list (K := K) (a := bl) (xs := zs.map fun z => V.ref z.1) (fun i ys H4 => Same H H4 ∧ ∃ ws : List (Addr × List Int), ys = ws.map (fun z => V.ref z.1) ∧ ws.length = i ∧ ws.map (·.2) = (zs.take i).map (·.2) ∧ ∀ z ∈ ws, H z.1 = none ∧ H4 z.1 = some (.lst (z.2.map V.int))) ⟨Same.refl _, [], rfl, rfl, rfl, by simp⟩ (fun i ys H4 _ ⟨e, _⟩ => SqL.of (e _ _ R.li)) ?_ ?_⟩
    · rintro j x ys H4 hx ⟨s4, ws, rfl, hwl, hw2, hws⟩
      rw [List.getElem?_map] at hx
      obtain ⟨z, hzj, e⟩ := Option.map_eq_some_iff.mp hx
      subst e
      have hzm := List.mem_of_getElem? hzj
      have hj : j < zs.length := (List.getElem?_eq_some_iff.mp hzj).1
      refine ⟨by rw [List.length_map, hwl]; exact Nat.lt_of_lt_of_le (show j < 101 by omega) (by decide), ?_⟩
      unfold tYes
      dsimp only
      rw [if_pos rfl]
      refine ⟨_, rfl, z.1, _, rfl, .inl (SqL.of (s4 _ _ (R.st z hzm))), fun p hp => ⟨s4.trans (same_upd hp), ws ++ [(p, z.2)], by simp, by simp [hwl], ?_, fun y hy => ?_⟩⟩
      · rw [List.map_append, hw2, List.take_succ, hzj]; simp
      · rcases List.mem_append.mp hy with hy | hy
        · exact ⟨(hws y hy).1, same_upd hp _ _ (hws y hy).2⟩
        · have e : y = (p, z.2) := by simpa using hy
          subst e
          exact ⟨s4.free hp, upd_same⟩
    · rintro ys H4 ⟨s4, ws, rfl, hwl, hw2, hws⟩ bl' hbl'
      refine ⟨(by show 2 ≤ sizeLine; decide), fun r' hr' => ?_⟩
      have s5 := same_upd hbl' (o := .lst (ws.map fun z => V.ref z.1))
      have s6 := same_upd hr' (o := .tup [.int b, .ref bl'])
      refine kk r' bl' ws _ (s4.trans (s5.trans s6)) ⟨upd_same, s6 _ _ upd_same, fun z hz => s6 _ _ (s5 _ _ (hws z hz).2)⟩ ?_ (s4.free hbl') (s4.free (s5.free hr')) fun z hz => ⟨(hws z hz).1, ne_of_none (hws z hz).2 hbl'⟩
      rw [hw2, List.length_map, List.take_length]
def sp__law_copy : Sp := fun vs H Q _ => ∃ (r : Addr) (b : Nat) (bl : Addr) (zs : List (Addr × List Int)), vs = [.ref r] ∧ RuleAt H r b bl zs ∧ zs.length ≤ 100 ∧
  ∀ (r' bl' : Addr) (zs' : List (Addr × List Int)) (H' : Hp), Same H H' → RuleAt H' r' b bl' zs' → zs'.map (·.2) = zs.map (·.2) → H bl' = none → H r' = none → (∀ z ∈ zs', H z.1 = none ∧ z.1 ≠ bl') → Q (.ref r') H'
theorem sc__law_copy : FnScope ["rule"] ["rule"] (defScope s__law_copy) := ⟨rfl, rfl, rfl, by decide +kernel, rfl, by decide +kernel, by decide +kernel⟩
theorem ok__law_copy {f : Addr} {fd : FuncData} (D : Df K mg "_law_copy" s__law_copy ["rule"] f fd) (T : Blt mg) : FnOk P w K mg base CX0 1 f fd ["rule"] sp__law_copy := by
  refine D.fn.ok sc__law_copy (fun vs H Q E h => ?_) (fun cdv A outer s H vs Q E hr h => ?_)
  · obtain ⟨r, b, bl, zs, rfl, _⟩ := h; rfl
  · obtain ⟨r, b, bl, zs, rfl, R, hl, kk⟩ := h
    refine ⟨_, (pss_one (ps_ret (pe_tup (pa_cons (pe_ix (k_ixT K) (pv 0) pe_int (fun _ _ => rfl)) (pa_cons (pe_comp (show CScope (defScope s__law_copy) _ "one" ["rule"] [] [] from ⟨rfl, by decide +kernel, by decide +kernel, rfl, by decide +kernel, rfl, by decide +kernel, by decide +kernel⟩) rfl (k_pi K (pe_ix (k_ixT K) (pv 0) pe_int (fun _ _ => rfl))) (fun _ _ _ _ => pts_nil) (fun _ _ _ _ => (pe_callTy (k_listOf K) (by rfl) T.n_list boot_list (pa_cons (pv 0) pa_nil)))) pa_nil))))), ?_⟩
    refine ⟨_, rfl, r, _, _, V.int b, rfl, rfl, SqT.of R.tu, rfl, ?_⟩
    refine ⟨_, rfl, r, _, _, V.ref bl, rfl, rfl, SqT.of R.tu, rfl, bl, rfl, ⟨_, SqL.of R.li⟩, comp_list (K := K) (a := bl) (xs := zs.map fun z => V.ref z.1) (fun i ys H4 => Same H H4 ∧ ∃ ws : List (Addr × List Int), ys = ws.map (fun z => V.ref z.1) ∧ ws.length = i ∧ ws.map (·.2) = (zs.take i).map (·.2) ∧ ∀ z ∈ ws, H z.1 = none ∧ H4 z.1 = some (.lst (z.2.map V.int))) ⟨Same.refl _, [], rfl, rfl, rfl, by simp⟩ (fun i ys H4 _ ⟨e, _⟩ => SqL.of (e _ _ R.li)) ?_ ?_⟩
    · rintro j x ys H4 hx ⟨s4, ws, rfl, hwl, hw2, hws⟩
      rw [List.getElem?_map] at hx
      obtain ⟨z, hzj, e⟩ := Option.map_eq_some_iff.mp hx
      subst e
      have hzm := List.mem_of_getElem? hzj
      have hj : j < zs.length := (List.getElem?_eq_some_iff.mp hzj).1
      refine ⟨by rw [List.length_map, hwl]; exact Nat.lt_of_lt_of_le (show j < 101 by omega) (by decide), ?_⟩
      unfold tYes
      dsimp only
      rw [if_pos rfl]
      refine ⟨_, rfl, z.1, _, rfl, .inl (SqL.of (s4 _ _ (R.st z hzm))), fun p hp => ⟨s4.trans (same_upd hp), ws ++ [(p, z.2)], by simp, by simp [hwl], ?_, fun y hy => ?_⟩⟩
      · rw [List.map_append, hw2, List.take_succ, hzj]; simp
      · rcases List.mem_append.mp hy with hy | hy
        · exact ⟨(hws y hy).1, same_upd hp _ _ (hws y hy).2⟩
        · have e : y = (p, z.2) := by simpa using hy
          subst e
          exact ⟨s4.free hp, upd_same⟩
    · rintro ys H4 ⟨s4, ws, rfl, hwl, hw2, hws⟩ bl' hbl'
      refine ⟨(by show 2 ≤ sizeLine; decide), fun r' hr' => ?_⟩
      have s5 := same_upd hbl' (o := .lst (ws.map fun z => V.ref z.1))
      have s6 := same_upd hr' (o := .tup [.int b, .ref bl'])
      refine kk r' bl' ws _ (s4.trans (s5.trans s6)) ⟨upd_same, s6 _ _ upd_same, fun z hz => s6 _ _ (s5 _ _ (hws z hz).2)⟩ ?_ (s4.free hbl') (s4.free (s5.free hr')) fun z hz => ⟨(hws z hz).1, ne_of_none (hws z hz).2 hbl'⟩
      rw [hw2, List.length_map, List.take_length]
def sp_below (T0 C CK : Addr) : Sp := fun vs H Q _ => ∃ (k tl sa la : Addr) (b bd : Nat) (bl : Addr) (zs : List (Addr × List Int)) (ws : List (List Int)) (L n : Nat), vs = [.ref k, .int n] ∧ KpAt C CK H k tl sa la b bd bl zs ws L ∧ n < 2 ^ 900 ∧ LT T0 H ∧
  ∀ (L' : Nat) (H' : Hp), KpAt C CK H' k tl sa la b bd bl zs ws L' → Same (aw [la] H) (aw [la] H') → LT T0 H' → KpS H H' k tl sa la bl zs → Q (.int (many (gd (zs.map (·.2)) b) n : Nat)) H'
theorem sc_Keeper_below : FnScope ["self", "n"] ["self", "n"] (defScope s_Keeper_below) := ⟨rfl, rfl, rfl, by decide +kernel, rfl, by decide +kernel, by decide +kernel⟩
theorem ok_below {f f1 f2 : Addr} {fd fd1 fd2 : FuncData} (D : Mt K CK "Keeper.below" "below" s_Keeper_below ["self", "n"] f fd) (MTails_many_below : Mt K C "Tails.many_below" "many_below" s_Tails_many_below ["self", "figures"] f1 fd1) (GTails_many_below : FnOk P w K mg base CX0 4 f1 fd1 ["self", "figures"] (sp_many_below C)) (Dfigures_of : Df K mg "figures_of" s_figures_of ["base", "n"] f2 fd2) (Gfigures_of : FnOk P w K mg base CX0 4 f2 fd2 ["base", "n"] sp_figures_of) (cTails : ClT K mg C) (cKeeper : ClK K mg CK) : FnOk P w K mg base CX0 5 f fd ["self", "n"] (sp_below T0 C CK) := by
  refine D.fn.ok sc_Keeper_below (fun vs H Q E h => ?_) (fun cdv A outer s H vs Q E hr h => ?_)
  · obtain ⟨k, tl, sa, la, b, bd, bl, zs, ws, L, n, rfl, _⟩ := h; rfl
  · obtain ⟨k, tl, sa, la, b, bd, bl, zs, ws, L, n, rfl, KA, hn, hT, kk⟩ := h
    have b2 := KA.gt.g.b2
    have b16 := KA.gt.g.b16
    obtain ⟨dx, hk⟩ := KA.ob
    obtain ⟨dt, htl⟩ := KA.sa
    obtain ⟨lx, hla⟩ := KA.ta.la
    refine ⟨_, (pss_one (ps_ret (pmeth MTails_many_below cTails.cl GTails_many_below (hr.mono (by decide)) (k_fld K (pv 0)) (pa_cons (pcall Dfigures_of Gfigures_of (hr.mono (by decide)) (pa_cons (k_fld K (pv 0)) (pa_cons (pv 1) pa_nil))) pa_nil)))), ?_⟩
    refine ⟨_, rfl, k, CK, dx, _, _, rfl, hk, cKeeper.cl, cKeeper.n_tails, fldK_tails _ _ _ _, tl, dt, _, rfl, htl, fldT_no _ _ _ _ (by decide +kernel) (by decide +kernel) (by decide +kernel) (by decide +kernel), ?_⟩
    refine ⟨_, rfl, k, CK, dx, _, _, rfl, hk, cKeeper.cl, cKeeper.n_base, fldK_base _ _ _ _, _, rfl, b, n, rfl, b2, b16, hn, fun fa H1 hfa hv s1 => ?_⟩
    have KA1 := KA.same s1
    have fala : fa ≠ la := fun z => by rw [z, hla] at hfa; cases hfa
    refine ⟨tl, la, b, _, ws, L, fa, n, rfl, KA1.ta, KA.gt, KA.l, by rw [aw_out (by simpa using fala)]; exact hv, hn, fun L2 H2 hL2 TA2 m2 nr2 hL' => ?_⟩
    refine kk L2 H2 (KA1.more TA2 m2 hL') ((s1.aw [la]).trans m2) ((hT.same s1).off (s1 _ _ hla) m2) fun c o e q => ?_
    have q1 := KA.kps s1 c o e q
    obtain ⟨_, hs⟩ := KA1.sas
    exact ⟨q.nk, q.ntl, q.nsa, q.nla, q.nbl, q.nz, nr2 c o q.nla (s1 _ _ e) q1.rla, q1.rsa.same hs (go_la m2 KA1.sla hs)⟩
def Off (T k la : Addr) (H H' : Hp) : Prop := ∀ c o, c ≠ k → c ≠ la → c ≠ T → H c = some o → H' c = some o
def sp_rule (C CK : Addr) : Sp := fun vs H Q _ => ∃ (k tl sa la : Addr) (b bd : Nat) (bl : Addr) (zs : List (Addr × List Int)) (ws : List (List Int)) (L : Nat), vs = [.ref k] ∧ KpAt C CK H k tl sa la b bd bl zs ws L ∧
  ∀ (r bl' : Addr) (zs' : List (Addr × List Int)) (H' : Hp), Same H H' → RuleAt H' r b bl' zs' → zs'.map (·.2) = zs.map (·.2) → H bl' = none → H r = none → (∀ z ∈ zs', H z.1 = none ∧ z.1 ≠ bl') → Q (.ref r) H'
theorem sc_Keeper_rule : FnScope ["self"] ["self"] (defScope s_Keeper_rule) := ⟨rfl, rfl, rfl, by decide +kernel, rfl, by decide +kernel, by decide +kernel⟩
theorem ok_rule {f f1 : Addr} {fd fd1 : FuncData} (D : Mt K CK "Keeper.rule" "rule" s_Keeper_rule ["self"] f fd) (Dcopy_of : Df K mg "copy_of" s_copy_of ["rule"] f1 fd1) (Gcopy_of : FnOk P w K mg base CX0 1 f1 fd1 ["rule"] sp_copy_of) (cKeeper : ClK K mg CK) : FnOk P w K mg base CX0 2 f fd ["self"] (sp_rule C CK) := by
  refine D.fn.ok sc_Keeper_rule (fun vs H Q E h => ?_) (fun cdv A outer s H vs Q E hr h => ?_)
  · obtain ⟨k, tl, sa, la, b, bd, bl, zs, ws, L, rfl, _⟩ := h; rfl
  · obtain ⟨k, tl, sa, la, b, bd, bl, zs, ws, L, rfl, KA, kk⟩ := h
    obtain ⟨dx, hk⟩ := KA.ob
    have h4 : zs.length ≤ 4 := by have := KA.gt.g.len; rwa [List.length_map] at this
    refine ⟨_, (pss_one (ps_ret (pcall Dcopy_of Gcopy_of (hr.mono (by decide)) (pa_cons (pe_tup (pa_cons (k_fld K (pv 0)) (pa_cons (k_fld K (pv 0)) pa_nil))) pa_nil)))), ?_⟩
    refine ⟨_, rfl, k, CK, dx, _, _, rfl, hk, cKeeper.cl, cKeeper.n_base, fldK_base _ _ _ _, _, rfl, k, CK, dx, _, _, rfl, hk, cKeeper.cl, cKeeper.n_bad, fldK_bad _ _ _ _, (by show 2 ≤ sizeLine; decide), fun t ht => ?_⟩
    have s1 := same_upd ht (o := .tup [.int b, .ref bl])
    refine ⟨t, b, bl, zs, rfl, ⟨upd_same, s1 _ _ KA.li, fun z hz => s1 _ _ (KA.st z hz)⟩, by omega, fun r bl' zs' H' s' R' e' n1 n2 n3 => ?_⟩
    exact kk r bl' zs' H' (s1.trans s') R' e' (s1.free n1) (s1.free n2) (fun z hz => ⟨s1.free (n3 z hz).1, (n3 z hz).2⟩)
def sp_keeper (T0 C CK : Addr) : Sp := fun vs H Q _ => ∃ (k dx r : Addr) (b : Nat) (bl : Addr) (zs : List (Addr × List Int)) (bd : Nat), vs = [.ref k, .ref r, .int bd] ∧ H k = some (.ins CK dx []) ∧ RuleAt H r b bl zs ∧ GoodRule b (zs.map (·.2)) ∧ LT T0 H ∧
  ∀ (tl sa la bl2 : Addr) (zs2 : List (Addr × List Int)) (ws : List (List Int)) (L : Nat) (H' : Hp), KpAt C CK H' k tl sa la b bd bl2 zs2 ws L → zs2.map (·.2) = zs.map (·.2) → (∀ c o, c ≠ k → c ≠ T0 → H c = some o → H' c = some o) → LT T0 H' → H la = none → H sa = none → H bl2 = none → (∀ c o, H c = some o → c ≠ k → ClrK c H' k tl sa la bl2 zs2) → Q .non H'
theorem sc_Keeper___init__ : FnScope ["self", "rule", "b"] ["self", "rule", "b"] (defScope s_Keeper___init__) := ⟨rfl, rfl, rfl, by decide +kernel, rfl, by decide +kernel, by decide +kernel⟩
theorem ok_keeper {f f1 f2 f3 f4 : Addr} {fd fd1 fd2 fd3 fd4 : FuncData} (D : Mt K CK "Keeper.__init__" "__init__" s_Keeper___init__ ["self", "rule", "b"] f fd) (Dcheck_rule : Df K mg "check_rule" s_check_rule ["thing"] f1 fd1) (Gcheck_rule : FnOk P w K mg base CX0 7 f1 fd1 ["thing"] sp_check_rule) (Dcheck_number : Df K mg "check_number" s_check_number ["thing"] f2 fd2) (Gcheck_number : FnOk P w K mg base CX0 3 f2 fd2 ["thing"] sp_check_number) (Dcopy_of : Df K mg "copy_of" s_copy_of ["rule"] f3 fd3) (Gcopy_of : FnOk P w K mg base CX0 1 f3 fd3 ["rule"] sp_copy_of)
    (KTails : Mk K C f4) (BTails : Binds K fd4 ["self", "rule"] []) (GTails_init : FnOk P w K mg base CX0 7 f4 fd4 ["self", "rule"] (sp_tails T0 C)) (cTails : ClT K mg C) (cKeeper : ClK K mg CK) : FnOk P w K mg base CX0 9 f fd ["self", "rule", "b"] (sp_keeper T0 C CK) := by
  refine D.fn.ok sc_Keeper___init__ (fun vs H Q E h => ?_) (fun cdv A outer s H vs Q E hr h => ?_)
  · obtain ⟨k, dx, r, b, bl, zs, bd, rfl, _⟩ := h; rfl
  · obtain ⟨k, dx, r, b, bl, zs, bd, rfl, hk, R, g, hT, kk⟩ := h
    have h4 : zs.length ≤ 4 := by have := g.len; rwa [List.length_map] at this
    refine ⟨_, (pss_cons (ps_expr (pcall Dcheck_rule Gcheck_rule (hr.mono (by decide)) (pa_cons (pv 1) pa_nil)))
      (pss_cons (ps_expr (pcall Dcheck_number Gcheck_number (hr.mono (by decide)) (pa_cons (pv 2) pa_nil)))
      (pss_cons (ps_fld (pv 0) (pe_ix (k_ixT K) (pv 1) pe_int (fun _ _ => rfl)) rfl)
      (pss_cons (ps_fld (pv 0) (pe_ix (k_ixT K) (pcall Dcopy_of Gcopy_of (hr.mono (by decide)) (pa_cons (pv 1) pa_nil)) pe_int (fun _ _ => rfl)) rfl)
      (pss_cons (ps_fld (pv 0) (pv 2) rfl)
      (pss_one (ps_fld (pv 0) (pe_make KTails GTails_init (hr.mono (by decide)) rfl cTails.nm BTails .nil pass0 (pa_cons (pv 1) pa_nil)) rfl))))))), ?_⟩
    refine ⟨_, rfl, r, b, bl, zs, rfl, R, g, fun H1 m1 => ?_⟩
    refine ⟨_, rfl, (bd : Int), rfl, by omega, ?_⟩
    have hk1 := m1 _ _ hk
    have R1 := R.same m1
    have T1 := hT.same m1
    have rk : r ≠ k := ne_of R1.tu hk1 (fun z => nomatch z)
    have lk : ∀ {c : Addr} {xs : List V}, H1 c = some (.lst xs) → c ≠ k := fun h => ne_of h hk1 (fun z => nomatch z)
    refine ⟨_, rfl, r, _, _, V.int b, rfl, rfl, SqT.of R1.tu, rfl, _, rfl, k, CK, dx, _, rfl, hk1, cKeeper.cl, cKeeper.n_base, (by show 0 < 1000; decide), ?_⟩
    have R2 : RuleAt (upd H1 k (.ins CK dx (putF "base" (.int b) []))) r b bl zs := ⟨by rw [upd_ne rk]; exact R1.tu, by rw [upd_ne (lk R1.li)]; exact R1.li, fun z hz => by rw [upd_ne (lk (R1.st z hz))]; exact R1.st z hz⟩
    have T2 := T1.putI (o := .ins CK dx (putF "base" (.int b) [])) hk1
    have hk2 : upd H1 k (.ins CK dx (putF "base" (.int b) [])) k = some (.ins CK dx (putF "base" (.int b) [])) := upd_same
    have n2 : ∀ c o, c ≠ k → H c = some o → upd H1 k (.ins CK dx (putF "base" (.int b) [])) c = some o := fun c o hc e => by rw [upd_ne hc]; exact m1 c o e
    generalize upd H1 k (.ins CK dx (putF "base" (.int b) [])) = H2 at R2 T2 hk2 n2
    refine ⟨_, rfl, r, b, bl, zs, rfl, R2, by omega, fun r3 bl3 zs3 H3 s3 R3 e3 nb3 nr3 nz3 => ?_⟩
    have hk3 := s3 _ _ hk2
    refine ⟨r3, _, _, V.ref bl3, rfl, rfl, SqT.of R3.tu, rfl, _, rfl, k, CK, dx, _, rfl, hk3, cKeeper.cl, cKeeper.n_bad, (by show 1 < 1000; decide), ?_⟩
    refine ⟨_, rfl, _, rfl, k, CK, dx, _, rfl, upd_same, cKeeper.cl, cKeeper.n_bound, (by show 2 < 1000; decide), ?_⟩
    rw [upd_upd]
    have lk3 : ∀ {c : Addr} {xs : List V}, H3 c = some (.lst xs) → c ≠ k := fun h => ne_of h hk3 (fun z => nomatch z)
    have R2' := R2.same s3
    have R4 : RuleAt (upd H3 k (.ins CK dx (putF "bound" (.int bd) (putF "bad" (.ref bl3) (putF "base" (.int b) []))))) r b bl zs := ⟨by rw [upd_ne rk]; exact R2'.tu, by rw [upd_ne (lk3 R2'.li)]; exact R2'.li, fun z hz => by rw [upd_ne (lk3 (R2'.st z hz))]; exact R2'.st z hz⟩
    have T4 := (T2.same s3).putI (o := .ins CK dx (putF "bound" (.int bd) (putF "bad" (.ref bl3) (putF "base" (.int b) [])))) hk3
    have hk4 : upd H3 k (.ins CK dx (putF "bound" (.int bd) (putF "bad" (.ref bl3) (putF "base" (.int b) [])))) k = some (.ins CK dx (putF "bound" (.int bd) (putF "bad" (.ref bl3) (putF "base" (.int b) [])))) := upd_same
    have n4 : ∀ c o, c ≠ k → H3 c = some o → upd H3 k (.ins CK dx (putF "bound" (.int bd) (putF "bad" (.ref bl3) (putF "base" (.int b) [])))) c = some o := fun c o hc e => by rw [upd_ne hc]; exact e
    have f4 : ∀ c, upd H3 k (.ins CK dx (putF "bound" (.int bd) (putF "bad" (.ref bl3) (putF "base" (.int b) [])))) c = none → H c = none := fun c hc => by
      have hck : c ≠ k := fun z => by rw [z, upd_same] at hc; cases hc
      rw [upd_ne hck] at hc
      cases e : H c with
      | none => rfl
      | some o => rw [s3 _ _ (n2 c o hck e)] at hc; cases hc
    generalize upd H3 k (.ins CK dx (putF "bound" (.int bd) (putF "bad" (.ref bl3) (putF "base" (.int b) [])))) = H4 at R4 T4 hk4 n4 f4
    refine ⟨_, rfl, ?_⟩
    refine made_of R4 g T4 ?_
    rintro tl H5 ⟨la, ws, TA5, G, m5, T5, hla, ntl4, dt, sa, htl, hsa, nrs⟩
    have npT : k ≠ T0 := fun z => by
      rw [z] at hk4
      rcases T4 with h | ⟨c, h, _⟩
      · rw [h] at hk4; cases hk4
      · rw [h] at hk4; cases hk4
    have hk5 := m5 _ _ npT hk4
    have tlk : tl ≠ k := fun z => by
      rw [z, hk5] at htl
      injection htl with e
      injection e with _ _ e
      have := fldT_steps b ws.length sa la
      rw [← e] at this
      rw [lookup_putF, if_neg (by decide +kernel), lookup_putF, if_neg (by decide +kernel), lookup_putF, if_neg (by decide +kernel)] at this
      cases this
    refine ⟨_, rfl, k, CK, dx, _, rfl, hk5, cKeeper.cl, cKeeper.n_tails, (by show 3 < 1000; decide), ?_⟩
    have hbl4 := n4 _ _ (lk3 R3.li) R3.li
    have hbl5 := m5 _ _ (T4.lst hbl4) hbl4
    have lk5 : ∀ {c : Addr} {xs : List V}, H5 c = some (.lst xs) → c ≠ k := fun h => ne_of h hk5 (fun z => nomatch z)
    have hz5 : ∀ z ∈ zs3, H5 z.1 = some (.lst (z.2.map V.int)) := fun z hz => m5 _ _ (T4.lst (n4 _ _ (lk3 (R3.st z hz)) (R3.st z hz))) (n4 _ _ (lk3 (R3.st z hz)) (R3.st z hz))
    rw [← e3] at G TA5
    have hblH : H bl3 = none := by
      cases e : H bl3 with
      | none => rfl
      | some o =>
        rw [n2 bl3 o (lk3 R3.li) e] at nb3; cases nb3
    refine kk tl sa la bl3 zs3 ws 1 _ ⟨⟨dx, by rw [upd_same]; rfl⟩, by rw [upd_ne (lk5 hbl5)]; exact hbl5, fun z hz => by rw [upd_ne (lk5 (hz5 z hz))]; exact hz5 z hz, TA5.updI hk5 tlk, ⟨dt, by rw [upd_ne tlk]; exact htl⟩, G, ne_of_none hbl4 hla, by decide⟩ e3 (fun c o hc hcT e => ?_) (T5.putI hk5) (f4 _ hla) (f4 _ hsa) hblH (fun c o e hc => ?_)
    · rw [upd_ne hc]
      exact m5 c o hcT (n4 c o hc (s3 c o (n2 c o hc e)))
    · obtain ⟨o4, e4⟩ : ∃ o4, H4 c = some o4 := by
        cases e' : H4 c with
        | none => rw [f4 c e'] at e; cases e
        | some o4 => exact ⟨o4, rfl⟩
      have h2c := n2 c o hc e
      have lak : la ≠ k := fun z => by rw [z, hk4] at hla; cases hla
      have sak : sa ≠ k := fun z => by rw [z, hk4] at hsa; cases hsa
      obtain ⟨r1, r2⟩ := nrs c o4 e4
      exact ⟨hc, ne_of_none e4 ntl4, ne_of_none e4 hsa, ne_of_none e4 hla, ne_of_none e hblH, fun z hz => ne_of_none h2c (nz3 z hz).1, fun xs hx => r1 xs (by rwa [upd_ne lak] at hx), fun xs hx => r2 xs (by rwa [upd_ne sak] at hx)⟩
end
end Lw
set_option Elab.async false
set_option linter.all false
set_option maxRecDepth 100000
namespace Lw
open PySem L2 PyProof.Rows
section
variable {P : Program} {w : World} {K : PySem.W.Frag} {mg : Str → Option Value} {base : Heap} {T0 C CK : Addr}
theorem KpAt.ila {H : Hp} {k tl sa la : Addr} {b bd : Nat} {bl : Addr} {zs : List (Addr × List Int)} {ws : List (List Int)} {L : Nat} (A : KpAt C CK H k tl sa la b bd bl zs ws L) {c : Addr} {ns : List Int} (h : H c = some (.lst (ns.map V.int))) (hne : ns ≠ []) : c ≠ la := fun e => by
  obtain ⟨lrs, h1, _, h3⟩ := A.ta.ly
  rw [e, h1] at h
  injection h with h
  injection h with h
  cases hz2 : ns with
  | nil => exact hne hz2
  | cons x y =>
    rw [hz2] at h
    cases lrs with
    | nil => cases h
    | cons x' y' => injection h with h _; cases h
theorem Off.trans {T k la la1 : Addr} {H H1 H2 : Hp} (a : Off T k la H H1) (b : Off T k la1 H1 H2) (h : H la1 = none ∨ la1 = la) : Off T k la H H2 := fun c o h1 h2 h3 e => b c o h1 (fun z => by
  rcases h with h | h
  · rw [z, h] at e; cases e
  · exact h2 (z.trans h)) h3 (a c o h1 h2 h3 e)
theorem Off.of {T k la : Addr} {H H' : Hp} (m : Same H H') : Off T k la H H' := fun c o _ _ _ e => m c o e
theorem Off.aw {T k la : Addr} {H H' : Hp} (m : Same (aw [la] H) (aw [la] H')) : Off T k la H H' := fun c o _ h _ e => by
  have hc' : c ∉ [la] := by simpa using h
  have := m c o (by rw [aw_out hc']; exact e)
  rwa [aw_out hc'] at this
def sp_turn_to (T0 C CK : Addr) : Sp := fun vs H Q _ => ∃ (k tl sa la : Addr) (b bd : Nat) (bl : Addr) (zs : List (Addr × List Int)) (ws : List (List Int)) (L : Nat) (bl2 : Addr) (zs2 : List (Addr × List Int)), vs = [.ref k, .ref bl2] ∧ KpAt C CK H k tl sa la b bd bl zs ws L ∧ bd < 2 ^ 900 ∧ LT T0 H ∧ H bl2 = some (.lst (zs2.map fun z => V.ref z.1)) ∧ (∀ z ∈ zs2, H z.1 = some (.lst (z.2.map V.int))) ∧ GoodRule b (zs2.map (·.2)) ∧ bl2 ≠ la ∧
  ∀ (p tl2 sa2 la2 : Addr) (ws2 : List (List Int)) (L2 : Nat) (H' : Hp), H p = none → H' p = some (.tup [.int (many (gd (zs.map (·.2)) b) bd : Nat), .int (many (gd (zs2.map (·.2)) b) bd : Nat)]) → KpAt C CK H' k tl2 sa2 la2 b bd bl2 zs2 ws2 L2 → Off T0 k la H H' → LT T0 H' → H la2 = none → H sa2 = none → p ≠ la2 → (∀ c o, H c = some o → c ≠ k → c ≠ bl2 → (∀ z ∈ zs2, c ≠ z.1) → ClrK c H' k tl2 sa2 la2 bl2 zs2) → Q (.ref p) H'
theorem sc_Keeper_turn_to : FnScope ["self", "bad", "before"] ["self", "bad"] (defScope s_Keeper_turn_to) := ⟨rfl, rfl, rfl, by decide +kernel, rfl, by decide +kernel, by decide +kernel⟩
theorem ok_turn_to {f f1 f4 : Addr} {fd fd1 fd4 : FuncData} (D : Mt K CK "Keeper.turn_to" "turn_to" s_Keeper_turn_to ["self", "bad"] f fd) (MKeeper_below : Mt K CK "Keeper.below" "below" s_Keeper_below ["self", "n"] f1 fd1) (GKeeper_below : FnOk P w K mg base CX0 5 f1 fd1 ["self", "n"] (sp_below T0 C CK)) (KTails : Mk K C f4) (BTails : Binds K fd4 ["self", "rule"] []) (GTails_init : FnOk P w K mg base CX0 7 f4 fd4 ["self", "rule"] (sp_tails T0 C)) (cTails : ClT K mg C) (cKeeper : ClK K mg CK) : FnOk P w K mg base CX0 9 f fd ["self", "bad"] (sp_turn_to T0 C CK) := by
  refine D.fn.ok sc_Keeper_turn_to (fun vs H Q E h => ?_) (fun cdv A outer s H vs Q E hr h => ?_)
  · obtain ⟨k, tl, sa, la, b, bd, bl, zs, ws, L, bl2, zs2, rfl, _⟩ := h; rfl
  · obtain ⟨k, tl, sa, la, b, bd, bl, zs, ws, L, bl2, zs2, rfl, KA, hbd, hT, hb2, hz2, g2, bla, kk⟩ := h
    obtain ⟨dx, hk⟩ := KA.ob
    refine ⟨_, (pss_cons (ps_set (i := 2) sc_Keeper_turn_to.nd rfl (Or.inl rfl) (pmeth MKeeper_below cKeeper.cl GKeeper_below (hr.mono (by decide)) (pv 0) (pa_cons (k_fld K (pv 0)) pa_nil)))
      (pss_cons (ps_fld (pv 0) (pv 1) rfl)
      (pss_cons (ps_fld (pv 0) (pe_make KTails GTails_init (hr.mono (by decide)) rfl cTails.nm BTails .nil pass0 (pa_cons (pe_tup (pa_cons (k_fld K (pv 0)) (pa_cons (pv 1) pa_nil))) pa_nil)) rfl)
      (pss_one (ps_ret (pe_tup (pa_cons (pv 2) (pa_cons (pmeth MKeeper_below cKeeper.cl GKeeper_below (hr.mono (by decide)) (pv 0) (pa_cons (k_fld K (pv 0)) pa_nil)) pa_nil)))))))), ?_⟩
    refine ⟨_, rfl, k, dx, _, rfl, hk, fldK_no _ _ _ _, _, rfl, k, CK, dx, _, _, rfl, hk, cKeeper.cl, cKeeper.n_bound, fldK_bound _ _ _ _, k, tl, sa, la, b, bd, bl, zs, ws, L, bd, rfl, KA, hbd, hT, fun L1 H1 KA1 m1 T1 _ => ?_⟩
    obtain ⟨dx1, hk1⟩ := KA1.ob
    have O1 : Off T0 k la H H1 := Off.aw m1
    have go1 : ∀ c o, c ≠ la → H c = some o → H1 c = some o := fun c o hc e => by
      have hc' : c ∉ [la] := by simpa using hc
      have := m1 c o (by rw [aw_out hc']; exact e)
      rwa [aw_out hc'] at this
    have hb1 := go1 _ _ bla hb2
    have hz1 : ∀ z ∈ zs2, H1 z.1 = some (.lst (z.2.map V.int)) := fun z hz => go1 _ _ (KA.ila (hz2 z hz) (g2.st z.2 (List.mem_map.mpr ⟨z, hz, rfl⟩)).ne) (hz2 z hz)
    have f1 : ∀ c, H1 c = none → H c = none := fun c hc => by
      cases e : H c with
      | none => rfl
      | some o =>
        by_cases z : c = la
        · obtain ⟨lx, hx⟩ := KA1.ta.la
          rw [z, hx] at hc; cases hc
        · rw [go1 c o z e] at hc; cases hc
    refine ⟨_, rfl, _, rfl, k, CK, dx1, _, rfl, hk1, cKeeper.cl, cKeeper.n_bad, Nat.lt_of_le_of_lt (fldK_len _ _ _ _) (by decide), ?_⟩
    rw [fldK_putBad]
    have lk1 : ∀ {c : Addr} {xs : List V}, H1 c = some (.lst xs) → c ≠ k := fun h => ne_of h hk1 (fun z => nomatch z)
    have hk2 : upd H1 k (.ins CK dx1 (fldK b bl2 bd tl)) k = some (.ins CK dx1 (fldK b bl2 bd tl)) := upd_same
    have T2 := T1.putI (o := .ins CK dx1 (fldK b bl2 bd tl)) hk1
    have n2 : ∀ c o, c ≠ k → H1 c = some o → upd H1 k (.ins CK dx1 (fldK b bl2 bd tl)) c = some o := fun c o hc e => by rw [upd_ne hc]; exact e
    have f2 : ∀ c, upd H1 k (.ins CK dx1 (fldK b bl2 bd tl)) c = none → H c = none := fun c hc => by
      have hck : c ≠ k := fun z => by rw [z, upd_same] at hc; cases hc
      rw [upd_ne hck] at hc
      exact f1 c hc
    generalize upd H1 k (.ins CK dx1 (fldK b bl2 bd tl)) = H2 at hk2 T2 n2 f2
    refine ⟨_, rfl, k, CK, dx1, _, _, rfl, hk2, cKeeper.cl, cKeeper.n_base, fldK_base _ _ _ _, _, rfl, (by show 2 ≤ sizeLine; decide), fun t ht => ?_⟩
    have s3 := same_upd ht (o := .tup [.int b, .ref bl2])
    have hb3 := s3 _ _ (n2 _ _ (lk1 hb1) hb1)
    have hz3 : ∀ z ∈ zs2, upd H2 t (.tup [.int b, .ref bl2]) z.1 = some (.lst (z.2.map V.int)) := fun z hz => s3 _ _ (n2 _ _ (lk1 (hz1 z hz)) (hz1 z hz))
    have T3 := T2.same s3
    refine made_of ⟨upd_same, hb3, hz3⟩ g2 T3 ?_
    have hk3 := s3 _ _ hk2
    generalize upd H2 t (.tup [.int b, .ref bl2]) = H3 at s3 hb3 hz3 T3 hk3
    rintro tl2 H4 ⟨la2, ws2, TA4, G, m4, T4, hla2, ntl3, dt, sa2, htl, hsa2, nrs⟩
    have npT : k ≠ T0 := fun z => by
      rw [z] at hk3
      rcases T3 with h | ⟨c, h, _⟩
      · rw [h] at hk3; cases hk3
      · rw [h] at hk3; cases hk3
    have hk4 := m4 _ _ npT hk3
    have tlk : tl2 ≠ k := fun z => by
      rw [z, hk4] at htl
      injection htl with e
      injection e with _ _ e
      have := fldT_steps b ws2.length sa2 la2
      rw [← e, fldK_no] at this
      cases this
    have hb4 := m4 _ _ (T3.lst hb3) hb3
    have hz4 : ∀ z ∈ zs2, H4 z.1 = some (.lst (z.2.map V.int)) := fun z hz => m4 _ _ (T3.lst (hz3 z hz)) (hz3 z hz)
    have lk4 : ∀ {c : Addr} {xs : List V}, H4 c = some (.lst xs) → c ≠ k := fun h => ne_of h hk4 (fun z => nomatch z)
    refine ⟨_, rfl, k, CK, dx1, _, rfl, hk4, cKeeper.cl, cKeeper.n_tails, Nat.lt_of_le_of_lt (fldK_len _ _ _ _) (by decide), ?_⟩
    rw [fldK_putTails]
    have KA5 : KpAt C CK (upd H4 k (.ins CK dx1 (fldK b bl2 bd tl2))) k tl2 sa2 la2 b bd bl2 zs2 ws2 1 := ⟨⟨dx1, upd_same⟩, by rw [upd_ne (lk4 hb4)]; exact hb4, fun z hz => by rw [upd_ne (lk4 (hz4 z hz))]; exact hz4 z hz, TA4.updI hk4 tlk, ⟨dt, by rw [upd_ne tlk]; exact htl⟩, G, ne_of_none hb3 hla2, by decide⟩
    have T5 := T4.putI (o := .ins CK dx1 (fldK b bl2 bd tl2)) hk4
    have O5 : Off T0 k la H (upd H4 k (.ins CK dx1 (fldK b bl2 bd tl2))) := fun c o h1 h2 h3 e => by rw [upd_ne h1]; exact m4 c o h3 (s3 _ _ (n2 c o h1 (go1 c o h2 e)))
    have f5 : ∀ c, upd H4 k (.ins CK dx1 (fldK b bl2 bd tl2)) c = none → H3 c = none := fun c hc => by
      have hck : c ≠ k := fun z => by rw [z, upd_same] at hc; cases hc
      rw [upd_ne hck] at hc
      cases e : H3 c with
      | none => rfl
      | some o =>
        by_cases z : c = T0
        · rw [z] at hc
          exact absurd rfl (T4.none hc)
        · rw [m4 c o z e] at hc; cases hc
    have fr : ∀ c, H3 c = none → H c = none := fun c hc => f2 c (s3.free hc)
    have CL5 : ∀ c o, H c = some o → c ≠ k → c ≠ bl2 → (∀ z ∈ zs2, c ≠ z.1) → ClrK c (upd H4 k (.ins CK dx1 (fldK b bl2 bd tl2))) k tl2 sa2 la2 bl2 zs2 := fun c o e hc hb hz => by
      obtain ⟨o3, e3⟩ : ∃ o3, H3 c = some o3 := by
        cases e' : H3 c with
        | none => rw [fr c e'] at e; cases e
        | some o3 => exact ⟨o3, rfl⟩
      have lak : la2 ≠ k := fun z => by rw [z, hk3] at hla2; cases hla2
      have sak : sa2 ≠ k := fun z => by rw [z, hk3] at hsa2; cases hsa2
      obtain ⟨r1, r2⟩ := nrs c o3 e3
      exact ⟨hc, ne_of_none e3 ntl3, ne_of_none e3 hsa2, ne_of_none e3 hla2, hb, hz, fun xs hx => r1 xs (by rwa [upd_ne lak] at hx), fun xs hx => r2 xs (by rwa [upd_ne sak] at hx)⟩
    generalize upd H4 k (.ins CK dx1 (fldK b bl2 bd tl2)) = H5 at KA5 T5 O5 f5 CL5
    obtain ⟨dx5, hk5⟩ := KA5.ob
    refine ⟨_, rfl, _, rfl, k, dx5, _, rfl, hk5, fldK_no _ _ _ _, _, rfl, k, CK, dx5, _, _, rfl, hk5, cKeeper.cl, cKeeper.n_bound, fldK_bound _ _ _ _, k, tl2, sa2, la2, b, bd, bl2, zs2, ws2, 1, bd, rfl, KA5, hbd, T5, fun L6 H6 KA6 m6 T6 ks6 => ⟨(by show 2 ≤ sizeLine; decide), fun p hp => ?_⟩⟩
    have s7 := same_upd hp (o := .tup [.int (many (gd (zs.map (·.2)) b) bd : Nat), .int (many (gd (zs2.map (·.2)) b) bd : Nat)])
    have O6 := (O5.trans (Off.aw (T := T0) (k := k) m6) (.inl (fr _ hla2)))
    obtain ⟨lx6, hlx6⟩ := KA6.ta.la
    have pla : p ≠ la2 := fun z => by rw [z, hlx6] at hp; cases hp
    have hp5 : H5 p = none := by
      cases e : H5 p with
      | none => rfl
      | some o =>
        have := Off.aw (T := T0) (k := k) m6
        have hc' : p ∉ [la2] := by simpa using pla
        have := m6 p o (by rw [aw_out hc']; exact e)
        rw [aw_out hc', hp] at this; cases this
    exact kk p tl2 sa2 la2 ws2 L6 _ (fr _ (f5 _ hp5)) upd_same (KA6.same s7) (fun c o h1 h2 h3 e => s7 _ _ (O6 c o h1 h2 h3 e)) (T6.same s7) (fr _ hla2) (fr _ hsa2) pla fun c o e hc hb hz => by
      obtain ⟨o5, e5⟩ : ∃ o5, H5 c = some o5 := by
        cases e' : H5 c with
        | none => rw [fr c (f5 c e')] at e; cases e
        | some o5 => exact ⟨o5, rfl⟩
      have q6 := ks6 c o5 e5 (CL5 c o e hc hb hz)
      have e6 := go_la m6 q6.nla e5
      exact KA6.kps s7 c _ e6 q6
def KQ (T0 C CK : Addr) (H : Hp) (k la : Addr) (b bd : Nat) (zs : List (Addr × List Int)) (ok : List (List Int) → Prop) (Q : VK) : Prop :=
  ∀ (p tl2 sa2 la2 bl2 : Addr) (zs2 : List (Addr × List Int)) (ws2 : List (List Int)) (L2 : Nat) (H' : Hp), H p = none → H' p = some (.tup [.int (many (gd (zs.map (·.2)) b) bd : Nat), .int (many (gd (zs2.map (·.2)) b) bd : Nat)]) → KpAt C CK H' k tl2 sa2 la2 b bd bl2 zs2 ws2 L2 → ok (zs2.map (·.2)) → Off T0 k la H H' → LT T0 H' → H la2 = none → H sa2 = none → H bl2 = none → p ≠ la2 → (∀ c o, H c = some o → c ≠ k → (∀ z ∈ zs, c ≠ z.1) → ClrK c H' k tl2 sa2 la2 bl2 zs2) → Q (.ref p) H'
def sp_come (T0 C CK : Addr) : Sp := fun vs H Q _ => ∃ (k tl sa la : Addr) (b bd : Nat) (bl : Addr) (zs : List (Addr × List Int)) (ws : List (List Int)) (L : Nat) (st : Addr) (ns : List Int), vs = [.ref k, .ref st] ∧ KpAt C CK H k tl sa la b bd bl zs ws L ∧ bd < 2 ^ 900 ∧ LT T0 H ∧ H st = some (.lst (ns.map V.int)) ∧ GoodSt b ns ∧ ns ∉ zs.map (·.2) ∧ zs.length ≤ 3 ∧
  KQ T0 C CK H k la b bd zs (fun ls2 => ls2.Perm (zs.map (·.2) ++ [ns])) Q
theorem GoodRule.nodup {b : Nat} {ls : List (List Int)} (g : GoodRule b ls) : ls.Nodup := g.up.imp fun {x y} h z => by rw [z, HT.lexLt_irrefl] at h; cases h
theorem sc_Keeper_come : FnScope ["self", "stretch"] ["self", "stretch"] (defScope s_Keeper_come) := ⟨rfl, rfl, rfl, by decide +kernel, rfl, by decide +kernel, by decide +kernel⟩
theorem ok_come {f f1 f2 : Addr} {fd fd1 fd2 : FuncData} {t1 : Tok} (D : Mt K CK "Keeper.come" "come" s_Keeper_come ["self", "stretch"] f fd) (MKeeper_turn_to : Mt K CK "Keeper.turn_to" "turn_to" s_Keeper_turn_to ["self", "bad"] f1 fd1) (GKeeper_turn_to : FnOk P w K mg base CX0 9 f1 fd1 ["self", "bad"] (sp_turn_to T0 C CK)) (Dis_stretch : Df K mg "is_stretch" s_is_stretch ["base", "thing"] f2 fd2) (Gis_stretch : FnOk P w K mg base CX0 4 f2 fd2 ["base", "thing"] sp_is_stretch) (c_MOST_STRETCHES : mg "MOST_STRETCHES" = some (.int 4 t1)) (cKeeper : ClK K mg CK) (T : Blt mg) : FnOk P w K mg base CX0 10 f fd ["self", "stretch"] (sp_come T0 C CK) := by
  refine D.fn.ok sc_Keeper_come (fun vs H Q E h => ?_) (fun cdv A outer s H vs Q E hr h => ?_)
  · obtain ⟨k, tl, sa, la, b, bd, bl, zs, ws, L, st, ns, rfl, _⟩ := h; rfl
  · obtain ⟨k, tl, sa, la, b, bd, bl, zs, ws, L, st, ns, rfl, KA, hbd, hT, hst, gst, hnot, h3, kk⟩ := h
    have HU := HUof hr
    have g := KA.gt.g
    obtain ⟨dx, hk⟩ := KA.ob
    refine ⟨_, (pss_cons (ps_if (pt_cmpR op_eq (pe_callB (k_len K) (by rfl) T.n_len PySem.boot_len (pa_cons (k_fld K (pv 0)) pa_nil)) (pe_glob (v := .int 4) rfl c_MOST_STRETCHES ⟨_, rfl⟩) (nomark _))
        (pss_one ps_never)
        pss_nil)
      (pss_cons (ps_if (PW.pt (pw_or (pt_not (pt_val (pcall Dis_stretch Gis_stretch (hr.mono (by decide)) (pa_cons (k_fld K (pv 0)) (pa_cons (pv 1) pa_nil))))) (pw_or1 (pt_cmpR (k_inT K HU) (pv 1) (k_fld K (pv 0)) (by with_unfolding_all rfl)))))
        (pss_one ps_never)
        pss_nil)
      (pss_one (ps_ret (pmeth MKeeper_turn_to cKeeper.cl GKeeper_turn_to (hr.mono (by decide)) (pv 0) (pa_cons (pe_callB (k_sortL K HU) (by rfl) T.n_sorted boot_sorted (pa_cons (pe_op op_cat (k_fld K (pv 0)) (pe_lst (pa_cons (pe_callTy (k_listOf K) (by rfl) T.n_list boot_list (pa_cons (pv 1) pa_nil)) pa_nil))) pa_nil)) pa_nil)))))), ?_⟩
    refine ⟨_, rfl, k, CK, dx, _, _, rfl, hk, cKeeper.cl, cKeeper.n_bad, fldK_bad _ _ _ _, bl, _, rfl, .inl (SqL.of KA.li), rfl, _, rfl, ?_⟩
    rw [List.length_map, decide_eq_false (fun z => by injection z with z; omega)]
    refine iteF ?_
    refine ⟨_, rfl, k, CK, dx, _, _, rfl, hk, cKeeper.cl, cKeeper.n_base, fldK_base _ _ _ _, _, rfl, b, st, ns, rfl, hst, gst, fun H1 s1 => ⟨_, rfl, iteF ?_⟩⟩
    have KA1 := KA.same s1
    have hk1 := s1 _ _ hk
    refine ⟨_, rfl, _, rfl, k, CK, dx, _, _, rfl, hk1, cKeeper.cl, cKeeper.n_bad, fldK_bad _ _ _ _, bl, _, (zs.map (·.2)).map tInts, tInts ns, rfl, SqL.of KA1.li, TrsAt.lists KA1.st, TrAt.ints (a := st) (SqL.of (s1 _ _ hst)), Nat.le_trans (tdeps_tInts _) (by decide), _, rfl, ?_⟩
    rw [if_neg (by decide), notin_any, decide_eq_false hnot]
    refine iteF ?_
    refine ⟨_, rfl, k, dx, _, rfl, hk1, fldK_no _ _ _ _, ?_⟩
    refine ⟨_, rfl, k, CK, dx, _, _, rfl, hk1, cKeeper.cl, cKeeper.n_bad, fldK_bad _ _ _ _, _, rfl, st, _, rfl, .inl (SqL.of (s1 _ _ hst)), fun q hq => ⟨(by show 1 ≤ sizeLine; decide), fun l1 hl1 => ?_⟩⟩
    have s2 := s1.trans (same_upd hq (o := .lst (ns.map V.int)))
    have s3 := s2.trans (same_upd hl1 (o := .lst [.ref q]))
    have hq3 := same_upd hl1 (o := .lst [.ref q]) _ _ (upd_same (H := H1) (a := q) (o := .lst (ns.map V.int)))
    refine ⟨bl, l1, _, _, rfl, rfl, s3 _ _ KA.li, upd_same, by rw [List.length_map]; exact Nat.le_trans (show zs.length + 1 ≤ 5 by omega) (by decide), fun l2 hl2 => ?_⟩
    have s4 := s3.trans (same_upd hl2 (o := .lst (zs.map (fun z => V.ref z.1) ++ [.ref q])))
    have hq4 := same_upd hl2 (o := .lst (zs.map (fun z => V.ref z.1) ++ [.ref q])) _ _ hq3
    have nd : ((zs ++ [(q, ns)]).map (·.2)).Nodup := by
      rw [List.map_append]
      refine List.nodup_append.mpr ⟨g.nodup, by simp, fun x hx y hy => ?_⟩
      have e : y = ns := by simpa using hy
      rw [e]
      exact fun z => hnot (z ▸ hx)
    have hst4 : ∀ z ∈ zs ++ [(q, ns)], upd (upd (upd H1 q (.lst (ns.map V.int))) l1 (.lst [.ref q])) l2 (.lst (zs.map (fun z => V.ref z.1) ++ [.ref q])) z.1 = some (.lst (z.2.map V.int)) := fun z hz => by
      rcases List.mem_append.mp hz with hz | hz
      · exact s4 _ _ (KA.st z hz)
      · have e : z = (q, ns) := by simpa using hz
        subst e; exact hq4
    refine ⟨l2, zs ++ [(q, ns)], rfl, SqL.of (by rw [upd_same]; simp), by rw [List.length_append, List.length_singleton]; omega, fun z hz => SqL.of (hst4 z hz), nd, fun bq zs' hbq pm pw => ?_⟩
    have s5 := same_upd hbq (o := .lst (zs'.map fun z => V.ref z.1))
    have s15 := s4.trans s5
    have hmem : ∀ z, z ∈ zs' ↔ z ∈ zs ++ [(q, ns)] := fun z => pm.mem_iff
    have gm : GoodRule b (zs'.map (·.2)) := ⟨g.b2, g.b16, by rw [List.length_map, pm.length_eq, List.length_append, List.length_singleton]; omega, fun l hl => by
      obtain ⟨z, hz, rfl⟩ := List.mem_map.mp hl
      rcases List.mem_append.mp ((hmem z).mp hz) with hz | hz
      · exact g.st _ (List.mem_map.mpr ⟨z, hz, rfl⟩)
      · have e : z = (q, ns) := by simpa using hz
        subst e; exact gst, by rw [List.pairwise_map]; exact pw⟩
    have KA5 := KA.same s15
    obtain ⟨lx, hlx⟩ := KA.ta.la
    have bqla : bq ≠ la := fun z => by rw [z, s4 _ _ hlx] at hbq; cases hbq
    refine ⟨k, tl, sa, la, b, bd, bl, zs, ws, L, bq, zs', rfl, KA5, hbd, hT.same s15, upd_same, fun z hz => s5 _ _ (hst4 z ((hmem z).mp hz)), gm, bqla, fun p tl2 sa2 la2 ws2 L2 H' hp hv KA2 O2 T2 hla2 hsa2 pla cl2 => ?_⟩
    have hqH : H q = none := s1.free hq
    refine kk p tl2 sa2 la2 bq zs' ws2 L2 H' (s15.free hp) hv KA2 ?_ ((Off.of s15).trans O2 (.inr rfl)) T2 (s15.free hla2) (s15.free hsa2) (s4.free hbq) pla fun c o e hc hz => cl2 c o (s15 _ _ e) hc (ne_of_none e (s4.free hbq)) fun z hzm => by
      rcases List.mem_append.mp ((hmem z).mp hzm) with h | h
      · exact hz z h
      · have e' : z = (q, ns) := by simpa using h
        subst e'; exact ne_of_none e hqH
    have := pm.map (·.2)
    rwa [List.map_append] at this
def sp_go (T0 C CK : Addr) : Sp := fun vs H Q _ => ∃ (k tl sa la : Addr) (b bd : Nat) (bl : Addr) (zs : List (Addr × List Int)) (ws : List (List Int)) (L : Nat) (st : Addr) (ns : List Int), vs = [.ref k, .ref st] ∧ KpAt C CK H k tl sa la b bd bl zs ws L ∧ bd < 2 ^ 900 ∧ LT T0 H ∧ H st = some (.lst (ns.map V.int)) ∧ ns ∈ zs.map (·.2) ∧
  KQ T0 C CK H k la b bd zs (fun ls2 => ls2 = (zs.map (·.2)).filter fun l => decide (l ≠ ns)) Q
theorem sc_Keeper_go : FnScope ["self", "stretch"] ["self", "stretch"] (defScope s_Keeper_go) := ⟨rfl, rfl, rfl, by decide +kernel, rfl, by decide +kernel, by decide +kernel⟩
theorem ok_go {f f1 f2 : Addr} {fd fd1 fd2 : FuncData} (D : Mt K CK "Keeper.go" "go" s_Keeper_go ["self", "stretch"] f fd) (MKeeper_turn_to : Mt K CK "Keeper.turn_to" "turn_to" s_Keeper_turn_to ["self", "bad"] f1 fd1) (GKeeper_turn_to : FnOk P w K mg base CX0 9 f1 fd1 ["self", "bad"] (sp_turn_to T0 C CK)) (Dis_stretch : Df K mg "is_stretch" s_is_stretch ["base", "thing"] f2 fd2) (Gis_stretch : FnOk P w K mg base CX0 4 f2 fd2 ["base", "thing"] sp_is_stretch) (cKeeper : ClK K mg CK) (T : Blt mg) : FnOk P w K mg base CX0 10 f fd ["self", "stretch"] (sp_go T0 C CK) := by
  refine D.fn.ok sc_Keeper_go (fun vs H Q E h => ?_) (fun cdv A outer s H vs Q E hr h => ?_)
  · obtain ⟨k, tl, sa, la, b, bd, bl, zs, ws, L, st, ns, rfl, _⟩ := h; rfl
  · obtain ⟨k, tl, sa, la, b, bd, bl, zs, ws, L, st, ns, rfl, KA, hbd, hT, hst, hin, kk⟩ := h
    have HU := HUof hr
    have g := KA.gt.g
    have gst := g.st ns hin
    obtain ⟨dx, hk⟩ := KA.ob
    refine ⟨_, (pss_cons (ps_if (PW.pt (pw_or (pt_not (pt_val (pcall Dis_stretch Gis_stretch (hr.mono (by decide)) (pa_cons (k_fld K (pv 0)) (pa_cons (pv 1) pa_nil))))) (pw_or1 (pt_cmpR (k_notInT K HU) (pv 1) (k_fld K (pv 0)) (by with_unfolding_all rfl)))))
        (pss_one ps_never)
        pss_nil)
      (pss_one (ps_ret (pmeth MKeeper_turn_to cKeeper.cl GKeeper_turn_to (hr.mono (by decide)) (pv 0) (pa_cons (pe_comp (show CScope (defScope s_Keeper_go) _ "each" ["self", "stretch"] ["stretch"] [1] from ⟨rfl, by decide +kernel, by decide +kernel, rfl, by decide +kernel, rfl, by decide +kernel, by decide +kernel⟩) rfl (k_pi K (k_fld K (pv 0))) (fun _ _ _ _ => (pts_one (pt_cmpR (k_neT K HU) (pv 0) (pv 1) (nomark _)))) (fun _ _ _ _ => (pv 0))) pa_nil))))), ?_⟩
    refine ⟨_, rfl, k, CK, dx, _, _, rfl, hk, cKeeper.cl, cKeeper.n_base, fldK_base _ _ _ _, _, rfl, b, st, ns, rfl, hst, gst, fun H1 s1 => ⟨_, rfl, iteF ?_⟩⟩
    have KA1 := KA.same s1
    have hk1 := s1 _ _ hk
    refine ⟨_, rfl, _, rfl, k, CK, dx, _, _, rfl, hk1, cKeeper.cl, cKeeper.n_bad, fldK_bad _ _ _ _, bl, _, (zs.map (·.2)).map tInts, tInts ns, rfl, SqL.of KA1.li, TrsAt.lists KA1.st, TrAt.ints (a := st) (SqL.of (s1 _ _ hst)), Nat.le_trans (tdeps_tInts _) (by decide), _, rfl, ?_⟩
    rw [if_pos rfl, notin_any, decide_eq_true hin]
    refine iteF ?_
    refine ⟨_, rfl, k, dx, _, rfl, hk1, fldK_no _ _ _ _, ?_⟩
    refine ⟨_, rfl, k, CK, dx, _, _, rfl, hk1, cKeeper.cl, cKeeper.n_bad, fldK_bad _ _ _ _, bl, rfl, ⟨_, SqL.of KA1.li⟩, comp_list (K := K) (a := bl) (xs := zs.map fun z => V.ref z.1) (fun i ys H4 => H4 = H1 ∧ ys = ((zs.take i).filter fun z => decide (z.2 ≠ ns)).map fun z => V.ref z.1) ⟨rfl, rfl⟩ (fun i ys H4 _ ⟨e, _⟩ => by rw [e]; exact SqL.of KA1.li) ?_ ?_⟩
    · rintro j x ys H4 hx ⟨rfl, rfl⟩
      rw [List.getElem?_map] at hx
      obtain ⟨z, hzj, e⟩ := Option.map_eq_some_iff.mp hx
      subst e
      have hzm := List.mem_of_getElem? hzj
      have h4 : zs.length ≤ 4 := by have := g.len; rwa [List.length_map] at this
      refine ⟨by rw [List.length_map]; exact Nat.lt_of_le_of_lt (Nat.le_trans (List.length_filter_le _ _) (Nat.le_trans (List.length_take_le' _ _) h4)) (by decide), ?_⟩
      refine ⟨_, rfl, _, rfl, tInts z.2, tInts ns, TrAt.ints (a := z.1) (SqL.of (KA1.st z hzm)), TrAt.ints (a := st) (SqL.of (s1 _ _ hst)), (by rw [tdep_tInts]; decide), _, rfl, ?_⟩
      rw [if_pos rfl, teq_ints, List.take_succ, hzj]
      by_cases e : z.2 = ns
      · rw [decide_eq_true e]
        refine iteF ⟨rfl, ?_⟩
        simp [List.filter_append, e]
      · rw [decide_eq_false e]
        refine iteT ⟨_, rfl, rfl, ?_⟩
        simp [List.filter_append, e]
    rintro ys H4 ⟨rfl, rfl⟩ bq hbq
    rw [List.length_map, List.take_length]
    have s5 := same_upd hbq (o := .lst ((zs.filter fun z => decide (z.2 ≠ ns)).map fun z => V.ref z.1))
    have s15 := s1.trans s5
    have ef : (zs.filter fun z => decide (z.2 ≠ ns)).map (·.2) = (zs.map (·.2)).filter fun l => decide (l ≠ ns) := by
      rw [List.filter_map]; rfl
    have gm : GoodRule b ((zs.filter fun z => decide (z.2 ≠ ns)).map (·.2)) := by
      rw [ef]
      exact ⟨g.b2, g.b16, Nat.le_trans (List.length_filter_le _ _) g.len, fun l hl => g.st l (List.mem_filter.mp hl).1, g.up.sublist List.filter_sublist⟩
    obtain ⟨lx, hlx⟩ := KA.ta.la
    have bqla : bq ≠ la := fun z => by rw [z, s1 _ _ hlx] at hbq; cases hbq
    refine ⟨k, tl, sa, la, b, bd, bl, zs, ws, L, bq, zs.filter fun z => decide (z.2 ≠ ns), rfl, KA.same s15, hbd, hT.same s15, upd_same, fun z hz => s15 _ _ (KA.st z (List.mem_filter.mp hz).1), gm, bqla, fun p tl2 sa2 la2 ws2 L2 H' hp hv KA2 O2 T2 hla2 hsa2 pla cl2 => ?_⟩
    exact kk p tl2 sa2 la2 bq _ ws2 L2 H' (s15.free hp) hv KA2 ef ((Off.of s15).trans O2 (.inr rfl)) T2 (s15.free hla2) (s15.free hsa2) (s1.free hbq) pla fun c o e hc hz => cl2 c o (s15 _ _ e) hc (ne_of_none e (s1.free hbq)) fun z hzm => hz z (List.mem_filter.mp hzm).1
end
end Lw
set_option Elab.async false
set_option linter.all false
set_option maxRecDepth 100000
namespace HT
open PySem PySem.Spec PyProof.Rows
section
variable {prog : Program} {w : World} {A : Around} {E : Value → Shared → Prop} {s : Shared}
theorem sliceApplied_rev2 {sl : Addr} {tk : Tok} {Q : Int × Int × Nat → Shared → Prop} (hs : s.heap.IsSliceOf sl .none .none (.int (-1) tk)) (h : Q (1, -1, 2) s) : wpAny (model prog w) A (Builtin.Slice.sliceApplied (.ref sl) (pure ((2 : Nat) : Int))) Q E s := by
  obtain ⟨os, hos, hcs, hds⟩ := id hs
  unfold Builtin.Slice.sliceApplied Builtin.Slice.sliceFields
  refine wpAny_bind (wpAny_bind (wpAny_field hos hds (x := .none) rfl (wpAny_bind (wpAny_field hos hds (x := .none) rfl (wpAny_bind (wpAny_field hos hds (x := .int (-1) tk) rfl (wpAny_pure ?_)))))))
  refine wpAny_bind (slicePart_int ?_)
  show wpAny _ _ (if ((-1 : Int) == 0) = true then _ else _) _ _ s
  rw [if_neg (by decide)]
  refine wpAny_bind (slicePart_none (wpAny_bind (slicePart_none (wpAny_bind (wpAny_pure ?_)))))
  show wpAny _ _ (match Builtin.Slice.sliceAdjust none none (-1) ((2 : Nat) : Int) with | (lo, hi) => pure (lo, (-1 : Int), Builtin.Slice.slicePlaces lo hi (-1))) _ _ s
  rw [show Builtin.Slice.sliceAdjust none none (-1) ((2 : Nat) : Int) = (1, -1) by decide]
  show wpAny _ _ (pure ((1 : Int), (-1 : Int), Builtin.Slice.slicePlaces 1 (-1) (-1))) _ _ s
  rw [show Builtin.Slice.slicePlaces 1 (-1) (-1) = 2 by decide]
  exact wpAny_pure h
theorem getItem_tuple_rev2 {t sl : Addr} {a b : Value} {tk : Tok} {Q : Value → Shared → Prop} (ht : IsTup s.heap t #[a, b]) (hs : s.heap.IsSliceOf sl .none .none (.int (-1) tk))
    (h : Q (.ref s.heap.objs.size) { s with heap := s.heap.push { cls := .type "tuple", data := .seq #[b, a] } }) : wpAny (model prog w) A (getItem (.ref t) (.ref sl)) Q E s := by
  have htake : sizeOk (.seq #[b, a]) := by show 2 ≤ sizeLine; decide
  obtain ⟨os, hos, hcs, hds⟩ := id hs
  have hTs : s.TypeIs (.ref sl) "slice" := ⟨os, hos, hcs⟩
  unfold getItem
  try with_reducible refine wpAny_holding ?_
  first | refine wpAny_bind (wpAny_pure ?_) | skip
  refine wpAny_bind (wpAny_sequenceKey ht.typeIs (by decide) ?_)
  refine wpAny_bind (wpAny_callSpecial?_slot (name := Str.ofString "__getitem__") ht.typeIs PyProof.Rows.slot_tuple_getitem
    (wpAny_call_entry PyProof.Rows.slot_tuple_getitem ht.typeIs entry_tuple_getitem ?_ (args_tuple_getitem _ _)))
  show wpAny _ _ (Builtin.Tuple.tupleItemsOf (.ref t) >>= _) _ _ s
  refine wpAny_bind (tupleItemsOf_ ht ?_)
  refine wpAny_bind (wpAny_typeOf hTs ?_)
  rw [if_pos (by decide)]
  refine wpAny_bind (sliceApplied_rev2 hs ?_)
  show wpAny _ _ (if (((1 : Int) == 0 && (-1 : Int) == 1 && 2 == (#[a, b] : Array Value).size) = true) then _ else _) _ _ s
  rw [if_neg (show ¬ (((1 : Int) == 0 && (-1 : Int) == 1 && 2 == (#[a, b] : Array Value).size) = true) from (fun z => by rw [show ((1 : Int) == 0) = false from rfl] at z; cases z))]
  have ep : ((List.range 2).filterMap fun (m : Nat) => (#[a, b] : Array Value)[((1 : Int) + (m : Int) * (-1)).toNat]?).toArray = #[b, a] := by rfl
  rw [ep]
  first
    | exact wpAny_bind (m := Builtin.Tuple.tupleExact _) (wpAny_newObj_type (wpAny_pure ⟨_, rfl, wpAny_pure h⟩) htake)
    | exact wpAny_bind (m := Builtin.Tuple.tupleExact _) (wpAny_newObj_type (wpAny_bind (wpAny_pure (wpAny_pure ⟨_, rfl, wpAny_pure h⟩))) htake)
    | exact wpAny_bind (wpAny_bind (m := Builtin.Tuple.tupleExact _) (wpAny_newObj_type (wpAny_pure (wpAny_pure ⟨_, rfl, wpAny_pure h⟩)) htake))
    | exact wpAny_bind (wpAny_bind (m := Builtin.Tuple.tupleExact _) (wpAny_newObj_type (wpAny_pure ⟨_, rfl, wpAny_pure h⟩) htake))
end
end HT
namespace L2
open PySem PySem.Spec PyProof.Rows
section
variable {X : Cx}
def rRevP (K : PySem.W.Frag) (te : TE) : TE := fun σ H Q => te σ H fun x H1 => ∃ a u v, x = .ref a ∧ SqT K H1 a [u, v] ∧ ∀ p, H1 p = none → Q (.ref p) (upd H1 p (.tup [v, u]))
theorem pe_revPair {e : Expr} {te : TE} {j : Nat} {p1 p2 p3 pos : Pos} (he : PE X e te) : PE X (.Subscript e (.Slice none none (some (.UnaryOp .USub (.Constant (.int 1) j p1) p2)) p3) pos) (rRevP X.K te) := by
  intro pins s σ H Q I h
  refine Subscript_ (thn (he pins s σ H _ I h) fun v s1 ⟨x, H1, I1, r1, q1⟩ => ?_)
  obtain ⟨a, u, v, rfl, hx, q⟩ := q1
  cases r1
  refine wpAny_Slice ?_
  rw [evalPart_none]
  refine wpAny_pure (wpAny_pure ?_)
  rw [evalPart_some]
  refine thn (pe_un un_neg (pe_int (X := X)) pins s1 σ H1 (fun v H2 => v = .int (-1) ∧ H2 = H1) I1 ⟨1, rfl, rfl, rfl⟩) fun u s2 ⟨y, H2, I2, r2, e1, e2⟩ => ?_
  subst e1 e2
  obtain ⟨t, rfl⟩ := r2
  have I3 : Inv X pins σ H2 { s2 with heap := s2.heap.push { cls := .type "slice", data := .fields #[.none, .none, .int (-1) t] } } := I2.kept (t' := s2.toks) fun b ob q => Heap.get?_push_of_some _ q
  obtain ⟨its', r', ht', hz'⟩ := I3.tuple hx
  cases r' with
  | cons ra rr =>
    rename_i ia _
    cases rr with
    | cons rb rz =>
      rename_i ib _
      cases rz
      show wpAny (model X.prog X.w) X.A (subscriptTail e (.Slice none none (some _) p3) (.ref a) (.ref s2.heap.objs.size)) (EP X pins σ Q) X.xe { s2 with heap := s2.heap.push { cls := .type "slice", data := .fields #[.none, .none, .int (-1) t] } }
      refine tail_any (ops := [.ref a, .ref s2.heap.objs.size]) ht'.typeIs PyProof.Rows.slot_tuple_getitem.lookup ?_ (by with_unfolding_all rfl)
      refine HT.getItem_tuple_rev2 ht' (Heap.IsSliceOf.new ..) ?_
      refine ⟨.ref _, _, I3.laid (t' := s2.toks) (o := .tup [v, _]) (fun b ob q => Heap.get?_push_of_some _ q) (Nat.le_refl _) ?_, rfl, q _ (I3.hok.fresh (Nat.le_refl _))⟩
      exact ⟨by show 2 ≤ sizeLine; decide, _, .cons rb (.cons ra .nil), IsTup.new _ _⟩
theorem k_revPair {e : Expr} {te : TE} {j : Nat} {p1 p2 p3 pos : Pos} (K : PySem.W.Frag) (he : PE X e te) (hk : X.K = K := by rfl) : PE X (.Subscript e (.Slice none none (some (.UnaryOp .USub (.Constant (.int 1) j p1) p2)) p3) pos) (rRevP K te) := by subst hk; exact pe_revPair he
end
end L2
set_option Elab.async false
set_option linter.all false
set_option maxRecDepth 100000
namespace Lw
open PySem L2 PyProof.Rows
section
variable {P : Program} {w : World} {K : PySem.W.Frag} {mg : Str → Option Value} {base : Heap}
def sp__law_number : Sp := fun vs H Q _ => ∃ s : Addr, vs = [.ref s] ∧ Sto H s ∧ ∀ (n : Nat) (H' : Hp), n < 2 ^ 100 → Stq s H H' → Q (.int n) H'
theorem sc__law_number : FnScope ["store", "found", "k"] ["store"] (defScope s__law_number) := ⟨rfl, rfl, rfl, by decide +kernel, rfl, by decide +kernel, by decide +kernel⟩
theorem ok__law_number {f f1 : Addr} {fd fd1 : FuncData} (D : Df K mg "_law_number" s__law_number ["store"] f fd) (D_law_take : Df K mg "_law_take" s__law_take ["store", "many"] f1 fd1) (T : Blt mg) : FnOk P w K mg base CX0 2 f fd ["store"] sp__law_number := by
  have G_law_take : FnOk P w K mg base CX0 1 f1 fd1 ["store", "many"] sp__law_take := ok__law_take D_law_take T
  refine D.fn.ok sc__law_number (fun vs H Q E h => ?_) (fun cdv A outer s H vs Q E hr h => ?_)
  · obtain ⟨s, rfl, _⟩ := h; rfl
  · obtain ⟨sa, rfl, S, kk⟩ := h
    refine ⟨_, (pss_cons (ps_set (i := 1) sc__law_number.nd rfl (Or.inl rfl) pe_int)
      (pss_cons (ps_for PassesOwn.never rfl (pi_range1 rfl T.n_range (pa_cons (pe_op op_add pe_int (pcall D_law_take G_law_take (hr.mono (by decide)) (pa_cons (pv 0) (pa_cons (pe_ix (k_ixL K) (pe_lst (pa_cons pe_int (pa_cons pe_int (pa_cons pe_int (pa_cons pe_int pa_nil))))) (pcall D_law_take G_law_take (hr.mono (by decide)) (pa_cons (pv 0) (pa_cons pe_int pa_nil))) (fun _ _ => rfl)) pa_nil)))) pa_nil)) (pg_name (i := 2) sc__law_number.nd rfl (Or.inl rfl))
        (pss_one (ps_set (i := 1) sc__law_number.nd rfl (Or.inl rfl) (pe_op op_add (pe_op op_mul (pv 1) pe_int) (pcall D_law_take G_law_take (hr.mono (by decide)) (pa_cons (pv 0) (pa_cons pe_int pa_nil)))))))
      (pss_one (ps_ret (pv 1))))), ?_⟩
    refine ⟨_, rfl, ?_⟩
    refine ⟨(by show 4 ≤ sizeLine; decide), fun l1 hl1 => ?_⟩
    have n1 := S.ne hl1
    have S1 := (Stq.refl S).new hl1 (o := .lst [.int 2, .int 4, .int 9, .int 26])
    refine ⟨_, rfl, sa, _, rfl, S1.st, (by decide), (by decide), fun x1 H2 hx1 S2 => ?_⟩
    obtain ⟨m, hm, hm1, hm2⟩ : ∃ m : Nat, atI [V.int 2, V.int 4, V.int 9, V.int 26] (x1 : Int) = some (.int m) ∧ 2 ≤ m ∧ m ≤ 26 := by
      have h4 : x1 < 4 := by omega
      match x1, h4 with
      | 0, _ => exact ⟨2, rfl, by omega, by omega⟩
      | 1, _ => exact ⟨4, rfl, by omega, by omega⟩
      | 2, _ => exact ⟨9, rfl, by omega, by omega⟩
      | 3, _ => exact ⟨26, rfl, by omega, by omega⟩
    refine ⟨l1, _, _, _, rfl, rfl, SqL.of (S2.sm _ _ n1 upd_same), hm, ?_⟩
    refine ⟨sa, _, rfl, S2.st, by omega, by omega, fun x2 H3 hx2 S3 => ?_⟩
    refine ⟨1, x2, rfl, rfl, ?_⟩
    refine ⟨(1 + (x2 : Int)), rfl, by omega, by omega, for_range (lo := 0) (n := (1 + (x2 : Int)).toNat) (fun i σ H4 => ∃ (v1 : Option V) (n : Nat), σ = [some (.ref sa), some (.int n), v1] ∧ n < 10 ^ i ∧ Stq sa H H4) ⟨none, 0, rfl, by decide, (S1.trans S2).trans S3⟩ ?_ ?_⟩
    · rintro i σ H4 hi ⟨v1, n, rfl, hn, S4⟩
      refine ⟨_, rfl, _, _, rfl, rfl, .inr ⟨by decide, by decide⟩, _, rfl, sa, _, rfl, S4.st, (by decide), (by decide), fun x3 H5 hx3 S5 => ⟨_, _, rfl, rfl, some (.int (0 + (i : Int))), n * 10 + x3, ?_, ?_, S4.trans S5⟩⟩
      · show [some (V.ref sa), some (V.int ((n : Int) * 10 + x3)), some (V.int (0 + (i : Int)))] = _
        rw [show ((n : Int) * 10 + x3) = ((n * 10 + x3 : Nat) : Int) by omega]
      · rw [Nat.pow_succ]; omega
    · rintro σ H4 ⟨v1, n, rfl, hn, S4⟩
      refine ⟨_, rfl, kk n H4 ?_ S4⟩
      have h1 : (10 : Nat) ^ (1 + (x2 : Int)).toNat ≤ 10 ^ 26 := Nat.pow_le_pow_right (by decide) (by omega)
      have h2 : (10 : Nat) ^ 26 < 2 ^ 100 := by decide
      omega
end
section
variable {P : Program} {w : World} {K : PySem.W.Frag} {mg : Str → Option Value} {base : Heap}
def tRule (b : Nat) (ls : List (List Int)) : Tr := .tup [.int b, .lst (ls.map tInts)]
theorem tRule_dep (b : Nat) (ls : List (List Int)) : tdep (tRule b ls) ≤ 8 := by
  unfold tRule
  rw [tdep, tdeps, tdeps, tdeps, tdep, tdep]
  · have := tdeps_tInts ls; omega
  all_goals (intros; rename_i z; cases z)
theorem TrAt.rule {H : Hp} {r bl : Addr} {b : Nat} {zs : List (Addr × List Int)} (R : RuleAt H r b bl zs) : TrAt K H (tRule b (zs.map (·.2))) (.ref r) := by
  unfold tRule
  rw [TrAt]
  refine ⟨r, _, rfl, SqT.of R.tu, ?_⟩
  rw [TrsAt]
  refine ⟨_, _, rfl, by rw [TrAt], ?_⟩
  rw [TrsAt]
  refine ⟨_, _, rfl, ?_, by rw [TrsAt]⟩
  rw [TrAt]
  exact ⟨bl, _, rfl, SqL.of R.li, TrsAt.lists R.st⟩
end
theorem aw_get {s c : Addr} {H : Hp} {o : HO} (h : aw [s] H c = some o) : c ≠ s ∧ H c = some o := by
  have hc : c ∉ [s] := fun z => by rw [aw_in z] at h; cases h
  rw [aw_out hc] at h
  exact ⟨by simpa using hc, h⟩
structure StAt (H : Hp) (p r bl : Addr) (zs : List (Addr × List Int)) (b : Nat) (ls : List (List Int)) : Prop where
  li : H p = some (.lst [.ref r, .int (many (gd ls b) 2000 : Nat), .int (many (gd ls b) (10 ^ 25) : Nat)])
  ru : RuleAt H r b bl zs
  e : zs.map (·.2) = ls
theorem StAt.same {H H' : Hp} {p r bl : Addr} {zs : List (Addr × List Int)} {b : Nat} {ls : List (List Int)} (A : StAt H p r bl zs b ls) (m : Same H H') : StAt H' p r bl zs b ls := ⟨m _ _ A.li, A.ru.same m, A.e⟩
structure FrS (H : Hp) (p r bl : Addr) (zs : List (Addr × List Int)) : Prop where
  p : H p = none
  r : H r = none
  bl : H bl = none
  z : ∀ z ∈ zs, H z.1 = none
def tSt (b : Nat) (ls : List (List Int)) : Tr := .lst [tRule b ls, .int (many (gd ls b) 2000 : Nat), .int (many (gd ls b) (10 ^ 25) : Nat)]
theorem tSt_dep (b : Nat) (ls : List (List Int)) : tdep (tSt b ls) ≤ 8 := by
  unfold tSt tRule
  rw [tdep, tdeps, tdeps, tdeps, tdeps, tdep, tdeps, tdeps, tdeps, tdep, tdep, tdep, tdep]
  · have := tdeps_tInts ls; omega
  all_goals (intros; rename_i z; cases z)
theorem TrAt.stand {K : PySem.W.Frag} {H : Hp} {p r bl : Addr} {zs : List (Addr × List Int)} {b : Nat} {ls : List (List Int)} (A : StAt H p r bl zs b ls) : TrAt K H (tSt b ls) (.ref p) := by
  unfold tSt
  rw [TrAt]
  refine ⟨p, _, rfl, SqL.of A.li, ?_⟩
  rw [TrsAt]
  refine ⟨_, _, rfl, by rw [← A.e]; exact TrAt.rule A.ru, ?_⟩
  rw [TrsAt]
  refine ⟨_, _, rfl, by rw [TrAt], ?_⟩
  rw [TrsAt]
  exact ⟨_, _, rfl, by rw [TrAt], by rw [TrsAt]⟩
section
variable {P : Program} {w : World} {K : PySem.W.Frag} {mg : Str → Option Value} {base : Heap} {T0 C CK : Addr}
theorem KpS.aw {H H1 H2 : Hp} {k tl sa la bl : Addr} {zs : List (Addr × List Int)} (a : KpS H H1 k tl sa la bl zs) (m : Same (L2.aw [la] H) (L2.aw [la] H1)) (b : KpS H1 H2 k tl sa la bl zs) : KpS H H2 k tl sa la bl zs := fun c o e q => b c o (go_la m q.nla e) (a c o e q)
theorem ClrK.put {c t : Addr} {H : Hp} {k tl sa la bl : Addr} {zs : List (Addr × List Int)} {o : HO} (q : ClrK c H k tl sa la bl zs) (h1 : la ≠ t) (h2 : sa ≠ t) : ClrK c (upd H t o) k tl sa la bl zs := ⟨q.nk, q.ntl, q.nsa, q.nla, q.nbl, q.nz, fun xs hx => q.rla xs (by rwa [upd_ne h1] at hx), fun xs hx => q.rsa xs (by rwa [upd_ne h2] at hx)⟩
def KpT (T0 : Addr) (H H' : Hp) (k tl sa la bl : Addr) (zs : List (Addr × List Int)) (tl2 sa2 la2 bl2 : Addr) (zs2 : List (Addr × List Int)) : Prop := ∀ c o, c ≠ T0 → H c = some o → ClrK c H k tl sa la bl zs → ClrK c H' k tl2 sa2 la2 bl2 zs2
def sp__law_stand (T0 C CK : Addr) : Sp := fun vs H Q _ => ∃ (k tl sa la : Addr) (b bd : Nat) (bl : Addr) (zs : List (Addr × List Int)) (ws : List (List Int)) (L : Nat), vs = [.ref k] ∧ KpAt C CK H k tl sa la b bd bl zs ws L ∧ LT T0 H ∧
  ∀ (p r bl' : Addr) (zs' : List (Addr × List Int)) (L' : Nat) (H' : Hp), StAt H' p r bl' zs' b (zs.map (·.2)) → KpAt C CK H' k tl sa la b bd bl zs ws L' → Same (aw [la] H) (aw [la] H') → LT T0 H' → FrS H p r bl' zs' → KpS H H' k tl sa la bl zs → Q (.ref p) H'
theorem sc__law_stand : FnScope ["keeper"] ["keeper"] (defScope s__law_stand) := ⟨rfl, rfl, rfl, by decide +kernel, rfl, by decide +kernel, by decide +kernel⟩
theorem ok__law_stand {f f1 f2 : Addr} {fd fd1 fd2 : FuncData} (D : Df K mg "_law_stand" s__law_stand ["keeper"] f fd) (MKeeper_rule : Mt K CK "Keeper.rule" "rule" s_Keeper_rule ["self"] f1 fd1) (GKeeper_rule : FnOk P w K mg base CX0 2 f1 fd1 ["self"] (sp_rule C CK)) (MKeeper_below : Mt K CK "Keeper.below" "below" s_Keeper_below ["self", "n"] f2 fd2) (GKeeper_below : FnOk P w K mg base CX0 5 f2 fd2 ["self", "n"] (sp_below T0 C CK)) (cKeeper : ClK K mg CK) : FnOk P w K mg base CX0 6 f fd ["keeper"] (sp__law_stand T0 C CK) := by
  refine D.fn.ok sc__law_stand (fun vs H Q E h => ?_) (fun cdv A outer s H vs Q E hr h => ?_)
  · obtain ⟨k, tl, sa, la, b, bd, bl, zs, ws, L, rfl, _⟩ := h; rfl
  · obtain ⟨k, tl, sa, la, b, bd, bl, zs, ws, L, rfl, KA, hT, kk⟩ := h
    obtain ⟨dx, hk⟩ := KA.ob
    obtain ⟨lx, hlx⟩ := KA.ta.la
    refine ⟨_, (pss_one (ps_ret (pe_lst (pa_cons (pmeth0 MKeeper_rule cKeeper.cl GKeeper_rule (hr.mono (by decide)) (pv 0)) (pa_cons (pmeth MKeeper_below cKeeper.cl GKeeper_below (hr.mono (by decide)) (pv 0) (pa_cons pe_int pa_nil)) (pa_cons (pmeth MKeeper_below cKeeper.cl GKeeper_below (hr.mono (by decide)) (pv 0) (pa_cons (pe_op op_pow pe_int pe_int) pa_nil)) pa_nil)))))), ?_⟩
    refine ⟨_, rfl, k, dx, _, rfl, hk, fldK_no _ _ _ _, k, tl, sa, la, b, bd, bl, zs, ws, L, rfl, KA, fun r bl' zs' H1 s1 R1 e1 n1 n2 n3 => ?_⟩
    have KA1 := KA.same s1
    have T1 := hT.same s1
    obtain ⟨dx1, hk1⟩ := KA1.ob
    refine ⟨_, rfl, k, dx1, _, rfl, hk1, fldK_no _ _ _ _, k, tl, sa, la, b, bd, bl, zs, ws, L, 2000, rfl, KA1, by decide, T1, fun L2 H2 KA2 m2 T2 ks2 => ?_⟩
    obtain ⟨dx2, hk2⟩ := KA2.ob
    refine ⟨_, rfl, k, dx2, _, rfl, hk2, fldK_no _ _ _ _, _, _, rfl, rfl, ⟨by decide, by decide, by decide⟩, k, tl, sa, la, b, bd, bl, zs, ws, L2, 10 ^ 25, congrArg (fun z => [V.ref k, V.int z]) (by decide : (10 : Int) ^ (25 : Int).toNat = ((10 ^ 25 : Nat) : Int)), KA2, by decide, T2, fun L3 H3 KA3 m3 T3 ks3 => ⟨(by show 3 ≤ sizeLine; decide), fun p hp => ?_⟩⟩
    have m23 := m2.trans m3
    have go : ∀ c o, c ≠ la → H1 c = some o → H3 c = some o := fun c o hc e => by
      have hc' : c ∉ [la] := by simpa using hc
      have := m23 c o (by rw [aw_out hc']; exact e)
      rwa [aw_out hc'] at this
    have bla : bl' ≠ la := fun z => by rw [z, hlx] at n1; cases n1
    have hlx1 := s1 _ _ hlx
    obtain ⟨lx3, hlx3⟩ := KA3.ta.la
    have R3 : RuleAt H3 r b bl' zs' := ⟨go _ _ (ne_of R1.tu hlx1 (fun z => nomatch z)) R1.tu, go _ _ bla R1.li, fun z hz => go _ _ (fun z' => by have := (n3 z hz).1; rw [z', hlx] at this; cases this) (R1.st z hz)⟩
    have s4 := same_upd hp (o := .lst [.ref r, .int (many (gd (zs.map (·.2)) b) 2000 : Nat), .int (many (gd (zs.map (·.2)) b) (10 ^ 25) : Nat)])
    have pla : p ≠ la := fun z => by rw [z, hlx3] at hp; cases hp
    have hpH : H p = none := by
      cases e : H p with
      | none => rfl
      | some o => rw [go p o pla (s1 _ _ e)] at hp; cases hp
    exact kk p r bl' zs' L3 _ ⟨upd_same, R3.same s4, e1⟩ (KA3.same s4) ((s1.aw [la]).trans (m23.trans (s4.aw [la]))) (T3.same s4) ⟨hpH, n2, n1, fun z hz => (n3 z hz).1⟩ ((((KA.kps s1).aw (s1.aw [la]) ks2).aw ((s1.aw [la]).trans m2) ks3).aw ((s1.aw [la]).trans m23) (KA3.kps s4))
def Lt (t : Nat) : List Int := [((t / 2 % 2 : Nat) : Int), ((t % 2 : Nat) : Int), ((t / 4 % 2 : Nat) : Int), ((t / 8 % 2 : Nat) : Int)]
theorem Lt_many {ls : List (List Int)} (hl : ls.length ≤ 4) (h : ∀ j, j < 5 → Lt j ∈ ls) : False := by
  obtain ⟨i, j, x, hij, hi, hj⟩ := pigeon [Lt 0, Lt 1, Lt 2, Lt 3, Lt 4] ls (fun x hx => by
    have e : x = Lt 0 ∨ x = Lt 1 ∨ x = Lt 2 ∨ x = Lt 3 ∨ x = Lt 4 := by simpa using hx
    rcases e with rfl | rfl | rfl | rfl | rfl
    · exact h 0 (by decide)
    · exact h 1 (by decide)
    · exact h 2 (by decide)
    · exact h 3 (by decide)
    · exact h 4 (by decide)) (by show ls.length < 5; omega)
  have nd : [Lt 0, Lt 1, Lt 2, Lt 3, Lt 4].Nodup := by decide
  obtain ⟨hi1, hi2⟩ := List.getElem?_eq_some_iff.mp hi
  obtain ⟨hj1, hj2⟩ := List.getElem?_eq_some_iff.mp hj
  exact List.pairwise_iff_getElem.mp nd i j hi1 hj1 hij (hi2.trans hj2.symm)
theorem Lt_good {b : Nat} (b2 : 2 ≤ b) (t : Nat) : GoodSt b (Lt t) := ⟨by simp [Lt], (by show 4 ≤ 4; decide), fun f hf => by
  have e : f = ((t / 2 % 2 : Nat) : Int) ∨ f = ((t % 2 : Nat) : Int) ∨ f = ((t / 4 % 2 : Nat) : Int) ∨ f = ((t / 8 % 2 : Nat) : Int) := by simpa [Lt] using hf
  rcases e with rfl | rfl | rfl | rfl <;> omega⟩
def sp__law_fresh : Sp := fun vs H Q _ => ∃ (s : Addr) (b : Nat) (bl : Addr) (zs : List (Addr × List Int)), vs = [.ref s, .int b, .ref bl] ∧ Sto H s ∧ 2 ≤ b ∧ b ≤ 16 ∧ aw [s] H bl = some (.lst (zs.map fun z => V.ref z.1)) ∧ (∀ z ∈ zs, aw [s] H z.1 = some (.lst (z.2.map V.int))) ∧ zs.length ≤ 4 ∧
  ∀ (l : Addr) (ns : List Int) (H' : Hp), Stq s H H' → H l = none → H' l = some (.lst (ns.map V.int)) → GoodSt b ns → ns ∉ zs.map (·.2) → Q (.ref l) H'
theorem sc__law_fresh : FnScope ["store", "base", "bad", "found", "turn"] ["store", "base", "bad"] (defScope s__law_fresh) := ⟨rfl, rfl, rfl, by decide +kernel, rfl, by decide +kernel, by decide +kernel⟩
set_option maxHeartbeats 1000000 in
theorem ok__law_fresh {f f1 f2 : Addr} {fd fd1 fd2 : FuncData} (D : Df K mg "_law_fresh" s__law_fresh ["store", "base", "bad"] f fd) (D_law_stretch : Df K mg "_law_stretch" s__law_stretch ["store", "base", "few"] f1 fd1) (D_law_take : Df K mg "_law_take" s__law_take ["store", "many"] f2 fd2) (T : Blt mg) : FnOk P w K mg base CX0 3 f fd ["store", "base", "bad"] sp__law_fresh := by
  have G_law_stretch : FnOk P w K mg base CX0 2 f1 fd1 ["store", "base", "few"] sp__law_stretch := ok__law_stretch D_law_stretch D_law_take T
  refine D.fn.ok sc__law_fresh (fun vs H Q E h => ?_) (fun cdv A outer s H vs Q E hr h => ?_)
  · obtain ⟨s, b, bl, zs, rfl, _⟩ := h; rfl
  · obtain ⟨sa, b, bl, zs, rfl, S, b2, b16, hb, hz, h4, kk⟩ := h
    have HU := HUof hr
    refine ⟨_, (pss_cons (ps_set (i := 3) sc__law_fresh.nd rfl (Or.inl rfl) (pcall D_law_stretch G_law_stretch (hr.mono (by decide)) (pa_cons (pv 0) (pa_cons (pv 1) (pa_cons (pv 1) pa_nil)))))
      (pss_cons (ps_set (i := 4) sc__law_fresh.nd rfl (Or.inl rfl) pe_int)
      (pss_cons (ps_while PassesOwn.never (pt_cmpR (k_inT K HU) (pv 3) (pv 2) (by with_unfolding_all rfl))
        (pss_cons (ps_set (i := 3) sc__law_fresh.nd rfl (Or.inl rfl) (pe_lst (pa_cons (pe_op op_mod (pe_op op_fdivB (pv 4) pe_int) pe_int) (pa_cons (pe_op op_mod (pv 4) pe_int) (pa_cons (pe_op op_mod (pe_op op_fdivB (pv 4) pe_int) pe_int) (pa_cons (pe_op op_mod (pe_op op_fdivB (pv 4) pe_int) pe_int) pa_nil))))))
        (pss_one (ps_set (i := 4) sc__law_fresh.nd rfl (Or.inl rfl) (pe_op op_add (pv 4) pe_int)))))
      (pss_one (ps_ret (pv 3)))))), ?_⟩
    refine ⟨_, rfl, _, rfl, _, rfl, sa, b, b, rfl, S, b2, Nat.le_refl _, b16, fun l0 ms0 H1 S1 nl0 hl0 g0 => ?_⟩
    refine while_by (fun σ H2 => ∃ (fo : Addr) (ms : List Int) (t : Nat), σ = [some (.ref sa), some (.int b), some (.ref bl), some (.ref fo), some (.int t)] ∧ t ≤ 5 ∧ (∀ j, j + 1 < t → Lt j ∈ zs.map (·.2)) ∧ (t = 0 ∨ ms = Lt (t - 1)) ∧ Stq sa H H2 ∧ H fo = none ∧ H2 fo = some (.lst (ms.map V.int)) ∧ GoodSt b ms)
      (fun σ _ => match σ with | [_, _, _, _, some (.int t)] => 6 - t.toNat | _ => 0) ⟨l0, ms0, 0, rfl, by decide, fun j hj => by omega, .inl rfl, S1, nl0, hl0, g0⟩ ?_ ?_
    · rintro σ H2 ⟨fo, ms, t, rfl, ht, hall, hms, S2, nfo, hfo, gms⟩
      obtain ⟨nb, hbH⟩ := aw_get hb
      have hb2 := S2.sm _ _ nb hbH
      have hz2 : ∀ z ∈ zs, H2 z.1 = some (.lst (z.2.map V.int)) := fun z hzm => S2.sm _ _ (aw_get (hz z hzm)).1 (aw_get (hz z hzm)).2
      refine ⟨_, rfl, _, rfl, bl, _, (zs.map (·.2)).map tInts, tInts ms, rfl, SqL.of hb2, TrsAt.lists hz2, TrAt.ints (a := fo) (SqL.of hfo), Nat.le_trans (tdeps_tInts _) (by decide), _, rfl, ?_⟩
      rw [if_neg (by decide), notin_any]
      by_cases hin : ms ∈ zs.map (·.2)
      · rw [decide_eq_true hin]
        have hall2 : ∀ j, j < t → Lt j ∈ zs.map (·.2) := fun j hj => by
          rcases hms with h | h
          · omega
          · by_cases e : j + 1 < t
            · exact hall j e
            · rw [show j = t - 1 by omega, ← h]; exact hin
        have ht5 : t < 5 := by
          by_cases z : t < 5
          · exact z
          · exact absurd (fun j hj => hall2 j (by omega)) (fun q => Lt_many (by rw [List.length_map]; exact h4) q)
        refine iteT ?_
        refine ⟨_, rfl, _, _, rfl, rfl, ⟨by decide, by decide⟩, _, _, rfl, rfl, (by decide : (0 : Int) < 2), _, rfl, _, _, rfl, rfl, (by decide : (0 : Int) < 2), _, rfl, _, _, rfl, rfl, ⟨by decide, by decide⟩, _, _, rfl, rfl, (by decide : (0 : Int) < 2), _, rfl, _, _, rfl, rfl, ⟨by decide, by decide⟩, _, _, rfl, rfl, (by decide : (0 : Int) < 2), (by show 4 ≤ sizeLine; decide), fun q hq => ?_⟩
        have eL : [V.int ((t : Int) / 2 % 2), V.int ((t : Int) % 2), V.int ((t : Int) / 4 % 2), V.int ((t : Int) / 8 % 2)] = (Lt t).map V.int := by
          unfold Lt
          simp only [List.map_cons, List.map_nil, Int.natCast_emod, Int.natCast_ediv]
          rfl
        dsimp only
        rw [eL]
        have S3 := S2.new hq (o := .lst ((Lt t).map V.int))
        refine ⟨_, rfl, _, _, rfl, rfl, ⟨⟨q, Lt t, t + 1, ?_, by omega, fun j hj => hall2 j (by omega), .inr (by rw [Nat.add_sub_cancel]), S3, S2.free hq, upd_same, Lt_good b2 t⟩, ?_⟩⟩
        · rw [Int.natCast_add]; rfl
        · show 6 - ((t : Int) + 1).toNat < 6 - (t : Int).toNat
          omega
      · rw [decide_eq_false hin]
        exact iteF ⟨_, rfl, kk fo ms H2 S2 nfo hfo gms hin⟩
    · intro σ H2 Q Q' hq
      rintro ⟨v0, e0, v1, e1, a, xs, ts, t, h1, h2, h3, h4, h5, kb, e6, q⟩
      exact ⟨v0, e0, v1, e1, a, xs, ts, t, h1, h2, h3, h4, h5, kb, e6, hq _ _ q⟩
end
end Lw
set_option Elab.async false
set_option linter.all false
set_option maxRecDepth 100000
namespace Lw
open PySem L2 PyProof.Rows
theorem stepsV_noref {ls ws : List (List Int)} {b : Nat} (G : GoodT b ls ws) {r : List V} (hr : r ∈ stepsV ls ws b) {a : Addr} : V.ref a ∉ r := by
  obtain ⟨i, hi, e⟩ := List.mem_iff_getElem.mp hr
  have hlen : (stepsV ls ws b).length = ws.length + 1 := by unfold stepsV; rw [List.length_append, List.length_map, List.length_singleton]
  have hi' : i ≤ ws.length := by omega
  have h := stepsV_get (ls := ls) (b := b) (by have := G.g.b2; omega) hi'
  rw [List.getElem?_eq_getElem hi, e] at h
  have h' := Option.some.inj h
  intro hm
  rw [h'] at hm
  obtain ⟨c, _, hc⟩ := List.mem_map.mp hm
  rcases stepV_cases (b := b) (t := 0) G (c := c) hi' with ⟨e1, _⟩ | ⟨j, e1, _⟩
  · rw [e1] at hc; cases hc
  · rw [e1] at hc; cases hc
theorem TailsAt.updR {C tl sa la b l : Nat} {H : Hp} {ls ws : List (List Int)} {L : Nat} {o : HO} {as : List Addr} (TA : TailsAt C H tl la b ls ws L) (G : GoodT b ls ws) (h : H l = some (.lst (as.map V.ref))) (hne : la ≠ l) (hs : ∃ dx, H tl = some (.ins C dx (fldT b ws.length sa la))) (nsa : sa ≠ l) : TailsAt C (upd H l o) tl la b ls ws L := by
  obtain ⟨dx, sa', srs, h1, h2, h3, h4⟩ := TA.ob
  obtain ⟨lrs, g1, g2, g3⟩ := TA.ly
  obtain ⟨dx', k1⟩ := hs
  have esa : sa = sa' := by
    have := aw_same _ _ _ _ h1
    rw [k1] at this
    injection this with this
    injection this with _ _ this
    have e := fldT_steps b ws.length sa' la
    rw [← this, fldT_steps] at e
    injection e with e
    injection e
  have b2 := G.g.b2
  have go : ∀ c u, c ≠ l → aw [la] H c = some u → aw [la] (upd H l o) c = some u := fun c u hc e => by
    have hcl : c ∉ [la] := fun hz => by rw [aw_in hz] at e; cases e
    rw [aw_out hcl] at e ⊢
    rw [upd_ne hc]; exact e
  refine ⟨⟨dx, sa', srs, go _ _ (fun z => ?_) h1, go _ _ (fun z => nsa (esa.trans z)) h2, fun z hz => go _ _ (fun y => ?_) (h3 z hz), h4⟩, ⟨lrs, by rw [upd_ne hne]; exact g1, fun z hz => go _ _ (fun y => ?_) (g2 z hz), g3⟩, TA.l1⟩
  · have := aw_same _ _ _ _ h1
    rw [z, h] at this; cases this
  · have e := aw_same _ _ _ _ (h3 z hz)
    rw [y, h] at e
    injection e with e
    injection e with e
    have hm : z.2 ∈ stepsV ls ws b := by rw [← h4]; exact List.mem_map.mpr ⟨z, hz, rfl⟩
    cases as with
    | nil =>
      have hl : z.2 ≠ [] := by
        obtain ⟨i, hi, ei⟩ := List.mem_iff_getElem.mp hm
        have hlen : (stepsV ls ws b).length = ws.length + 1 := by unfold stepsV; rw [List.length_append, List.length_map, List.length_singleton]
        have hh := stepsV_get (ls := ls) (b := b) (by omega) (show i ≤ ws.length by omega)
        rw [List.getElem?_eq_getElem hi, ei] at hh
        rw [Option.some.inj hh]
        intro z0
        have := congrArg List.length z0
        simp at this; omega
      exact hl e.symm
    | cons a l' => exact stepsV_noref G hm (a := a) (by rw [← e]; exact List.mem_cons_self)
  · have e := aw_same _ _ _ _ (g2 z hz)
    rw [y, h] at e
    injection e with e
    injection e with e
    have hm : z.2 ∈ (List.range L).map (layerV ls ws b) := by rw [← g3]; exact List.mem_map.mpr ⟨z, hz, rfl⟩
    obtain ⟨t, _, et⟩ := List.mem_map.mp hm
    have hl : z.2.length = ws.length + 1 := by rw [← et]; unfold layerV; rw [List.length_append, List.length_map, List.length_singleton]
    cases hz2 : z.2 with
    | nil => rw [hz2] at hl; simp at hl
    | cons x y' =>
      rw [hz2] at e
      cases as with
      | nil => cases e
      | cons x' y'' => injection e with e _; cases e
section
variable {C CK : Addr} {H H' : Hp} {k tl sa la : Addr} {b bd : Nat} {bl : Addr} {zs : List (Addr × List Int)} {ws : List (List Int)} {L L' : Nat}
theorem refs_ints {as : List Addr} {ns : List Int} (hne : ns ≠ []) : (as.map V.ref) ≠ ns.map V.int := fun e => by
  cases ns with
  | nil => exact hne rfl
  | cons x y =>
    cases as with
    | nil => cases e
    | cons x' y' => injection e with e _; cases e
theorem KpAt.updR (A : KpAt C CK H k tl sa la b bd bl zs ws L) {l : Addr} {as : List Addr} {o : HO} (h : H l = some (.lst (as.map V.ref))) (n1 : bl ≠ l) (n2 : sa ≠ l) (n3 : la ≠ l) : KpAt C CK (upd H l o) k tl sa la b bd bl zs ws L := by
  obtain ⟨dx, h1⟩ := A.ob
  obtain ⟨dt, h2⟩ := A.sa
  have kl : k ≠ l := ne_of h1 h (fun z => nomatch z)
  have tll : tl ≠ l := ne_of h2 h (fun z => nomatch z)
  refine ⟨⟨dx, by rw [upd_ne kl]; exact h1⟩, by rw [upd_ne n1]; exact A.li, fun z hz => ?_, A.ta.updR A.gt h n3 ⟨dt, h2⟩ n2, ⟨dt, by rw [upd_ne tll]; exact h2⟩, A.gt, A.bla, A.l⟩
  have hzl : z.1 ≠ l := fun e => by
    have e2 := A.st z hz
    rw [e, h] at e2
    injection e2 with e2
    injection e2 with e2
    exact refs_ints (A.gt.g.st z.2 (List.mem_map.mpr ⟨z, hz, rfl⟩)).ne e2
  rw [upd_ne hzl]
  exact A.st z hz
end
theorem off_view {T k la la2 e t : Addr} {H H' : Hp} (a : Off T k la H H') (h : H la2 = none ∨ la2 = la) : Same (aw [k, la, e, t, T] H) (aw [k, la2, e, t, T] H') := fun c o q => by
  have hc : c ∉ [k, la, e, t, T] := fun z => by rw [aw_in z] at q; cases q
  rw [aw_out hc] at q
  simp only [List.mem_cons, List.not_mem_nil, or_false, not_or] at hc
  obtain ⟨c1, c2, c3, c4, c5⟩ := hc
  have c6 : c ≠ la2 := fun z => by
    rcases h with h | h
    · rw [z, h] at q; cases q
    · exact c2 (z.trans h)
  rw [aw_out (by simp [c1, c6, c3, c4, c5])]
  exact a c o c1 c2 c5 q
theorem same_view {T k la e t : Addr} {H H' : Hp} (m : Same (aw [la] H) (aw [la] H')) : Same (aw [k, la, e, t, T] H) (aw [k, la, e, t, T] H') := off_view (Off.aw (T := T) (k := k) m) (.inr rfl)
theorem view_get {M : List Addr} {c : Addr} {H : Hp} {o : HO} (h : aw M H c = some o) : c ∉ M ∧ H c = some o := by
  have hc : c ∉ M := fun z => by rw [aw_in z] at h; cases h
  rw [aw_out hc] at h
  exact ⟨hc, h⟩
theorem StAt.into {H : Hp} {M : List Addr} {p r bl : Addr} {zs : List (Addr × List Int)} {b : Nat} {ls : List (List Int)} (A : StAt H p r bl zs b ls) (h1 : p ∉ M) (h2 : r ∉ M) (h3 : bl ∉ M) (h4 : ∀ z ∈ zs, z.1 ∉ M) : StAt (aw M H) p r bl zs b ls :=
  ⟨by rw [aw_out h1]; exact A.li, ⟨by rw [aw_out h2]; exact A.ru.tu, by rw [aw_out h3]; exact A.ru.li, fun z hz => by rw [aw_out (h4 z hz)]; exact A.ru.st z hz⟩, A.e⟩
theorem up_same : ∀ {l1 l2 : List (List Int)}, l1.Pairwise (fun x y => HT.lexLt x y = true) → l2.Pairwise (fun x y => HT.lexLt x y = true) → (∀ x, x ∈ l1 ↔ x ∈ l2) → l1 = l2
  | [], [], _, _, _ => rfl
  | [], y :: l2, _, _, h => absurd ((h y).mpr List.mem_cons_self) List.not_mem_nil
  | x :: l1, [], _, _, h => absurd ((h x).mp List.mem_cons_self) List.not_mem_nil
  | x :: l1, y :: l2, p1, p2, h => by
    rw [List.pairwise_cons] at p1 p2
    have e : x = y := by
      rcases List.mem_cons.mp ((h x).mp List.mem_cons_self) with e | e
      · exact e
      · rcases List.mem_cons.mp ((h y).mpr List.mem_cons_self) with e' | e'
        · exact e'.symm
        · have a1 := p2.1 x e
          have a2 := p1.1 y e'
          have := HT.lexLt_trans _ _ _ a1 a2
          rw [HT.lexLt_irrefl] at this; cases this
    subst e
    rw [up_same p1.2 p2.2 fun z => ?_]
    constructor
    · intro hz
      rcases List.mem_cons.mp ((h z).mp (List.mem_cons_of_mem _ hz)) with e | e
      · have := p1.1 z hz
        rw [e, HT.lexLt_irrefl] at this; cases this
      · exact e
    · intro hz
      rcases List.mem_cons.mp ((h z).mpr (List.mem_cons_of_mem _ hz)) with e | e
      · have := p2.1 z hz
        rw [e, HT.lexLt_irrefl] at this; cases this
      · exact e
theorem come_go {b : Nat} {l1 l2 : List (List Int)} {ns : List Int} (g1 : GoodRule b l1) (g2 : GoodRule b l2) (pm : l2.Perm (l1 ++ [ns])) (hn : ns ∉ l1) : (l2.filter fun l => decide (l ≠ ns)) = l1 :=
  up_same (g2.up.sublist List.filter_sublist) g1.up fun x => by
    rw [List.mem_filter, pm.mem_iff, List.mem_append, List.mem_singleton, decide_eq_true_eq]
    constructor
    · rintro ⟨h | h, h'⟩
      · exact h
      · exact absurd h h'
    · intro h
      exact ⟨.inl h, fun z => hn (z ▸ h)⟩
end Lw
set_option Elab.async false
set_option linter.all false
set_option maxRecDepth 100000
namespace Lw
open PySem L2 PyProof.Rows
structure HeldK (W : Hp) (b bd : Nat) (rs : List (List (List Int))) (es : List (Addr × Addr × Addr × List (Addr × List Int))) (ts : List Addr) (so : Addr) (os : List (Addr × List Int)) : Prop where
  e : ∀ (j : Nat) (e : Addr × Addr × Addr × List (Addr × List Int)), es[j]? = some e → ∃ l, rs[j]? = some l ∧ StAt W e.1 e.2.1 e.2.2.1 e.2.2.2 b l
  t : ∀ (j : Nat) (t : Addr), ts[j]? = some t → ∃ l1 l2, rs[j]? = some l1 ∧ rs[j + 1]? = some l2 ∧ W t = some (.tup [.int (many (gd l1 b) bd : Nat), .int (many (gd l2 b) bd : Nat)])
  so : W so = some (.lst (os.map fun z => V.ref z.1))
  os : ∀ o ∈ os, W o.1 = some (.lst (o.2.map V.int))
theorem HeldK.same {W W' : Hp} {b bd : Nat} {rs : List (List (List Int))} {es : List (Addr × Addr × Addr × List (Addr × List Int))} {ts : List Addr} {so : Addr} {os : List (Addr × List Int)} (A : HeldK W b bd rs es ts so os) (m : Same W W') : HeldK W' b bd rs es ts so os :=
  ⟨fun j e h => let ⟨l, a, s⟩ := A.e j e h; ⟨l, a, s.same m⟩, fun j t h => let ⟨l1, l2, a, c, d⟩ := A.t j t h; ⟨l1, l2, a, c, m _ _ d⟩, m _ _ A.so, fun o ho => m _ _ (A.os o ho)⟩
structure ChainR (b : Nat) (rs : List (List (List Int))) (os : List (Addr × List Int)) (i : Nat) : Prop where
  len : rs.length = i + 1
  up : ∀ j, j < i → ∃ l1 l2 o, rs[j]? = some l1 ∧ rs[j + 1]? = some l2 ∧ os[j]? = some o ∧ GoodRule b l1 ∧ GoodRule b l2 ∧ l2.Perm (l1 ++ [o.2]) ∧ o.2 ∉ l1
theorem Off.put {T k la c : Addr} {H H1 : Hp} {o : HO} (a : Off T k la H H1) (h : H c = none) : Off T k la H (upd H1 c o) := fun d u h1 h2 h3 e => by
  rw [upd_ne (ne_of_none e h)]; exact a d u h1 h2 h3 e
theorem new_la {T k la0 la5 : Addr} {H H4 : Hp} {o : HO} (O : Off T k la0 H H4) (h : H4 la5 = none) (hk : H4 k = some o) (hT : la5 ≠ T) : H la5 = none ∨ la5 = la0 := by
  by_cases h2 : la5 = la0
  · exact .inr h2
  · left
    cases e : H la5 with
    | none => rfl
    | some o' =>
      exfalso
      by_cases h1 : la5 = k
      · rw [h1, hk] at h; cases h
      · rw [O la5 o' h1 h2 hT e] at h; cases h
theorem takeS {α : Type} {l : List α} {m : Nat} {x : α} (h : l[m]? = some x) : l.take (m + 1) = l.take m ++ [x] := by rw [List.take_succ, h]; rfl
def tP2 (a b : Nat) : Tr := .tup [.int a, .int b]
theorem tP2_dep (a b : Nat) : tdep (tP2 a b) ≤ 8 := by
  unfold tP2
  rw [tdep, tdeps, tdeps, tdeps, tdep, tdep] <;> first | decide | (intros; rename_i z; cases z)
theorem TrAt.p2 {K : PySem.W.Frag} {H : Hp} {p : Addr} {a b : Nat} (h : H p = some (.tup [.int a, .int b])) : TrAt K H (tP2 a b) (.ref p) := by
  unfold tP2
  rw [TrAt]
  refine ⟨p, _, rfl, SqT.of h, ?_⟩
  rw [TrsAt]
  refine ⟨_, _, rfl, by rw [TrAt], ?_⟩
  rw [TrsAt]
  exact ⟨_, _, rfl, by rw [TrAt], by rw [TrsAt]⟩
section
variable {P : Program} {w : World} {K : PySem.W.Frag} {mg : Str → Option Value} {base : Heap} {T0 C CK : Addr}
def KE (T0 C CK : Addr) (H : Hp) (k tl sa la bl : Addr) (zs : List (Addr × List Int)) (b bd : Nat) (H' : Hp) : Prop := ∃ (tl2 sa2 la2 bl2 : Addr) (zs2 : List (Addr × List Int)) (ws2 : List (List Int)) (L2 : Nat), KpAt C CK H' k tl2 sa2 la2 b bd bl2 zs2 ws2 L2 ∧ zs2.map (·.2) = zs.map (·.2) ∧ Off T0 k la H H' ∧ LT T0 H' ∧ (H la2 = none ∨ la2 = la) ∧ KpT T0 H H' k tl sa la bl zs tl2 sa2 la2 bl2 zs2
def sp__law_round_right (T0 C CK : Addr) : Sp := fun vs H Q _ => ∃ (k tl sa la : Addr) (b bd : Nat) (bl : Addr) (zs : List (Addr × List Int)) (ws : List (List Int)) (L : Nat) (so : Addr) (os : List (Addr × List Int)), vs = [.ref k, .ref so] ∧ KpAt C CK H k tl sa la b bd bl zs ws L ∧ LT T0 H ∧ bd < 2 ^ 900 ∧ zs.length ≤ 2 ∧ os.length ≤ 2 ∧ H so = some (.lst (os.map fun z => V.ref z.1)) ∧ (∀ o ∈ os, H o.1 = some (.lst (o.2.map V.int))) ∧ (∀ o ∈ os, GoodSt b o.2 ∧ o.2 ∉ zs.map (·.2)) ∧ (os.map (·.2)).Nodup ∧ so ≠ la ∧
  ∀ H', KE T0 C CK H k tl sa la bl zs b bd H' → Q (.bl true) H'
theorem sc__law_round_right : FnScope ["keeper", "some", "early", "told", "one"] ["keeper", "some"] (defScope s__law_round_right) := ⟨rfl, rfl, rfl, by decide +kernel, rfl, by decide +kernel, by decide +kernel⟩
set_option maxHeartbeats 8000000 in
theorem ok__law_round_right {f f1 f2 f3 : Addr} {fd fd1 fd2 fd3 : FuncData} (D : Df K mg "_law_round_right" s__law_round_right ["keeper", "some"] f fd) (D_law_stand : Df K mg "_law_stand" s__law_stand ["keeper"] f1 fd1) (G_law_stand : FnOk P w K mg base CX0 6 f1 fd1 ["keeper"] (sp__law_stand T0 C CK)) (MKeeper_come : Mt K CK "Keeper.come" "come" s_Keeper_come ["self", "stretch"] f2 fd2) (GKeeper_come : FnOk P w K mg base CX0 10 f2 fd2 ["self", "stretch"] (sp_come T0 C CK)) (MKeeper_go : Mt K CK "Keeper.go" "go" s_Keeper_go ["self", "stretch"] f3 fd3) (GKeeper_go : FnOk P w K mg base CX0 10 f3 fd3 ["self", "stretch"] (sp_go T0 C CK)) (cKeeper : ClK K mg CK) (T : Blt mg) : FnOk P w K mg base CX0 11 f fd ["keeper", "some"] (sp__law_round_right T0 C CK) := by
  refine D.fn.ok sc__law_round_right (fun vs H Q E h => ?_) (fun cdv A outer s H vs Q E hr h => ?_)
  · obtain ⟨k, tl, sa, la, b, bd, bl, zs, ws, L, so, os, rfl, _⟩ := h; rfl
  · obtain ⟨k, tl0, sa0, la0, b, bd, bl0, zs0, ws0, L0, so, os, rfl, KA, hT, hbd, hz2, ho2, hso, hos, gos, ndo, sola, kk⟩ := h
    have HU := HUof hr
    refine ⟨_, (pss_cons (ps_set (i := 2) sc__law_round_right.nd rfl (Or.inl rfl) (pe_lst (pa_cons (pcall D_law_stand G_law_stand (hr.mono (by decide)) (pa_cons (pv 0) pa_nil)) pa_nil)))
      (pss_cons (ps_set (i := 3) sc__law_round_right.nd rfl (Or.inr rfl) (pe_lst pa_nil))
      (pss_cons (ps_for PassesOwn.never rfl (k_pi K (pv 1)) (pg_name (i := 4) sc__law_round_right.nd rfl (Or.inl rfl))
        (pss_cons (ps_expr (pe_bm PySem.F.plainAttrs_list PySem.F.slot_list_append PySem.F.type_list_append mt_append (pv 3) (pa_cons (pmeth MKeeper_come cKeeper.cl GKeeper_come (hr.mono (by decide)) (pv 0) (pa_cons (pe_callTy (k_listOf K) (by rfl) T.n_list boot_list (pa_cons (pv 4) pa_nil)) pa_nil)) pa_nil)))
        (pss_one (ps_expr (pe_bm PySem.F.plainAttrs_list PySem.F.slot_list_append PySem.F.type_list_append mt_append (pv 2) (pa_cons (pcall D_law_stand G_law_stand (hr.mono (by decide)) (pa_cons (pv 0) pa_nil)) pa_nil))))))
      (pss_cons (ps_if (pt_cmpR (k_neT K HU) (pe_comp (show CScope (defScope s__law_round_right) _ "k" ["keeper", "some", "early", "told", "one"] ["told"] [3] from ⟨rfl, by decide +kernel, by decide +kernel, rfl, by decide +kernel, rfl, by decide +kernel, by decide +kernel⟩) rfl (pi_range2 rfl T.n_range (pa_cons pe_int (pa_cons (pe_callB (k_len K) (by rfl) T.n_len PySem.boot_len (pa_cons (pv 3) pa_nil)) pa_nil))) (fun _ _ _ _ => (pts_one (pt_cmpR op_ne (pe_ix (k_ixT K) (pe_ix (k_ixL K) (pv 1) (pv 0) (fun _ _ => rfl)) pe_int (fun _ _ => rfl)) (pe_ix (k_ixT K) (pe_ix (k_ixL K) (pv 1) (pe_op op_sub (pv 0) pe_int) (fun _ _ => rfl)) pe_int (fun _ _ => rfl)) (nomark _)))) (fun _ _ _ _ => (pv 0))) (pe_lst pa_nil) (nomark _))
        (pss_one (ps_ret pe_bl))
        pss_nil)
      (pss_cons (ps_for PassesOwn.never rfl (k_pi K (pe_revSlice (pv 1))) (pg_name (i := 4) sc__law_round_right.nd rfl (Or.inl rfl))
        (pss_one (ps_if (PW.pt (pw_or (pt_cmpR (k_neT K HU) (pcall D_law_stand G_law_stand (hr.mono (by decide)) (pa_cons (pv 0) pa_nil)) (pe_bm0 PySem.F.plainAttrs_list PySem.F.slot_list_pop PySem.F.type_list_pop mt_pop (pv 2)) (nomark _)) (pw_or1 (pt_cmpR (k_neT K HU) (pmeth MKeeper_go cKeeper.cl GKeeper_go (hr.mono (by decide)) (pv 0) (pa_cons (pe_callTy (k_listOf K) (by rfl) T.n_list boot_list (pa_cons (pv 4) pa_nil)) pa_nil)) (k_revPair K (pe_bm0 PySem.F.plainAttrs_list PySem.F.slot_list_pop PySem.F.type_list_pop mt_pop (pv 3))) (nomark _)))))
          (pss_one (ps_ret pe_bl))
          pss_nil)))
      (pss_one (ps_ret (pe_cmpR (k_eqT K HU) (pcall D_law_stand G_law_stand (hr.mono (by decide)) (pa_cons (pv 0) pa_nil)) (pe_ix (k_ixL K) (pv 2) pe_int (fun _ _ => rfl)) (nomark _))))))))), ?_⟩
    refine ⟨_, rfl, k, tl0, sa0, la0, b, bd, bl0, zs0, ws0, L0, rfl, KA, hT, fun p1 r1 b1 z1 L1 H1 SA1 KA1 m1 T1 F1 ks1 => ⟨(by show 1 ≤ sizeLine; decide), fun ea hea => ⟨(by decide : 0 ≤ sizeLine), fun ta hta => ?_⟩⟩⟩
    have O1 : Off T0 k la0 H H1 := Off.aw m1
    have s2 := (same_upd hea (o := .lst [V.ref p1])).trans (same_upd hta (o := .lst []))
    have KA2 := KA1.same s2
    have T2 := T1.same s2
    have nae : ea ≠ ta := fun z => by rw [← z, upd_same] at hta; cases hta
    have hea2 : upd (upd H1 ea (.lst [V.ref p1])) ta (.lst []) ea = some (.lst [V.ref p1]) := by rw [upd_ne nae, upd_same]
    have hta2 : upd (upd H1 ea (.lst [V.ref p1])) ta (.lst []) ta = some (.lst []) := upd_same
    have hta1 : H1 ta = none := (same_upd hea).free hta
    have O2 : Off T0 k la0 H (upd (upd H1 ea (.lst [V.ref p1])) ta (.lst [])) := fun c o h1 h2 h3 e => s2 _ _ (O1 c o h1 h2 h3 e)
    have SA2 := SA1.same s2
    obtain ⟨lx, hlx⟩ := KA1.ta.la
    obtain ⟨dx1, hk1⟩ := KA1.ob
    obtain ⟨lxH, hlxH⟩ := KA.ta.la
    obtain ⟨dxH, hkH⟩ := KA.ob
    have obk : ∀ {c : Addr} {xs : List V}, H c = some (.lst xs) → c ≠ la0 → upd (upd H1 ea (.lst [V.ref p1])) ta (.lst []) c = some (.lst xs) := fun h hc => O2 _ _ (ne_of h hkH (fun z => nomatch z)) hc (hT.lst h) h
    have inM : ∀ {c : Addr} {o : HO}, H1 c = some o → c ≠ k → c ≠ la0 → c ≠ T0 → c ∉ [k, la0, ea, ta, T0] := fun {c o} h h1 h2 h3 => by
      simp [h1, h2, h3, ne_of_none h hea, ne_of_none h hta1]
    have newM : ∀ {c : Addr} {o : HO}, H c = none → H1 c = some o → (∀ q, o ≠ .ins CK dx1 q) → c ∉ [k, la0, ea, ta, T0] := fun {c o} h h1 _ => inM h1 (fun z => by rw [z, hkH] at h; cases h) (fun z => by rw [z, hlxH] at h; cases h) (fun z => by rw [z] at h; exact absurd rfl (hT.none h))
    have SV : StAt (aw [k, la0, ea, ta, T0] (upd (upd H1 ea (.lst [V.ref p1])) ta (.lst []))) p1 r1 b1 z1 b (zs0.map (·.2)) := SA2.into (newM F1.p SA1.li (fun q z => by cases z)) (newM F1.r SA1.ru.tu (fun q z => by cases z)) (newM F1.bl SA1.ru.li (fun q z => by cases z)) (fun z hz => newM (F1.z z hz) (SA1.ru.st z hz) (fun q z => by cases z))
    have oldM : ∀ {c : Addr} {xs : List V}, H c = some (.lst xs) → c ≠ la0 → aw [k, la0, ea, ta, T0] (upd (upd H1 ea (.lst [V.ref p1])) ta (.lst [])) c = some (.lst xs) := fun {c xs} h hc => by
      have e1 := O1 _ _ (ne_of h hkH (fun z => nomatch z)) hc (hT.lst h) h
      rw [aw_out (inM e1 (ne_of h hkH (fun z => nomatch z)) hc (hT.lst h))]
      exact s2 _ _ e1
    have heaH : H ea = none := by
      cases e : H ea with
      | none => rfl
      | some o => rw [go_la m1 (fun z => by rw [z, hlx] at hea; cases hea) e] at hea; cases hea
    have htaH : H ta = none := by
      cases e : H ta with
      | none => rfl
      | some o => rw [go_la m1 (fun z => by rw [z, hlx] at hta1; cases hta1) e] at hta1; cases hta1
    have hos0 : ∀ o ∈ os, o.1 ≠ la0 := fun o ho => KA.ila (hos o ho) (gos o ho).1.ne
    have KT0 : KpT T0 H (upd (upd H1 ea (.lst [V.ref p1])) ta (.lst [])) k tl0 sa0 la0 bl0 zs0 tl0 sa0 la0 bl0 zs0 := fun c o _ e q => KA1.kps s2 c o (go_la m1 q.nla e) (ks1 c o e q)
    have nla : la0 ≠ ea ∧ la0 ≠ ta ∧ bl0 ≠ ea ∧ bl0 ≠ ta ∧ sa0 ≠ ea ∧ sa0 ≠ ta := by
      obtain ⟨dq, saq, srs, q1, q2, _⟩ := KA1.ta.ob
      obtain ⟨dt, q3⟩ := KA1.sa
      have es : saq = sa0 := by
        have := aw_same _ _ _ _ q1
        rw [q3] at this
        injection this with this
        injection this with _ _ this
        have e := fldT_steps b ws0.length saq la0
        rw [← this, fldT_steps] at e
        injection e with e
        injection e with e
        exact e.symm
      have q2' := aw_same _ _ _ _ q2
      rw [es] at q2'
      exact ⟨ne_of_none hlx hea, ne_of_none hlx hta1, ne_of_none KA1.li hea, ne_of_none KA1.li hta1, ne_of_none q2' hea, ne_of_none q2' hta1⟩
    have HK0 : HeldK (aw [k, la0, ea, ta, T0] (upd (upd H1 ea (.lst [V.ref p1])) ta (.lst []))) b bd [zs0.map (·.2)] [(p1, r1, b1, z1)] [] so os := ⟨fun j e h => by
        match j, h with
        | 0, h => obtain rfl := Option.some.inj h; exact ⟨_, rfl, SV⟩
        | j + 1, h => simp at h, fun j t h => by simp at h, oldM hso sola, fun o ho => oldM (hos o ho) (hos0 o ho)⟩
    generalize upd (upd H1 ea (.lst [V.ref p1])) ta (.lst []) = H2 at s2 KA2 T2 hea2 hta2 O2 HK0 KT0
    refine ⟨_, rfl, so, rfl, ⟨_, SqL.of (view_get HK0.so).2⟩, for_list (K := K) (a := so) (xs := os.map fun z => V.ref z.1) (fun i σ H3 => ∃ (v4 : Option V) (tl sa la bl : Addr) (zs : List (Addr × List Int)) (ws : List (List Int)) (L : Nat) (rs : List (List (List Int))) (es : List (Addr × Addr × Addr × List (Addr × List Int))) (ts : List Addr), σ = [some (.ref k), some (.ref so), some (.ref ea), some (.ref ta), v4] ∧ KpAt C CK H3 k tl sa la b bd bl zs ws L ∧ LT T0 H3 ∧ ChainR b rs os i ∧ rs[0]? = some (zs0.map (·.2)) ∧ rs[i]? = some (zs.map (·.2)) ∧ es.length = i + 1 ∧ ts.length = i ∧ H3 ea = some (.lst ((es.map (·.1)).map V.ref)) ∧ H3 ta = some (.lst (ts.map V.ref)) ∧ HeldK (aw [k, la, ea, ta, T0] H3) b bd rs es ts so os ∧ (la ≠ ea ∧ la ≠ ta ∧ bl ≠ ea ∧ bl ≠ ta ∧ sa ≠ ea ∧ sa ≠ ta) ∧ Off T0 k la0 H H3 ∧ (H la = none ∨ la = la0) ∧ (∀ x, x ∈ zs.map (·.2) ↔ x ∈ zs0.map (·.2) ∨ x ∈ (os.take i).map (·.2)) ∧ zs.length = zs0.length + i ∧ KpT T0 H H3 k tl0 sa0 la0 bl0 zs0 tl sa la bl zs)
      ⟨none, tl0, sa0, la0, bl0, zs0, ws0, L1, [zs0.map (·.2)], [(p1, r1, b1, z1)], [], rfl, KA2, T2, ⟨rfl, fun j hj => by omega⟩, rfl, rfl, rfl, rfl, hea2, hta2, HK0, nla, O2, .inr rfl, fun x => by simp, rfl, KT0⟩ (fun i σ H3 _ ⟨_, _, _, _, _, _, _, _, _, _, _, _, _, _, _, _, _, _, _, _, _, hk, _⟩ => SqL.of (view_get hk.so).2) ?_ ?_⟩
    · rintro i x σ H3 hx ⟨v4, tl, sa, la, bl, zs, ws, L, rs, es, ts, rfl, KA3, T3, CH, r0, ri, el, tlen, hea3, hta3, HK, ⟨n1, n2, n3, n4, n5, n6⟩, O3, hlaH, hmem, hzl, KT3⟩
      rw [List.getElem?_map] at hx
      obtain ⟨o, hoi, e⟩ := Option.map_eq_some_iff.mp hx
      subst e
      have hom := List.mem_of_getElem? hoi
      have hi : i < os.length := (List.getElem?_eq_some_iff.mp hoi).1
      obtain ⟨dx3, hk3⟩ := KA3.ob
      have ho3 := (view_get (HK.os o hom)).2
      have hnot : o.2 ∉ zs.map (·.2) := fun hz => by
        rcases (hmem o.2).mp hz with h | h
        · exact (gos o hom).2 h
        · obtain ⟨o', ho', e'⟩ := List.mem_map.mp h
          obtain ⟨j, hj, ej⟩ := List.mem_iff_getElem.mp ho'
          rw [List.length_take] at hj
          rw [List.getElem_take] at ej
          have := List.pairwise_iff_getElem.mp ndo j i (by rw [List.length_map]; omega) (by rw [List.length_map]; exact hi) (by omega)
          rw [List.getElem_map, List.getElem_map, ej, (List.getElem?_eq_some_iff.mp hoi).2] at this
          exact this e'
      refine ⟨_, rfl, .inl ⟨rfl, _, SqL.of hta3⟩, _, rfl, k, dx3, _, rfl, hk3, fldK_no _ _ _ _, _, rfl, o.1, _, rfl, .inl (SqL.of ho3), fun q hq => ?_⟩
      have s4 := same_upd hq (o := .lst (o.2.map V.int))
      have hq4 : upd H3 q (.lst (o.2.map V.int)) q = some (.lst (o.2.map V.int)) := upd_same
      have KA4 := KA3.same s4
      have T4 := T3.same s4
      have HK4 := HK.same (s4.aw [k, la, ea, ta, T0])
      generalize upd H3 q (.lst (o.2.map V.int)) = H4 at s4 hq4 KA4 T4 HK4
      refine ⟨k, tl, sa, la, b, bd, bl, zs, ws, L, q, o.2, rfl, KA4, hbd, T4, hq4, (gos o hom).1, hnot, by omega, fun p tl5 sa5 la5 bl5 zs5 ws5 L5 H5 hp hv KA5 pm O5 T5 hla5 hsa5 hbl5 pla cl5 => ?_⟩
      have hta4 := s4 _ _ hta3
      have hea4 := s4 _ _ hea3
      obtain ⟨dx4, hk4⟩ := KA4.ob
      have hta5 := O5 _ _ (ne_of hta4 hk4 (fun z => nomatch z)) (Ne.symm n2) (T4.lst hta4) hta4
      have hea5 := O5 _ _ (ne_of hea4 hk4 (fun z => nomatch z)) (Ne.symm n1) (T4.lst hea4) hea4
      refine ⟨ta, _, _, rfl, rfl, hta5, by rw [List.length_map, tlen]; exact Nat.lt_of_lt_of_le (show i < 3 by omega) (by decide), ?_⟩
      have m1' : la5 ≠ ta := fun z => by rw [z, hta4] at hla5; cases hla5
      have m2' : la5 ≠ ea := fun z => by rw [z, hea4] at hla5; cases hla5
      have m3' : bl5 ≠ ta := fun z => by rw [z, hta4] at hbl5; cases hbl5
      have m4' : bl5 ≠ ea := fun z => by rw [z, hea4] at hbl5; cases hbl5
      have m5' : sa5 ≠ ta := fun z => by rw [z, hta4] at hsa5; cases hsa5
      have m6' : sa5 ≠ ea := fun z => by rw [z, hea4] at hsa5; cases hsa5
      have KA6 := KA5.updR (o := .lst (ts.map V.ref ++ [V.ref p])) hta5 m3' m5' m1'
      have T6 := T5.off hta5 (H' := upd H5 ta (.lst (ts.map V.ref ++ [V.ref p]))) (by rw [aw_upd_in' (by simp)]; exact Same.refl _)
      have HK5 := HK4.same (off_view (e := ea) (t := ta) O5 (.inl hla5))
      have ev : aw [k, la5, ea, ta, T0] (upd H5 ta (.lst (ts.map V.ref ++ [V.ref p]))) = aw [k, la5, ea, ta, T0] H5 := aw_upd_in' (by simp)
      have nea : ea ≠ ta := nae
      have hea6 : upd H5 ta (.lst (ts.map V.ref ++ [V.ref p])) ea = some (.lst ((es.map (·.1)).map V.ref)) := by rw [upd_ne nea]; exact hea5
      have hta6 : upd H5 ta (.lst (ts.map V.ref ++ [V.ref p])) ta = some (.lst ((ts ++ [p]).map V.ref)) := by rw [upd_same, List.map_append]; rfl
      have pM : p ∉ [k, la5, ea, ta, T0] := by
        have q1 : p ≠ k := fun z => by rw [z, hk4] at hp; cases hp
        have q2 : p ≠ ea := fun z => by rw [z, hea4] at hp; cases hp
        have q3 : p ≠ ta := fun z => by rw [z, hta4] at hp; cases hp
        have q4 : p ≠ T0 := T4.none hp
        simp [q1, q2, q3, q4, pla]
      have gr4 := KA4.gt.g
      have gr5 := KA5.gt.g
      have CH5 : ChainR b (rs ++ [zs5.map (·.2)]) os (i + 1) := by
        have hrl := CH.len
        refine ⟨by rw [List.length_append, CH.len]; rfl, fun j hj => ?_⟩
        by_cases hji : j < i
        · obtain ⟨l1, l2, o', a1, a2, a3, a4⟩ := CH.up j hji
          exact ⟨l1, l2, o', by rw [List.getElem?_append_left (by omega)]; exact a1, by rw [List.getElem?_append_left (by omega)]; exact a2, a3, a4⟩
        · have : j = i := by omega
          subst this
          exact ⟨zs.map (·.2), zs5.map (·.2), o, by rw [List.getElem?_append_left (by omega)]; exact ri, by rw [List.getElem?_append_right (by omega), hrl, Nat.sub_self]; rfl, hoi, gr4, gr5, pm, hnot⟩
      have HK6 : HeldK (aw [k, la5, ea, ta, T0] (upd H5 ta (.lst (ts.map V.ref ++ [V.ref p])))) b bd (rs ++ [zs5.map (·.2)]) es (ts ++ [p]) so os := by
        rw [ev]
        have hrl := CH.len
        refine ⟨fun j e h => ?_, fun j t h => ?_, HK5.so, HK5.os⟩
        · obtain ⟨l, a1, a2⟩ := HK5.e j e h
          exact ⟨l, by rw [List.getElem?_append_left (List.getElem?_eq_some_iff.mp a1).1]; exact a1, a2⟩
        · by_cases hj : j < ts.length
          · rw [List.getElem?_append_left hj] at h
            obtain ⟨l1, l2, a1, a2, a3⟩ := HK5.t j t h
            exact ⟨l1, l2, by rw [List.getElem?_append_left (List.getElem?_eq_some_iff.mp a1).1]; exact a1, by rw [List.getElem?_append_left (List.getElem?_eq_some_iff.mp a2).1]; exact a2, a3⟩
          · have hjl := (List.getElem?_eq_some_iff.mp h).1
            rw [List.length_append, List.length_singleton] at hjl
            have hje : j = i := by omega
            subst hje
            rw [List.getElem?_append_right (by omega), tlen, Nat.sub_self] at h
            obtain rfl := Option.some.inj h
            exact ⟨zs.map (·.2), zs5.map (·.2), by rw [List.getElem?_append_left (by omega)]; exact ri, by rw [List.getElem?_append_right (by omega), hrl, Nat.sub_self]; rfl, by rw [aw_out pM]; exact hv⟩
      have O6 : Off T0 k la0 H (upd H5 ta (.lst (ts.map V.ref ++ [V.ref p]))) := fun c o' h1 h2 h3 e => by
        have e3 := s4 _ _ (O3 c o' h1 h2 h3 e)
        have hcla : c ≠ la := fun z => by
          rcases hlaH with h | h
          · rw [z, h] at e; cases e
          · exact h2 (z.trans h)
        have e5 := O5 c o' h1 hcla h3 e3
        have hcta : c ≠ ta := fun z => by
          have : H ta = none := by
            cases e' : H ta with
            | none => rfl
            | some o'' =>
              exfalso
              rw [z] at e
              rw [O1 ta o' (by rw [← z]; exact h1) (by rw [← z]; exact h2) (by rw [← z]; exact h3) e] at hta1
              cases hta1
          rw [z, this] at e; cases e
        rw [upd_ne hcta]; exact e5
      have KT6 : KpT T0 H (upd H5 ta (.lst (ts.map V.ref ++ [V.ref p]))) k tl0 sa0 la0 bl0 zs0 tl5 sa5 la5 bl5 zs5 := fun c o' hc e q => by
        have q3 := KT3 c o' hc e q
        exact (cl5 c o' (s4 _ _ (O3 c o' q.nk q.nla hc e)) q3.nk q3.nz).put m1' m5'
      generalize upd H5 ta (.lst (ts.map V.ref ++ [V.ref p])) = H6 at KA6 T6 hea6 hta6 HK6 O6 KT6
      refine ⟨_, rfl, .inl ⟨rfl, _, SqL.of hea6⟩, _, rfl, k, tl5, sa5, la5, b, bd, bl5, zs5, ws5, L5, rfl, KA6, T6, fun p7 r7 b7 z7 L7 H7 SA7 KA7 m7 T7 F7 ks7 => ?_⟩
      have go7 : ∀ c o', c ≠ la5 → H6 c = some o' → H7 c = some o' := fun c o' hc e => by
        have hc' : c ∉ [la5] := by simpa using hc
        have := m7 c o' (by rw [aw_out hc']; exact e)
        rwa [aw_out hc'] at this
      have hea7 := go7 _ _ (Ne.symm m2') hea6
      have hta7 := go7 _ _ (Ne.symm m1') hta6
      refine ⟨ea, _, _, rfl, rfl, hea7, by rw [List.length_map, List.length_map, el]; exact Nat.lt_of_lt_of_le (show i + 1 < 4 by omega) (by decide), ?_⟩
      have KA8 := KA7.updR (o := .lst ((es.map (·.1)).map V.ref ++ [V.ref p7])) hea7 m4' m6' m2'
      have T8 := T7.off hea7 (H' := upd H7 ea (.lst ((es.map (·.1)).map V.ref ++ [V.ref p7]))) (by rw [aw_upd_in' (by simp)]; exact Same.refl _)
      have HK7 := HK6.same (same_view (k := k) (e := ea) (t := ta) (T := T0) m7)
      have ev8 : aw [k, la5, ea, ta, T0] (upd H7 ea (.lst ((es.map (·.1)).map V.ref ++ [V.ref p7]))) = aw [k, la5, ea, ta, T0] H7 := aw_upd_in' (by simp)
      obtain ⟨dx6, hk6⟩ := KA6.ob
      obtain ⟨lx6, hlx6⟩ := KA6.ta.la
      have n7 : ∀ {c : Addr}, H6 c = none → c ∉ [k, la5, ea, ta, T0] := fun {c} h => by
        have q1 : c ≠ k := fun z => by rw [z, hk6] at h; cases h
        have q2 : c ≠ ea := fun z => by rw [z, hea6] at h; cases h
        have q3 : c ≠ ta := fun z => by rw [z, hta6] at h; cases h
        have q4 : c ≠ la5 := fun z => by rw [z, hlx6] at h; cases h
        have q5 : c ≠ T0 := T6.none h
        simp [q1, q2, q3, q4, q5]
      have SV7 := SA7.into (n7 F7.p) (n7 F7.r) (n7 F7.bl) (fun z hz => n7 (F7.z z hz))
      refine ⟨_, tl5, sa5, la5, bl5, zs5, ws5, L7, rs ++ [zs5.map (·.2)], es ++ [(p7, r7, b7, z7)], ts ++ [p], rfl, KA8, T8, CH5, ?_, ?_, by rw [List.length_append, el]; rfl, by rw [List.length_append, tlen]; rfl, by rw [upd_same, List.map_append, List.map_append]; rfl, by rw [upd_ne (Ne.symm nea)]; exact hta7, ?_, ⟨m2', m1', m4', m3', m6', m5'⟩, ?_, ?_, fun x => ?_, ?_, fun c o' hc e q => (ks7 c o' (O6 c o' q.nk q.nla hc e) (KT6 c o' hc e q)).put m2' m6'⟩
      · rw [List.getElem?_append_left (by rw [CH.len]; omega)]; exact r0
      · rw [List.getElem?_append_right (by rw [CH.len]; omega), CH.len, Nat.sub_self]; rfl
      · rw [ev8]
        refine ⟨fun j e h => ?_, HK7.t, HK7.so, HK7.os⟩
        by_cases hj : j < es.length
        · rw [List.getElem?_append_left hj] at h
          exact HK7.e j e h
        · have hjl := (List.getElem?_eq_some_iff.mp h).1
          rw [List.length_append, List.length_singleton] at hjl
          have hje : j = i + 1 := by omega
          subst hje
          rw [List.getElem?_append_right (by omega), el, Nat.sub_self] at h
          obtain rfl := Option.some.inj h
          exact ⟨zs5.map (·.2), by rw [List.getElem?_append_right (by rw [CH.len]; omega), CH.len, Nat.sub_self]; rfl, SV7⟩
      · intro c o' h1 h2 h3 e
        have hcea : c ≠ ea := fun z => by
          rw [z] at e
          rw [O1 ea o' (by rw [← z]; exact h1) (by rw [← z]; exact h2) (by rw [← z]; exact h3) e] at hea
          cases hea
        rw [upd_ne hcea]
        have hcla5 : c ≠ la5 := fun z => by
          have : H4 c = some o' := by
            have e3 := O3 c o' h1 h2 h3 e
            exact s4 _ _ e3
          rw [z, hla5] at this; cases this
        exact go7 _ _ hcla5 (O6 c o' h1 h2 h3 e)
      · by_cases h2 : la5 = la0
        · exact .inr h2
        · left
          cases e : H la5 with
          | none => rfl
          | some o' =>
            exfalso
            by_cases h1 : la5 = k
            · rw [h1, hk4] at hla5; cases hla5
            · by_cases h3 : la5 = T0
              · exact absurd h3 (T4.none hla5)
              · rw [s4 _ _ (O3 la5 o' h1 h2 h3 e)] at hla5; cases hla5
      · rw [pm.mem_iff, List.mem_append, List.mem_singleton, hmem x, List.take_succ, hoi]
        simp [or_assoc]
      · have := pm.length_eq
        rw [List.length_map, List.length_append, List.length_map, List.length_singleton] at this
        omega
    · rintro σ H3 ⟨v4, tl, sa, la, bl, zs, ws, L, rs, es, ts, rfl, KA3, T3, CH, r0, ri, el, tlen, hea3, hta3, HK, nn, O3, hlaH, hmem, hzl, KT3⟩
      rw [List.length_map] at CH ri el tlen hzl
      have two : ∀ j, j + 1 < ts.length → ∃ (t1 t0 : Addr) (l0 l1 l2 : List (List Int)), ts[j + 1]? = some t1 ∧ ts[j]? = some t0 ∧ H3 t1 = some (.tup [.int (many (gd l1 b) bd : Nat), .int (many (gd l2 b) bd : Nat)]) ∧ H3 t0 = some (.tup [.int (many (gd l0 b) bd : Nat), .int (many (gd l1 b) bd : Nat)]) := fun j hj => by
        obtain ⟨l1, l2, a1, a2, a3⟩ := HK.t (j + 1) _ (List.getElem?_eq_getElem hj)
        obtain ⟨l0, l1', c1, c2, c3⟩ := HK.t j _ (List.getElem?_eq_getElem (by omega))
        rw [a1] at c2
        obtain rfl := Option.some.inj c2
        exact ⟨_, _, l0, l1, l2, List.getElem?_eq_getElem hj, List.getElem?_eq_getElem (by omega), aw_same _ _ _ _ a3, aw_same _ _ _ _ c3⟩
      refine ⟨_, rfl, ta, _, rfl, .inl (SqL.of hta3), 1, _, rfl, ⟨by decide, by decide, by rw [List.length_map]; omega, by rw [List.length_map]; omega⟩, comp_range (lo := 1) (n := (((ts.map V.ref).length : Int) - 1).toNat) (fun i ys Hc => Hc = H3 ∧ ys = []) ⟨rfl, rfl⟩ ?_ ?_⟩
      · rintro i ys Hc hi ⟨rfl, rfl⟩
        rw [List.length_map] at hi
        obtain ⟨t1, t0, l0, l1, l2, a1, a0, b1, b0⟩ := two i (by omega)
        refine ⟨by decide, _, rfl, _, rfl, ta, _, 1 + (i : Int), V.ref t1, rfl, rfl, SqL.of hta3, ?_, t1, _, _, V.int (many (gd l1 b) bd : Nat), rfl, rfl, SqT.of b1, rfl, _, rfl, _, rfl, _, _, rfl, rfl, ta, _, (1 + (i : Int)) - 1, V.ref t0, rfl, rfl, SqL.of hta3, ?_, t0, _, _, V.int (many (gd l1 b) bd : Nat), rfl, rfl, SqT.of b0, rfl, rfl, ?_⟩
        · rw [show (1 : Int) + i = ((i + 1 : Nat) : Int) by omega]
          exact atI_nat (by rw [List.getElem?_map, a1]; rfl)
        · rw [show (1 : Int) + i - 1 = ((i : Nat) : Int) by omega]
          exact atI_nat (by rw [List.getElem?_map, a0]; rfl)
        · rw [decide_eq_true rfl]
          exact ⟨_, rfl, iteF ⟨rfl, rfl⟩⟩
      rintro ys H4 ⟨rfl, rfl⟩ dd hdd
      refine ⟨(by decide : 0 ≤ sizeLine), fun de hde => ?_⟩
      have s5 := (same_upd hdd (o := .lst [])).trans (same_upd hde (o := .lst []))
      have KA5 := KA3.same s5
      have T5 := T3.same s5
      have HK5 := HK.same (s5.aw [k, la, ea, ta, T0])
      have hea5 := s5 _ _ hea3
      have hta5 := s5 _ _ hta3
      have O5 := O3.trans (Off.of (T := T0) (k := k) (la := la0) s5) (.inr rfl)
      refine ⟨tInts [], tInts [], TrAt.ints (a := dd) (ns := []) (SqL.of (same_upd hde _ _ upd_same)), TrAt.ints (a := de) (ns := []) (SqL.of upd_same), (by rw [tdep_tInts]; decide), _, rfl, ?_⟩
      rw [if_pos rfl, teq_ints, decide_eq_true rfl]
      refine iteF ?_
      generalize upd (upd H4 dd (.lst [])) de (.lst []) = H5 at s5 KA5 T5 HK5 hea5 hta5 O5
      refine ⟨_, rfl, so, _, rfl, SqL.of (view_get HK5.so).2, fun so2 hso2 => ?_⟩
      have s6 := same_upd hso2 (o := .lst (os.map fun z => V.ref z.1).reverse)
      have KA6 := KA5.same s6
      have T6 := T5.same s6
      have hea6 := s6 _ _ hea5
      have hta6 := s6 _ _ hta5
      have O6 := O5.trans (Off.of (T := T0) (k := k) (la := la0) s6) (.inr rfl)
      have HK6 : HeldK (aw [k, la, ea, ta, T0] (upd H5 so2 (.lst (os.map fun z => V.ref z.1).reverse))) b bd rs es ts so2 os.reverse := by
        have q := HK5.same (s6.aw [k, la, ea, ta, T0])
        refine ⟨q.e, q.t, ?_, fun o ho => q.os o (List.mem_reverse.mp ho)⟩
        obtain ⟨dx5, hk5⟩ := KA5.ob
        obtain ⟨lx5, hlx5⟩ := KA5.ta.la
        have q1 : so2 ≠ k := fun z => by rw [z, hk5] at hso2; cases hso2
        have q2 : so2 ≠ ea := fun z => by rw [z, hea5] at hso2; cases hso2
        have q3 : so2 ≠ ta := fun z => by rw [z, hta5] at hso2; cases hso2
        have q4 : so2 ≠ la := fun z => by rw [z, hlx5] at hso2; cases hso2
        have q5 : so2 ≠ T0 := T5.none hso2
        rw [aw_out (by simp [q1, q2, q3, q4, q5]), upd_same, List.map_reverse]
      have KT6 : KpT T0 H (upd H5 so2 (.lst (os.map fun z => V.ref z.1).reverse)) k tl0 sa0 la0 bl0 zs0 tl sa la bl zs := fun c o' hc e q => KA3.kps (s5.trans s6) c o' (O3 c o' q.nk q.nla hc e) (KT3 c o' hc e q)
      generalize upd H5 so2 (.lst (os.map fun z => V.ref z.1).reverse) = H6 at s6 KA6 T6 hea6 hta6 O6 HK6 KT6
      refine ⟨so2, rfl, ⟨_, SqL.of (view_get HK6.so).2⟩, for_list (K := K) (a := so2) (xs := os.reverse.map fun z => V.ref z.1) (fun i σ H7 => ∃ (v4 : Option V) (tl sa la bl : Addr) (zs : List (Addr × List Int)) (ws : List (List Int)) (L : Nat), σ = [some (.ref k), some (.ref so), some (.ref ea), some (.ref ta), v4] ∧ KpAt C CK H7 k tl sa la b bd bl zs ws L ∧ LT T0 H7 ∧ rs[os.length - i]? = some (zs.map (·.2)) ∧ H7 ea = some (.lst (((es.take (os.length - i + 1)).map (·.1)).map V.ref)) ∧ H7 ta = some (.lst ((ts.take (os.length - i)).map V.ref)) ∧ HeldK (aw [k, la, ea, ta, T0] H7) b bd rs es ts so2 os.reverse ∧ (la ≠ ea ∧ la ≠ ta ∧ bl ≠ ea ∧ bl ≠ ta ∧ sa ≠ ea ∧ sa ≠ ta) ∧ Off T0 k la0 H H7 ∧ (H la = none ∨ la = la0) ∧ KpT T0 H H7 k tl0 sa0 la0 bl0 zs0 tl sa la bl zs)
        ⟨v4, tl, sa, la, bl, zs, ws, L, rfl, KA6, T6, ri, by rw [Nat.sub_zero, ← el, List.take_length]; exact hea6, by rw [Nat.sub_zero, ← tlen, List.take_length]; exact hta6, HK6, nn, O6, hlaH, KT6⟩ (fun i σ H7 _ ⟨_, _, _, _, _, _, _, _, _, _, _, _, _, _, hk, _⟩ => SqL.of (view_get hk.so).2) ?_ ?_⟩
      · clear KA3 T3 KA5 T5 KA6 T6 HK HK5 HK6 hea3 hta3 hea5 hta5 hea6 hta6 O3 O5 O6 KT3 KT6 hlaH nn ri hmem hzl tl sa la bl zs ws L two s5 s6
        rintro i x σ H6 hx ⟨v4, tl, sa, la, bl, zs, ws, L, rfl, KA6, T6, ri, hea6, hta6, HK6, ⟨n1, n2, n3, n4, n5, n6⟩, O6, hlaH, KT6⟩
        rw [List.getElem?_map] at hx
        obtain ⟨o, hoi, e⟩ := Option.map_eq_some_iff.mp hx
        subst e
        have hom := List.mem_of_getElem? hoi
        have hi : i < os.length := by have := (List.getElem?_eq_some_iff.mp hoi).1; rwa [List.length_reverse] at this
        obtain ⟨m, hm⟩ : ∃ m, os.length - i = m + 1 := ⟨os.length - i - 1, by omega⟩
        rw [List.getElem?_reverse hi, show os.length - 1 - i = m by omega] at hoi
        rw [hm] at ri hea6 hta6
        have hm' : os.length - (i + 1) = m := by omega
        obtain ⟨l1, l2, o', a1, a2, a3, g1, g2, pm, hnot⟩ := CH.up m (by omega)
        rw [hoi] at a3
        obtain rfl := Option.some.inj a3
        rw [ri] at a2
        obtain rfl := Option.some.inj a2
        have hcg := come_go g1 g2 pm hnot
        have hin : o.2 ∈ zs.map (·.2) := pm.mem_iff.mpr (by simp)
        have hee := List.getElem?_eq_getElem (show m + 1 < es.length by omega)
        have htt := List.getElem?_eq_getElem (show m < ts.length by omega)
        generalize es[m + 1]'(by omega) = ee at hee
        generalize ts[m]'(by omega) = t0 at htt
        refine ⟨_, rfl, k, tl, sa, la, b, bd, bl, zs, ws, L, rfl, KA6, T6, fun p7 r7 b7 z7 L7 H7 SA7 KA7 m7 T7 F7 ks7 => ?_⟩
        have hea7 := go_la m7 (Ne.symm n1) hea6
        have hta7 := go_la m7 (Ne.symm n2) hta6
        have hxs : ((es.take (m + 1 + 1)).map (·.1)).map V.ref = ((es.take (m + 1)).map (·.1)).map V.ref ++ [V.ref ee.1] := by rw [takeS hee, List.map_append, List.map_append]; rfl
        have edl : (((es.take (m + 1 + 1)).map (·.1)).map V.ref).dropLast = ((es.take (m + 1)).map (·.1)).map V.ref := by rw [hxs, List.dropLast_concat]
        have hys : (ts.take (m + 1)).map V.ref = (ts.take m).map V.ref ++ [V.ref t0] := by rw [takeS htt, List.map_append]; rfl
        have edt : ((ts.take (m + 1)).map V.ref).dropLast = (ts.take m).map V.ref := by rw [hys, List.dropLast_concat]
        refine ⟨_, rfl, .inl ⟨rfl, _, SqL.of hea7⟩, ea, _, V.ref ee.1, rfl, rfl, hea7, by rw [hxs]; simp, ?_⟩
        rw [edl]
        have KA8 := KA7.updR (o := .lst (((es.take (m + 1)).map (·.1)).map V.ref)) hea7 n3 n5 n1
        have T8 := T7.off hea7 (H' := upd H7 ea (.lst (((es.take (m + 1)).map (·.1)).map V.ref))) (by rw [aw_upd_in' (by simp)]; exact Same.refl _)
        have ev8 : aw [k, la, ea, ta, T0] (upd H7 ea (.lst (((es.take (m + 1)).map (·.1)).map V.ref))) = aw [k, la, ea, ta, T0] H7 := aw_upd_in' (by simp)
        have HK8 := HK6.same (same_view (k := k) (e := ea) (t := ta) (T := T0) m7)
        obtain ⟨dx6, hk6⟩ := KA6.ob
        obtain ⟨lx6, hlx6⟩ := KA6.ta.la
        have n7 : ∀ {c : Addr}, H6 c = none → c ∉ [k, la, ea, ta, T0] := fun {c} h => by
          have q1 : c ≠ k := fun z => by rw [z, hk6] at h; cases h
          have q2 : c ≠ ea := fun z => by rw [z, hea6] at h; cases h
          have q3 : c ≠ ta := fun z => by rw [z, hta6] at h; cases h
          have q4 : c ≠ la := fun z => by rw [z, hlx6] at h; cases h
          have q5 : c ≠ T0 := T6.none h
          simp [q1, q2, q3, q4, q5]
        have SV7 := SA7.into (n7 F7.p) (n7 F7.r) (n7 F7.bl) (fun z hz => n7 (F7.z z hz))
        rw [← ev8] at HK8 SV7
        have O8 : Off T0 k la0 H (upd H7 ea (.lst (((es.take (m + 1)).map (·.1)).map V.ref))) := (O6.trans (Off.aw (T := T0) (k := k) m7) hlaH).put heaH
        have hea8 : upd H7 ea (.lst (((es.take (m + 1)).map (·.1)).map V.ref)) ea = some (.lst (((es.take (m + 1)).map (·.1)).map V.ref)) := upd_same
        have hta8 : upd H7 ea (.lst (((es.take (m + 1)).map (·.1)).map V.ref)) ta = some (.lst ((ts.take (m + 1)).map V.ref)) := by rw [upd_ne (Ne.symm nae)]; exact hta7
        have KT8 : KpT T0 H (upd H7 ea (.lst (((es.take (m + 1)).map (·.1)).map V.ref))) k tl0 sa0 la0 bl0 zs0 tl sa la bl zs := fun c o' hc e q => (ks7 c o' (O6 c o' q.nk q.nla hc e) (KT6 c o' hc e q)).put n1 n5
        generalize upd H7 ea (.lst (((es.take (m + 1)).map (·.1)).map V.ref)) = H8 at KA8 T8 HK8 SV7 O8 hea8 hta8 KT8
        obtain ⟨le, ele, SE⟩ := HK8.e (m + 1) ee hee
        rw [ri] at ele
        obtain rfl := Option.some.inj ele
        refine ⟨tSt b (zs.map (·.2)), tSt b (zs.map (·.2)), TrAt.stand (SV7.same (aw_same _ _)), TrAt.stand (SE.same (aw_same _ _)), tSt_dep _ _, _, rfl, ?_⟩
        rw [if_pos rfl, teq_refl]
        refine iteF ?_
        obtain ⟨dx8, hk8⟩ := KA8.ob
        have ho8 := (view_get (HK8.os o hom)).2
        refine ⟨_, rfl, k, dx8, _, rfl, hk8, fldK_no _ _ _ _, _, rfl, o.1, _, rfl, .inl (SqL.of ho8), fun q hq => ?_⟩
        have s9 := same_upd hq (o := .lst (o.2.map V.int))
        have hq9 : upd H8 q (.lst (o.2.map V.int)) q = some (.lst (o.2.map V.int)) := upd_same
        have KA9 := KA8.same s9
        have T9 := T8.same s9
        have HK9 := HK8.same (s9.aw [k, la, ea, ta, T0])
        have hea9 := s9 _ _ hea8
        have hta9 := s9 _ _ hta8
        have O9 := O8.trans (Off.of (T := T0) (k := k) (la := la0) s9) (.inr rfl)
        generalize upd H8 q (.lst (o.2.map V.int)) = H9 at s9 hq9 KA9 T9 HK9 hea9 hta9 O9
        refine ⟨k, tl, sa, la, b, bd, bl, zs, ws, _, q, o.2, rfl, KA9, hbd, T9, hq9, hin, fun p tl5 sa5 la5 bl5 zs5 ws5 L5 H5 hp hv KA5 ok5 O5 T5 hla5 hsa5 hbl5 pla cl5 => ?_⟩
        rw [hcg] at ok5
        obtain ⟨dx9, hk9⟩ := KA9.ob
        have hta10 := O5 _ _ (ne_of hta9 hk9 (fun z => nomatch z)) (Ne.symm n2) (T9.lst hta9) hta9
        have hea10 := O5 _ _ (ne_of hea9 hk9 (fun z => nomatch z)) (Ne.symm n1) (T9.lst hea9) hea9
        have HK10 := HK9.same (off_view (e := ea) (t := ta) O5 (.inl hla5))
        have O10 := O9.trans O5 hlaH
        have m1' : la5 ≠ ta := fun z => by rw [z, hta9] at hla5; cases hla5
        have m2' : la5 ≠ ea := fun z => by rw [z, hea9] at hla5; cases hla5
        have m3' : bl5 ≠ ta := fun z => by rw [z, hta9] at hbl5; cases hbl5
        have m4' : bl5 ≠ ea := fun z => by rw [z, hea9] at hbl5; cases hbl5
        have m5' : sa5 ≠ ta := fun z => by rw [z, hta9] at hsa5; cases hsa5
        have m6' : sa5 ≠ ea := fun z => by rw [z, hea9] at hsa5; cases hsa5
        refine ⟨_, rfl, .inl ⟨rfl, _, SqL.of hta10⟩, ta, _, V.ref t0, rfl, rfl, hta10, by rw [hys]; simp, ?_⟩
        rw [edt]
        have KA11 := KA5.updR (o := .lst ((ts.take m).map V.ref)) hta10 m3' m5' m1'
        have T11 := T5.off hta10 (H' := upd H5 ta (.lst ((ts.take m).map V.ref))) (by rw [aw_upd_in' (by simp)]; exact Same.refl _)
        have ev11 : aw [k, la5, ea, ta, T0] (upd H5 ta (.lst ((ts.take m).map V.ref))) = aw [k, la5, ea, ta, T0] H5 := aw_upd_in' (by simp)
        have O11 : Off T0 k la0 H (upd H5 ta (.lst ((ts.take m).map V.ref))) := O10.put htaH
        have hpta : p ≠ ta := fun z => by rw [z, hta9] at hp; cases hp
        have hv11 : upd H5 ta (.lst ((ts.take m).map V.ref)) p = some (.tup [.int (many (gd (zs.map (·.2)) b) bd : Nat), .int (many (gd (zs5.map (·.2)) b) bd : Nat)]) := by rw [upd_ne hpta]; exact hv
        have hea11 : upd H5 ta (.lst ((ts.take m).map V.ref)) ea = some (.lst (((es.take (m + 1)).map (·.1)).map V.ref)) := by rw [upd_ne nae]; exact hea10
        have hta11 : upd H5 ta (.lst ((ts.take m).map V.ref)) ta = some (.lst ((ts.take m).map V.ref)) := upd_same
        have KT11 : KpT T0 H (upd H5 ta (.lst ((ts.take m).map V.ref))) k tl0 sa0 la0 bl0 zs0 tl5 sa5 la5 bl5 zs5 := fun c o' hc e q => by
          have q8 := KT8 c o' hc e q
          exact (cl5 c o' (O9 c o' q.nk q.nla hc e) q8.nk q8.nz).put m1' m5'
        rw [← ev11] at HK10
        generalize upd H5 ta (.lst ((ts.take m).map V.ref)) = H11 at KA11 T11 HK10 O11 hv11 hea11 hta11 KT11
        obtain ⟨k1, k2, e1, e2, e3⟩ := HK10.t m t0 htt
        rw [a1] at e1
        obtain rfl := Option.some.inj e1
        rw [ri] at e2
        obtain rfl := Option.some.inj e2
        refine ⟨t0, _, _, rfl, SqT.of (view_get e3).2, fun pr hpr => ?_⟩
        have s12 := same_upd hpr (o := .tup [.int (many (gd (zs.map (·.2)) b) bd : Nat), .int (many (gd l1 b) bd : Nat)])
        refine ⟨tP2 _ _, tP2 _ _, TrAt.p2 (s12 _ _ hv11), TrAt.p2 upd_same, tP2_dep _ _, _, rfl, ?_⟩
        rw [if_pos rfl, ok5, teq_refl]
        refine iteF ?_
        rw [hm']
        exact ⟨_, tl5, sa5, la5, bl5, zs5, ws5, L5, rfl, KA11.same s12, T11.same s12, by rw [ok5]; exact a1, s12 _ _ hea11, s12 _ _ hta11, HK10.same (s12.aw _), ⟨m2', m1', m4', m3', m6', m5'⟩, O11.trans (Off.of (T := T0) (k := k) (la := la0) s12) (.inr rfl), new_la O9 hla5 hk9 (T9.none hla5), fun c o' hc e q => KA11.kps s12 c o' (O11 c o' q.nk q.nla hc e) (KT11 c o' hc e q)⟩
      · clear KA3 T3 KA5 T5 KA6 T6 HK HK5 HK6 hea3 hta3 hea5 hta5 hea6 hta6 O3 O5 O6 KT3 KT6 hlaH nn ri hmem hzl tl sa la bl zs ws L two s5 s6
        rintro σ H6 ⟨v4, tl, sa, la, bl, zs, ws, L, rfl, KA6, T6, ri, hea6, hta6, HK6, ⟨n1, n2, n3, n4, n5, n6⟩, O6, hlaH, KT6⟩
        rw [List.length_map, List.length_reverse, Nat.sub_self] at ri hea6 hta6
        have hee := List.getElem?_eq_getElem (show 0 < es.length by omega)
        generalize es[0]'(by omega) = ee at hee
        refine ⟨_, rfl, k, tl, sa, la, b, bd, bl, zs, ws, L, rfl, KA6, T6, fun p7 r7 b7 z7 L7 H7 SA7 KA7 m7 T7 F7 ks7 => ?_⟩
        have hea7 := go_la m7 (Ne.symm n1) hea6
        have HK7 := HK6.same (same_view (k := k) (e := ea) (t := ta) (T := T0) m7)
        obtain ⟨le, ele, SE⟩ := HK7.e 0 ee hee
        rw [ri] at ele
        obtain rfl := Option.some.inj ele
        refine ⟨_, rfl, ea, _, 0, V.ref ee.1, rfl, rfl, SqL.of hea7, ?_, tSt b (zs.map (·.2)), tSt b (zs.map (·.2)), TrAt.stand SA7, TrAt.stand (SE.same (aw_same _ _)), tSt_dep _ _, ?_⟩
        · rw [takeS hee]; rfl
        rw [if_neg (by decide), teq_refl]
        rw [ri] at r0
        exact kk H7 ⟨tl, sa, la, bl, zs, ws, L7, KA7, Option.some.inj r0, O6.trans (Off.aw (T := T0) (k := k) m7) hlaH, T7, hlaH, fun c o' hc e q => ks7 c o' (O6 c o' q.nk q.nla hc e) (KT6 c o' hc e q)⟩
end
end Lw
set_option Elab.async false
set_option linter.all false
set_option maxRecDepth 100000
namespace Lw
open PySem L2 PyProof.Rows
theorem LT.ins {T : Addr} {H : Hp} (h : LT T H) {b CS dx : Addr} {fs : List (Str × V)} (e : H b = some (.ins CS dx fs)) : b ≠ T := fun z => by
  rw [z] at e
  rcases h with h | ⟨c, h, _⟩
  · rw [h] at e; cases e
  · rw [h] at e; cases e
theorem TailsAt.offK {T0 C CK tl sa la b k1 la1 dxk : Addr} {H H' : Hp} {ls ws : List (List Int)} {L : Nat} {as : List Addr} {fs : List (Str × V)} (TA : TailsAt C H tl la b ls ws L) (G : GoodT b ls ws) (h : H la1 = some (.lst (as.map V.ref))) (hk : H k1 = some (.ins CK dxk fs)) (hT : LT T0 H) (O : Off T0 k1 la1 H H') (hne : la ≠ la1) (hs : ∃ dx, H tl = some (.ins C dx (fldT b ws.length sa la))) (nsa : sa ≠ la1) (ntl : tl ≠ k1) : TailsAt C H' tl la b ls ws L := by
  obtain ⟨dx, sa', srs, h1, h2, h3, h4⟩ := TA.ob
  obtain ⟨lrs, g1, g2, g3⟩ := TA.ly
  obtain ⟨dx', k1'⟩ := hs
  have esa : sa = sa' := by
    have := aw_same _ _ _ _ h1
    rw [k1'] at this
    injection this with this
    injection this with _ _ this
    have e := fldT_steps b ws.length sa' la
    rw [← this, fldT_steps] at e
    injection e with e
    injection e
  have b2 := G.g.b2
  have go : ∀ c u, c ≠ la1 → c ≠ k1 → c ≠ T0 → aw [la] H c = some u → aw [la] H' c = some u := fun c u hc hc2 hc3 e => by
    have hcl : c ∉ [la] := fun hz => by rw [aw_in hz] at e; cases e
    rw [aw_out hcl] at e ⊢
    exact O c u hc2 hc hc3 e
  have gol : ∀ c xs, c ≠ la1 → aw [la] H c = some (.lst xs) → aw [la] H' c = some (.lst xs) := fun c xs hc e => go c _ hc (ne_of (aw_same _ _ _ _ e) hk (fun z => nomatch z)) (hT.lst (aw_same _ _ _ _ e)) e
  refine ⟨⟨dx, sa', srs, go _ _ (fun z => ?_) ntl (hT.ins k1') h1, gol _ _ (fun z => nsa (esa.trans z)) h2, fun z hz => gol _ _ (fun y => ?_) (h3 z hz), h4⟩, ⟨lrs, O _ _ (ne_of g1 hk (fun z => nomatch z)) hne (hT.lst g1) g1, fun z hz => gol _ _ (fun y => ?_) (g2 z hz), g3⟩, TA.l1⟩
  · rw [z, h] at k1'; cases k1'
  · have e := aw_same _ _ _ _ (h3 z hz)
    rw [y, h] at e
    injection e with e
    injection e with e
    have hm : z.2 ∈ stepsV ls ws b := by rw [← h4]; exact List.mem_map.mpr ⟨z, hz, rfl⟩
    cases as with
    | nil =>
      have hl : z.2 ≠ [] := by
        obtain ⟨i, hi, ei⟩ := List.mem_iff_getElem.mp hm
        have hlen : (stepsV ls ws b).length = ws.length + 1 := by unfold stepsV; rw [List.length_append, List.length_map, List.length_singleton]
        have hh := stepsV_get (ls := ls) (b := b) (by omega) (show i ≤ ws.length by omega)
        rw [List.getElem?_eq_getElem hi, ei] at hh
        rw [Option.some.inj hh]
        intro z0
        have := congrArg List.length z0
        simp at this; omega
      exact hl e.symm
    | cons a l' => exact stepsV_noref G hm (a := a) (by rw [← e]; exact List.mem_cons_self)
  · have e := aw_same _ _ _ _ (g2 z hz)
    rw [y, h] at e
    injection e with e
    injection e with e
    have hm : z.2 ∈ (List.range L).map (layerV ls ws b) := by rw [← g3]; exact List.mem_map.mpr ⟨z, hz, rfl⟩
    obtain ⟨t, _, et⟩ := List.mem_map.mp hm
    have hl : z.2.length = ws.length + 1 := by rw [← et]; unfold layerV; rw [List.length_append, List.length_map, List.length_singleton]
    cases hz2 : z.2 with
    | nil => rw [hz2] at hl; simp at hl
    | cons x y' =>
      rw [hz2] at e
      cases as with
      | nil => cases e
      | cons x' y'' => injection e with e _; cases e
structure SepK (k la k2 sa2 la2 bl2 : Addr) : Prop where
  nk : k2 ≠ k
  nsa : sa2 ≠ la
  nla : la2 ≠ la
  nbl : bl2 ≠ la
theorem KpAt.off {T0 C CK : Addr} {H H' : Hp} {k tl sa la : Addr} {b bd : Nat} {bl : Addr} {zs : List (Addr × List Int)} {ws : List (List Int)} {L : Nat} {k' tl' sa' la' : Addr} {b' bd' : Nat} {bl' : Addr} {zs' : List (Addr × List Int)} {ws' : List (List Int)} {L' : Nat} (A : KpAt C CK H k tl sa la b bd bl zs ws L) (B : KpAt C CK H k' tl' sa' la' b' bd' bl' zs' ws' L') (hT : LT T0 H) (O : Off T0 k la H H') (S : SepK k la k' sa' la' bl') : KpAt C CK H' k' tl' sa' la' b' bd' bl' zs' ws' L' := by
  obtain ⟨as, has⟩ := A.las
  obtain ⟨dxk, hk⟩ := A.ob
  obtain ⟨dx, h1⟩ := B.ob
  obtain ⟨dt, h2⟩ := B.sa
  have ntl : tl' ≠ k := fun z => by
    rw [z, hk] at h2
    injection h2 with e
    injection e with _ _ e
    have := fldT_steps b' ws'.length sa' la'
    rw [← e, fldK_no] at this
    cases this
  have gol : ∀ c xs, c ≠ la → H c = some (.lst xs) → H' c = some (.lst xs) := fun c xs hc e => O c _ (ne_of e hk (fun z => nomatch z)) hc (hT.lst e) e
  refine ⟨⟨dx, O _ _ S.nk (fun z => ?_) (hT.ins h1) h1⟩, gol _ _ S.nbl B.li, fun z hz => gol _ _ (A.ila (B.st z hz) (B.gt.g.st z.2 (List.mem_map.mpr ⟨z, hz, rfl⟩)).ne) (B.st z hz), B.ta.offK B.gt has hk hT O S.nla ⟨dt, h2⟩ S.nsa ntl, ⟨dt, O _ _ ntl (fun z => ?_) (hT.ins h2) h2⟩, B.gt, B.bla, B.l⟩
  · rw [z, has] at h1; cases h1
  · rw [z, has] at h2; cases h2
theorem TailsAt.sameL {T0 C tl la b : Addr} {H H' : Hp} {ls ws : List (List Int)} {L : Nat} (TA : TailsAt C H tl la b ls ws L) (hT : LT T0 H) (m : SameL T0 H H') : TailsAt C H' tl la b ls ws L := by
  obtain ⟨dx, sa', srs, h1, h2, h3, h4⟩ := TA.ob
  obtain ⟨lrs, g1, g2, g3⟩ := TA.ly
  have go : ∀ c u, c ≠ T0 → aw [la] H c = some u → aw [la] H' c = some u := fun c u hc e => by
    have hcl : c ∉ [la] := fun hz => by rw [aw_in hz] at e; cases e
    rw [aw_out hcl] at e ⊢
    exact m c u hc e
  exact ⟨⟨dx, sa', srs, go _ _ (hT.ins (aw_same _ _ _ _ h1)) h1, go _ _ (hT.lst (aw_same _ _ _ _ h2)) h2, fun z hz => go _ _ (hT.lst (aw_same _ _ _ _ (h3 z hz))) (h3 z hz), h4⟩, ⟨lrs, m _ _ (hT.lst g1) g1, fun z hz => go _ _ (hT.lst (aw_same _ _ _ _ (g2 z hz))) (g2 z hz), g3⟩, TA.l1⟩
theorem KpAt.sameL {T0 C CK : Addr} {H H' : Hp} {k tl sa la : Addr} {b bd : Nat} {bl : Addr} {zs : List (Addr × List Int)} {ws : List (List Int)} {L : Nat} (A : KpAt C CK H k tl sa la b bd bl zs ws L) (hT : LT T0 H) (m : SameL T0 H H') : KpAt C CK H' k tl sa la b bd bl zs ws L := by
  obtain ⟨dx, h1⟩ := A.ob
  obtain ⟨dt, h2⟩ := A.sa
  exact ⟨⟨dx, m _ _ (hT.ins h1) h1⟩, m _ _ (hT.lst A.li) A.li, fun z hz => m _ _ (hT.lst (A.st z hz)) (A.st z hz), A.ta.sameL hT m, ⟨dt, m _ _ (hT.ins h2) h2⟩, A.gt, A.bla, A.l⟩
def DuoK (T0 C CK : Addr) (Hb H : Hp) (k k2 : Addr) (b bd : Nat) (ls ls2 : List (List Int)) : Prop := ∃ (tl sa la bl : Addr) (zs : List (Addr × List Int)) (ws : List (List Int)) (L : Nat) (tl2 sa2 la2 bl2 : Addr) (zs2 : List (Addr × List Int)) (ws2 : List (List Int)) (L2 : Nat), KpAt C CK H k tl sa la b bd bl zs ws L ∧ KpAt C CK H k2 tl2 sa2 la2 b bd bl2 zs2 ws2 L2 ∧ zs.map (·.2) = ls ∧ zs2.map (·.2) = ls2 ∧ SepK k la k2 sa2 la2 bl2 ∧ SepK k2 la2 k sa la bl ∧ LT T0 H ∧ ∀ c o, c ≠ T0 → Hb c = some o → H c = some o ∧ c ≠ k ∧ c ≠ k2 ∧ c ≠ la ∧ c ≠ la2
theorem DuoK.symm {T0 C CK : Addr} {Hb H : Hp} {k k2 : Addr} {b bd : Nat} {ls ls2 : List (List Int)} (D : DuoK T0 C CK Hb H k k2 b bd ls ls2) : DuoK T0 C CK Hb H k2 k b bd ls2 ls := by
  obtain ⟨tl, sa, la, bl, zs, ws, L, tl2, sa2, la2, bl2, zs2, ws2, L2, A, B, e1, e2, S1, S2, hT, kp⟩ := D
  exact ⟨tl2, sa2, la2, bl2, zs2, ws2, L2, tl, sa, la, bl, zs, ws, L, B, A, e2, e1, S2, S1, hT, fun c o hc e => let ⟨q1, q2, q3, q4, q5⟩ := kp c o hc e; ⟨q1, q3, q2, q5, q4⟩⟩
theorem DuoK.same {T0 C CK : Addr} {Hb H H' : Hp} {k k2 : Addr} {b bd : Nat} {ls ls2 : List (List Int)} (D : DuoK T0 C CK Hb H k k2 b bd ls ls2) (m : Same H H') : DuoK T0 C CK Hb H' k k2 b bd ls ls2 := by
  obtain ⟨tl, sa, la, bl, zs, ws, L, tl2, sa2, la2, bl2, zs2, ws2, L2, A, B, e1, e2, S1, S2, hT, kp⟩ := D
  exact ⟨tl, sa, la, bl, zs, ws, L, tl2, sa2, la2, bl2, zs2, ws2, L2, A.same m, B.same m, e1, e2, S1, S2, hT.same m, fun c o hc e => let ⟨q1, q2⟩ := kp c o hc e; ⟨m _ _ q1, q2⟩⟩
theorem DuoK.sameL {T0 C CK : Addr} {Hb H : Hp} {k k2 : Addr} {b bd : Nat} {ls ls2 : List (List Int)} (D : DuoK T0 C CK Hb H k k2 b bd ls ls2) : SameL T0 Hb H := by
  obtain ⟨tl, sa, la, bl, zs, ws, L, tl2, sa2, la2, bl2, zs2, ws2, L2, A, B, e1, e2, S1, S2, hT, kp⟩ := D
  exact fun c o hc e => (kp c o hc e).1
theorem DuoK.ob {T0 C CK : Addr} {Hb H : Hp} {k k2 : Addr} {b bd : Nat} {ls ls2 : List (List Int)} (D : DuoK T0 C CK Hb H k k2 b bd ls ls2) : ∃ dx bl tl, H k = some (.ins CK dx (fldK b bl bd tl)) := by
  obtain ⟨tl, sa, la, bl, zs, ws, L, tl2, sa2, la2, bl2, zs2, ws2, L2, A, B, e1, e2, S1, S2, hT, kp⟩ := D
  obtain ⟨dx, h⟩ := A.ob
  exact ⟨dx, _, _, h⟩
theorem DuoK.new {T0 C CK : Addr} {Hb H : Hp} {k k2 q : Addr} {b bd : Nat} {ls ls2 : List (List Int)} {o : HO} (D : DuoK T0 C CK Hb H k k2 b bd ls ls2) (hq : H q = none) : DuoK T0 C CK (upd Hb q o) (upd H q o) k k2 b bd ls ls2 := by
  obtain ⟨tl, sa, la, bl, zs, ws, L, tl2, sa2, la2, bl2, zs2, ws2, L2, A, B, e1, e2, S1, S2, hT, kp⟩ := D
  have m := same_upd hq (o := o)
  refine ⟨tl, sa, la, bl, zs, ws, L, tl2, sa2, la2, bl2, zs2, ws2, L2, A.same m, B.same m, e1, e2, S1, S2, hT.same m, fun c u hc e => ?_⟩
  by_cases z : c = q
  · subst z
    rw [upd_same] at e
    obtain ⟨_, h1⟩ := A.ob
    obtain ⟨_, h2⟩ := B.ob
    obtain ⟨_, h3⟩ := A.ta.la
    obtain ⟨_, h4⟩ := B.ta.la
    exact ⟨by rw [upd_same]; exact e, Ne.symm (ne_of_none h1 hq), Ne.symm (ne_of_none h2 hq), Ne.symm (ne_of_none h3 hq), Ne.symm (ne_of_none h4 hq)⟩
  · rw [upd_ne z] at e ⊢
    exact kp c u hc e
theorem DuoK.come {T0 C CK : Addr} {Hb H : Hp} {k k2 : Addr} {b bd : Nat} {ls ls2 : List (List Int)} {q : Addr} {ns : List Int} (D : DuoK T0 C CK Hb H k k2 b bd ls ls2) (hbd : bd < 2 ^ 900) (hq : H q = some (.lst (ns.map V.int))) (gst : GoodSt b ns) (hnot : ns ∉ ls) (h3 : ls.length ≤ 3) {R : Hp → Prop} (hR : ∀ (ls' : List (List Int)) (H' : Hp), ls'.Perm (ls ++ [ns]) → DuoK T0 C CK Hb H' k k2 b bd ls' ls2 → R H') : sp_come T0 C CK [.ref k, .ref q] H (fun _ H' => R H') E0 := by
  obtain ⟨tl, sa, la, bl, zs, ws, L, tl2, sa2, la2, bl2, zs2, ws2, L2, A, B, rfl, e2, S1, S2, hT, kp⟩ := D
  refine ⟨k, tl, sa, la, b, bd, bl, zs, ws, L, q, ns, rfl, A, hbd, hT, hq, gst, hnot, by rwa [List.length_map] at h3, fun p tl5 sa5 la5 bl5 zs5 ws5 L5 H5 hp hv KA5 pm O5 T5 hla5 hsa5 hbl5 pla _ => ?_⟩
  obtain ⟨_, w1⟩ := B.sas
  obtain ⟨_, w2⟩ := B.las
  exact hR _ H5 pm ⟨tl5, sa5, la5, bl5, zs5, ws5, L5, tl2, sa2, la2, bl2, zs2, ws2, L2, KA5, A.off B hT O5 S1, rfl, e2, ⟨S1.nk, ne_of_none w1 hla5, ne_of_none w2 hla5, ne_of_none B.li hla5⟩, ⟨S2.nk, Ne.symm (ne_of_none w2 hsa5), Ne.symm (ne_of_none w2 hla5), Ne.symm (ne_of_none w2 hbl5)⟩, T5, fun c o hc e => by
    obtain ⟨q1, q2, q3, q4, q5⟩ := kp c o hc e
    exact ⟨O5 c o q2 q4 hc q1, q2, q3, ne_of_none q1 hla5, q5⟩⟩
def MadeK (T0 C CK : Addr) (b bd : Nat) (ls : List (List Int)) (H : Hp) (k : Addr) (H' : Hp) : Prop := ∃ (tl sa la bl : Addr) (zs : List (Addr × List Int)) (ws : List (List Int)) (L : Nat), KpAt C CK H' k tl sa la b bd bl zs ws L ∧ zs.map (·.2) = ls ∧ SameL T0 H H' ∧ LT T0 H' ∧ H k = none ∧ H la = none ∧ H sa = none ∧ H bl = none ∧ ∀ c o, H c = some o → ClrK c H' k tl sa la bl zs
theorem made_K {T0 C CK : Addr} {r : Addr} {b bd : Nat} {bl : Addr} {zs : List (Addr × List Int)} {H : Hp} (R : RuleAt H r b bl zs) (g : GoodRule b (zs.map (·.2))) (hT : LT T0 H) {R' : Addr → Hp → Prop} (k : ∀ x H', MadeK T0 C CK b bd (zs.map (·.2)) H x H' → R' x H') :
    ∀ x dx, H x = none → H dx = none → dx ≠ x → sp_keeper T0 C CK (.ref x :: ([.ref r, .int bd] ++ [])) (upd (upd H dx (.own x)) x (.ins CK dx [])) (fun v H2 => v = .non ∧ R' x H2) E0 := by
  intro x dx nx ndx nex
  have s0 := mk_same (C := CK) nx ndx
  refine ⟨x, dx, r, b, bl, zs, bd, rfl, upd_same, R.same s0, g, hT.same s0, fun tl sa la bl2 zs2 ws L H' KA e fr hT' hla hsa hbl cl => ⟨rfl, k x H' ⟨tl, sa, la, bl2, zs2, ws, L, KA, e, fun c o hc e => fr c o (ne_of_none e nx) hc (s0 c o e), hT', nx, s0.free hla, s0.free hsa, s0.free hbl, fun c o e => cl c o (s0 _ _ e) (ne_of_none e nx)⟩⟩⟩
section
variable {P : Program} {w : World} {K : PySem.W.Frag} {mg : Str → Option Value} {base : Heap} {T0 C CK : Addr}
def sp__law_order_right (T0 : Addr) : Sp := fun vs H Q _ => ∃ (r : Addr) (b bd : Nat) (bl : Addr) (zs : List (Addr × List Int)) (so : Addr) (os : List (Addr × List Int)), vs = [.ref r, .int bd, .ref so] ∧ RuleAt H r b bl zs ∧ GoodRule b (zs.map (·.2)) ∧ LT T0 H ∧ bd < 2 ^ 900 ∧ zs.length ≤ 2 ∧ os.length ≤ 2 ∧ H so = some (.lst (os.map fun z => V.ref z.1)) ∧ (∀ o ∈ os, H o.1 = some (.lst (o.2.map V.int))) ∧ (∀ o ∈ os, GoodSt b o.2 ∧ o.2 ∉ zs.map (·.2)) ∧ (os.map (·.2)).Nodup ∧
  ∀ H', SameL T0 H H' → LT T0 H' → Q (.bl true) H'
theorem sc__law_order_right : FnScope ["rule", "b", "some", "one", "other", "stretch"] ["rule", "b", "some"] (defScope s__law_order_right) := ⟨rfl, rfl, rfl, by decide +kernel, rfl, by decide +kernel, by decide +kernel⟩
set_option maxHeartbeats 8000000 in
theorem ok__law_order_right {f f1 f2 f3 f4 : Addr} {fd fd1 fd2 fd3 fd4 : FuncData} (D : Df K mg "_law_order_right" s__law_order_right ["rule", "b", "some"] f fd) (D_law_copy : Df K mg "_law_copy" s__law_copy ["rule"] f1 fd1) (D_law_stand : Df K mg "_law_stand" s__law_stand ["keeper"] f2 fd2) (G_law_stand : FnOk P w K mg base CX0 6 f2 fd2 ["keeper"] (sp__law_stand T0 C CK)) (MKeeper_come : Mt K CK "Keeper.come" "come" s_Keeper_come ["self", "stretch"] f3 fd3) (GKeeper_come : FnOk P w K mg base CX0 10 f3 fd3 ["self", "stretch"] (sp_come T0 C CK)) (KKeeper : Mk K CK f4) (BKeeper : Binds K fd4 ["self", "rule", "b"] []) (GKeeper_init : FnOk P w K mg base CX0 9 f4 fd4 ["self", "rule", "b"] (sp_keeper T0 C CK)) (cKeeper : ClK K mg CK) (T : Blt mg) : FnOk P w K mg base CX0 11 f fd ["rule", "b", "some"] (sp__law_order_right T0) := by
  have G_law_copy : FnOk P w K mg base CX0 1 f1 fd1 ["rule"] sp__law_copy := ok__law_copy D_law_copy T
  refine D.fn.ok sc__law_order_right (fun vs H Q E h => ?_) (fun cdv A outer s H vs Q E hr h => ?_)
  · obtain ⟨r, b, bd, bl, zs, so, os, rfl, _⟩ := h; rfl
  · obtain ⟨r, b, bd, bl, zs, so, os, rfl, R, g, hT, hbd, hz2, ho2, hso, hos, gos, ndo, kk⟩ := h
    have HU := HUof hr
    refine ⟨_, (pss_cons (ps_set (i := 3) sc__law_order_right.nd rfl (Or.inl rfl) (pe_make KKeeper GKeeper_init (hr.mono (by decide)) rfl cKeeper.nm BKeeper .nil pass0 (pa_cons (pcall D_law_copy G_law_copy (hr.mono (by decide)) (pa_cons (pv 0) pa_nil)) (pa_cons (pv 1) pa_nil))))
      (pss_cons (ps_set (i := 4) sc__law_order_right.nd rfl (Or.inl rfl) (pe_make KKeeper GKeeper_init (hr.mono (by decide)) rfl cKeeper.nm BKeeper .nil pass0 (pa_cons (pcall D_law_copy G_law_copy (hr.mono (by decide)) (pa_cons (pv 0) pa_nil)) (pa_cons (pv 1) pa_nil))))
      (pss_cons (ps_for PassesOwn.never rfl (k_pi K (pv 2)) (pg_name (i := 5) sc__law_order_right.nd rfl (Or.inl rfl))
        (pss_one (ps_expr (pmeth MKeeper_come cKeeper.cl GKeeper_come (hr.mono (by decide)) (pv 3) (pa_cons (pe_callTy (k_listOf K) (by rfl) T.n_list boot_list (pa_cons (pv 5) pa_nil)) pa_nil)))))
      (pss_cons (ps_for PassesOwn.never rfl (k_pi K (pe_revSlice (pv 2))) (pg_name (i := 5) sc__law_order_right.nd rfl (Or.inl rfl))
        (pss_one (ps_expr (pmeth MKeeper_come cKeeper.cl GKeeper_come (hr.mono (by decide)) (pv 4) (pa_cons (pe_callTy (k_listOf K) (by rfl) T.n_list boot_list (pa_cons (pv 5) pa_nil)) pa_nil)))))
      (pss_one (ps_ret (pe_cmpR (k_eqT K HU) (pcall D_law_stand G_law_stand (hr.mono (by decide)) (pa_cons (pv 3) pa_nil)) (pcall D_law_stand G_law_stand (hr.mono (by decide)) (pa_cons (pv 4) pa_nil)) (nomark _)))))))), ?_⟩
    refine ⟨_, rfl, r, b, bl, zs, rfl, R, by omega, fun r1 bl1 zs1 H1 s1 R1 e1 _ _ _ => ⟨_, rfl, made_K R1 (by rw [e1]; exact g) (hT.same s1) ?_⟩⟩
    rintro k1 H2 ⟨tl1, sa1, la1, bb1, zz1, ws1, L1, A1, ea1, m2, T2, nk1, nla1, nsa1, nbl1, _⟩
    have m2' := (SameL.of (T := T0) s1).trans m2
    refine ⟨_, rfl, r, b, bl, zs, rfl, R.sameL hT m2', by omega, fun r3 bl3 zs3 H3 s3 R3 e3 _ _ _ => ⟨_, rfl, made_K R3 (by rw [e3]; exact g) (T2.same s3) ?_⟩⟩
    rintro k2 H4 ⟨tl2, sa2, la2, bb2, zz2, ws2, L2, A2, ea2, m4, T4, nk2, nla2, nsa2, nbl2, _⟩
    have A3 := A1.same s3
    have B4 := A3.sameL (T2.same s3) m4
    have Du : DuoK T0 C CK H H4 k1 k2 b bd (zs.map (·.2)) (zs.map (·.2)) := by
      obtain ⟨_, w1⟩ := A3.sas
      obtain ⟨_, w2⟩ := A3.las
      obtain ⟨_, w3⟩ := A3.ob
      refine ⟨tl1, sa1, la1, bb1, zz1, ws1, L1, tl2, sa2, la2, bb2, zz2, ws2, L2, B4, A2, ea1.trans e1, ea2.trans e3, ⟨Ne.symm (ne_of_none w3 nk2), Ne.symm (ne_of_none w2 nsa2), Ne.symm (ne_of_none w2 nla2), Ne.symm (ne_of_none w2 nbl2)⟩, ⟨ne_of_none w3 nk2, ne_of_none w1 nla2, ne_of_none w2 nla2, ne_of_none A3.li nla2⟩, T4, fun c o hc e => ?_⟩
      have q3 := s3 _ _ (m2' c o hc e)
      exact ⟨m4 _ _ hc q3, ne_of_none (s1 _ _ e) nk1, ne_of_none q3 nk2, ne_of_none (s1 _ _ e) nla1, ne_of_none q3 nla2⟩
    have hsoT := hT.lst hso
    have hosT : ∀ o ∈ os, o.1 ≠ T0 := fun o ho => hT.lst (hos o ho)
    refine ⟨_, rfl, so, rfl, ⟨_, SqL.of (Du.sameL _ _ hsoT hso)⟩, for_list (K := K) (a := so) (xs := os.map fun z => V.ref z.1) (fun i σ H5 => ∃ (v5 : Option V) (ls' : List (List Int)), σ = [some (.ref r), some (.int bd), some (.ref so), some (.ref k1), some (.ref k2), v5] ∧ (∀ x, x ∈ ls' ↔ x ∈ zs.map (·.2) ∨ x ∈ (os.take i).map (·.2)) ∧ ls'.length = zs.length + i ∧ DuoK T0 C CK H H5 k1 k2 b bd ls' (zs.map (·.2)))
      ⟨none, _, rfl, fun x => by simp, by rw [List.length_map]; rfl, Du⟩ (fun i σ H5 _ ⟨_, _, _, _, _, d⟩ => SqL.of (d.sameL _ _ hsoT hso)) ?_ ?_⟩
    · rintro i x σ H5 hx ⟨v5, ls', rfl, hmem, hlen, D5⟩
      rw [List.getElem?_map] at hx
      obtain ⟨o, hoi, e⟩ := Option.map_eq_some_iff.mp hx
      subst e
      have hom := List.mem_of_getElem? hoi
      have hi : i < os.length := (List.getElem?_eq_some_iff.mp hoi).1
      have hnot : o.2 ∉ ls' := fun hz => by
        rcases (hmem o.2).mp hz with h | h
        · exact (gos o hom).2 h
        · obtain ⟨o', ho', e'⟩ := List.mem_map.mp h
          obtain ⟨j, hj, ej⟩ := List.mem_iff_getElem.mp ho'
          rw [List.length_take] at hj
          rw [List.getElem_take] at ej
          have := List.pairwise_iff_getElem.mp ndo j i (by rw [List.length_map]; omega) (by rw [List.length_map]; exact hi) (by omega)
          rw [List.getElem_map, List.getElem_map, ej, (List.getElem?_eq_some_iff.mp hoi).2] at this
          exact this e'
      obtain ⟨dx5, bq, tq, hk5⟩ := D5.ob
      refine ⟨_, rfl, k1, dx5, _, rfl, hk5, fldK_no _ _ _ _, _, rfl, o.1, _, rfl, .inl (SqL.of (D5.sameL _ _ (hosT o hom) (hos o hom))), fun q hq => ?_⟩
      refine (D5.same (same_upd hq (o := .lst (o.2.map V.int)))).come hbd upd_same (gos o hom).1 hnot (by omega) fun ls6 H6 pm D6 => ⟨_, ls6, rfl, fun x => ?_, ?_, D6⟩
      · rw [pm.mem_iff, List.mem_append, List.mem_singleton, hmem x, List.take_succ, hoi]
        simp [or_assoc]
      · have := pm.length_eq
        rw [List.length_append, List.length_singleton] at this
        omega
    rintro σ H5 ⟨v5, ls1, rfl, hmem1, hlen1, D5⟩
    rw [List.length_map] at hmem1 hlen1
    rw [List.take_length] at hmem1
    refine ⟨_, rfl, so, _, rfl, SqL.of (D5.sameL _ _ hsoT hso), fun so2 hso2 => ?_⟩
    have D6 := D5.symm.new (o := .lst (os.map fun z => V.ref z.1).reverse) hso2
    have hso2T : so2 ≠ T0 := D5.elim fun _ ⟨_, _, _, _, _, _, _, _, _, _, _, _, _, _, _, _, _, _, _, t, _⟩ => t.none hso2
    have hso2H : H so2 = none := by
      cases e : H so2 with
      | none => rfl
      | some o => rw [D5.sameL _ _ hso2T e] at hso2; cases hso2
    have keep : ∀ {H7 : Hp} {ls ls2 : List (List Int)}, DuoK T0 C CK (upd H so2 (.lst (os.map fun z => V.ref z.1).reverse)) H7 k2 k1 b bd ls ls2 → SameL T0 H H7 := fun d c o hc e => d.sameL _ _ hc (by rw [upd_ne (ne_of_none e hso2H)]; exact e)
    have hs2 : ∀ {H7 : Hp} {ls ls2 : List (List Int)}, DuoK T0 C CK (upd H so2 (.lst (os.map fun z => V.ref z.1).reverse)) H7 k2 k1 b bd ls ls2 → H7 so2 = some (.lst (os.reverse.map fun z => V.ref z.1)) := fun d => by rw [List.map_reverse]; exact d.sameL _ _ hso2T upd_same
    refine ⟨so2, rfl, ⟨_, SqL.of (hs2 D6)⟩, for_list (K := K) (a := so2) (xs := os.reverse.map fun z => V.ref z.1) (fun i σ H7 => ∃ (v5 : Option V) (ls' : List (List Int)), σ = [some (.ref r), some (.int bd), some (.ref so), some (.ref k1), some (.ref k2), v5] ∧ (∀ x, x ∈ ls' ↔ x ∈ zs.map (·.2) ∨ x ∈ (os.reverse.take i).map (·.2)) ∧ ls'.length = zs.length + i ∧ DuoK T0 C CK (upd H so2 (.lst (os.map fun z => V.ref z.1).reverse)) H7 k2 k1 b bd ls' ls1)
      ⟨v5, _, rfl, fun x => by simp, by rw [List.length_map]; rfl, D6⟩ (fun i σ H7 _ ⟨_, _, _, _, _, d⟩ => SqL.of (hs2 d)) ?_ ?_⟩
    · rintro i x σ H7 hx ⟨v7, ls', rfl, hmem, hlen, D7⟩
      rw [List.getElem?_map] at hx
      obtain ⟨o, hoi, e⟩ := Option.map_eq_some_iff.mp hx
      subst e
      have hom : o ∈ os := List.mem_reverse.mp (List.mem_of_getElem? hoi)
      have hi : i < os.reverse.length := (List.getElem?_eq_some_iff.mp hoi).1
      have ndr : (os.reverse.map (·.2)).Nodup := by rw [List.map_reverse]; exact List.pairwise_reverse.mpr (ndo.imp fun h => Ne.symm h)
      have hnot : o.2 ∉ ls' := fun hz => by
        rcases (hmem o.2).mp hz with h | h
        · exact (gos o hom).2 h
        · obtain ⟨o', ho', e'⟩ := List.mem_map.mp h
          obtain ⟨j, hj, ej⟩ := List.mem_iff_getElem.mp ho'
          rw [List.length_take] at hj
          rw [List.getElem_take] at ej
          have := List.pairwise_iff_getElem.mp ndr j i (by rw [List.length_map]; omega) (by rw [List.length_map]; exact hi) (by omega)
          rw [List.getElem_map, List.getElem_map, ej, (List.getElem?_eq_some_iff.mp hoi).2] at this
          exact this e'
      rw [List.length_reverse] at hi
      obtain ⟨dx5, bq, tq, hk5⟩ := D7.ob
      refine ⟨_, rfl, k2, dx5, _, rfl, hk5, fldK_no _ _ _ _, _, rfl, o.1, _, rfl, .inl (SqL.of (keep D7 _ _ (hosT o hom) (hos o hom))), fun q hq => ?_⟩
      refine (D7.same (same_upd hq (o := .lst (o.2.map V.int)))).come hbd upd_same (gos o hom).1 hnot (by omega) fun ls6 H6 pm D6 => ⟨_, ls6, rfl, fun x => ?_, ?_, D6⟩
      · rw [pm.mem_iff, List.mem_append, List.mem_singleton, hmem x, List.take_succ, hoi]
        simp [or_assoc]
      · have := pm.length_eq
        rw [List.length_append, List.length_singleton] at this
        omega
    rintro σ H7 ⟨v7, ls2, rfl, hmem2, hlen2, D7⟩
    rw [List.length_map] at hmem2
    rw [List.take_length] at hmem2
    have sl7 := keep D7
    obtain ⟨tl, sa, la, bl, zs2, ws, L, tl', sa', la', bl', zs1, ws', L', B, A, ez2, ez1, S1, S2, hT7, kp⟩ := D7
    have el : ls1 = ls2 := by
      refine up_same (by rw [← ez1]; exact A.gt.g.up) (by rw [← ez2]; exact B.gt.g.up) fun x => ?_
      rw [hmem1 x, hmem2 x, List.map_reverse, List.mem_reverse]
    refine ⟨_, rfl, k1, tl', sa', la', b, bd, bl', zs1, ws', L', rfl, A, hT7, fun p8 r8 b8 z8 L8 H8 SA8 KA8 m8 T8 F8 _ => ?_⟩
    have B8 := A.off B hT7 (Off.aw (T := T0) (k := k1) m8) S2
    refine ⟨_, rfl, k2, tl, sa, la, b, bd, bl, zs2, ws, L, rfl, B8, T8, fun p9 r9 b9 z9 L9 H9 SA9 KA9 m9 T9 F9 _ => ?_⟩
    obtain ⟨_, wl⟩ := B.las
    have nn : ∀ {c : Addr}, H7 c = none → c ∉ [la] := fun {c} h => by simpa using Ne.symm (ne_of_none wl h)
    have SB := ((SA8.into (nn F8.p) (nn F8.r) (nn F8.bl) (fun z hz => nn (F8.z z hz))).same m9).same (aw_same _ _)
    refine ⟨tSt b (zs1.map (·.2)), tSt b (zs2.map (·.2)), TrAt.stand SB, TrAt.stand SA9, tSt_dep _ _, ?_⟩
    rw [if_neg (by decide), ez1, ez2, el, teq_refl]
    refine kk H9 (fun c o hc e => ?_) T9
    obtain ⟨q1, q2, q3, q4, q5⟩ := kp c o hc (by rw [upd_ne (ne_of_none e hso2H)]; exact e)
    exact go_la m9 q4 (go_la m8 q5 q1)
end
end Lw
set_option Elab.async false
set_option linter.all false
set_option maxRecDepth 100000
namespace Lw
open PySem L2 PyProof.Rows
theorem hasS_front {x : Int} {st fs : List Int} (h : st ≠ []) (hs : hasS (x :: st) fs = true) : hasS st fs = true := by
  obtain ⟨k, e⟩ := (hasS_iff (List.cons_ne_nil _ _)).mp hs
  refine (hasS_iff h).mpr ⟨k + 1, ?_⟩
  rw [List.length_cons] at e
  rw [← List.drop_drop]
  cases hd : fs.drop k with
  | nil => rw [hd] at e; simp at e
  | cons y ys =>
    rw [hd, List.take_succ_cons] at e
    rw [List.drop_succ_cons, List.drop_zero]
    exact (List.cons.inj e).2
theorem hasS_back {x : Int} {st fs : List Int} (h : st ≠ []) (hs : hasS (st ++ [x]) fs = true) : hasS st fs = true := by
  obtain ⟨k, e⟩ := (hasS_iff (by simp)).mp hs
  refine (hasS_iff h).mpr ⟨k, ?_⟩
  have e2 := congrArg (List.take st.length) e
  rw [List.take_take, List.length_append, Nat.min_eq_left (by omega), List.take_left'  rfl] at e2
  exact e2
theorem lacks_iff {ls : List (List Int)} {fs : List Int} : lacks ls fs = true ↔ ∀ st ∈ ls, hasS st fs = false := by
  unfold lacks
  rw [Bool.not_eq_true', List.any_eq_false]
  exact ⟨fun h st hst => by simpa using h st hst, fun h st hst => by simp [h st hst]⟩
theorem many_within {b bd : Nat} {l1 l2 : List (List Int)} {st mo : List Int} (pm : l2.Perm (l1 ++ [mo])) (hst : st ∈ l1) (hw : ∀ fs, hasS mo fs = true → hasS st fs = true) : many (gd l2 b) bd = many (gd l1 b) bd := by
  have e : gd l2 b = gd l1 b := by
    funext n
    unfold gd
    rw [Bool.eq_iff_iff, lacks_iff, lacks_iff]
    constructor
    · intro h x hx
      exact h x (pm.mem_iff.mpr (List.mem_append_left _ hx))
    · intro h x hx
      rcases List.mem_append.mp (pm.mem_iff.mp hx) with h' | h'
      · exact h x h'
      · have e : x = mo := by simpa using h'
        rw [e]
        have := h st hst
        cases hq : hasS mo (figs b n) with
        | false => rfl
        | true => rw [hw _ hq] at this; cases this
  rw [e]
theorem KpAt.clr {C CK : Addr} {H H' : Hp} {s k tl sa la : Addr} {b bd : Nat} {bl : Addr} {zs : List (Addr × List Int)} {ws : List (List Int)} {L : Nat} (A : KpAt C CK H k tl sa la b bd bl zs ws L) (q : ClrK s H k tl sa la bl zs) (m : ∀ c o, c ≠ s → H c = some o → H' c = some o) : KpAt C CK H' k tl sa la b bd bl zs ws L ∧ ClrK s H' k tl sa la bl zs := by
  obtain ⟨dx, h1⟩ := A.ob
  obtain ⟨dt, h2⟩ := A.sa
  obtain ⟨xs1, w1⟩ := A.las
  obtain ⟨xs2, w2⟩ := A.sas
  obtain ⟨dx', sa', srs, t1, t2, t3, t4⟩ := A.ta.ob
  obtain ⟨lrs, g1, g2, g3⟩ := A.ta.ly
  have esa : sa = sa' := by
    have := aw_same _ _ _ _ t1
    rw [h2] at this
    injection this with this
    injection this with _ _ this
    have e := fldT_steps b ws.length sa' la
    rw [← this, fldT_steps] at e
    injection e with e
    injection e
  subst esa
  have go : ∀ c u, c ≠ s → aw [la] H c = some u → aw [la] H' c = some u := fun c u hc e => by
    have hcl : c ∉ [la] := fun hz => by rw [aw_in hz] at e; cases e
    rw [aw_out hcl] at e ⊢
    exact m c u hc e
  refine ⟨⟨⟨dx, m _ _ (Ne.symm q.nk) h1⟩, m _ _ (Ne.symm q.nbl) A.li, fun z hz => m _ _ (Ne.symm (q.nz z hz)) (A.st z hz), ⟨⟨dx', sa, srs, go _ _ (Ne.symm q.ntl) t1, go _ _ (Ne.symm q.nsa) t2, fun z hz => go _ _ (fun e => ?_) (t3 z hz), t4⟩, ⟨lrs, m _ _ (Ne.symm q.nla) g1, fun z hz => go _ _ (fun e => ?_) (g2 z hz), g3⟩, A.ta.l1⟩, ⟨dt, m _ _ (Ne.symm q.ntl) h2⟩, A.gt, A.bla, A.l⟩, ⟨q.nk, q.ntl, q.nsa, q.nla, q.nbl, q.nz, q.rla.same w1 (m _ _ (Ne.symm q.nla) w1), q.rsa.same w2 (m _ _ (Ne.symm q.nsa) w2)⟩⟩
  · exact q.rsa _ (aw_same _ _ _ _ t2) (List.mem_map.mpr ⟨z, hz, by rw [e]⟩)
  · exact q.rla _ g1 (List.mem_map.mpr ⟨z, hz, by rw [e]⟩)
theorem LT.stq {T s : Addr} {H H' : Hp} (h : LT T H) (S : Sto H s) (m : ∀ c o, c ≠ s → H c = some o → H' c = some o) : LT T H' := by
  obtain ⟨g, x, k, e⟩ := S
  have n0 : T ≠ s := Ne.symm (h.lst e)
  rcases h with h | ⟨c, h1, h2⟩
  · exact .inl (m _ _ n0 h)
  · refine .inr ⟨c, m _ _ n0 h1, m _ _ (fun z => ?_) h2⟩
    rw [z, e] at h2
    cases h2
theorem seq_gen {a b : TS} {D : Ends} {σ : L2.St} {H : Hp} (J : L2.St → Hp → Prop) (hb : ∀ σ' H', J σ' H' → b D σ' H') (ha : ∀ N : L2.St → Hp → Prop, (∀ σ' H', J σ' H' → N σ' H') → a { D with nx := N } σ H) : tSeq a b D σ H := ha _ hb
def KZ (T0 C CK : Addr) (H : Hp) (s k tl sa la bl : Addr) (zs : List (Addr × List Int)) (b bd : Nat) (H' : Hp) : Prop := ∃ (tl2 sa2 la2 bl2 : Addr) (zs2 : List (Addr × List Int)) (ws2 : List (List Int)) (L2 : Nat), KpAt C CK H' k tl2 sa2 la2 b bd bl2 zs2 ws2 L2 ∧ zs2.map (·.2) = zs.map (·.2) ∧ (∀ c o, c ≠ s → c ≠ k → c ≠ la → c ≠ T0 → H c = some o → H' c = some o) ∧ Sto H' s ∧ LT T0 H'
section
variable {P : Program} {w : World} {K : PySem.W.Frag} {mg : Str → Option Value} {base : Heap} {T0 C CK : Addr}
def sp__law_within_right (T0 C CK : Addr) : Sp := fun vs H Q _ => ∃ (s k tl sa la : Addr) (b bd : Nat) (bl : Addr) (zs : List (Addr × List Int)) (ws : List (List Int)) (L : Nat) (st : Addr) (ns : List Int), vs = [.ref s, .ref k, .int b, .ref st] ∧ Sto H s ∧ KpAt C CK H k tl sa la b bd bl zs ws L ∧ ClrK s H k tl sa la bl zs ∧ LT T0 H ∧ bd < 2 ^ 900 ∧ zs.length ≤ 2 ∧ aw [s] H st = some (.lst (ns.map V.int)) ∧ GoodSt b ns ∧ ns ∉ zs.map (·.2) ∧
  ∀ H', KZ T0 C CK H s k tl sa la bl zs b bd H' → Q (.bl true) H'
theorem sc__law_within_right : FnScope ["store", "keeper", "base", "stretch", "more", "told"] ["store", "keeper", "base", "stretch"] (defScope s__law_within_right) := ⟨rfl, rfl, rfl, by decide +kernel, rfl, by decide +kernel, by decide +kernel⟩
set_option maxHeartbeats 8000000 in
theorem ok__law_within_right {f f1 f2 f3 f4 : Addr} {fd fd1 fd2 fd3 fd4 : FuncData} (D : Df K mg "_law_within_right" s__law_within_right ["store", "keeper", "base", "stretch"] f fd) (D_law_take : Df K mg "_law_take" s__law_take ["store", "many"] f1 fd1) (MKeeper_come : Mt K CK "Keeper.come" "come" s_Keeper_come ["self", "stretch"] f2 fd2) (GKeeper_come : FnOk P w K mg base CX0 10 f2 fd2 ["self", "stretch"] (sp_come T0 C CK)) (MKeeper_go : Mt K CK "Keeper.go" "go" s_Keeper_go ["self", "stretch"] f3 fd3) (GKeeper_go : FnOk P w K mg base CX0 10 f3 fd3 ["self", "stretch"] (sp_go T0 C CK)) (MKeeper_rule : Mt K CK "Keeper.rule" "rule" s_Keeper_rule ["self"] f4 fd4) (GKeeper_rule : FnOk P w K mg base CX0 2 f4 fd4 ["self"] (sp_rule C CK)) (cKeeper : ClK K mg CK) (T : Blt mg) : FnOk P w K mg base CX0 11 f fd ["store", "keeper", "base", "stretch"] (sp__law_within_right T0 C CK) := by
  have G_law_take : FnOk P w K mg base CX0 1 f1 fd1 ["store", "many"] sp__law_take := ok__law_take D_law_take T
  refine D.fn.ok sc__law_within_right (fun vs H Q E h => ?_) (fun cdv A outer s H vs Q E hr h => ?_)
  · obtain ⟨s, k, tl, sa, la, b, bd, bl, zs, ws, L, st, ns, rfl, _⟩ := h; rfl
  · obtain ⟨s, k, tl, sa, la, b, bd, bl, zs, ws, L, st, ns, rfl, S, KA, CL, hT, hbd, hz2, hst, gst, hnot, kk⟩ := h
    have HU := HUof hr
    have b2 := KA.gt.g.b2
    have b16 := KA.gt.g.b16
    refine ⟨_, (pss_cons (ps_if (pt_cmpR op_gt (pe_callB (k_len K) (by rfl) T.n_len PySem.boot_len (pa_cons (pv 3) pa_nil)) pe_int (nomark _))
        (pss_one (ps_ret pe_bl))
        pss_nil)
      (pss_cons (ps_set (i := 4) sc__law_within_right.nd rfl (Or.inl rfl) (pe_ix (k_ixL K) (pe_lst (pa_cons (pe_op op_cat (pe_lst (pa_cons (pcall D_law_take G_law_take (hr.mono (by decide)) (pa_cons (pv 0) (pa_cons (pv 2) pa_nil))) pa_nil)) (pv 3)) (pa_cons (pe_op op_cat (pv 3) (pe_lst (pa_cons (pcall D_law_take G_law_take (hr.mono (by decide)) (pa_cons (pv 0) (pa_cons (pv 2) pa_nil))) pa_nil))) pa_nil))) (pcall D_law_take G_law_take (hr.mono (by decide)) (pa_cons (pv 0) (pa_cons pe_int pa_nil))) (fun _ _ => rfl)))
      (pss_cons (ps_expr (pmeth MKeeper_come cKeeper.cl GKeeper_come (hr.mono (by decide)) (pv 1) (pa_cons (pe_callTy (k_listOf K) (by rfl) T.n_list boot_list (pa_cons (pv 3) pa_nil)) pa_nil)))
      (pss_cons (ps_if (pt_cmpR (k_notInT K HU) (pv 4) (pe_ix (k_ixT K) (pmeth0 MKeeper_rule cKeeper.cl GKeeper_rule (hr.mono (by decide)) (pv 1)) pe_int (fun _ _ => rfl)) (by with_unfolding_all rfl))
        (pss_cons (ps_set (i := 5) sc__law_within_right.nd rfl (Or.inl rfl) (pmeth MKeeper_come cKeeper.cl GKeeper_come (hr.mono (by decide)) (pv 1) (pa_cons (pe_callTy (k_listOf K) (by rfl) T.n_list boot_list (pa_cons (pv 4) pa_nil)) pa_nil)))
        (pss_one (ps_if (PW.pt (pw_or (pt_cmpR op_ne (pe_ix (k_ixT K) (pv 5) pe_int (fun _ _ => rfl)) (pe_ix (k_ixT K) (pv 5) pe_int (fun _ _ => rfl)) (nomark _)) (pw_or1 (pt_cmpR (k_neT K HU) (pmeth MKeeper_go cKeeper.cl GKeeper_go (hr.mono (by decide)) (pv 1) (pa_cons (pe_callTy (k_listOf K) (by rfl) T.n_list boot_list (pa_cons (pv 4) pa_nil)) pa_nil)) (pv 5) (nomark _)))))
          (pss_one (ps_ret pe_bl))
          pss_nil)))
        pss_nil)
      (pss_cons (ps_expr (pmeth MKeeper_go cKeeper.cl GKeeper_go (hr.mono (by decide)) (pv 1) (pa_cons (pe_callTy (k_listOf K) (by rfl) T.n_list boot_list (pa_cons (pv 3) pa_nil)) pa_nil)))
      (pss_one (ps_ret pe_bl))))))), ?_⟩
    obtain ⟨nst, hstH⟩ := aw_get hst
    obtain ⟨sg, sx, sk, hs⟩ := S
    have S : Sto H s := ⟨sg, sx, sk, hs⟩
    have sT : s ≠ T0 := hT.lst hs
    refine ⟨_, rfl, st, _, rfl, .inl (SqL.of hstH), _, _, rfl, rfl, _, rfl, ?_⟩
    rw [List.length_map]
    refine ite2 (fun hc => ?_) (fun hc => ?_)
    · exact kk H ⟨tl, sa, la, bl, zs, ws, L, KA, rfl, fun c o _ _ _ _ e => e, S, hT⟩
    have h3 : ns.length ≤ 3 := by
      by_cases z : ns.length ≤ 3
      · exact z
      · exact absurd (decide_eq_true (by omega : (3 : Int) < (ns.length : Nat))) hc
    refine ⟨_, rfl, _, rfl, s, _, rfl, S, by omega, by omega, fun x1 H1 hx1 S1 => ⟨(by show 1 ≤ sizeLine; decide), fun l1 hl1 => ?_⟩⟩
    have S2 := S1.new hl1 (o := .lst [V.int x1])
    refine ⟨_, rfl, l1, st, _, _, rfl, rfl, upd_same, S2.sm _ _ nst hstH, by rw [List.length_map]; exact Nat.le_trans (show 1 + ns.length ≤ 4 by omega) (by decide), fun l2 hl2 => ?_⟩
    have S3 := S2.new hl2 (o := .lst ([V.int x1] ++ ns.map V.int))
    have n2 : l2 ≠ s := S2.st.ne hl2
    refine ⟨_, rfl, _, rfl, _, rfl, s, _, rfl, S3.st, by omega, by omega, fun x2 H4 hx2 S4 => ⟨(by show 1 ≤ sizeLine; decide), fun l3 hl3 => ?_⟩⟩
    have h24 : H4 l2 = some (.lst (((x1 : Int) :: ns).map V.int)) := S4.sm _ _ n2 upd_same
    have S5 := (S3.trans S4).new hl3 (o := .lst [V.int x2])
    refine ⟨st, l3, _, _, rfl, rfl, S5.sm _ _ nst hstH, upd_same, by rw [List.length_map]; exact Nat.le_trans (show ns.length + 1 ≤ 4 by omega) (by decide), fun l4 hl4 => ?_⟩
    have S6 := S5.new hl4 (o := .lst (ns.map V.int ++ [V.int x2]))
    have n4 : l4 ≠ s := S5.st.ne hl4
    refine ⟨(by show 2 ≤ sizeLine; decide), fun l5 hl5 => ?_⟩
    have S7 := S6.new hl5 (o := .lst [V.ref l2, V.ref l4])
    have n5 : l5 ≠ s := S6.st.ne hl5
    refine ⟨_, rfl, s, _, rfl, S7.st, by decide, by decide, fun x3 H8 hx3 S8 => ?_⟩
    have h5 : H8 l5 = some (.lst [V.ref l2, V.ref l4]) := S8.sm _ _ n5 upd_same
    have s57 : Same H4 (upd (upd (upd H4 l3 (.lst [V.int x2])) l4 (.lst (ns.map V.int ++ [V.int x2]))) l5 (.lst [V.ref l2, V.ref l4])) := (same_upd hl3).trans ((same_upd hl4).trans (same_upd hl5))
    have h2 : H8 l2 = some (.lst (((x1 : Int) :: ns).map V.int)) := S8.sm _ _ n2 (s57 _ _ h24)
    have h4 : H8 l4 = some (.lst ((ns ++ [(x2 : Int)]).map V.int)) := S8.sm _ _ n4 (by rw [List.map_append]; exact same_upd hl5 _ _ upd_same)
    have SH := S7.trans S8
    have gx : ∀ x : Nat, (x : Int) < b → 0 ≤ (x : Int) ∧ (x : Int) < b := fun x h => ⟨by omega, h⟩
    obtain ⟨mo, mns, hat, nmo, hmo, hmw, gmo⟩ : ∃ (mo : Addr) (mns : List Int), atI [V.ref l2, V.ref l4] (x3 : Int) = some (V.ref mo) ∧ mo ≠ s ∧ H8 mo = some (.lst (mns.map V.int)) ∧ (∀ fs, hasS mns fs = true → hasS ns fs = true) ∧ GoodSt b mns := by
      have h2' : x3 < 2 := by omega
      match x3, h2' with
      | 0, _ => exact ⟨l2, _, rfl, n2, h2, fun fs h => hasS_front gst.ne h, ⟨List.cons_ne_nil _ _, by rw [List.length_cons]; omega, fun f hf => by
          rcases List.mem_cons.mp hf with e | e
          · rw [e]; exact gx x1 hx1
          · exact gst.fig f e⟩⟩
      | 1, _ => exact ⟨l4, _, rfl, n4, h4, fun fs h => hasS_back gst.ne h, ⟨by simp, by rw [List.length_append, List.length_singleton]; omega, fun f hf => by
          rcases List.mem_append.mp hf with e | e
          · exact gst.fig f e
          · have e' : f = (x2 : Int) := by simpa using e
            rw [e']; exact gx x2 hx2⟩⟩
    refine ⟨l5, _, _, V.ref mo, rfl, rfl, SqL.of h5, hat, ?_⟩
    clear h2 h4 h24 s57 S1 S2 S3 S4 S5 S6 S7 S8 h5 hl1 hl2 hl3 hl4 hl5 hat n2 n4 n5 hx1 hx2 hx3
    obtain ⟨KA8, CL8⟩ := KA.clr CL SH.sm
    have T8 := hT.stq S SH.sm
    have hst8 := SH.sm _ _ nst hstH
    obtain ⟨tg, tx, tk, hs8⟩ := SH.st
    obtain ⟨dx8, hk8⟩ := KA8.ob
    refine ⟨_, rfl, k, dx8, _, rfl, hk8, fldK_no _ _ _ _, _, rfl, st, _, rfl, .inl (SqL.of hst8), fun q hq => ?_⟩
    have s9 := same_upd hq (o := .lst (ns.map V.int))
    have hq9 : upd H8 q (.lst (ns.map V.int)) q = some (.lst (ns.map V.int)) := upd_same
    have KA9 := KA8.same s9
    have T9 := T8.same s9
    have hst9 := s9 _ _ hst8
    have hmo9 := s9 _ _ hmo
    have hs9 := s9 _ _ hs8
    have up9 : ∀ c o, c ≠ s → H c = some o → upd H8 q (.lst (ns.map V.int)) c = some o := fun c o hc e => s9 _ _ (SH.sm c o hc e)
    generalize upd H8 q (.lst (ns.map V.int)) = H9 at s9 hq9 KA9 T9 hst9 hmo9 hs9 up9
    refine ⟨k, tl, sa, la, b, bd, bl, zs, ws, L, q, ns, rfl, KA9, hbd, T9, hq9, gst, hnot, by omega, fun p tl5 sa5 la5 bl5 zs5 ws5 L5 H5 hp hv KA5 pm O5 T5 hla5 hsa5 hbl5 pla _ => ?_⟩
    obtain ⟨dx9, hk9⟩ := KA9.ob
    have lk9 : ∀ {c : Addr} {xs : List V}, H9 c = some (.lst xs) → c ≠ k := fun h => ne_of h hk9 (fun z => nomatch z)
    have hmo5 := O5 _ _ (lk9 hmo9) (KA9.ila hmo9 gmo.ne) (T9.lst hmo9) hmo9
    have hs5 := O5 _ _ CL.nk CL.nla sT hs9
    have stla : st ≠ la := KA9.ila hst9 gst.ne
    have stk := lk9 hst9
    have stT := T9.lst hst9
    have CH5 : ∀ c o, c ≠ s → c ≠ k → c ≠ la → c ≠ T0 → H c = some o → H5 c = some o ∧ c ≠ la5 := fun c o h1 h2 h3 h4 e => ⟨O5 c o h2 h3 h4 (up9 c o h1 e), ne_of_none (up9 c o h1 e) hla5⟩
    have sla5 : s ≠ la5 := ne_of_none hs9 hla5
    have hns5 : ns ∈ zs5.map (·.2) := pm.mem_iff.mpr (by simp)
    have hz5 : zs5.length ≤ 3 := by
      have := pm.length_eq
      rw [List.length_map, List.length_append, List.length_map, List.length_singleton] at this
      omega
    have hcg := come_go KA.gt.g KA5.gt.g pm hnot
    dsimp only
    refine seq_gen (fun σ' H' => ∃ (v5 : Option V) (tl' sa' la' bl' : Addr) (zs' : List (Addr × List Int)) (ws' : List (List Int)) (L' : Nat), σ' = [some (.ref s), some (.ref k), some (.int b), some (.ref st), some (.ref mo), v5] ∧ KpAt C CK H' k tl' sa' la' b bd bl' zs' ws' L' ∧ zs'.map (·.2) = zs5.map (·.2) ∧ (∀ c o, c ≠ s → c ≠ k → c ≠ la → c ≠ T0 → H c = some o → H' c = some o ∧ c ≠ la') ∧ H' s = some (.lst [.int tg, .int tx, .int tk]) ∧ s ≠ la' ∧ LT T0 H') ?_ (fun N hN => ?_)
    · rintro σ' H' ⟨v5, tl', sa', la', bl', zs', ws', L', rfl, KA', ez, CH', hs', sla', T'⟩
      obtain ⟨hst', stla'⟩ := CH' st _ nst stk stla stT hstH
      obtain ⟨dx', hk'⟩ := KA'.ob
      refine ⟨_, rfl, k, dx', _, rfl, hk', fldK_no _ _ _ _, _, rfl, st, _, rfl, .inl (SqL.of hst'), fun q' hq' => ?_⟩
      have s6 := same_upd hq' (o := .lst (ns.map V.int))
      refine ⟨k, tl', sa', la', b, bd, bl', zs', ws', L', q', ns, rfl, KA'.same s6, hbd, T'.same s6, upd_same, by rw [ez]; exact hns5, fun p tl6 sa6 la6 bl6 zs6 ws6 L6 H6 hp hv KA6 ok6 O6 T6 hla6 hsa6 hbl6 pla _ => ?_⟩
      rw [ez, hcg] at ok6
      exact kk H6 ⟨tl6, sa6, la6, bl6, zs6, ws6, L6, KA6, ok6, fun c o h1 h2 h3 h4 e => O6 c o h2 (CH' c o h1 h2 h3 h4 e).2 h4 (s6 _ _ (CH' c o h1 h2 h3 h4 e).1), ⟨tg, tx, tk, O6 _ _ CL.nk sla' sT (s6 _ _ hs')⟩, T6⟩
    obtain ⟨dx5, hk5⟩ := KA5.ob
    refine ⟨_, rfl, _, rfl, k, dx5, _, rfl, hk5, fldK_no _ _ _ _, k, tl5, sa5, la5, b, bd, bl5, zs5, ws5, L5, rfl, KA5, fun r6 bl6 zs6 H6 s6 R6 e6 _ _ _ => ⟨r6, _, _, V.ref bl6, rfl, rfl, SqT.of R6.tu, rfl, bl6, _, (zs6.map (·.2)).map tInts, tInts mns, rfl, SqL.of R6.li, TrsAt.lists R6.st, TrAt.ints (a := mo) (SqL.of (s6 _ _ hmo5)), Nat.le_trans (tdeps_tInts _) (by decide), _, rfl, ?_⟩⟩
    rw [if_pos rfl, notin_any, e6]
    by_cases hin : mns ∈ zs5.map (·.2)
    · rw [decide_eq_true hin]
      refine iteF (hN _ _ ⟨_, tl5, sa5, la5, bl5, zs5, ws5, L5, rfl, KA5.same s6, rfl, fun c o h1 h2 h3 h4 e => ⟨s6 _ _ (CH5 c o h1 h2 h3 h4 e).1, (CH5 c o h1 h2 h3 h4 e).2⟩, s6 _ _ hs5, sla5, T5.same s6⟩)
    rw [decide_eq_false hin]
    refine iteT ?_
    have hk6 := s6 _ _ hk5
    have hmo6 := s6 _ _ hmo5
    refine ⟨_, rfl, k, dx5, _, rfl, hk6, fldK_no _ _ _ _, _, rfl, mo, _, rfl, .inl (SqL.of hmo6), fun q2 hq2 => ?_⟩
    have s7 := s6.trans (same_upd hq2 (o := .lst (mns.map V.int)))
    have hq7 : upd H6 q2 (.lst (mns.map V.int)) q2 = some (.lst (mns.map V.int)) := upd_same
    generalize upd H6 q2 (.lst (mns.map V.int)) = H7 at s7 hq7
    have KA7 := KA5.same s7
    have T7 := T5.same s7
    refine ⟨k, tl5, sa5, la5, b, bd, bl5, zs5, ws5, L5, q2, mns, rfl, KA7, hbd, T7, hq7, gmo, hin, hz5, fun p11 tl11 sa11 la11 bl11 zs11 ws11 L11 H11 hp11 hv11 KA11 pm11 O11 T11 hla11 hsa11 hbl11 pla11 _ => ?_⟩
    have em := many_within (b := b) (bd := bd) pm11 hns5 hmw
    rw [em] at hv11
    refine ⟨_, rfl, p11, _, _, V.int (many (gd (zs5.map (·.2)) b) bd : Nat), rfl, rfl, SqT.of hv11, rfl, _, rfl, p11, _, _, V.int (many (gd (zs5.map (·.2)) b) bd : Nat), rfl, rfl, SqT.of hv11, rfl, rfl, _, rfl, ?_⟩
    rw [decide_eq_true rfl]
    refine iteF ?_
    obtain ⟨dx11, hk11⟩ := KA11.ob
    have hmo7 := s7 _ _ hmo5
    have hk7 := s7 _ _ hk5
    have hmo11 := O11 _ _ (ne_of hmo7 hk7 (fun z => nomatch z)) (KA7.ila hmo7 gmo.ne) (T7.lst hmo7) hmo7
    refine ⟨_, rfl, k, dx11, _, rfl, hk11, fldK_no _ _ _ _, _, rfl, mo, _, rfl, .inl (SqL.of hmo11), fun q3 hq3 => ?_⟩
    have s12 := same_upd hq3 (o := .lst (mns.map V.int))
    have hq12 : upd H11 q3 (.lst (mns.map V.int)) q3 = some (.lst (mns.map V.int)) := upd_same
    generalize upd H11 q3 (.lst (mns.map V.int)) = H12 at s12 hq12
    refine ⟨k, tl11, sa11, la11, b, bd, bl11, zs11, ws11, L11, q3, mns, rfl, KA11.same s12, hbd, T11.same s12, hq12, pm11.mem_iff.mpr (by simp), fun p13 tl13 sa13 la13 bl13 zs13 ws13 L13 H13 hp13 hv13 KA13 ok13 O13 T13 hla13 hsa13 hbl13 pla13 _ => ?_⟩
    rw [come_go KA5.gt.g KA11.gt.g pm11 hin] at ok13
    rw [em, ok13] at hv13
    have p11k : p11 ≠ k := fun z => by rw [z, hk7] at hp11; cases hp11
    have told13 := O13 _ _ p11k pla11 (T7.none hp11) (s12 _ _ hv11)
    refine ⟨_, rfl, tP2 _ _, tP2 _ _, TrAt.p2 hv13, TrAt.p2 told13, tP2_dep _ _, _, rfl, ?_⟩
    rw [if_pos rfl, teq_refl]
    have sla11 : s ≠ la11 := ne_of_none (s7 _ _ hs5) hla11
    have sla13 : s ≠ la13 := ne_of_none (s12 _ _ (O11 _ _ CL.nk sla5 sT (s7 _ _ hs5))) hla13
    refine iteF (hN _ _ ⟨_, tl13, sa13, la13, bl13, zs13, ws13, L13, rfl, KA13, ok13, fun c o h1 h2 h3 h4 e => ?_, O13 _ _ CL.nk sla11 sT (s12 _ _ (O11 _ _ CL.nk sla5 sT (s7 _ _ hs5))), sla13, T13⟩)
    obtain ⟨c5, n5⟩ := CH5 c o h1 h2 h3 h4 e
    have c7 := s7 _ _ c5
    have c12 := s12 _ _ (O11 c o h2 n5 h4 c7)
    exact ⟨O13 c o h2 (ne_of_none c7 hla11) h4 c12, ne_of_none c12 hla13⟩
end
end Lw
set_option Elab.async false
set_option linter.all false
set_option maxRecDepth 100000
namespace Lw
open PySem L2 PyProof.Rows
theorem if_gen {c : TT} {t u : TS} {D : Ends} {σ : L2.St} {H : Hp} (JA JB : Hp → Prop) (hA : ∀ H', JA H' → t D σ H') (hB : ∀ H', JB H' → u D σ H') (hc : ∀ R : Bool → Hp → Prop, (∀ H', JA H' → R true H') → (∀ H', JB H' → R false H') → c σ H R) : tIfS c t u D σ H :=
  hc _ (fun H' h => by rw [if_pos rfl]; exact hA H' h) (fun H' h => by rw [if_neg (by decide)]; exact hB H' h)
theorem teq_nil (ts : List Tr) : teq (.lst ts) (.lst []) = ts.isEmpty := by
  cases ts with
  | nil => rfl
  | cons t ts => rw [teq, teqs_length (by simp)]; rfl
def tLL (ls : List (List Int)) : Tr := .lst (ls.map tInts)
theorem tLL_dep (ls : List (List Int)) : tdep (tLL ls) ≤ 8 := by
  unfold tLL
  rw [tdep]
  · have := tdeps_tInts ls; omega
  all_goals (intros; rename_i z; cases z)
theorem TrAt.ll {K : PySem.W.Frag} {H : Hp} {a : Addr} {ys : List (Addr × List Int)} (h : H a = some (.lst (ys.map fun z => V.ref z.1))) (hy : ∀ y ∈ ys, H y.1 = some (.lst (y.2.map V.int))) : TrAt K H (tLL (ys.map (·.2))) (.ref a) := by
  unfold tLL
  rw [TrAt]
  exact ⟨a, _, rfl, SqL.of h, TrsAt.lists hy⟩
def LongI (T0 C CK : Addr) (H H3 : Hp) (s k ba : Addr) (b bd : Nat) (ls : List (List Int)) (ys : List (Addr × List Int)) : Prop := ∃ (tl sa la bl : Addr) (zs : List (Addr × List Int)) (ws : List (List Int)) (L : Nat), KpAt C CK H3 k tl sa la b bd bl zs ws L ∧ ClrK s H3 k tl sa la bl zs ∧ zs.map (·.2) = ls ∧ LT T0 H3 ∧ Sto H3 s ∧ H3 ba = some (.lst (ys.map fun z => V.ref z.1)) ∧ (∀ y ∈ ys, H3 y.1 = some (.lst (y.2.map V.int)) ∧ y.1 ≠ s ∧ y.2 ≠ []) ∧ ba ≠ s ∧ ba ≠ la ∧ ∀ c o, c ≠ s → c ≠ T0 → H c = some o → H3 c = some o ∧ c ≠ k ∧ c ≠ la
section
variable {T0 C CK : Addr} {H H3 H4 : Hp} {s k ba : Addr} {b bd : Nat} {ls : List (List Int)} {ys : List (Addr × List Int)}
theorem LongI.stq (I : LongI T0 C CK H H3 s k ba b bd ls ys) (S : Stq s H3 H4) : LongI T0 C CK H H4 s k ba b bd ls ys := by
  obtain ⟨tl, sa, la, bl, zs, ws, L, A, q, e, hT, st, hb, hy, n1, n2, ch⟩ := I
  obtain ⟨A', q'⟩ := A.clr q S.sm
  exact ⟨tl, sa, la, bl, zs, ws, L, A', q', e, hT.stq st S.sm, S.st, S.sm _ _ n1 hb, fun y h => ⟨S.sm _ _ (hy y h).2.1 (hy y h).1, (hy y h).2⟩, n1, n2, fun c o h1 h2 e => ⟨S.sm _ _ h1 (ch c o h1 h2 e).1, (ch c o h1 h2 e).2⟩⟩
theorem LongI.sto (I : LongI T0 C CK H H3 s k ba b bd ls ys) : Sto H3 s := let ⟨_, _, _, _, _, _, _, _, _, _, _, st, _⟩ := I; st
theorem LongI.lt (I : LongI T0 C CK H H3 s k ba b bd ls ys) : LT T0 H3 := let ⟨_, _, _, _, _, _, _, _, _, _, t, _⟩ := I; t
theorem LongI.same (I : LongI T0 C CK H H3 s k ba b bd ls ys) (m : Same H3 H4) : LongI T0 C CK H H4 s k ba b bd ls ys := I.stq (Stq.of I.sto m)
theorem LongI.lba (I : LongI T0 C CK H H3 s k ba b bd ls ys) : H3 ba = some (.lst (ys.map fun z => V.ref z.1)) ∧ ba ≠ s := let ⟨_, _, _, _, _, _, _, _, _, _, _, _, h, _, n, _⟩ := I; ⟨h, n⟩
theorem LongI.lys (I : LongI T0 C CK H H3 s k ba b bd ls ys) : ∀ y ∈ ys, H3 y.1 = some (.lst (y.2.map V.int)) ∧ y.1 ≠ s ∧ y.2 ≠ [] := let ⟨_, _, _, _, _, _, _, _, _, _, _, _, _, h, _⟩ := I; h
theorem LongI.ch (I : LongI T0 C CK H H3 s k ba b bd ls ys) : ∀ c o, c ≠ s → c ≠ T0 → H c = some o → H3 c = some o := let ⟨_, _, _, _, _, _, _, _, _, _, _, _, _, _, _, _, h⟩ := I; fun c o h1 h2 e => (h c o h1 h2 e).1
theorem LongI.g (I : LongI T0 C CK H H3 s k ba b bd ls ys) : GoodRule b ls := let ⟨_, _, _, _, _, _, _, A, _, e, _⟩ := I; e ▸ A.gt.g
theorem LongI.ob (I : LongI T0 C CK H H3 s k ba b bd ls ys) : ∃ dx bl tl, H3 k = some (.ins CK dx (fldK b bl bd tl)) := by
  obtain ⟨tl, sa, la, bl, zs, ws, L, A, _⟩ := I
  obtain ⟨dx, h⟩ := A.ob
  exact ⟨dx, _, _, h⟩
theorem LongI.bad {p : Addr} {ys' : List (Addr × List Int)} (I : LongI T0 C CK H H3 s k ba b bd ls ys) (h : H3 p = none) (hy : ∀ y ∈ ys', H3 y.1 = some (.lst (y.2.map V.int)) ∧ y.1 ≠ s ∧ y.2 ≠ []) : LongI T0 C CK H (upd H3 p (.lst (ys'.map fun z => V.ref z.1))) s k p b bd ls ys' := by
  have m := same_upd h (o := .lst (ys'.map fun z => V.ref z.1))
  obtain ⟨tl, sa, la, bl, zs, ws, L, A, q, e, hT, ⟨g, x, k', st⟩, _, _, _, _, ch⟩ := I
  obtain ⟨_, wl⟩ := A.las
  exact ⟨tl, sa, la, bl, zs, ws, L, A.same m, A.kps m s _ st q, e, hT.same m, ⟨g, x, k', m _ _ st⟩, upd_same, fun y h' => ⟨m _ _ (hy y h').1, (hy y h').2⟩, Ne.symm (ne_of_none st h), Ne.symm (ne_of_none wl h), fun c o h1 h2 e => ⟨m _ _ (ch c o h1 h2 e).1, (ch c o h1 h2 e).2⟩⟩
theorem LongI.come {q : Addr} {ns : List Int} (I : LongI T0 C CK H H3 s k ba b bd ls ys) (hbd : bd < 2 ^ 900) (hq : H3 q = some (.lst (ns.map V.int))) (gst : GoodSt b ns) (hnot : ns ∉ ls) (h3 : ls.length ≤ 3) {R : Hp → Prop} (hR : ∀ (ls' : List (List Int)) (H' : Hp), ls'.Perm (ls ++ [ns]) → LongI T0 C CK H H' s k ba b bd ls' ys → (∀ (c : Addr) (ms : List Int), ms ≠ [] → H3 c = some (.lst (ms.map V.int)) → H' c = some (.lst (ms.map V.int))) → R H') : sp_come T0 C CK [.ref k, .ref q] H3 (fun _ H' => R H') E0 := by
  obtain ⟨tl, sa, la, bl, zs, ws, L, A, cq, rfl, hT, ⟨g, x, k', st⟩, hb, hy, n1, n2, ch⟩ := I
  obtain ⟨dx, hk⟩ := A.ob
  refine ⟨k, tl, sa, la, b, bd, bl, zs, ws, L, q, ns, rfl, A, hbd, hT, hq, gst, hnot, by rwa [List.length_map] at h3, fun p tl5 sa5 la5 bl5 zs5 ws5 L5 H5 hp hv KA5 pm O5 T5 hla5 hsa5 hbl5 pla cl => ?_⟩
  have lk : ∀ {c : Addr} {xs : List V}, c ≠ la → H3 c = some (.lst xs) → H5 c = some (.lst xs) := fun h1 h => O5 _ _ (ne_of h hk (fun z => nomatch z)) h1 (hT.lst h) h
  exact hR _ H5 pm ⟨tl5, sa5, la5, bl5, zs5, ws5, L5, KA5, cl s _ st cq.nk cq.nz, rfl, T5, ⟨g, x, k', lk cq.nla st⟩, lk n2 hb, fun y h => ⟨lk (A.ila (hy y h).1 (hy y h).2.2) (hy y h).1, (hy y h).2⟩, n1, ne_of_none hb hla5, fun c o h1 h2 e => by
    obtain ⟨q1, q2, q3⟩ := ch c o h1 h2 e
    exact ⟨O5 c o q2 q3 h2 q1, q2, ne_of_none q1 hla5⟩⟩ fun c ms hne h => lk (A.ila h hne) h
theorem LongI.go {q : Addr} {ns : List Int} (I : LongI T0 C CK H H3 s k ba b bd ls ys) (hbd : bd < 2 ^ 900) (hq : H3 q = some (.lst (ns.map V.int))) (hin : ns ∈ ls) {R : Hp → Prop} (hR : ∀ (H' : Hp), LongI T0 C CK H H' s k ba b bd (ls.filter fun l => decide (l ≠ ns)) ys → (∀ (c : Addr) (ms : List Int), ms ≠ [] → H3 c = some (.lst (ms.map V.int)) → H' c = some (.lst (ms.map V.int))) → R H') : sp_go T0 C CK [.ref k, .ref q] H3 (fun _ H' => R H') E0 := by
  obtain ⟨tl, sa, la, bl, zs, ws, L, A, cq, rfl, hT, ⟨g, x, k', st⟩, hb, hy, n1, n2, ch⟩ := I
  obtain ⟨dx, hk⟩ := A.ob
  refine ⟨k, tl, sa, la, b, bd, bl, zs, ws, L, q, ns, rfl, A, hbd, hT, hq, hin, fun p tl5 sa5 la5 bl5 zs5 ws5 L5 H5 hp hv KA5 ok O5 T5 hla5 hsa5 hbl5 pla cl => ?_⟩
  have lk : ∀ {c : Addr} {xs : List V}, c ≠ la → H3 c = some (.lst xs) → H5 c = some (.lst xs) := fun h1 h => O5 _ _ (ne_of h hk (fun z => nomatch z)) h1 (hT.lst h) h
  exact hR H5 ⟨tl5, sa5, la5, bl5, zs5, ws5, L5, KA5, cl s _ st cq.nk cq.nz, ok, T5, ⟨g, x, k', lk cq.nla st⟩, lk n2 hb, fun y h => ⟨lk (A.ila (hy y h).1 (hy y h).2.2) (hy y h).1, (hy y h).2⟩, n1, ne_of_none hb hla5, fun c o h1 h2 e => by
    obtain ⟨q1, q2, q3⟩ := ch c o h1 h2 e
    exact ⟨O5 c o q2 q3 h2 q1, q2, ne_of_none q1 hla5⟩⟩ fun c ms hne h => lk (A.ila h hne) h
end
section
variable {P : Program} {w : World} {K : PySem.W.Frag} {mg : Str → Option Value} {base : Heap} {T0 C CK : Addr}
def sp__law_long_right (T0 : Addr) : Sp := fun vs H Q _ => ∃ (s r : Addr) (b bd : Nat) (bl : Addr) (zs : List (Addr × List Int)), vs = [.ref s, .ref r, .int bd] ∧ Sto H s ∧ RuleAt (aw [s] H) r b bl zs ∧ GoodRule b (zs.map (·.2)) ∧ LT T0 H ∧ bd < 2 ^ 900 ∧
  ∀ H', (∀ c o, c ≠ s → c ≠ T0 → H c = some o → H' c = some o) → Sto H' s → LT T0 H' → Q (.bl true) H'
theorem sc__law_long_right : FnScope ["store", "rule", "b", "keeper", "bad", "turn", "one"] ["store", "rule", "b"] (defScope s__law_long_right) := ⟨rfl, rfl, rfl, by decide +kernel, rfl, by decide +kernel, by decide +kernel⟩
set_option maxHeartbeats 8000000 in
theorem ok__law_long_right {f f1 f2 f3 f4 f5 f6 f7 f8 : Addr} {fd fd1 fd2 fd3 fd4 fd5 fd6 fd7 fd8 : FuncData} (D : Df K mg "_law_long_right" s__law_long_right ["store", "rule", "b"] f fd) (D_law_copy : Df K mg "_law_copy" s__law_copy ["rule"] f1 fd1) (D_law_take : Df K mg "_law_take" s__law_take ["store", "many"] f2 fd2) (D_law_stretch : Df K mg "_law_stretch" s__law_stretch ["store", "base", "few"] f3 fd3) (D_law_fresh : Df K mg "_law_fresh" s__law_fresh ["store", "base", "bad"] f4 fd4) (MKeeper_come : Mt K CK "Keeper.come" "come" s_Keeper_come ["self", "stretch"] f5 fd5) (GKeeper_come : FnOk P w K mg base CX0 10 f5 fd5 ["self", "stretch"] (sp_come T0 C CK)) (MKeeper_go : Mt K CK "Keeper.go" "go" s_Keeper_go ["self", "stretch"] f6 fd6) (GKeeper_go : FnOk P w K mg base CX0 10 f6 fd6 ["self", "stretch"] (sp_go T0 C CK)) (MKeeper_rule : Mt K CK "Keeper.rule" "rule" s_Keeper_rule ["self"] f7 fd7) (GKeeper_rule : FnOk P w K mg base CX0 2 f7 fd7 ["self"] (sp_rule C CK)) (KKeeper : Mk K CK f8) (BKeeper : Binds K fd8 ["self", "rule", "b"] []) (GKeeper_init : FnOk P w K mg base CX0 9 f8 fd8 ["self", "rule", "b"] (sp_keeper T0 C CK)) (cKeeper : ClK K mg CK) (T : Blt mg) : FnOk P w K mg base CX0 11 f fd ["store", "rule", "b"] (sp__law_long_right T0) := by
  have G_law_copy : FnOk P w K mg base CX0 1 f1 fd1 ["rule"] sp__law_copy := ok__law_copy D_law_copy T
  have G_law_take : FnOk P w K mg base CX0 1 f2 fd2 ["store", "many"] sp__law_take := ok__law_take D_law_take T
  have G_law_fresh : FnOk P w K mg base CX0 3 f4 fd4 ["store", "base", "bad"] sp__law_fresh := ok__law_fresh D_law_fresh D_law_stretch D_law_take T
  refine D.fn.ok sc__law_long_right (fun vs H Q E h => ?_) (fun cdv A outer s H vs Q E hr h => ?_)
  · obtain ⟨s, r, b, bd, bl, zs, rfl, _⟩ := h; rfl
  · obtain ⟨s, r, b, bd, bl, zs, rfl, S, R, g, hT, hbd, kk⟩ := h
    have HU := HUof hr
    have b2 := g.b2
    have b16 := g.b16
    refine ⟨_, (pss_cons (ps_set (i := 3) sc__law_long_right.nd rfl (Or.inl rfl) (pe_make KKeeper GKeeper_init (hr.mono (by decide)) rfl cKeeper.nm BKeeper .nil pass0 (pa_cons (pcall D_law_copy G_law_copy (hr.mono (by decide)) (pa_cons (pv 1) pa_nil)) (pa_cons (pv 2) pa_nil))))
      (pss_cons (ps_setComp (i := 4) (show CScope (defScope s__law_long_right) _ "one" ["store", "rule", "b", "keeper", "bad", "turn", "one"] [] [] from ⟨rfl, by decide +kernel, by decide +kernel, rfl, by decide +kernel, rfl, by decide +kernel, by decide +kernel⟩) rfl sc__law_long_right.nd rfl (Or.inl rfl) (k_pi K (pe_ix (k_ixT K) (pv 1) pe_int (fun _ _ => rfl))) (fun _ _ _ _ => pts_nil) (fun _ _ _ _ => (pe_callTy (k_listOf K) (by rfl) T.n_list boot_list (pa_cons (pv 0) pa_nil))))
      (pss_cons (ps_for PassesOwn.never rfl (pi_range1 rfl T.n_range (pa_cons pe_int pa_nil)) (pg_name (i := 5) sc__law_long_right.nd rfl (Or.inl rfl))
        (pss_cons (ps_if (PW.pt (pw_and (pt_cmpR (k_neT K HU) (pv 4) (pe_lst pa_nil) (nomark _)) (pw_and1 (PW.pt (pw_or (pt_cmpR op_eq (pe_callB (k_len K) (by rfl) T.n_len PySem.boot_len (pa_cons (pv 4) pa_nil)) pe_int (nomark _)) (pw_or1 (pt_cmpR op_eq (pcall D_law_take G_law_take (hr.mono (by decide)) (pa_cons (pv 0) (pa_cons pe_int pa_nil))) pe_int (nomark _))))))))
          (pss_cons (ps_set (i := 6) sc__law_long_right.nd rfl (Or.inr rfl) (pe_ix (k_ixL K) (pv 4) (pcall D_law_take G_law_take (hr.mono (by decide)) (pa_cons (pv 0) (pa_cons (pe_callB (k_len K) (by rfl) T.n_len PySem.boot_len (pa_cons (pv 4) pa_nil)) pa_nil))) (fun _ _ => rfl)))
          (pss_cons (ps_expr (pmeth MKeeper_go cKeeper.cl GKeeper_go (hr.mono (by decide)) (pv 3) (pa_cons (pe_callTy (k_listOf K) (by rfl) T.n_list boot_list (pa_cons (pv 6) pa_nil)) pa_nil)))
          (pss_one (ps_setComp (i := 4) (show CScope (defScope s__law_long_right) _ "other" ["store", "rule", "b", "keeper", "bad", "turn", "one"] ["one"] [6] from ⟨rfl, by decide +kernel, by decide +kernel, rfl, by decide +kernel, rfl, by decide +kernel, by decide +kernel⟩) rfl sc__law_long_right.nd rfl (Or.inl rfl) (k_pi K (pv 4)) (fun _ _ _ _ => (pts_one (pt_cmpR (k_neT K HU) (pv 0) (pv 1) (nomark _)))) (fun _ _ _ _ => (pv 0))))))
          (pss_cons (ps_set (i := 6) sc__law_long_right.nd rfl (Or.inr rfl) (pcall D_law_fresh G_law_fresh (hr.mono (by decide)) (pa_cons (pv 0) (pa_cons (pe_ix (k_ixT K) (pv 1) pe_int (fun _ _ => rfl)) (pa_cons (pv 4) pa_nil)))))
          (pss_cons (ps_expr (pmeth MKeeper_come cKeeper.cl GKeeper_come (hr.mono (by decide)) (pv 3) (pa_cons (pe_callTy (k_listOf K) (by rfl) T.n_list boot_list (pa_cons (pv 6) pa_nil)) pa_nil)))
          (pss_one (ps_set (i := 4) sc__law_long_right.nd rfl (Or.inl rfl) (pe_callB (k_sortL K HU) (by rfl) T.n_sorted boot_sorted (pa_cons (pe_op op_cat (pv 4) (pe_lst (pa_cons (pv 6) pa_nil))) pa_nil)))))))
        (pss_one (ps_if (pt_cmpR (k_neT K HU) (pmeth0 MKeeper_rule cKeeper.cl GKeeper_rule (hr.mono (by decide)) (pv 3)) (pe_tup (pa_cons (pe_ix (k_ixT K) (pv 1) pe_int (fun _ _ => rfl)) (pa_cons (pv 4) pa_nil))) (nomark _))
          (pss_one (ps_ret pe_bl))
          pss_nil))))
      (pss_one (ps_ret pe_bl))))), ?_⟩
    have RH := R.same (aw_same _ _)
    obtain ⟨sg, sx, sk, hs⟩ := S
    have rs : r ≠ s ∧ bl ≠ s ∧ ∀ z ∈ zs, z.1 ≠ s := ⟨(aw_get R.tu).1, (aw_get R.li).1, fun z hz => (aw_get (R.st z hz)).1⟩
    have h4 : zs.length ≤ 4 := by have := g.len; rwa [List.length_map] at this
    refine ⟨_, rfl, r, b, bl, zs, rfl, RH, by omega, fun r1 bl1 zs1 H1 s1 R1 e1 _ _ _ => ⟨_, rfl, made_K R1 (by rw [e1]; exact g) (hT.same s1) ?_⟩⟩
    rintro k H2 ⟨tl, sa, la, bb, zz, ws, L, KA, ea, m2, T2, nk, nla, nsa, nbl, cl⟩
    have mH : ∀ c o, c ≠ T0 → H c = some o → H2 c = some o ∧ c ≠ k ∧ c ≠ la := fun c o hc e => ⟨m2 _ _ hc (s1 _ _ e), ne_of_none (s1 _ _ e) nk, ne_of_none (s1 _ _ e) nla⟩
    have R2 : RuleAt H2 r b bl zs := (RH.same s1).sameL (hT.same s1) m2
    have hs2 := (mH s _ (hT.lst hs) hs).1
    refine ⟨_, rfl, r, _, _, V.ref bl, rfl, rfl, SqT.of R2.tu, rfl, bl, rfl, ⟨_, SqL.of R2.li⟩, comp_list (K := K) (a := bl) (xs := zs.map fun z => V.ref z.1) (fun i ys H4 => Same H2 H4 ∧ ∃ ws : List (Addr × List Int), ys = ws.map (fun z => V.ref z.1) ∧ ws.length = i ∧ ws.map (·.2) = (zs.take i).map (·.2) ∧ ∀ z ∈ ws, H2 z.1 = none ∧ H4 z.1 = some (.lst (z.2.map V.int))) ⟨Same.refl _, [], rfl, rfl, rfl, by simp⟩ (fun i ys H4 _ ⟨e, _⟩ => SqL.of (e _ _ R2.li)) ?_ ?_⟩
    · rintro j x ys H4 hx ⟨s4, ws, rfl, hwl, hw2, hws⟩
      rw [List.getElem?_map] at hx
      obtain ⟨z, hzj, e⟩ := Option.map_eq_some_iff.mp hx
      subst e
      have hzm := List.mem_of_getElem? hzj
      have hj : j < zs.length := (List.getElem?_eq_some_iff.mp hzj).1
      refine ⟨by rw [List.length_map, hwl]; exact Nat.lt_of_lt_of_le (show j < 101 by omega) (by decide), ?_⟩
      unfold tYes
      dsimp only
      rw [if_pos rfl]
      refine ⟨_, rfl, z.1, _, rfl, .inl (SqL.of (s4 _ _ (R2.st z hzm))), fun p hp => ⟨s4.trans (same_upd hp), ws ++ [(p, z.2)], by simp, by simp [hwl], ?_, fun y hy => ?_⟩⟩
      · rw [List.map_append, hw2, List.take_succ, hzj]; simp
      · rcases List.mem_append.mp hy with hy | hy
        · exact ⟨(hws y hy).1, same_upd hp _ _ (hws y hy).2⟩
        · have e : y = (p, z.2) := by simpa using hy
          subst e
          exact ⟨s4.free hp, upd_same⟩
    rintro ys H4 ⟨s4, y0, rfl, hwl, hw2, hws⟩ ba hba
    rw [List.length_map, List.take_length] at hw2
    have ek : zz.map (·.2) = y0.map (·.2) := (ea.trans e1).trans hw2.symm
    have gy : ∀ y ∈ y0, GoodSt b y.2 := fun y hy => g.st y.2 (by rw [← hw2]; exact List.mem_map.mpr ⟨y, hy, rfl⟩)
    have I0 : LongI T0 C CK H (upd H4 ba (.lst (y0.map fun z => V.ref z.1))) s k ba b bd (y0.map (·.2)) y0 := by
      have m := s4.trans (same_upd hba (o := .lst (y0.map fun z => V.ref z.1)))
      obtain ⟨_, wl⟩ := KA.las
      exact ⟨tl, sa, la, bb, zz, ws, L, KA.same m, KA.kps m s _ hs2 (cl s _ (s1 _ _ hs)), ek, T2.same m, ⟨sg, sx, sk, m _ _ hs2⟩, upd_same, fun y hy => ⟨same_upd hba _ _ (hws y hy).2, Ne.symm (ne_of_none hs2 (hws y hy).1), (gy y hy).ne⟩, Ne.symm (ne_of_none (s4 _ _ hs2) hba), Ne.symm (ne_of_none (s4 _ _ wl) hba), fun c o _ h2 e => ⟨m _ _ (mH c o h2 e).1, (mH c o h2 e).2⟩⟩
    have rT := hT.tup RH.tu
    generalize upd H4 ba (.lst (y0.map fun z => V.ref z.1)) = H5 at I0
    refine ⟨60, rfl, by decide, by decide, for_range (lo := 0) (n := (60 : Int).toNat) (fun i σ H3 => ∃ (v5 v6 : Option V) (ba : Addr) (ys : List (Addr × List Int)), σ = [some (.ref s), some (.ref r), some (.int bd), some (.ref k), some (.ref ba), v5, v6] ∧ LongI T0 C CK H H3 s k ba b bd (ys.map (·.2)) ys) ⟨none, none, ba, y0, rfl, I0⟩ ?_ ?_⟩
    · clear I0 hws hw2 hwl ek gy hba s4
      rintro i σ H3 hi ⟨v5, v6, ba, ys, rfl, I⟩
      show tSeq _ _ _ _ _
      refine seq_gen (fun σ' H' => ∃ (v6 : Option V) (ba : Addr) (ys : List (Addr × List Int)), σ' = [some (.ref s), some (.ref r), some (.int bd), some (.ref k), some (.ref ba), some (.int (0 + (i : Int))), v6] ∧ LongI T0 C CK H H' s k ba b bd (ys.map (·.2)) ys) ?_ (fun N hN => ?_)
      · rintro σ' H' ⟨v6, ba, ys, rfl, I⟩
        obtain ⟨tl, sa, la, bl', zs', ws, L, KA, _, ez, hT', _⟩ := id I
        obtain ⟨dx, hk⟩ := KA.ob
        refine ⟨_, rfl, k, dx, _, rfl, hk, fldK_no _ _ _ _, k, tl, sa, la, b, bd, bl', zs', ws, L, rfl, KA, fun r7 bl7 zs7 H7 s7 R7 e7 _ _ _ => ?_⟩
        refine ⟨_, rfl, r, _, _, V.int b, rfl, rfl, SqT.of (s7 _ _ (I.ch _ _ rs.1 rT RH.tu)), rfl, _, rfl, (by show 2 ≤ sizeLine; decide), fun t ht => ?_⟩
        have s8 := same_upd ht (o := .tup [V.int b, V.ref ba])
        have s78 := s7.trans s8
        have RB : RuleAt (upd H7 t (.tup [V.int b, V.ref ba])) t b ba ys := ⟨upd_same, s78 _ _ I.lba.1, fun y hy => s78 _ _ (I.lys y hy).1⟩
        refine ⟨tRule b (zs7.map (·.2)), tRule b (ys.map (·.2)), TrAt.rule (R7.same s8), TrAt.rule RB, tRule_dep _ _, _, rfl, ?_⟩
        rw [if_pos rfl, e7, ez, teq_refl]
        exact iteF ⟨_, _, ba, ys, rfl, I.same s78⟩
      have gI := I.g
      have hl4 : ys.length ≤ 4 := by have := gI.len; rwa [List.length_map] at this
      refine if_gen (fun H' => ys ≠ [] ∧ Stq s H3 H') (fun H' => ys.length ≤ 3 ∧ Stq s H3 H') ?_ ?_ ?_
      · rintro H4 ⟨hne, S4⟩
        have I4 := I.stq S4
        have hl : 0 < ys.length := List.length_pos_iff.mpr hne
        refine ⟨_, rfl, _, rfl, _, rfl, ba, _, rfl, .inl (SqL.of I4.lba.1), s, _, rfl, I4.sto, by rw [List.length_map]; omega, by rw [List.length_map]; omega, fun x H5 hx S5 => ?_⟩
        rw [List.length_map] at hx
        have hxl : x < ys.length := by omega
        have hyx := List.getElem?_eq_getElem hxl
        generalize ys[x]'hxl = y at hyx
        have hym := List.mem_of_getElem? hyx
        have I5 := I4.stq S5
        refine ⟨ba, _, _, V.ref y.1, rfl, rfl, SqL.of I5.lba.1, atI_nat (by rw [List.getElem?_map, hyx]; rfl), ?_⟩
        obtain ⟨dx, bq, tq, hk⟩ := I5.ob
        refine ⟨_, rfl, k, dx, _, rfl, hk, fldK_no _ _ _ _, _, rfl, y.1, _, rfl, .inl (SqL.of (I5.lys y hym).1), fun q hq => ?_⟩
        refine (I5.same (same_upd hq (o := .lst (y.2.map V.int)))).go hbd upd_same (List.mem_map.mpr ⟨y, hym, rfl⟩) fun H6 I6 _ => ?_
        refine ⟨_, rfl, ba, rfl, ⟨_, SqL.of I6.lba.1⟩, comp_list (K := K) (a := ba) (xs := ys.map fun z => V.ref z.1) (fun i vs H7 => H7 = H6 ∧ vs = ((ys.take i).filter fun z => decide (z.2 ≠ y.2)).map fun z => V.ref z.1) ⟨rfl, rfl⟩ (fun i vs H7 _ ⟨e, _⟩ => by rw [e]; exact SqL.of I6.lba.1) ?_ ?_⟩
        · rintro j x' vs H7 hx' ⟨rfl, rfl⟩
          rw [List.getElem?_map] at hx'
          obtain ⟨z, hzj, e⟩ := Option.map_eq_some_iff.mp hx'
          subst e
          have hzm := List.mem_of_getElem? hzj
          refine ⟨by rw [List.length_map]; exact Nat.lt_of_le_of_lt (Nat.le_trans (List.length_filter_le _ _) (Nat.le_trans (List.length_take_le' _ _) hl4)) (by decide), ?_⟩
          refine ⟨_, rfl, _, rfl, tInts z.2, tInts y.2, TrAt.ints (a := z.1) (SqL.of (I6.lys z hzm).1), TrAt.ints (a := y.1) (SqL.of (I6.lys y hym).1), (by rw [tdep_tInts]; decide), _, rfl, ?_⟩
          rw [if_pos rfl, teq_ints, List.take_succ, hzj]
          by_cases e : z.2 = y.2
          · rw [decide_eq_true e]
            refine iteF ⟨rfl, ?_⟩
            simp [List.filter_append, e]
          · rw [decide_eq_false e]
            refine iteT ⟨_, rfl, rfl, ?_⟩
            simp [List.filter_append, e]
        rintro vs H7 ⟨rfl, rfl⟩ bq' hbq'
        rw [List.length_map, List.take_length]
        have ef : (ys.map (·.2)).filter (fun l => decide (l ≠ y.2)) = (ys.filter fun z => decide (z.2 ≠ y.2)).map (·.2) := by
          rw [List.filter_map]; rfl
        rw [ef] at I6
        exact hN _ _ ⟨_, bq', _, rfl, I6.bad hbq' fun z hz => I6.lys z (List.mem_filter.mp hz).1⟩
      · rintro H4 ⟨hl3, S4⟩
        have I4 := I.stq S4
        have aws : ∀ {c : Addr} {o : HO}, c ≠ s → H4 c = some o → aw [s] H4 c = some o := fun hc e => by rw [aw_out (by simpa using hc)]; exact e
        refine ⟨_, rfl, _, rfl, r, _, _, V.int b, rfl, rfl, SqT.of (I4.ch _ _ rs.1 rT RH.tu), rfl, _, rfl, s, b, ba, ys, rfl, I4.sto, b2, b16, aws I4.lba.2 I4.lba.1, fun y hy => aws (I4.lys y hy).2.1 (I4.lys y hy).1, hl4, fun l ns H5 S5 nl hl gns hnot => ?_⟩
        have I5 := I4.stq S5
        have nls : l ≠ s := I4.sto.ne nl
        obtain ⟨dx, bq, tq, hk⟩ := I5.ob
        refine ⟨_, rfl, k, dx, _, rfl, hk, fldK_no _ _ _ _, _, rfl, l, _, rfl, .inl (SqL.of hl), fun q hq => ?_⟩
        have s6 := same_upd hq (o := .lst (ns.map V.int))
        refine (I5.same s6).come hbd upd_same gns hnot (by rw [List.length_map]; exact hl3) fun ls6 H6 pm I6 ki => ?_
        have hl6 := ki l ns gns.ne (s6 _ _ hl)
        refine ⟨_, rfl, _, rfl, (by show 1 ≤ sizeLine; decide), fun l1 hl1 => ?_⟩
        have s7 := same_upd hl1 (o := .lst [V.ref l])
        refine ⟨ba, l1, _, _, rfl, rfl, s7 _ _ I6.lba.1, upd_same, by rw [List.length_map]; exact Nat.le_trans (show ys.length + 1 ≤ 5 by omega) (by decide), fun l2 hl2 => ?_⟩
        have s8 := s7.trans (same_upd hl2 (o := .lst (ys.map (fun z => V.ref z.1) ++ [V.ref l])))
        have hl2' : upd (upd H6 l1 (.lst [V.ref l])) l2 (.lst (ys.map (fun z => V.ref z.1) ++ [V.ref l])) l2 = some (.lst (ys.map (fun z => V.ref z.1) ++ [V.ref l])) := upd_same
        have I8 := I6.same s8
        have hl8 := s8 _ _ hl6
        generalize upd (upd H6 l1 (.lst [V.ref l])) l2 (.lst (ys.map (fun z => V.ref z.1) ++ [V.ref l])) = H8 at s8 hl2' I8 hl8
        have hst8 : ∀ z ∈ ys ++ [(l, ns)], H8 z.1 = some (.lst (z.2.map V.int)) ∧ z.1 ≠ s ∧ z.2 ≠ [] := fun z hz => by
          rcases List.mem_append.mp hz with hz | hz
          · exact I8.lys z hz
          · have e : z = (l, ns) := by simpa using hz
            subst e; exact ⟨hl8, nls, gns.ne⟩
        have nd : ((ys ++ [(l, ns)]).map (·.2)).Nodup := by
          rw [List.map_append]
          refine List.nodup_append.mpr ⟨gI.nodup, by simp, fun x hx y hy => ?_⟩
          have e : y = ns := by simpa using hy
          rw [e]
          exact fun z => hnot (z ▸ hx)
        refine ⟨l2, ys ++ [(l, ns)], rfl, SqL.of (by rw [hl2']; simp), by rw [List.length_append, List.length_singleton]; omega, fun z hz => SqL.of (hst8 z hz).1, nd, fun bq' zs' hbq' pm' pw => ?_⟩
        have el : ls6 = zs'.map (·.2) := by
          refine up_same I6.g.up (by rw [List.pairwise_map]; exact pw) fun x => ?_
          rw [pm.mem_iff, (pm'.map (·.2)).mem_iff, List.map_append]
          simp
        rw [el] at I8
        exact hN _ _ ⟨_, bq', zs', rfl, I8.bad hbq' fun z hz => hst8 z (pm'.mem_iff.mp hz)⟩
      · intro R hA hB
        refine ⟨_, rfl, (by decide : 0 ≤ sizeLine), fun e0 he0 => ⟨tLL (ys.map (·.2)), tInts [], ?_, TrAt.ints (a := e0) (ns := []) (SqL.of upd_same), tLL_dep _, _, rfl, ?_⟩⟩
        · have I1 := I.same (same_upd he0 (o := .lst []))
          exact TrAt.ll I1.lba.1 fun y hy => (I1.lys y hy).1
        have S1 := Stq.of I.sto (same_upd he0 (o := .lst []))
        rw [if_pos rfl, show teq (tLL (ys.map (·.2))) (tInts []) = ys.isEmpty from by
          unfold tLL tInts
          rw [List.map_nil, teq_nil]
          cases ys <;> rfl]
        by_cases hne : ys = []
        · rw [show ys.isEmpty = true from by rw [hne]; rfl]
          exact iteF (hB _ ⟨by rw [hne]; decide, S1⟩)
        · rw [show ys.isEmpty = false from by cases hq : ys with
            | nil => exact absurd hq hne
            | cons _ _ => rfl]
          refine iteT ?_
          have I1 := I.stq S1
          refine ⟨_, rfl, ba, _, rfl, .inl (SqL.of I1.lba.1), rfl, _, rfl, ?_⟩
          rw [List.length_map]
          by_cases h : ys.length = 4
          · rw [decide_eq_true (by rw [h]; rfl)]
            exact iteT (hA _ ⟨hne, S1⟩)
          · rw [decide_eq_false (fun z => by injection z with z; omega)]
            refine iteF ⟨_, rfl, s, _, rfl, I1.sto, by decide, by decide, fun x H5 hx S5 => ⟨rfl, _, rfl, ?_⟩⟩
            by_cases hx0 : x = 0
            · rw [decide_eq_true (show V.int (x : Int) = V.int 0 by rw [hx0]; rfl)]
              exact hA _ ⟨hne, S1.trans S5⟩
            · rw [decide_eq_false (fun z => by injection z with z; omega)]
              exact hB _ ⟨by omega, S1.trans S5⟩
    · rintro σ H3 ⟨v5, v6, ba, ys, rfl, I⟩
      exact kk H3 I.ch I.sto I.lt
end
end Lw
set_option Elab.async false
set_option linter.all false
set_option maxRecDepth 100000
namespace Lw
open PySem L2 PyProof.Rows
theorem bF {A B : Prop} {k : Bool} (h : ¬ k = true) (q : B) : if k = true then A else B := by rw [if_neg h]; exact q
theorem LT.sq {K : PySem.W.Frag} {T a : Addr} {H H' : Hp} {xs : List V} (h : LT T H) (m : SameL T H H') (q : SqL K H a xs) : SqL K H' a xs := by
  rcases q with (q | ⟨o, q⟩) | q
  · exact .inl (.inl (m _ _ (h.lst q) q))
  · refine .inl (.inr ⟨o, m _ _ (fun z => ?_) q⟩)
    rw [z] at q
    rcases h with h | ⟨c, h, _⟩
    · rw [h] at q; cases q
    · rw [h] at q; cases q
  · exact .inr q
theorem tNext_ap (D : Ends) (σ : L2.St) (H : Hp) : tNext D σ H = D.nx σ H := rfl
theorem view_same {M : List Addr} {H H' : Hp} (m : ∀ c o, c ∉ M → H c = some o → H' c = some o) : Same (aw M H) (aw M H') := fun c o e => by
  obtain ⟨hc, e'⟩ := view_get e
  rw [aw_out hc]; exact m c o hc e'
theorem Stq.vw {s T : Addr} {H H' : Hp} (S : Stq s H H') : Same (aw [s, T] H) (aw [s, T] H') := view_same fun c o hc e => S.sm c o (fun z => hc (by simp [z])) e
theorem vw_s {s T : Addr} {H : Hp} : Same (aw [s, T] H) (aw [s] H) := fun c o e => by
  obtain ⟨hc, e'⟩ := view_get e
  rw [aw_out (by simp only [List.mem_cons, List.not_mem_nil, or_false, not_or] at hc ⊢; exact hc.1)]; exact e'
theorem into_vw {s T c : Addr} {H : Hp} {o : HO} (h1 : c ≠ s) (h2 : c ≠ T) (e : H c = some o) : aw [s, T] H c = some o := by rw [aw_out (by simp [h1, h2])]; exact e
theorem KpAt.kpsL {T0 C CK : Addr} {H H' : Hp} {k tl sa la : Addr} {b bd : Nat} {bl : Addr} {zs : List (Addr × List Int)} {ws : List (List Int)} {L : Nat} (A : KpAt C CK H k tl sa la b bd bl zs ws L) (hT : LT T0 H) (m : SameL T0 H H') {c : Addr} (q : ClrK c H k tl sa la bl zs) : ClrK c H' k tl sa la bl zs := by
  obtain ⟨_, h1⟩ := A.las
  obtain ⟨_, h2⟩ := A.sas
  exact ⟨q.nk, q.ntl, q.nsa, q.nla, q.nbl, q.nz, q.rla.same h1 (m _ _ (hT.lst h1) h1), q.rsa.same h2 (m _ _ (hT.lst h2) h2)⟩
section
variable {P : Program} {w : World} {K : PySem.W.Frag} {mg : Str → Option Value} {base : Heap} {T0 C CK : Addr}
def sp_law (K : PySem.W.Frag) (T : Addr) : Sp := fun vs H Q _ => ∃ (a : Addr) (ns : List Int), vs = [.ref a] ∧ SqL K H a (ns.map V.int) ∧ ns.length ≤ 63 ∧ LT T H ∧ ∀ H', Q (.bl true) H'
theorem sc_law : FnScope ["script", "at", "store", "base", "rule", "b", "one", "some", "keeper"] ["script"] (defScope s_law) := ⟨rfl, rfl, rfl, by decide +kernel, rfl, by decide +kernel, by decide +kernel⟩
set_option maxHeartbeats 8000000 in
theorem ok_law {f f1 f2 f3 f4 f5 f6 f7 f8 f9 f10 f11 f12 f13 f14 f15 : Addr} {fd fd1 fd2 fd3 fd4 fd5 fd6 fd7 fd8 fd9 fd10 fd11 fd12 fd13 fd14 fd15 : FuncData} (D : Df K mg "law" s_law ["script"] f fd) (D_law_cell : Df K mg "_law_cell" s__law_cell ["script", "k"] f1 fd1) (D_law_store : Df K mg "_law_store" s__law_store ["cell"] f2 fd2) (D_law_take : Df K mg "_law_take" s__law_take ["store", "many"] f3 fd3) (D_law_base : Df K mg "_law_base" s__law_base ["store"] f4 fd4) (D_law_bad : Df K mg "_law_bad" s__law_bad ["store", "base"] f5 fd5) (D_law_stretch : Df K mg "_law_stretch" s__law_stretch ["store", "base", "few"] f6 fd6) (D_law_number : Df K mg "_law_number" s__law_number ["store"] f7 fd7) (D_law_fresh : Df K mg "_law_fresh" s__law_fresh ["store", "base", "bad"] f8 fd8) (D_law_copy : Df K mg "_law_copy" s__law_copy ["rule"] f9 fd9)
    (D_law_round_right : Df K mg "_law_round_right" s__law_round_right ["keeper", "some"] f10 fd10) (G_law_round_right : FnOk P w K mg base CX0 11 f10 fd10 ["keeper", "some"] (sp__law_round_right T0 C CK)) (D_law_order_right : Df K mg "_law_order_right" s__law_order_right ["rule", "b", "some"] f11 fd11) (G_law_order_right : FnOk P w K mg base CX0 11 f11 fd11 ["rule", "b", "some"] (sp__law_order_right T0)) (D_law_within_right : Df K mg "_law_within_right" s__law_within_right ["store", "keeper", "base", "stretch"] f12 fd12) (G_law_within_right : FnOk P w K mg base CX0 11 f12 fd12 ["store", "keeper", "base", "stretch"] (sp__law_within_right T0 C CK)) (D_law_long_right : Df K mg "_law_long_right" s__law_long_right ["store", "rule", "b"] f13 fd13) (G_law_long_right : FnOk P w K mg base CX0 11 f13 fd13 ["store", "rule", "b"] (sp__law_long_right T0))
    (MKeeper_rule : Mt K CK "Keeper.rule" "rule" s_Keeper_rule ["self"] f14 fd14) (GKeeper_rule : FnOk P w K mg base CX0 2 f14 fd14 ["self"] (sp_rule C CK)) (KKeeper : Mk K CK f15) (BKeeper : Binds K fd15 ["self", "rule", "b"] []) (GKeeper_init : FnOk P w K mg base CX0 9 f15 fd15 ["self", "rule", "b"] (sp_keeper T0 C CK)) (cKeeper : ClK K mg CK) (T : Blt mg) : FnOk P w K mg base CX0 12 f fd ["script"] (sp_law K T0) := by
  have G_law_cell : FnOk P w K mg base CX0 1 f1 fd1 ["script", "k"] (sp__law_cell K) := ok__law_cell D_law_cell T
  have G_law_store : FnOk P w K mg base CX0 1 f2 fd2 ["cell"] sp__law_store := ok__law_store D_law_store T
  have G_law_take : FnOk P w K mg base CX0 1 f3 fd3 ["store", "many"] sp__law_take := ok__law_take D_law_take T
  have G_law_base : FnOk P w K mg base CX0 2 f4 fd4 ["store"] sp__law_base := ok__law_base D_law_base D_law_take T
  have G_law_bad : FnOk P w K mg base CX0 3 f5 fd5 ["store", "base"] sp__law_bad := ok__law_bad D_law_bad D_law_take D_law_stretch T
  have G_law_number : FnOk P w K mg base CX0 2 f7 fd7 ["store"] sp__law_number := ok__law_number D_law_number D_law_take T
  have G_law_fresh : FnOk P w K mg base CX0 3 f8 fd8 ["store", "base", "bad"] sp__law_fresh := ok__law_fresh D_law_fresh D_law_stretch D_law_take T
  have G_law_copy : FnOk P w K mg base CX0 1 f9 fd9 ["rule"] sp__law_copy := ok__law_copy D_law_copy T
  refine D.fn.ok sc_law (fun vs H Q E h => ?_) (fun cdv A outer s H vs Q E hr h => ?_)
  · obtain ⟨a, ns, rfl, _⟩ := h; rfl
  · obtain ⟨a, ns, rfl, hS, hlen, hT, kk⟩ := h
    have HU := HUof hr
    refine ⟨_, (pss_cons (ps_for PassesOwn.never rfl (pi_range1 rfl T.n_range (pa_cons (pe_callB (call_min2 rfl) (by rfl) T.n_min boot_min (pa_cons (pe_callB (call_max2 rfl) (by rfl) T.n_max boot_max (pa_cons (pe_callB (k_len K) (by rfl) T.n_len PySem.boot_len (pa_cons (pv 0) pa_nil)) (pa_cons pe_int pa_nil))) (pa_cons pe_int pa_nil))) pa_nil)) (pg_name (i := 1) sc_law.nd rfl (Or.inl rfl))
        (pss_cons (ps_set (i := 2) sc_law.nd rfl (Or.inl rfl) (pcall D_law_store G_law_store (hr.mono (by decide)) (pa_cons (pcall D_law_cell G_law_cell (hr.mono (by decide)) (pa_cons (pv 0) (pa_cons (pv 1) pa_nil))) pa_nil)))
        (pss_cons (ps_set (i := 3) sc_law.nd rfl (Or.inl rfl) (pcall D_law_base G_law_base (hr.mono (by decide)) (pa_cons (pv 2) pa_nil)))
        (pss_cons (ps_set (i := 4) sc_law.nd rfl (Or.inl rfl) (pe_tup (pa_cons (pv 3) (pa_cons (pe_slice (k_slL K) (pcall D_law_bad G_law_bad (hr.mono (by decide)) (pa_cons (pv 2) (pa_cons (pv 3) pa_nil))) po_none (po_some pe_int)) pa_nil))))
        (pss_cons (ps_set (i := 5) sc_law.nd rfl (Or.inl rfl) (pcall D_law_number G_law_number (hr.mono (by decide)) (pa_cons (pv 2) pa_nil)))
        (pss_cons (ps_set (i := 6) sc_law.nd rfl (Or.inl rfl) (pcall D_law_fresh G_law_fresh (hr.mono (by decide)) (pa_cons (pv 2) (pa_cons (pv 3) (pa_cons (pe_ix (k_ixT K) (pv 4) pe_int (fun _ _ => rfl)) pa_nil)))))
        (pss_cons (ps_set (i := 7) sc_law.nd rfl (Or.inl rfl) (pe_slice (k_slL K) (pe_lst (pa_cons (pv 6) (pa_cons (pcall D_law_fresh G_law_fresh (hr.mono (by decide)) (pa_cons (pv 2) (pa_cons (pv 3) (pa_cons (pe_op op_cat (pe_ix (k_ixT K) (pv 4) pe_int (fun _ _ => rfl)) (pe_lst (pa_cons (pv 6) pa_nil))) pa_nil)))) pa_nil))) po_none (po_some (pe_op op_add pe_int (pcall D_law_take G_law_take (hr.mono (by decide)) (pa_cons (pv 2) (pa_cons pe_int pa_nil)))))))
        (pss_cons (ps_set (i := 8) sc_law.nd rfl (Or.inl rfl) (pe_make KKeeper GKeeper_init (hr.mono (by decide)) rfl cKeeper.nm BKeeper .nil pass0 (pa_cons (pcall D_law_copy G_law_copy (hr.mono (by decide)) (pa_cons (pv 4) pa_nil)) (pa_cons (pv 5) pa_nil))))
        (pss_cons (ps_if (PW.pt (pw_or (pt_not (pt_val (pcall D_law_round_right G_law_round_right (hr.mono (by decide)) (pa_cons (pv 8) (pa_cons (pv 7) pa_nil))))) (pw_or1 (pt_not (pt_val (pcall D_law_order_right G_law_order_right (hr.mono (by decide)) (pa_cons (pv 4) (pa_cons (pv 5) (pa_cons (pv 7) pa_nil)))))))))
          (pss_one (ps_ret pe_bl))
          pss_nil)
        (pss_cons (ps_if (PW.pt (pw_or (pt_not (pt_val (pcall D_law_within_right G_law_within_right (hr.mono (by decide)) (pa_cons (pv 2) (pa_cons (pv 8) (pa_cons (pv 3) (pa_cons (pv 6) pa_nil))))))) (pw_or1 (pt_cmpR (k_neT K HU) (pmeth0 MKeeper_rule cKeeper.cl GKeeper_rule (hr.mono (by decide)) (pv 8)) (pv 4) (nomark _)))))
          (pss_one (ps_ret pe_bl))
          pss_nil)
        (pss_one (ps_if (PW.pt (pw_and (pt_cmpR op_eq (pv 1) pe_int (nomark _)) (pw_and (pt_cmpR op_eq (pcall D_law_take G_law_take (hr.mono (by decide)) (pa_cons (pv 2) (pa_cons pe_int pa_nil))) pe_int (nomark _)) (pw_and1 (pt_not (pt_val (pcall D_law_long_right G_law_long_right (hr.mono (by decide)) (pa_cons (pv 2) (pa_cons (pv 4) (pa_cons (pv 5) pa_nil))))))))))
          (pss_one (ps_ret pe_bl))
          pss_nil))))))))))))
      (pss_one (ps_ret pe_bl))), ?_⟩
    refine ⟨_, rfl, a, _, rfl, .inl hS, _, _, rfl, _, _, rfl, ?_⟩
    rw [List.length_map]
    generalize hm : (if (6 : Int) < (if (3 : Int) > (ns.length : Int) then (3 : Int) else (ns.length : Int)) then (6 : Int) else (if (3 : Int) > (ns.length : Int) then (3 : Int) else (ns.length : Int))) = m
    have hm6 : 0 ≤ m ∧ m ≤ 6 := by
      rw [← hm]
      constructor <;> (repeat' split) <;> omega
    refine ⟨m, rfl, by omega, by omega, for_range (lo := 0) (n := m.toNat) (fun i σ H3 => ∃ (v1 v2 v3 v4 v5 v6 v7 v8 : Option V), σ = [some (.ref a), v1, v2, v3, v4, v5, v6, v7, v8] ∧ SameL T0 H H3 ∧ LT T0 H3) ⟨none, none, none, none, none, none, none, none, rfl, fun _ _ _ e => e, hT⟩ ?_ ?_⟩
    · rintro i σ Ha hi ⟨v1, v2, v3, v4, v5, v6, v7, v8, rfl, mH, Ta⟩
      refine ⟨_, rfl, _, rfl, a, ns, i, by rw [Int.zero_add]; rfl, hT.sq mH hS, hlen, by omega, fun c => ⟨c, rfl, fun s H1 nS S1 m1 => ?_⟩⟩
      refine ⟨_, rfl, s, rfl, S1, fun b H2 b2 b16 S2 => ?_⟩
      have T1 := Ta.same m1
      have T2 := T1.stq S1 S2.sm
      refine ⟨_, rfl, _, rfl, _, rfl, s, b, rfl, S2.st, b2, b16, fun bl0 zs0 H3 S3 BA => ?_⟩
      have T3 := T2.stq S2.st S3.sm
      refine ⟨_, rfl, bl0, _, rfl, SqL.of BA.li, fun q hq => ?_⟩
      have ecut : cutV (zs0.map fun z => V.ref z.1) none (some 2) = (zs0.take 2).map fun z => V.ref z.1 := (cutV_upto _ 2).trans List.map_take.symm
      rw [ecut]
      refine ⟨(by show 2 ≤ sizeLine; decide), fun r hr' => ?_⟩
      have m4 := (same_upd hq (o := .lst ((zs0.take 2).map fun z => V.ref z.1))).trans (same_upd hr' (o := .tup [V.int b, V.ref q]))
      have g : GoodRule b ((zs0.take 2).map (·.2)) := ⟨b2, b16, by rw [List.length_map, List.length_take]; omega, fun l hl => by
        obtain ⟨z, hz, rfl⟩ := List.mem_map.mp hl
        exact BA.good z (List.mem_of_mem_take hz), BA.up.sublist ((List.take_sublist 2 zs0).map _)⟩
      have z2 : (zs0.take 2).length ≤ 2 := by rw [List.length_take]; omega
      have sT : s ≠ T0 := by obtain ⟨_, _, _, e⟩ := S1; exact T1.lst e
      have S4 := (Stq.of S3.st m4)
      have T4 := T3.same m4
      have RV4 : RuleAt (aw [s, T0] (upd (upd H3 q (.lst ((zs0.take 2).map fun z => V.ref z.1))) r (.tup [V.int b, V.ref q]))) r b q (zs0.take 2) := by
        have hqT : upd (upd H3 q (.lst ((zs0.take 2).map fun z => V.ref z.1))) r (.tup [V.int b, V.ref q]) q = some (.lst ((zs0.take 2).map fun z => V.ref z.1)) := same_upd hr' _ _ upd_same
        have hrT : upd (upd H3 q (.lst ((zs0.take 2).map fun z => V.ref z.1))) r (.tup [V.int b, V.ref q]) r = some (.tup [V.int b, V.ref q]) := upd_same
        refine ⟨into_vw ((Stq.of S3.st (same_upd hq (o := .lst ((zs0.take 2).map fun z => V.ref z.1)))).st.ne hr') (T4.tup hrT) hrT, into_vw (S3.st.ne hq) (T4.lst hqT) hqT, fun z hz => ?_⟩
        have hz0 := List.mem_of_mem_take hz
        have hzT := m4 _ _ (BA.st z hz0)
        exact into_vw (S2.st.ne (BA.ns z hz0)) (T4.lst hzT) hzT
      generalize upd (upd H3 q (.lst ((zs0.take 2).map fun z => V.ref z.1))) r (.tup [V.int b, V.ref q]) = H4 at m4 S4 T4 RV4
      generalize zs0.take 2 = zs at g z2 RV4
      refine ⟨_, rfl, s, rfl, S4.st, fun bd H5 hbd0 S5 => ?_⟩
      have hbd : bd < 2 ^ 900 := Nat.lt_trans hbd0 (by decide)
      have T5 := T4.stq S4.st S5.sm
      have RV5 := RV4.same S5.vw
      refine ⟨_, rfl, _, rfl, _, rfl, r, _, _, V.ref q, rfl, rfl, SqT.of (view_get RV5.tu).2, rfl, s, b, q, zs, rfl, S5.st, b2, b16, vw_s _ _ RV5.li, fun z hz => vw_s _ _ (RV5.st z hz), by omega, fun l1 n1 H6 S6 nl1 hl1 g1 hnot1 => ?_⟩
      have T6 := T5.stq S5.st S6.sm
      have RV6 := RV5.same S6.vw
      have hl1v : aw [s, T0] H6 l1 = some (.lst (n1.map V.int)) := into_vw (S5.st.ne nl1) (T6.lst hl1) hl1
      refine ⟨_, rfl, _, rfl, _, rfl, _, rfl, r, _, _, V.ref q, rfl, rfl, SqT.of (view_get RV6.tu).2, rfl, _, rfl, (by show 1 ≤ sizeLine; decide), fun l2 hl2 => ?_⟩
      have m7 := same_upd hl2 (o := .lst [V.ref l1])
      refine ⟨q, l2, _, _, rfl, rfl, m7 _ _ (view_get RV6.li).2, upd_same, by rw [List.length_map]; exact Nat.le_trans (show zs.length + 1 ≤ 3 by omega) (by decide), fun l3 hl3 => ?_⟩
      have m8 := m7.trans (same_upd hl3 (o := .lst (zs.map (fun z => V.ref z.1) ++ [V.ref l1])))
      have S8 := Stq.of S6.st m8
      have T8 := T6.same m8
      have RV8 := RV6.same S8.vw
      have hl18 := S8.vw _ _ hl1v
      have hl3v : aw [s] (upd (upd H6 l2 (.lst [V.ref l1])) l3 (.lst (zs.map (fun z => V.ref z.1) ++ [V.ref l1]))) l3 = some (.lst ((zs ++ [(l1, n1)]).map fun z => V.ref z.1)) := by
        rw [aw_out (by simpa using (Stq.of S6.st m7).st.ne hl3), upd_same, List.map_append]; rfl
      generalize upd (upd H6 l2 (.lst [V.ref l1])) l3 (.lst (zs.map (fun z => V.ref z.1) ++ [V.ref l1])) = H8 at m8 S8 T8 RV8 hl18 hl3v
      refine ⟨s, b, l3, zs ++ [(l1, n1)], rfl, S8.st, b2, b16, hl3v, fun z hz => ?_, by rw [List.length_append, List.length_singleton]; omega, fun l4 n4 H9 S9 nl4 hl4 g4 hnot4 => ?_⟩
      · rcases List.mem_append.mp hz with hz | hz
        · exact vw_s _ _ (RV8.st z hz)
        · have e : z = (l1, n1) := by simpa using hz
          subst e; exact vw_s _ _ hl18
      have T9 := T8.stq S8.st S9.sm
      have RV9 := RV8.same S9.vw
      have hl19 := S9.vw _ _ hl18
      have hl4v : aw [s, T0] H9 l4 = some (.lst (n4.map V.int)) := into_vw (S8.st.ne nl4) (T9.lst hl4) hl4
      refine ⟨(by show 2 ≤ sizeLine; decide), fun l5 hl5 => ?_⟩
      have m10 := same_upd hl5 (o := .lst [V.ref l1, V.ref l4])
      have S10 := Stq.of S9.st m10
      refine ⟨_, rfl, s, _, rfl, S10.st, by decide, by decide, fun x H11 hx S11 => ?_⟩
      have S911 := S10.trans S11
      have T11 := T9.stq S9.st S911.sm
      have h5 : H11 l5 = some (.lst [V.ref l1, V.ref l4]) := S11.sm _ _ (S9.st.ne hl5) upd_same
      refine ⟨_, _, rfl, rfl, _, rfl, l5, _, rfl, SqL.of h5, fun so hso => ?_⟩
      have hn4 : n4 ∉ zs.map (·.2) ∧ n4 ≠ n1 := by
        rw [List.map_append, List.mem_append, not_or] at hnot4
        exact ⟨hnot4.1, fun z => hnot4.2 (by simp [z])⟩
      obtain ⟨os, hcut, ho2, hom, ndo⟩ : ∃ os : List (Addr × List Int), cutV [V.ref l1, V.ref l4] none (some (1 + (x : Int))) = os.map (fun z => V.ref z.1) ∧ os.length ≤ 2 ∧ (∀ o ∈ os, o = (l1, n1) ∨ o = (l4, n4)) ∧ (os.map (·.2)).Nodup := by
        have hx2 : x < 2 := by omega
        match x, hx2 with
        | 0, _ => exact ⟨[(l1, n1)], cutV_upto _ 1, by simp, fun o ho => .inl (by simpa using ho), by simp⟩
        | 1, _ => exact ⟨[(l1, n1), (l4, n4)], cutV_upto _ 2, by simp, fun o ho => by simpa using ho, by simp [Ne.symm hn4.2]⟩
      rw [hcut]
      have m12 := same_upd hso (o := .lst (os.map fun z => V.ref z.1))
      have S12 := S911.same m12
      have T12 := T11.same m12
      have RV12 := RV9.same S12.vw
      have hl112 := S12.vw _ _ hl19
      have hl412 := S12.vw _ _ hl4v
      have hso12 : upd H11 so (.lst (os.map fun z => V.ref z.1)) so = some (.lst (os.map fun z => V.ref z.1)) := upd_same
      have hsov := into_vw (S911.st.ne hso) (T12.lst hso12) hso12
      have hosv : ∀ o ∈ os, aw [s, T0] (upd H11 so (.lst (os.map fun z => V.ref z.1))) o.1 = some (.lst (o.2.map V.int)) := fun o ho => by
        rcases hom o ho with e | e
        · subst e; exact hl112
        · subst e; exact hl412
      have gos : ∀ o ∈ os, GoodSt b o.2 ∧ o.2 ∉ zs.map (·.2) := fun o ho => by
        rcases hom o ho with e | e
        · subst e; exact ⟨g1, hnot1⟩
        · subst e; exact ⟨g4, hn4.1⟩
      have upH : ∀ c o, c ≠ s → Ha c = some o → upd H11 so (.lst (os.map fun z => V.ref z.1)) c = some o := fun c o hc e => S12.sm c o hc (S9.sm c o hc (S8.sm c o hc (S6.sm c o hc (S5.sm c o hc (S4.sm c o hc (S3.sm c o hc (S2.sm c o hc (m1 _ _ e))))))))
      obtain ⟨sg, sx, sk, hs12⟩ := S12.st
      generalize upd H11 so (.lst (os.map fun z => V.ref z.1)) = H12 at T12 RV12 hl112 hsov hosv upH hs12
      clear S2 S3 S4 S5 S6 S8 S9 S10 S11 S911 S12 m12 m10 m8 m7 m4 hl4v hl412 hl19 hl18 hl1v hl3v RV4 RV5 RV6 RV8 RV9 T2 T3 T4 T5 T6 T8 T9 T11 hl1 hl4 hso12 hcut BA ecut
      have R12 := RV12.same (aw_same _ _)
      refine ⟨_, rfl, r, b, q, zs, rfl, R12, by omega, fun r1 bl1 zs1 H13 s13 R13 e13 _ _ _ => ⟨_, rfl, made_K R13 (by rw [e13]; exact g) (T12.same s13) ?_⟩⟩
      rintro k H14 ⟨tl, sa, la, bb, zz, ws, L, KA, ez0, m14, T14, nk, nla, nsa, nbl, cl⟩
      have ez : zz.map (·.2) = zs.map (·.2) := ez0.trans e13
      have zzl : zz.length = zs.length := by have := congrArg List.length ez; rwa [List.length_map, List.length_map] at this
      have up14 : ∀ c o, c ≠ T0 → H12 c = some o → H14 c = some o ∧ c ≠ k ∧ c ≠ la := fun c o hc e => ⟨m14 c o hc (s13 _ _ e), ne_of_none (s13 _ _ e) nk, ne_of_none (s13 _ _ e) nla⟩
      have U14 : Same (aw [s, T0] H12) (aw [s, T0] H14) := view_same fun c o hc e => (up14 c o (fun z => hc (by simp [z])) e).1
      have vT : ∀ {c : Addr} {o : HO}, aw [s, T0] H12 c = some o → c ≠ s ∧ c ≠ T0 ∧ H12 c = some o := fun e => by
        obtain ⟨hc, e'⟩ := view_get e
        simp only [List.mem_cons, List.not_mem_nil, or_false, not_or] at hc
        exact ⟨hc.1, hc.2, e'⟩
      obtain ⟨sos, soT, hsoR⟩ := vT hsov
      refine ⟨_, rfl, _, rfl, k, tl, sa, la, b, bd, bb, zz, ws, L, so, os, rfl, KA, T14, hbd, by omega, ho2, (up14 so _ soT hsoR).1, fun o ho => (view_get (U14 _ _ (hosv o ho))).2, fun o ho => ⟨(gos o ho).1, by rw [ez]; exact (gos o ho).2⟩, ndo, (up14 so _ soT hsoR).2.2, fun H15 KE15 => ⟨_, rfl, bF (by simp) ?_⟩⟩
      obtain ⟨tl2, sa2, la2, bl2, zs2, ws2, L2, KA15, ez15, O15, T15, hla15, KT15⟩ := KE15
      have up15 : ∀ c o, c ≠ T0 → H12 c = some o → H15 c = some o ∧ c ≠ k ∧ c ≠ la2 := fun c o hc e => by
        obtain ⟨q1, q2, q3⟩ := up14 c o hc e
        refine ⟨O15 c o q2 q3 hc q1, q2, fun z => ?_⟩
        rcases hla15 with h | h
        · rw [← z, q1] at h; cases h
        · exact q3 (z.trans h)
      have U15 : Same (aw [s, T0] H12) (aw [s, T0] H15) := view_same fun c o hc e => (up15 c o (fun z => hc (by simp [z])) e).1
      have CL15 := KT15 s _ sT (up14 s _ sT hs12).1 (cl s _ (s13 _ _ hs12))
      refine ⟨_, rfl, _, rfl, _, rfl, r, b, bd, q, zs, so, os, rfl, (RV12.same U15).same (aw_same _ _), g, T15, hbd, z2, ho2, (up15 so _ soT hsoR).1, fun o ho => (view_get (U15 _ _ (hosv o ho))).2, gos, ndo, fun H16 m16 T16 => ⟨_, rfl, bF (by simp) ?_⟩⟩
      have up16 : ∀ c o, c ≠ T0 → H12 c = some o → H16 c = some o ∧ c ≠ k ∧ c ≠ la2 := fun c o hc e => ⟨m16 _ _ hc (up15 c o hc e).1, (up15 c o hc e).2⟩
      have U16 : Same (aw [s, T0] H12) (aw [s, T0] H16) := view_same fun c o hc e => (up16 c o (fun z => hc (by simp [z])) e).1
      have KA16 := KA15.sameL T15 m16
      have CL16 := KA15.kpsL T15 m16 CL15
      have ez2 : zs2.map (·.2) = zs.map (·.2) := ez15.trans ez
      have z2l : zs2.length = zs.length := by have := congrArg List.length ez2; rwa [List.length_map, List.length_map] at this
      refine ⟨_, rfl, _, rfl, _, rfl, _, rfl, s, k, tl2, sa2, la2, b, bd, bl2, zs2, ws2, L2, l1, n1, rfl, ⟨sg, sx, sk, (up16 s _ sT hs12).1⟩, KA16, CL16, T16, hbd, by omega, vw_s _ _ (U16 _ _ hl112), g1, by rw [ez2]; exact hnot1, fun H17 KZ17 => ⟨_, rfl, bF (by simp) ?_⟩⟩
      obtain ⟨tl3, sa3, la3, bl3, zs3, ws3, L3, KA17, ez17, CH17, S17, T17⟩ := KZ17
      have up17 : ∀ c o, c ≠ s → c ≠ T0 → H12 c = some o → H17 c = some o := fun c o h1 h2 e => CH17 c o h1 (up16 c o h2 e).2.1 (up16 c o h2 e).2.2 h2 (up16 c o h2 e).1
      have U17 : Same (aw [s, T0] H12) (aw [s, T0] H17) := view_same fun c o hc e => up17 c o (fun z => hc (by simp [z])) (fun z => hc (by simp [z])) e
      obtain ⟨dx17, hk17⟩ := KA17.ob
      refine ⟨_, rfl, k, dx17, _, rfl, hk17, fldK_no _ _ _ _, k, tl3, sa3, la3, b, bd, bl3, zs3, ws3, L3, rfl, KA17, fun r18 bl18 zs18 H18 s18 R18 e18 _ _ _ => ?_⟩
      have RR := ((RV12.same U17).same (aw_same _ _)).same s18
      refine ⟨_, rfl, tRule b (zs18.map (·.2)), tRule b (zs.map (·.2)), TrAt.rule R18, TrAt.rule RR, tRule_dep _ _, _, rfl, ?_⟩
      rw [if_pos rfl, e18, ez17, ez2, teq_refl]
      refine iteF ?_
      have T18 := T17.same s18
      have S18 := (Stq.of S17 s18).st
      have fin : ∀ {H' : Hp}, (∀ c o, c ≠ s → c ≠ T0 → H18 c = some o → H' c = some o) → SameL T0 H H' := fun m c o hc e => by
        have ea := mH c o hc e
        have hcs := ne_of_none ea nS
        exact m c o hcs hc (s18 _ _ (up17 c o hcs hc (upH c o hcs ea)))
      rw [tNext_ap]
      dsimp only
      refine if_gen (fun _ => False) (fun H' => SameL T0 H H' ∧ LT T0 H') (fun _ h => h.elim) (fun H' h => ?_) (fun R _ hB => ?_)
      · exact ⟨_, _, _, _, _, _, _, _, rfl, h.1, h.2⟩
      refine ⟨_, rfl, rfl, _, rfl, ?_⟩
      by_cases hi0 : i = 0
      · rw [decide_eq_true (show V.int (0 + (i : Int)) = V.int 0 by rw [hi0]; rfl)]
        refine iteT ⟨_, rfl, s, _, rfl, S18, by decide, by decide, fun x' H19 hx' S19 => ⟨rfl, _, rfl, ?_⟩⟩
        have T19 := T18.stq S18 S19.sm
        by_cases hx0 : x' = 0
        · rw [decide_eq_true (show V.int (x' : Int) = V.int 0 by rw [hx0]; rfl)]
          have RL : RuleAt (aw [s] H19) r b q zs := (((RV12.same U17).same (view_same fun c o _ e => s18 _ _ e)).same S19.vw).same vw_s
          refine iteT ⟨_, rfl, _, rfl, _, rfl, s, r, b, bd, q, zs, rfl, S19.st, RL, g, T19, hbd, fun H20 m20 S20 T20 => ⟨_, rfl, ?_⟩⟩
          exact hB H20 ⟨fin fun c o h1 h2 e => m20 c o h1 h2 (S19.sm c o h1 e), T20⟩
        · rw [decide_eq_false (fun z => by injection z with z; omega)]
          exact iteF (hB H19 ⟨fin fun c o h1 _ e => S19.sm c o h1 e, T19⟩)
      · rw [decide_eq_false (fun z => by injection z with z; omega)]
        exact iteF (hB H18 ⟨fin fun c o _ _ e => e, T18⟩)
    · rintro σ H3 ⟨v1, v2, v3, v4, v5, v6, v7, v8, rfl, _, _⟩
      exact kk H3
end
end Lw
namespace PySem.W.Fast
def tw4367875599801255962 := ()
def tw11492297149375336376 := ()
def tw13855137226980470074 := ()
def tw17661548461424696814 := ()
def tw52565258872122020 := ()
def tw9657196061014620433 := ()
def tw8129209226250426942 := ()
def tw12324196538208544536 := ()
def tw12826040885934276575 := ()
def tw5825515139906651319 := ()
def tw9339725285056475037 := ()
def tw16599788223918545270 := ()
def tw13619575309630240943 := ()
def tw3933668667288066272 := ()
def tw16624819634852592402 := ()
def tw16298514652152243831 := ()
def tw17435485731686232442 := ()
def tw11052275439775278686 := ()
def tw8581583296713488207 := ()
def tw15890795781693692412 := ()
def tw9981454439457953289 := ()
def tw6101281362486768757 := ()
def tw5926561220601133690 := ()
def tw16493446424964954753 := ()
def tw10129915548406943884 := ()
def tw9238285379347827732 := ()
def tw6904811867053257736 := ()
def tw15831658452774101627 := ()
def tw5840494395148024210 := ()
def tw11702077947524757201 := ()
def tw14836046084934239897 := ()
def tw14747237739770096287 := ()
def tw14270553493705030356 := ()
def tw10327469761091997956 := ()
def tw6549647794224553127 := ()
def tw12266165917728690061 := ()
def tw12018821837493594271 := ()
def tw6409788804557295191 := ()
def tw14482723421539789423 := ()
def tw6774679323549285529 := ()
def tw16969435148529954035 := ()
def tw15687771707453158383 := ()
def tw5417825126931482047 := ()
def tw14053880489051944154 := ()
def tw4957203687121867687 := ()
def tw6036307022524603081 := ()
def tw3746936819692519276 := ()
def tw4685976964676820548 := ()
def tw18122970905125713567 := ()
def tw8191594680996745059 := ()
def tw15770690198466128806 := ()
def tw7081279562015079052 := ()
def tw17265824879771279990 := ()
def tw6718126651430294480 := ()
def tw1255638345918617631 := ()
def tw1801966022558929729 := ()
def tw11820031923856773081 := ()
def tw8122479463632204913 := ()
def tw14543042303540070041 := ()
def tw840837269083222418 := ()
def tw5467879765275758403 := ()
def tw15163274529298580148 := ()
def tw16323858077902766617 := ()
def tw2830207005249864256 := ()
def tw1342707153665337536 := ()
def tw4737400603008679025 := ()
def tw1068974192991708602 := ()
def tw1875054942110102764 := ()
def tw15474551198480720582 := ()
def tw11998237513462397201 := ()
def tw3212638671788573850 := ()
def tw7793338304940108702 := ()
def tw16720817492846882421 := ()
def tw5083621996312287661 := ()
def tw11791595370662493277 := ()
def tw10069410068350063480 := ()
def tw12559261012795079828 := ()
def tw377715853343582983 := ()
def tw14837351145325219662 := ()
def tw17067892075459721705 := ()
def tw3477276262570001792 := ()
def tw4125610156403852540 := ()
def tw5541744973351696486 := ()
def tw10939293606782839913 := ()
def tw9301783625450017576 := ()
def tw8282321706960298012 := ()
def tw12465087331135137884 := ()
def tw13399253355147570520 := ()
def tw15047802555538863739 := ()
def tw7641511117265166078 := ()
def tw2640844800643769844 := ()
def tw12849711032002083585 := ()
def tw2560342315021169841 := ()
def tw9961310758911471927 := ()
def tw4484524105811707165 := ()
def tw15069947061709054416 := ()
def tw4607675534926740724 := ()
def tw6008627606786330140 := ()
def tw15633371599028478424 := ()
def tw1714948735880893021 := ()
def tw5531929890641252644 := ()
def tw10245259686560214627 := ()
def tw8325766676803109924 := ()
def tw13875486788556346204 := ()
def tw8020496314214086148 := ()
def tw17136954761803048656 := ()
def tw296652824510008244 := ()
def tw2063962763623778874 := ()
def tw713001935239324726 := ()
def tw1756977417099216896 := ()
def tw3850019464025317487 := ()
def tw16216089389679638368 := ()
def tw1372594203813673648 := ()
def tw11568691026587002107 := ()
def tw16736387499909220423 := ()
def tw6658206871041646098 := ()
def tw13732326923954407108 := ()
def tw5308724845301732357 := ()
def tw2361504158844361022 := ()
def tw11620117033711631217 := ()
def tw18238943831699848430 := ()
def tw3652103533159597319 := ()
def tw4428784287947678744 := ()
def tw17048143340255208441 := ()
def tw684772662967197666 := ()
def tw18166353036053747307 := ()
def tw535133178884671391 := ()
def tw15747671800428833256 := ()
def tw9819828621169613670 := ()
def tw12524548914180032916 := ()
def tw5139886721130527083 := ()
def tw16425189185617011879 := ()
def tw15881855556864021723 := ()
def tw3232798313776858669 := ()
def tw9164678814207940664 := ()
def tw7779171757362368090 := ()
def tw17200536952144446777 := ()
def tw5227864239684447328 := ()
def tw4493327976369113190 := ()
def tw13288793352214346686 := ()
def tw7562659206188122240 := ()
def tw234389726883861629 := ()
def tw9336639439810580528 := ()
def tw12755871727955959251 := ()
def tw11909728974814172741 := ()
def tw81392016339853701 := ()
def tw13144142851356191038 := ()
def tw12347382974460351679 := ()
def tw2632799022818769642 := ()
def tw16204505040161166056 := ()
def tw14272770036767692345 := ()
def tw5933345627869332569 := ()
def tw8545463782630169369 := ()
def tw5792485020561853449 := ()
def tw16550753906005124985 := ()
def tw11779079360695740985 := ()
def tw6003247918825790542 := ()
def tw17431552841409863030 := ()
def tw4522282916517094155 := ()
def tw1751951237151169506 := ()
def tw11527206709589304296 := ()
def tw7102588146365122582 := ()
def tw11407740495331810864 := ()
def tw8530995304336598626 := ()
def tw5783010744569754357 := ()
def tw17614166163007757822 := ()
def tw5377697154887594079 := ()
def tw14808960047524506845 := ()
def tw8320844325013678944 := ()
def tw12563183135175270587 := ()
def tw18173820249833127176 := ()
def tw2791057691976931934 := ()
def tw4053314216697813331 := ()
def tw3499614249594688458 := ()
def tw3975941380960465318 := ()
def tw10279950909102392871 := ()
def tw7058266960149037678 := ()
def tw14625553907666847430 := ()
def tw1098780750332140207 := ()
def tw15258336553220941386 := ()
def tw5094239464920621689 := ()
def tw12472812595755669401 := ()
def tw4618635383516341750 := ()
def tw11845697741516856051 := ()
def tw7329385108765917000 := ()
def tw5879379756862156837 := ()
def tw691437576008939103 := ()
def tw10683750241254718039 := ()
def tw4139694459078887289 := ()
def tw4457870771797447670 := ()
def tw17523173750079755942 := ()
def tw10602058460311612089 := ()
def tw13842300038326966530 := ()
def tw14844357178409584863 := ()
def tw7598403656814265448 := ()
def tw8481634089705247640 := ()
def tw13753583287596072505 := ()
def tw14379213081178750341 := ()
def tw3647017211741095025 := ()
def tw6446655571979924146 := ()
def tw1504634287894363679 := ()
def tw9921007427276867044 := ()
def tw11001682457946178755 := ()
def tw5506503807869806565 := ()
def tw656379000567436012 := ()
def tw5391443267066564697 := ()
def tw10101849070440702896 := ()
def tw14114880247809881883 := ()
def tw8596134673612269174 := ()
def tw4548713948723102831 := ()
def tw14676246712323345167 := ()
def tw3369997826738188569 := ()
def tw4016057459193720058 := ()
def tw17009335120716332292 := ()
def tw14295434998780861386 := ()
def tw12113500962407257776 := ()
def tw2633788904980676981 := ()
def tw6925513312593859057 := ()
def tw8305813520135101178 := ()
def tw703298833044977217 := ()
def tw5467950407572014052 := ()
def tw1556232253607106903 := ()
def tw6032861252269813125 := ()
def tw474579694482746846 := ()
def tw13697467419968190815 := ()
def tw6248238637498028689 := ()
def tw7820865158487570564 := ()
def tw1849086221240119514 := ()
def tw3521016915675346084 := ()
def tw8332769372929471682 := ()
def tw1102653259939756064 := ()
def tw7641406608859722086 := ()
def tw7841243174139842836 := ()
def tw4900991046992974288 := ()
def tw13245715043254808858 := ()
def tw5787447065854644509 := ()
def tw18328223506441888928 := ()
def tw6283437066193095299 := ()
def tw4291457033794544229 := ()
def tw6093075135292915550 := ()
def tw9136330327180162270 := ()
def tw1765931915976563796 := ()
def tw1172185944813569549 := ()
def tw2539778796623013842 := ()
def tw10664543104317335605 := ()
def tw12411043266305098608 := ()
def tw15839107119348248860 := ()
def tw11824235007324868934 := ()
def tw16832695337317382890 := ()
def tw11952345674390205452 := ()
def tw13631404196938560575 := ()
def tw16620298703609174110 := ()
def tw7654776466307044027 := ()
def tw8727363134357174343 := ()
def tw3821850815629029199 := ()
def tw3471863120469143820 := ()
def tw12105002300102738015 := ()
def tw17960274253651052834 := ()
def tw1600885816180269983 := ()
def tw6462583374525326951 := ()
def tw17205620848087336500 := ()
def tw13344411897469453609 := ()
def tw4915879985911755653 := ()
def tw825223973135677408 := ()
def tw825826261188555444 := ()
def tw677828537791022085 := ()
def tw8579689666661693463 := ()
def tw13472430247292871219 := ()
def tw13609728794991511066 := ()
def tw15561995805432121334 := ()
def tw10827242267630684771 := ()
def tw13933333681946083268 := ()
def tw6124299167288177387 := ()
def tw4225376267533529641 := ()
def tw7071484646175622411 := ()
def tw9486435739376839320 := ()
def tw15429462807720061806 := ()
def tw11240013788117742338 := ()
def tw7686848239907400929 := ()
def tw17168876253073475906 := ()
def tw17383298746465998747 := ()
def tw8771006826562539806 := ()
def tw11499335806647655310 := ()
def tw4869319961736913538 := ()
def tw17400712186252151081 := ()
def tw11665990932978746625 := ()
def tw11779384370334709869 := ()
def tw3000073935379426669 := ()
def tw15016234032011108563 := ()
def tw14577562632384241713 := ()
def tw9033080246005498752 := ()
def tw153632996908689991 := ()
def tw7404993378898852608 := ()
def tw14861912260037715636 := ()
def tw2355207058194675435 := ()
def tw6268090955568720351 := ()
def tw178832804886991986 := ()
def tw14506777971883374822 := ()
def tw14939021604540959540 := ()
def tw4886441469404634908 := ()
def tw6511221952534325033 := ()
def tw3125784801124538360 := ()
def tw14062247869340649320 := ()
def tw11800283291670058366 := ()
def tw7744490060188119498 := ()
def tw1524457274437966372 := ()
def tw5631648796881688500 := ()
def tw10596135202950344325 := ()
def tw5022134822568932857 := ()
def tw5420264028598393426 := ()
def tw4301123185190359829 := ()
def tw5775088755724537903 := ()
def tw16316431740851028199 := ()
def tw14341249144464338042 := ()
def tw3247288617010308372 := ()
def tw596595762289435169 := ()
def tw8314848688680968824 := ()
def tw11789818488379058493 := ()
def tw3452034143634138911 := ()
def tw9305818559848881174 := ()
def tw4740008916118498810 := ()
def tw9759744909065114758 := ()
def tw13112428191161127013 := ()
def tw12500362775663933414 := ()
def tw6780022564648046280 := ()
def tw3829886268741382715 := ()
def tw1737332812127780923 := ()
def tw3642033840219061257 := ()
def tw15340856163640419281 := ()
def tw380528740386279827 := ()
def tw11827120847379896508 := ()
def tw1199593242370444648 := ()
def tw14561203735456177039 := ()
def tw12658943061451352480 := ()
def tw13867527473199375492 := ()
def tw12753987068879789791 := ()
def tw14286207845731927514 := ()
def tw10626984886835607602 := ()
def tw12690201334907293209 := ()
def tw12902045662848009153 := ()
def tw17663189433515639404 := ()
def tw6246803255226115578 := ()
def tw10173305957794077203 := ()
def tw16890733675391933875 := ()
def tw6873432768050076225 := ()
def tw1471062585283057001 := ()
def tw1174150061396193945 := ()
def tw9468281587716981608 := ()
def tw7466857212602093854 := ()
def tw8607988434167622236 := ()
def tw13922457678422971161 := ()
def tw2341407919184880779 := ()
def tw16880288037216494938 := ()
def tw15594362144615730180 := ()
def tw2546297630287083569 := ()
def tw15085645715116907878 := ()
def tw9054288972307213138 := ()
def tw488527857457658994 := ()
def tw8757487679423890792 := ()
def tw17584511336098891378 := ()
def tw1758185228713313795 := ()
def tw18310866908943213258 := ()
def tw4542611308846631702 := ()
def tw764434135844534653 := ()
def tw5669695612149539593 := ()
def tw8393574995247092559 := ()
def tw15455466793556373648 := ()
def tw5663933126923693478 := ()
def tw10026160086993115534 := ()
def tw1279443180611849455 := ()
def tw10076551004418195809 := ()
def tw14108109695258032964 := ()
def tw15861549941344539187 := ()
def tw3387251488394889716 := ()
def tw5488284896461522586 := ()
def tw5109715797524557157 := ()
def tw14882088953268237157 := ()
def tw6964586294139868176 := ()
def tw16735330911686047137 := ()
def tw15437858074417308729 := ()
def tw16069126336359218213 := ()
def tw16392989882062666747 := ()
def tw7072558976966233297 := ()
def tw11025629272406957013 := ()
def tw11197917211830182765 := ()
def tw284067612918370730 := ()
def tw5570267378880898804 := ()
def tw17046741315294181981 := ()
def tw12202488433126099863 := ()
def tw8451813653470930983 := ()
def tw8968167496469632208 := ()
def tw4480723144317862712 := ()
def tw16327515354633609248 := ()
def tw10895919552391973592 := ()
def tw7159568362793293076 := ()
def tw15080405158165772900 := ()
def tw13706033244781952074 := ()
def tw1697373909175622635 := ()
def tw9294934371298909381 := ()
def tw15209464121601613192 := ()
def tw14293348766549325971 := ()
def tw4926808835114785521 := ()
def tw5548816192361265701 := ()
def tw10349578850146255969 := ()
def tw18382739954586377032 := ()
def tw10227513173661200824 := ()
def tw6661641268185512330 := ()
def tw3493526676205553360 := ()
def tw11878955439527725001 := ()
def tw9790457559071604378 := ()
def tw5566924277641548273 := ()
def tw9640504108713686442 := ()
def tw6362130326010926449 := ()
def tw15182748485284870223 := ()
def tw8340373774293805293 := ()
def tw11028166976738771820 := ()
def tw376865377771786428 := ()
def tw545746782408146209 := ()
def tw436856601386249175 := ()
def tw12024973314863039168 := ()
def tw8454761072361526661 := ()
def tw9404204163155526082 := ()
def tw5190021487677172481 := ()
def tw7625960620645491335 := ()
def tw13759468552229966907 := ()
def tw15043864834082828593 := ()
def tw5845334701332853272 := ()
def tw17530886931467483080 := ()
def tw4670423244700864367 := ()
def tw17499590077870991404 := ()
def tw2653550759282058275 := ()
def tw14019253050562108036 := ()
def tw16957185179001344119 := ()
def tw13899900738910533720 := ()
def tw10746982474387033179 := ()
def tw15130556369568978499 := ()
def tw10388081601280997712 := ()
def tw14222057784384537323 := ()
def tw17112257713322668482 := ()
def tw7618579834929064076 := ()
def tw2672392231369170596 := ()
def tw12433433019090272866 := ()
def tw4728827695180190364 := ()
def tw3461021822005814954 := ()
end PySem.W.Fast
set_option Elab.async false
set_option linter.all false
namespace Lw
open PySem L2
def FF (K : PySem.W.Frag) (n q : Str) (st : Stmt) (f : Addr) (cd : Value) : Prop := ∃ (od an : Option Addr) (sl : Array (Option Value)) (oc kV dc pm ct : Value), K.lookup f = some ⟨oc, od, .func (PySem.W.fnOf n q (defArgs st) (defBody st) (defScope st) .none kV dc pm an cd ct), sl⟩ ∧ PySem.W.codeIn K cd q = true ∧ PySem.W.keepIn K (.ref f) = true
def FD (K : PySem.W.Frag) (n : Str) (st : Stmt) : Prop := ∃ (f : Addr) (cd : Value), PySem.W.nsIn K mainGlobals n = some (some (.ref f)) ∧ FF K n n st f cd
def FM (K : PySem.W.Frag) (C : Addr) (n q : Str) (st : Stmt) : Prop := ∃ (f : Addr) (cd : Value), PySem.W.findIn K (.ref C) n = some (some (.ref f)) ∧ PySem.W.isFn K (.ref f) = true ∧ FF K n q st f cd
section
variable {K : PySem.W.Frag} {n q : Str} {st : Stmt} {f C : Addr} {cd : Value} {od an : Option Addr} {sl : Array (Option Value)} {oc kV dc pm ct : Value}
theorem fdm (a : PySem.W.nsIn K mainGlobals n = some (some (.ref f))) (l : K.lookup f = some ⟨oc, od, .func (PySem.W.fnOf n n (defArgs st) (defBody st) (defScope st) .none kV dc pm an cd ct), sl⟩) (e : PySem.W.codeIn K cd n = true) (k : PySem.W.keepIn K (.ref f) = true) : FD K n st := ⟨f, cd, a, od, an, sl, oc, kV, dc, pm, ct, l, e, k⟩
theorem fmm (a : PySem.W.findIn K (.ref C) n = some (some (.ref f))) (i : PySem.W.isFn K (.ref f) = true) (l : K.lookup f = some ⟨oc, od, .func (PySem.W.fnOf n q (defArgs st) (defBody st) (defScope st) .none kV dc pm an cd ct), sl⟩) (e : PySem.W.codeIn K cd q = true) (k : PySem.W.keepIn K (.ref f) = true) : FM K C n q st := ⟨f, cd, a, i, od, an, sl, oc, kV, dc, pm, ct, l, e, k⟩
def FB (n q : Str) (st : Stmt) (ps : List Str) : Prop := ∀ (kV doc pm : Value) (an : Option Addr) (cdv ct : Value) (us : List Value), us.length = ps.length → bindArgs (PySem.W.fnOf n q (defArgs st) (defBody st) (defScope st) .none kV doc pm an cdv ct) ⟨us, []⟩ = pure (ps.zip us)
theorem FD.df {h : Heap} {mg : Str → Option Value} {ps : List Str} (x : FD K n st) (X : K.In h) (G : h.Ns mainGlobals mg) (b : FB n n st ps) : ∃ f fd, Df K mg n st ps f fd := by
  obtain ⟨f, cd, a, od, an, sl, oc, kV, dc, pm, ct, l, e, k⟩ := x
  exact ⟨_, _, df_mk X G a l e k b⟩
theorem FM.mt {ps : List Str} (x : FM K C n q st) (b : FB n q st ps) : ∃ f fd, Mt K C q n st ps f fd := by
  obtain ⟨f, cd, a, i, od, an, sl, oc, kV, dc, pm, ct, l, e, k⟩ := x
  exact ⟨_, _, ⟨fun_mk (st := st) l e k, (fun_mk (st := st) l e k).binds b, ⟨a, i, k⟩⟩⟩
end
set_option maxHeartbeats 0 in
theorem all_mk {l : PySem.W.OpenLaw} {w : World} {K : PySem.W.Frag} {h : Heap} {mg : Str → Option Value} {fa T0 c0 : Addr} (X : K.In h) (G : h.Ns mainGlobals mg) (hfa : mg "law" = some (.ref fa)) (hcT : PySem.W.codeHdIn K c0 T0 = true) (hgT : mainGlobals ≠ T0)
    (x0 : FD K "_wall" s__wall)
    (x1 : FD K "is_whole" s_is_whole)
    (x2 : FD K "is_number" s_is_number)
    (x3 : FD K "is_base" s_is_base)
    (x4 : FD K "is_figure" s_is_figure)
    (x5 : FD K "are_figures" s_are_figures)
    (x6 : FD K "is_stretch" s_is_stretch)
    (x7 : FD K "is_rising" s_is_rising)
    (x8 : FD K "is_bad_list" s_is_bad_list)
    (x9 : FD K "is_rule" s_is_rule)
    (x10 : FD K "check_base" s_check_base)
    (x11 : FD K "check_number" s_check_number)
    (x12 : FD K "check_rule" s_check_rule)
    (x13 : FD K "copy_of" s_copy_of)
    (x14 : FD K "stands_within" s_stands_within)
    (x15 : FD K "lacks_all" s_lacks_all)
    (x16 : FD K "figures_of" s_figures_of)
    (x17 : FD K "begins_one" s_begins_one)
    (x18 : FD K "longest_stand" s_longest_stand)
    {f19 : Addr} {od19 an19 : Option Addr} {sl19 : Array (Option Value)} {oc19 kV19 dc19 pm19 ct19 : Value} (a19 : PySem.W.nsIn K mainGlobals "stands_of" = some (some (.ref f19)))
    (l19 : K.lookup f19 = some ⟨oc19, od19, .func (PySem.W.fnOf "stands_of" "stands_of" (defArgs s_stands_of) (defBody s_stands_of) (defScope s_stands_of) .none kV19 dc19 pm19 an19 (.ref c0) ct19), sl19⟩) (e19 : PySem.W.codeIn K (.ref c0) "stands_of" = true) (k19 : PySem.W.keepIn K (.ref f19) = true)
    (x20 : FD K "place_behind" s_place_behind)
    (x21 : FD K "steps_from" s_steps_from)
    (x22 : FD K "all_steps" s_all_steps)
    (x23 : FD K "_law_cell" s__law_cell)
    (x24 : FD K "_law_store" s__law_store)
    (x25 : FD K "_law_take" s__law_take)
    (x26 : FD K "_law_stretch" s__law_stretch)
    (x27 : FD K "_law_bad" s__law_bad)
    (x28 : FD K "_law_base" s__law_base)
    (x29 : FD K "_law_copy" s__law_copy)
    (x30 : FD K "_law_number" s__law_number)
    (x31 : FD K "_law_stand" s__law_stand)
    (x32 : FD K "_law_fresh" s__law_fresh)
    (x33 : FD K "_law_round_right" s__law_round_right)
    (x34 : FD K "_law_order_right" s__law_order_right)
    (x35 : FD K "_law_within_right" s__law_within_right)
    (x36 : FD K "_law_long_right" s__law_long_right)
    (x37 : FD K "law" s_law)
    {C : Addr} (aC : PySem.W.nsIn K mainGlobals "Tails" = some (some (.ref C)))
    (yC0 : FM K C "__init__" "Tails.__init__" s_Tails___init__)
    (yC1 : FM K C "layer" "Tails.layer" s_Tails_layer)
    (yC2 : FM K C "many_by" "Tails.many_by" s_Tails_many_by)
    (yC3 : FM K C "many_under" "Tails.many_under" s_Tails_many_under)
    (yC4 : FM K C "many_below" "Tails.many_below" s_Tails_many_below)
    (yC5 : FM K C "many_within" "Tails.many_within" s_Tails_many_within)
    (yC6 : FM K C "figure_at" "Tails.figure_at" s_Tails_figure_at)
    (yC7 : FM K C "number_at" "Tails.number_at" s_Tails_number_at)
    (yC8 : FM K C "are_endless" "Tails.are_endless" s_Tails_are_endless)
    (pgC : PySem.W.plainGet K C Str.empty = true) (hdC : PySem.W.hasDictIn K C = true) (poC : PySem.W.plainOver K C = true) (saC : PySem.W.findIn K (.ref C) "__setattr__" = some (some (.builtin "object.__setattr__"))) (mkC : PySem.W.makesIn K C = true) (kcC : PySem.W.keepIn K (.ref C) = true)
    (nC_base : PySem.W.findIn K (.ref C) "base" = some none)
    (nC_outset : PySem.W.findIn K (.ref C) "outset" = some none)
    (nC_steps : PySem.W.findIn K (.ref C) "steps" = some none)
    (nC_layers : PySem.W.findIn K (.ref C) "layers" = some none)
    {CK : Addr} (aCK : PySem.W.nsIn K mainGlobals "Keeper" = some (some (.ref CK)))
    (yCK0 : FM K CK "__init__" "Keeper.__init__" s_Keeper___init__)
    (yCK1 : FM K CK "come" "Keeper.come" s_Keeper_come)
    (yCK2 : FM K CK "go" "Keeper.go" s_Keeper_go)
    (yCK3 : FM K CK "turn_to" "Keeper.turn_to" s_Keeper_turn_to)
    (yCK4 : FM K CK "rule" "Keeper.rule" s_Keeper_rule)
    (yCK5 : FM K CK "good" "Keeper.good" s_Keeper_good)
    (yCK6 : FM K CK "below" "Keeper.below" s_Keeper_below)
    (pgCK : PySem.W.plainGet K CK Str.empty = true) (hdCK : PySem.W.hasDictIn K CK = true) (poCK : PySem.W.plainOver K CK = true) (saCK : PySem.W.findIn K (.ref CK) "__setattr__" = some (some (.builtin "object.__setattr__"))) (mkCK : PySem.W.makesIn K CK = true) (kcCK : PySem.W.keepIn K (.ref CK) = true)
    (nCK_base : PySem.W.findIn K (.ref CK) "base" = some none)
    (nCK_bad : PySem.W.findIn K (.ref CK) "bad" = some none)
    (nCK_bound : PySem.W.findIn K (.ref CK) "bound" = some none)
    (nCK_tails : PySem.W.findIn K (.ref CK) "tails" = some none)
    {t0 : Tok} (g0 : PySem.W.nsIn K mainGlobals "LEAST_BASE" = some (some (.int 2 t0)))
    {t1 : Tok} (g1 : PySem.W.nsIn K mainGlobals "GREATEST_BASE" = some (some (.int 16 t1)))
    {t2 : Tok} (g2 : PySem.W.nsIn K mainGlobals "MOST_STRETCHES" = some (some (.int 4 t2)))
    {t3 : Tok} (g3 : PySem.W.nsIn K mainGlobals "LONGEST_STRETCH" = some (some (.int 4 t3)))
    (z0 : PySem.W.nsIn K mainGlobals "isinstance" = some none)
    (z1 : PySem.W.nsIn K mainGlobals "int" = some none)
    (z2 : PySem.W.nsIn K mainGlobals "bool" = some none)
    (z3 : PySem.W.nsIn K mainGlobals "list" = some none)
    (z4 : PySem.W.nsIn K mainGlobals "tuple" = some none)
    (z5 : PySem.W.nsIn K mainGlobals "reversed" = some none)
    (z6 : PySem.W.nsIn K mainGlobals "len" = some none)
    (z7 : PySem.W.nsIn K mainGlobals "max" = some none)
    (z8 : PySem.W.nsIn K mainGlobals "min" = some none)
    (z9 : PySem.W.nsIn K mainGlobals "range" = some none)
    (z10 : PySem.W.nsIn K mainGlobals "all" = some none)
    (z11 : PySem.W.nsIn K mainGlobals "any" = some none)
    (z12 : PySem.W.nsIn K mainGlobals "sorted" = some none)
    (z13 : PySem.W.nsIn K mainGlobals "enumerate" = some none)
    (z14 : PySem.W.nsIn K mainGlobals "repr" = some none)
    (z15 : PySem.W.nsIn K mainGlobals "sum" = some none)
    (z16 : PySem.W.nsIn K mainGlobals "abs" = some none)
    (z17 : PySem.W.nsIn K mainGlobals "zip" = some none)
    (z18 : PySem.W.nsIn K mainGlobals "str" = some none)
    : ∃ fd : FuncData, (∀ (s : Shared) (v : Value), BindsTo s fd ⟨[v], []⟩ [("script", v)]) ∧ ∀ base : Heap, K.In base → base.Ns mainGlobals mg → base.BuiltinsAt mg T0 → FnOk l.prog w K mg base CX0 12 fa fd ["script"] (sp_law K T0) := by
  obtain ⟨fL, cd37, aL, od37, an37, sl37, oc37, kV37, dc37, pm37, ct37, lL, eL, kL⟩ := x37
  have e := hfa.symm.trans (PySem.W.mg_of X G aL)
  cases e
  have T : Blt mg := ⟨PySem.W.mg_none_of X G z0, PySem.W.mg_none_of X G z1, PySem.W.mg_none_of X G z2, PySem.W.mg_none_of X G z3, PySem.W.mg_none_of X G z4, PySem.W.mg_none_of X G z5, PySem.W.mg_none_of X G z6, PySem.W.mg_none_of X G z7, PySem.W.mg_none_of X G z8, PySem.W.mg_none_of X G z9, PySem.W.mg_none_of X G z10, PySem.W.mg_none_of X G z11, PySem.W.mg_none_of X G z12, PySem.W.mg_none_of X G z13, PySem.W.mg_none_of X G z14⟩
  have U : Blt2 mg := ⟨PySem.W.mg_none_of X G z15, PySem.W.mg_none_of X G z16, PySem.W.mg_none_of X G z17, PySem.W.mg_none_of X G z18⟩
  have c_LEAST_BASE := PySem.W.mg_of X G g0
  have c_GREATEST_BASE := PySem.W.mg_of X G g1
  have c_MOST_STRETCHES := PySem.W.mg_of X G g2
  have c_LONGEST_STRETCH := PySem.W.mg_of X G g3
  obtain ⟨_, _, D_wall⟩ := x0.df (ps := ["k"]) X G fun _ _ _ _ _ _ us hl => match us, hl with | [_], _ => rfl
  obtain ⟨_, _, Dis_whole⟩ := x1.df (ps := ["thing"]) X G fun _ _ _ _ _ _ us hl => match us, hl with | [_], _ => rfl
  obtain ⟨_, _, Dis_number⟩ := x2.df (ps := ["thing"]) X G fun _ _ _ _ _ _ us hl => match us, hl with | [_], _ => rfl
  obtain ⟨_, _, Dis_base⟩ := x3.df (ps := ["thing"]) X G fun _ _ _ _ _ _ us hl => match us, hl with | [_], _ => rfl
  obtain ⟨_, _, Dis_figure⟩ := x4.df (ps := ["base", "thing"]) X G fun _ _ _ _ _ _ us hl => match us, hl with | [_, _], _ => rfl
  obtain ⟨_, _, Dare_figures⟩ := x5.df (ps := ["base", "thing"]) X G fun _ _ _ _ _ _ us hl => match us, hl with | [_, _], _ => rfl
  obtain ⟨_, _, Dis_stretch⟩ := x6.df (ps := ["base", "thing"]) X G fun _ _ _ _ _ _ us hl => match us, hl with | [_, _], _ => rfl
  obtain ⟨_, _, Dis_rising⟩ := x7.df (ps := ["stretches"]) X G fun _ _ _ _ _ _ us hl => match us, hl with | [_], _ => rfl
  obtain ⟨_, _, Dis_bad_list⟩ := x8.df (ps := ["base", "thing"]) X G fun _ _ _ _ _ _ us hl => match us, hl with | [_, _], _ => rfl
  obtain ⟨_, _, Dis_rule⟩ := x9.df (ps := ["thing"]) X G fun _ _ _ _ _ _ us hl => match us, hl with | [_], _ => rfl
  obtain ⟨_, _, Dcheck_base⟩ := x10.df (ps := ["thing"]) X G fun _ _ _ _ _ _ us hl => match us, hl with | [_], _ => rfl
  obtain ⟨_, _, Dcheck_number⟩ := x11.df (ps := ["thing"]) X G fun _ _ _ _ _ _ us hl => match us, hl with | [_], _ => rfl
  obtain ⟨_, _, Dcheck_rule⟩ := x12.df (ps := ["thing"]) X G fun _ _ _ _ _ _ us hl => match us, hl with | [_], _ => rfl
  obtain ⟨_, _, Dcopy_of⟩ := x13.df (ps := ["rule"]) X G fun _ _ _ _ _ _ us hl => match us, hl with | [_], _ => rfl
  obtain ⟨_, _, Dstands_within⟩ := x14.df (ps := ["stretch", "figures"]) X G fun _ _ _ _ _ _ us hl => match us, hl with | [_, _], _ => rfl
  obtain ⟨_, _, Dlacks_all⟩ := x15.df (ps := ["bad", "figures"]) X G fun _ _ _ _ _ _ us hl => match us, hl with | [_, _], _ => rfl
  obtain ⟨_, _, Dfigures_of⟩ := x16.df (ps := ["base", "n"]) X G fun _ _ _ _ _ _ us hl => match us, hl with | [_, _], _ => rfl
  obtain ⟨_, _, Dbegins_one⟩ := x17.df (ps := ["bad", "figures"]) X G fun _ _ _ _ _ _ us hl => match us, hl with | [_, _], _ => rfl
  obtain ⟨_, _, Dlongest_stand⟩ := x18.df (ps := ["bad", "figures"]) X G fun _ _ _ _ _ _ us hl => match us, hl with | [_, _], _ => rfl
  have Dstands_of : Df K mg "stands_of" s_stands_of ["bad"] _ _ := df_mk X G a19 l19 e19 k19 fun _ _ _ _ _ _ us hl => match us, hl with | [_], _ => rfl
  obtain ⟨_, _, Dplace_behind⟩ := x20.df (ps := ["bad", "stands", "figures"]) X G fun _ _ _ _ _ _ us hl => match us, hl with | [_, _, _], _ => rfl
  obtain ⟨_, _, Dsteps_from⟩ := x21.df (ps := ["rule", "stands", "stand"]) X G fun _ _ _ _ _ _ us hl => match us, hl with | [_, _, _], _ => rfl
  obtain ⟨_, _, Dall_steps⟩ := x22.df (ps := ["rule", "stands"]) X G fun _ _ _ _ _ _ us hl => match us, hl with | [_, _], _ => rfl
  obtain ⟨_, _, D_law_cell⟩ := x23.df (ps := ["script", "k"]) X G fun _ _ _ _ _ _ us hl => match us, hl with | [_, _], _ => rfl
  obtain ⟨_, _, D_law_store⟩ := x24.df (ps := ["cell"]) X G fun _ _ _ _ _ _ us hl => match us, hl with | [_], _ => rfl
  obtain ⟨_, _, D_law_take⟩ := x25.df (ps := ["store", "many"]) X G fun _ _ _ _ _ _ us hl => match us, hl with | [_, _], _ => rfl
  obtain ⟨_, _, D_law_stretch⟩ := x26.df (ps := ["store", "base", "few"]) X G fun _ _ _ _ _ _ us hl => match us, hl with | [_, _, _], _ => rfl
  obtain ⟨_, _, D_law_bad⟩ := x27.df (ps := ["store", "base"]) X G fun _ _ _ _ _ _ us hl => match us, hl with | [_, _], _ => rfl
  obtain ⟨_, _, D_law_base⟩ := x28.df (ps := ["store"]) X G fun _ _ _ _ _ _ us hl => match us, hl with | [_], _ => rfl
  obtain ⟨_, _, D_law_copy⟩ := x29.df (ps := ["rule"]) X G fun _ _ _ _ _ _ us hl => match us, hl with | [_], _ => rfl
  obtain ⟨_, _, D_law_number⟩ := x30.df (ps := ["store"]) X G fun _ _ _ _ _ _ us hl => match us, hl with | [_], _ => rfl
  obtain ⟨_, _, D_law_stand⟩ := x31.df (ps := ["keeper"]) X G fun _ _ _ _ _ _ us hl => match us, hl with | [_], _ => rfl
  obtain ⟨_, _, D_law_fresh⟩ := x32.df (ps := ["store", "base", "bad"]) X G fun _ _ _ _ _ _ us hl => match us, hl with | [_, _, _], _ => rfl
  obtain ⟨_, _, D_law_round_right⟩ := x33.df (ps := ["keeper", "some"]) X G fun _ _ _ _ _ _ us hl => match us, hl with | [_, _], _ => rfl
  obtain ⟨_, _, D_law_order_right⟩ := x34.df (ps := ["rule", "b", "some"]) X G fun _ _ _ _ _ _ us hl => match us, hl with | [_, _, _], _ => rfl
  obtain ⟨_, _, D_law_within_right⟩ := x35.df (ps := ["store", "keeper", "base", "stretch"]) X G fun _ _ _ _ _ _ us hl => match us, hl with | [_, _, _, _], _ => rfl
  obtain ⟨_, _, D_law_long_right⟩ := x36.df (ps := ["store", "rule", "b"]) X G fun _ _ _ _ _ _ us hl => match us, hl with | [_, _, _], _ => rfl
  have Dlaw : Df K mg "law" s_law ["script"] _ _ := df_mk X G aL lL eL kL fun _ _ _ _ _ _ us hl => match us, hl with | [_], _ => rfl
  obtain ⟨_, _, MTails___init__⟩ := yC0.mt (ps := ["self", "rule"]) fun _ _ _ _ _ _ us hl => match us, hl with | [_, _], _ => rfl
  have KTails : Mk K C _ := let ⟨a, i, _⟩ := MTails___init__.m; ⟨mkC, a, i, kcC⟩
  have BTails := MTails___init__.b
  obtain ⟨_, _, MTails_layer⟩ := yC1.mt (ps := ["self", "left"]) fun _ _ _ _ _ _ us hl => match us, hl with | [_, _], _ => rfl
  obtain ⟨_, _, MTails_many_by⟩ := yC2.mt (ps := ["self", "layer", "place", "stop"]) fun _ _ _ _ _ _ us hl => match us, hl with | [_, _, _, _], _ => rfl
  obtain ⟨_, _, MTails_many_under⟩ := yC3.mt (ps := ["self", "place", "stop", "left"]) fun _ _ _ _ _ _ us hl => match us, hl with | [_, _, _, _], _ => rfl
  obtain ⟨_, _, MTails_many_below⟩ := yC4.mt (ps := ["self", "figures"]) fun _ _ _ _ _ _ us hl => match us, hl with | [_, _], _ => rfl
  obtain ⟨_, _, MTails_many_within⟩ := yC5.mt (ps := ["self", "size"]) fun _ _ _ _ _ _ us hl => match us, hl with | [_, _], _ => rfl
  obtain ⟨_, _, MTails_figure_at⟩ := yC6.mt (ps := ["self", "place", "k", "left"]) fun _ _ _ _ _ _ us hl => match us, hl with | [_, _, _, _], _ => rfl
  obtain ⟨_, _, MTails_number_at⟩ := yC7.mt (ps := ["self", "size", "k"]) fun _ _ _ _ _ _ us hl => match us, hl with | [_, _, _], _ => rfl
  obtain ⟨_, _, MTails_are_endless⟩ := yC8.mt (ps := ["self"]) fun _ _ _ _ _ _ us hl => match us, hl with | [_], _ => rfl
  have cTails : ClT K mg C := ⟨⟨pgC, hdC, poC, saC⟩, PySem.W.mg_of X G aC, nC_base, nC_outset, nC_steps, nC_layers⟩
  obtain ⟨_, _, MKeeper___init__⟩ := yCK0.mt (ps := ["self", "rule", "b"]) fun _ _ _ _ _ _ us hl => match us, hl with | [_, _, _], _ => rfl
  have KKeeper : Mk K CK _ := let ⟨a, i, _⟩ := MKeeper___init__.m; ⟨mkCK, a, i, kcCK⟩
  have BKeeper := MKeeper___init__.b
  obtain ⟨_, _, MKeeper_come⟩ := yCK1.mt (ps := ["self", "stretch"]) fun _ _ _ _ _ _ us hl => match us, hl with | [_, _], _ => rfl
  obtain ⟨_, _, MKeeper_go⟩ := yCK2.mt (ps := ["self", "stretch"]) fun _ _ _ _ _ _ us hl => match us, hl with | [_, _], _ => rfl
  obtain ⟨_, _, MKeeper_turn_to⟩ := yCK3.mt (ps := ["self", "bad"]) fun _ _ _ _ _ _ us hl => match us, hl with | [_, _], _ => rfl
  obtain ⟨_, _, MKeeper_rule⟩ := yCK4.mt (ps := ["self"]) fun _ _ _ _ _ _ us hl => match us, hl with | [_], _ => rfl
  obtain ⟨_, _, MKeeper_good⟩ := yCK5.mt (ps := ["self", "k"]) fun _ _ _ _ _ _ us hl => match us, hl with | [_, _], _ => rfl
  obtain ⟨_, _, MKeeper_below⟩ := yCK6.mt (ps := ["self", "n"]) fun _ _ _ _ _ _ us hl => match us, hl with | [_, _], _ => rfl
  have cKeeper : ClK K mg CK := ⟨⟨pgCK, hdCK, poCK, saCK⟩, PySem.W.mg_of X G aCK, nCK_base, nCK_bad, nCK_bound, nCK_tails⟩
  refine ⟨PySem.W.fnOf "law" "law" (defArgs s_law) (defBody s_law) (defScope s_law) .none kV37 dc37 pm37 an37 cd37 ct37, fun s v => .of_eq rfl, fun base _ _ hBM => ?_⟩
  have Gis_whole : FnOk l.prog w K mg base CX0 1 _ _ ["thing"] sp_is_whole := ok_is_whole Dis_whole T
  have Gis_base : FnOk l.prog w K mg base CX0 2 _ _ ["thing"] sp_is_base := ok_is_base Dis_base Dis_whole T c_LEAST_BASE c_GREATEST_BASE
  have Gcheck_base : FnOk l.prog w K mg base CX0 3 _ _ ["thing"] sp_check_base := ok_check_base Dcheck_base Dis_base Gis_base
  have Gis_number : FnOk l.prog w K mg base CX0 2 _ _ ["thing"] sp_is_number := ok_is_number Dis_number Dis_whole T
  have Gcheck_number : FnOk l.prog w K mg base CX0 3 _ _ ["thing"] sp_check_number := ok_check_number Dcheck_number Dis_number Dis_whole T
  have Gfigures_of : FnOk l.prog w K mg base CX0 4 _ _ ["base", "n"] sp_figures_of := ok_figures_of Dfigures_of Dcheck_base Gcheck_base Dcheck_number Gcheck_number T
  have Gis_figure : FnOk l.prog w K mg base CX0 2 _ _ ["base", "thing"] sp_is_figure := ok_is_figure Dis_figure Dis_whole T
  have Gare_figures : FnOk l.prog w K mg base CX0 3 _ _ ["base", "thing"] sp_are_figures := ok_are_figures Dare_figures Dis_figure Gis_figure T
  have Gis_stretch : FnOk l.prog w K mg base CX0 4 _ _ ["base", "thing"] sp_is_stretch := ok_is_stretch Dis_stretch Dare_figures Gare_figures c_LONGEST_STRETCH T
  have Gis_rising : FnOk l.prog w K mg base CX0 1 _ _ ["stretches"] sp_is_rising := ok_is_rising Dis_rising T
  have Gis_bad_list : FnOk l.prog w K mg base CX0 5 _ _ ["base", "thing"] sp_is_bad_list := ok_is_bad_list Dis_bad_list Dis_stretch Gis_stretch Dis_rising c_MOST_STRETCHES T
  have Gis_rule : FnOk l.prog w K mg base CX0 6 _ _ ["thing"] sp_is_rule := ok_is_rule Dis_rule Dis_base Gis_base Dis_bad_list Gis_bad_list T
  have Gcheck_rule : FnOk l.prog w K mg base CX0 7 _ _ ["thing"] sp_check_rule := ok_check_rule Dcheck_rule Dis_rule Gis_rule
  have Gstands_within : FnOk l.prog w K mg base CX0 1 _ _ ["stretch", "figures"] sp_stands_within := ok_stands_within Dstands_within T
  have Glacks_all : FnOk l.prog w K mg base CX0 2 _ _ ["bad", "figures"] sp_lacks_all := ok_lacks_all Dlacks_all Dstands_within T
  have Gbegins_one : FnOk l.prog w K mg base CX0 1 _ _ ["bad", "figures"] sp_begins_one := ok_begins_one Dbegins_one T
  have Glongest_stand : FnOk l.prog w K mg base CX0 3 _ _ ["bad", "figures"] sp_longest_stand := ok_longest_stand Dlongest_stand Dlacks_all Glacks_all Dbegins_one T
  have Gstands_of : FnOk l.prog w K mg base CX0 6 _ _ ["bad"] (sp_stands_of T0) := ok_stands_of Dstands_of rfl hcT hBM hgT Dlacks_all Glacks_all T
  have Gplace_behind : FnOk l.prog w K mg base CX0 4 _ _ ["bad", "stands", "figures"] sp_place_behind := ok_place_behind Dplace_behind Dlongest_stand Glongest_stand
  have Gsteps_from : FnOk l.prog w K mg base CX0 5 _ _ ["rule", "stands", "stand"] sp_steps_from := ok_steps_from Dsteps_from Dplace_behind Gplace_behind T
  have Gall_steps : FnOk l.prog w K mg base CX0 6 _ _ ["rule", "stands"] sp_all_steps := ok_all_steps Dall_steps Dsteps_from Gsteps_from T
  have GTails_many_by : FnOk l.prog w K mg base CX0 1 _ _ ["self", "layer", "place", "stop"] (sp_many_by C) := ok_many_by MTails_many_by cTails T U
  have GTails_layer : FnOk l.prog w K mg base CX0 2 _ _ ["self", "left"] (sp_layer C) := ok_layer MTails_layer MTails_many_by cTails T U
  have GTails_many_under : FnOk l.prog w K mg base CX0 3 _ _ ["self", "place", "stop", "left"] (sp_many_under C) := ok_many_under MTails_many_under MTails_layer MTails_many_by cTails T U
  have GTails_many_below : FnOk l.prog w K mg base CX0 4 _ _ ["self", "figures"] (sp_many_below C) := ok_many_below MTails_many_below MTails_many_under GTails_many_under cTails T
  have GTails_init : FnOk l.prog w K mg base CX0 7 _ _ ["self", "rule"] (sp_tails T0 C) := ok_tails MTails___init__ Dstands_of Gstands_of Dall_steps Gall_steps Dlacks_all Glacks_all cTails T
  have G_law_cell : FnOk l.prog w K mg base CX0 1 _ _ ["script", "k"] (sp__law_cell K) := ok__law_cell D_law_cell T
  have G_law_store : FnOk l.prog w K mg base CX0 1 _ _ ["cell"] sp__law_store := ok__law_store D_law_store T
  have G_law_take : FnOk l.prog w K mg base CX0 1 _ _ ["store", "many"] sp__law_take := ok__law_take D_law_take T
  have G_law_base : FnOk l.prog w K mg base CX0 2 _ _ ["store"] sp__law_base := ok__law_base D_law_base D_law_take T
  have G_law_stretch : FnOk l.prog w K mg base CX0 2 _ _ ["store", "base", "few"] sp__law_stretch := ok__law_stretch D_law_stretch D_law_take T
  have G_law_bad : FnOk l.prog w K mg base CX0 3 _ _ ["store", "base"] sp__law_bad := ok__law_bad D_law_bad D_law_take D_law_stretch T
  have Gcopy_of : FnOk l.prog w K mg base CX0 1 _ _ ["rule"] sp_copy_of := ok_copy_of Dcopy_of T
  have G_law_copy : FnOk l.prog w K mg base CX0 1 _ _ ["rule"] sp__law_copy := ok__law_copy D_law_copy T
  have GKeeper_below : FnOk l.prog w K mg base CX0 5 _ _ ["self", "n"] (sp_below T0 C CK) := ok_below MKeeper_below MTails_many_below GTails_many_below Dfigures_of Gfigures_of cTails cKeeper
  have GKeeper_rule : FnOk l.prog w K mg base CX0 2 _ _ ["self"] (sp_rule C CK) := ok_rule MKeeper_rule Dcopy_of Gcopy_of cKeeper
  have GKeeper_init : FnOk l.prog w K mg base CX0 9 _ _ ["self", "rule", "b"] (sp_keeper T0 C CK) := ok_keeper MKeeper___init__ Dcheck_rule Gcheck_rule Dcheck_number Gcheck_number Dcopy_of Gcopy_of KTails BTails GTails_init cTails cKeeper
  have GKeeper_turn_to : FnOk l.prog w K mg base CX0 9 _ _ ["self", "bad"] (sp_turn_to T0 C CK) := ok_turn_to MKeeper_turn_to MKeeper_below GKeeper_below KTails BTails GTails_init cTails cKeeper
  have GKeeper_come : FnOk l.prog w K mg base CX0 10 _ _ ["self", "stretch"] (sp_come T0 C CK) := ok_come MKeeper_come MKeeper_turn_to GKeeper_turn_to Dis_stretch Gis_stretch c_MOST_STRETCHES cKeeper T
  have GKeeper_go : FnOk l.prog w K mg base CX0 10 _ _ ["self", "stretch"] (sp_go T0 C CK) := ok_go MKeeper_go MKeeper_turn_to GKeeper_turn_to Dis_stretch Gis_stretch cKeeper T
  have G_law_number : FnOk l.prog w K mg base CX0 2 _ _ ["store"] sp__law_number := ok__law_number D_law_number D_law_take T
  have G_law_stand : FnOk l.prog w K mg base CX0 6 _ _ ["keeper"] (sp__law_stand T0 C CK) := ok__law_stand D_law_stand MKeeper_rule GKeeper_rule MKeeper_below GKeeper_below cKeeper
  have G_law_fresh : FnOk l.prog w K mg base CX0 3 _ _ ["store", "base", "bad"] sp__law_fresh := ok__law_fresh D_law_fresh D_law_stretch D_law_take T
  have G_law_round_right : FnOk l.prog w K mg base CX0 11 _ _ ["keeper", "some"] (sp__law_round_right T0 C CK) := ok__law_round_right D_law_round_right D_law_stand G_law_stand MKeeper_come GKeeper_come MKeeper_go GKeeper_go cKeeper T
  have G_law_order_right : FnOk l.prog w K mg base CX0 11 _ _ ["rule", "b", "some"] (sp__law_order_right T0) := ok__law_order_right D_law_order_right D_law_copy D_law_stand G_law_stand MKeeper_come GKeeper_come KKeeper BKeeper GKeeper_init cKeeper T
  have G_law_within_right : FnOk l.prog w K mg base CX0 11 _ _ ["store", "keeper", "base", "stretch"] (sp__law_within_right T0 C CK) := ok__law_within_right D_law_within_right D_law_take MKeeper_come GKeeper_come MKeeper_go GKeeper_go MKeeper_rule GKeeper_rule cKeeper T
  have G_law_long_right : FnOk l.prog w K mg base CX0 11 _ _ ["store", "rule", "b"] (sp__law_long_right T0) := ok__law_long_right D_law_long_right D_law_copy D_law_take D_law_stretch D_law_fresh MKeeper_come GKeeper_come MKeeper_go GKeeper_go MKeeper_rule GKeeper_rule KKeeper BKeeper GKeeper_init cKeeper T
  exact ok_law Dlaw D_law_cell D_law_store D_law_take D_law_base D_law_bad D_law_stretch D_law_number D_law_fresh D_law_copy D_law_round_right G_law_round_right D_law_order_right G_law_order_right D_law_within_right G_law_within_right D_law_long_right G_law_long_right MKeeper_rule GKeeper_rule KKeeper BKeeper GKeeper_init cKeeper T
theorem walk2 {l : PySem.W.OpenLaw} {q : Program} {loose : List Str} {XP : (Str → Option Value) → Heap → Prop} {YP : World → Heap → Prop} {d : DefRec} {K : Params → PySem.W.Frag} {c T0 : Addr} (hn : l.most = some 63) (hdf : d.params.defaults = [])
    (hY : ∀ (w : World) (h : Heap), YP w h → (K w.params).In h) (hYT : ∀ (w : World) (h : Heap), YP w h → h.get? T0 = some (PySem.W.tabObj #[])) (hKT : ∀ w : World, (K w.params).lookup T0 = none) (hcT : ∀ w : World, PySem.W.codeHdIn (K w.params) c T0 = true)
    (F : ∀ (w : World) (mg : Str → Option Value) (fa : Addr) (h : Heap), (K w.params).In h → h.Ns mainGlobals mg → mg d.name = some (.ref fa) →
      ∃ fd : FuncData, (∀ (s : Shared) (u : Value), BindsTo s fd ⟨[u], []⟩ [("script", u)]) ∧ ∀ base : Heap, (K w.params).In base → base.Ns mainGlobals mg → base.BuiltinsAt mg T0 → FnOk l.prog w (K w.params) mg base CX0 12 fa fd ["script"] (sp_law (K w.params) T0)) :
    PySem.W.WalkO q loose XP YP l.row.toRowW d [] (fun f vs => PySem.call f vs) :=
  L2.walkP (n := 63) (k := 12) (x := "script") (sp := fun w => sp_law (K w.params) T0) hn (by decide) hdf ⟨rfl, by decide, by decide⟩ hY hYT hKT hcT F (fun w H a ns hl hT hS => ⟨a, ns, rfl, hS, hl, .inl hT, fun _ => rfl⟩)
end Lw
open PySem PySem.W PyProof.Rows
set_option maxRecDepth 100000 in
set_option maxHeartbeats 0 in
theorem PySem.Challenge.cw_lackstretch_k36_whole_there_and_back_holds : PySem.Challenge.rw_lackstretch_k36_whole_there_and_back.Holds := by
  w_on; o_law; k_head; (case hw => w_witness2)
  k_fill
  refine Lw.walk2 (l := PySem.Challenge.rw_lackstretch_k36_whole_there_and_back) (c := 212) (T0 := 208) rfl rfl (fun w h Y => PySem.W.km_in_of Y) (fun w h Y => PySem.W.km_tabs_of Y 208 (by decide)) (fun w => by kernel_rfl) (fun w => by kernel_rfl) ?F
  case F =>
    intro w mg fa h KX G hmg
    refine' Lw.all_mk (c0 := 212) (T0 := 208) KX G hmg (by kernel_rfl) (by decide) ?yyx0 ?yyx1 ?yyx2 ?yyx3 ?yyx4 ?yyx5 ?yyx6 ?yyx7 ?yyx8 ?yyx9 ?yyx10 ?yyx11 ?yyx12 ?yyx13 ?yyx14 ?yyx15 ?yyx16 ?yyx17 ?yyx18 ?yya19 ?yyl19 ?yye19 ?yyk19 ?yyx20 ?yyx21 ?yyx22 ?yyx23 ?yyx24 ?yyx25 ?yyx26 ?yyx27 ?yyx28 ?yyx29 ?yyx30 ?yyx31 ?yyx32 ?yyx33 ?yyx34 ?yyx35 ?yyx36 ?yyx37 ?yyaC ?yyyC0 ?yyyC1 ?yyyC2 ?yyyC3 ?yyyC4 ?yyyC5 ?yyyC6 ?yyyC7 ?yyyC8 ?yypgC ?yyhdC ?yypoC ?yysaC ?yymkC ?yykcC ?yynC_base ?yynC_outset ?yynC_steps ?yynC_layers ?yyaCK ?yyyCK0 ?yyyCK1 ?yyyCK2 ?yyyCK3 ?yyyCK4 ?yyyCK5 ?yyyCK6 ?yypgCK ?yyhdCK ?yypoCK ?yysaCK ?yymkCK ?yykcCK ?yynCK_base ?yynCK_bad ?yynCK_bound ?yynCK_tails ?yyg0 ?yyg1 ?yyg2 ?yyg3 ?yyz0 ?yyz1 ?yyz2 ?yyz3 ?yyz4 ?yyz5 ?yyz6 ?yyz7 ?yyz8 ?yyz9 ?yyz10 ?yyz11 ?yyz12 ?yyz13 ?yyz14 ?yyz15 ?yyz16 ?yyz17 ?yyz18
    (case yyx0 => refine' Lw.fdm ?_ ?_ ?_ ?_ <;> try k_is)
    (case yyx1 => refine' Lw.fdm ?_ ?_ ?_ ?_ <;> try k_is)
    (case yyx2 => refine' Lw.fdm ?_ ?_ ?_ ?_ <;> try k_is)
    (case yyx3 => refine' Lw.fdm ?_ ?_ ?_ ?_ <;> try k_is)
    (case yyx4 => refine' Lw.fdm ?_ ?_ ?_ ?_ <;> try k_is)
    (case yyx5 => refine' Lw.fdm ?_ ?_ ?_ ?_ <;> try k_is)
    (case yyx6 => refine' Lw.fdm ?_ ?_ ?_ ?_ <;> try k_is)
    (case yyx7 => refine' Lw.fdm ?_ ?_ ?_ ?_ <;> try k_is)
    (case yyx8 => refine' Lw.fdm ?_ ?_ ?_ ?_ <;> try k_is)
    (case yyx9 => refine' Lw.fdm ?_ ?_ ?_ ?_ <;> try k_is)
    (case yyx10 => refine' Lw.fdm ?_ ?_ ?_ ?_ <;> try k_is)
    (case yyx11 => refine' Lw.fdm ?_ ?_ ?_ ?_ <;> try k_is)
    (case yyx12 => refine' Lw.fdm ?_ ?_ ?_ ?_ <;> try k_is)
    (case yyx13 => refine' Lw.fdm ?_ ?_ ?_ ?_ <;> try k_is)
    (case yyx14 => refine' Lw.fdm ?_ ?_ ?_ ?_ <;> try k_is)
    (case yyx15 => refine' Lw.fdm ?_ ?_ ?_ ?_ <;> try k_is)
    (case yyx16 => refine' Lw.fdm ?_ ?_ ?_ ?_ <;> try k_is)
    (case yyx17 => refine' Lw.fdm ?_ ?_ ?_ ?_ <;> try k_is)
    (case yyx18 => refine' Lw.fdm ?_ ?_ ?_ ?_ <;> try k_is)
    (case yya19 => k_is)
    (case yyl19 => k_is)
    (case yye19 => k_is)
    (case yyk19 => k_is)
    (case yyx20 => refine' Lw.fdm ?_ ?_ ?_ ?_ <;> try k_is)
    (case yyx21 => refine' Lw.fdm ?_ ?_ ?_ ?_ <;> try k_is)
    (case yyx22 => refine' Lw.fdm ?_ ?_ ?_ ?_ <;> try k_is)
    (case yyx23 => refine' Lw.fdm ?_ ?_ ?_ ?_ <;> try k_is)
    (case yyx24 => refine' Lw.fdm ?_ ?_ ?_ ?_ <;> try k_is)
    (case yyx25 => refine' Lw.fdm ?_ ?_ ?_ ?_ <;> try k_is)
    (case yyx26 => refine' Lw.fdm ?_ ?_ ?_ ?_ <;> try k_is)
    (case yyx27 => refine' Lw.fdm ?_ ?_ ?_ ?_ <;> try k_is)
    (case yyx28 => refine' Lw.fdm ?_ ?_ ?_ ?_ <;> try k_is)
    (case yyx29 => refine' Lw.fdm ?_ ?_ ?_ ?_ <;> try k_is)
    (case yyx30 => refine' Lw.fdm ?_ ?_ ?_ ?_ <;> try k_is)
    (case yyx31 => refine' Lw.fdm ?_ ?_ ?_ ?_ <;> try k_is)
    (case yyx32 => refine' Lw.fdm ?_ ?_ ?_ ?_ <;> try k_is)
    (case yyx33 => refine' Lw.fdm ?_ ?_ ?_ ?_ <;> try k_is)
    (case yyx34 => refine' Lw.fdm ?_ ?_ ?_ ?_ <;> try k_is)
    (case yyx35 => refine' Lw.fdm ?_ ?_ ?_ ?_ <;> try k_is)
    (case yyx36 => refine' Lw.fdm ?_ ?_ ?_ ?_ <;> try k_is)
    (case yyx37 => refine' Lw.fdm ?_ ?_ ?_ ?_ <;> try k_is)
    (case yyaC => k_is)
    (case yyyC0 => refine' Lw.fmm ?_ ?_ ?_ ?_ ?_ <;> try k_is)
    (case yyyC1 => refine' Lw.fmm ?_ ?_ ?_ ?_ ?_ <;> try k_is)
    (case yyyC2 => refine' Lw.fmm ?_ ?_ ?_ ?_ ?_ <;> try k_is)
    (case yyyC3 => refine' Lw.fmm ?_ ?_ ?_ ?_ ?_ <;> try k_is)
    (case yyyC4 => refine' Lw.fmm ?_ ?_ ?_ ?_ ?_ <;> try k_is)
    (case yyyC5 => refine' Lw.fmm ?_ ?_ ?_ ?_ ?_ <;> try k_is)
    (case yyyC6 => refine' Lw.fmm ?_ ?_ ?_ ?_ ?_ <;> try k_is)
    (case yyyC7 => refine' Lw.fmm ?_ ?_ ?_ ?_ ?_ <;> try k_is)
    (case yyyC8 => refine' Lw.fmm ?_ ?_ ?_ ?_ ?_ <;> try k_is)
    (case yypgC => k_is)
    (case yyhdC => k_is)
    (case yypoC => k_is)
    (case yysaC => k_is)
    (case yymkC => k_is)
    (case yykcC => k_is)
    (case yynC_base => k_is)
    (case yynC_outset => k_is)
    (case yynC_steps => k_is)
    (case yynC_layers => k_is)
    (case yyaCK => k_is)
    (case yyyCK0 => refine' Lw.fmm ?_ ?_ ?_ ?_ ?_ <;> try k_is)
    (case yyyCK1 => refine' Lw.fmm ?_ ?_ ?_ ?_ ?_ <;> try k_is)
    (case yyyCK2 => refine' Lw.fmm ?_ ?_ ?_ ?_ ?_ <;> try k_is)
    (case yyyCK3 => refine' Lw.fmm ?_ ?_ ?_ ?_ ?_ <;> try k_is)
    (case yyyCK4 => refine' Lw.fmm ?_ ?_ ?_ ?_ ?_ <;> try k_is)
    (case yyyCK5 => refine' Lw.fmm ?_ ?_ ?_ ?_ ?_ <;> try k_is)
    (case yyyCK6 => refine' Lw.fmm ?_ ?_ ?_ ?_ ?_ <;> try k_is)
    (case yypgCK => k_is)
    (case yyhdCK => k_is)
    (case yypoCK => k_is)
    (case yysaCK => k_is)
    (case yymkCK => k_is)
    (case yykcCK => k_is)
    (case yynCK_base => k_is)
    (case yynCK_bad => k_is)
    (case yynCK_bound => k_is)
    (case yynCK_tails => k_is)
    (case yyg0 => k_is)
    (case yyg1 => k_is)
    (case yyg2 => k_is)
    (case yyg3 => k_is)
    (case yyz0 => k_is)
    (case yyz1 => k_is)
    (case yyz2 => k_is)
    (case yyz3 => k_is)
    (case yyz4 => k_is)
    (case yyz5 => k_is)
    (case yyz6 => k_is)
    (case yyz7 => k_is)
    (case yyz8 => k_is)
    (case yyz9 => k_is)
    (case yyz10 => k_is)
    (case yyz11 => k_is)
    (case yyz12 => k_is)
    (case yyz13 => k_is)
    (case yyz14 => k_is)
    (case yyz15 => k_is)
    (case yyz16 => k_is)
    (case yyz17 => k_is)
    (case yyz18 => k_is)
