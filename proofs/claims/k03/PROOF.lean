import PyProof.Rows.All
import Wide.All
import OpenK.AllK
import Wide.FinOn
import Lean
import PyProof.EqAt
import PyProof.EqKinds
import PyProof.TupleCall
import PyProof.NeKinds
import KE.KRevSl
import KE.KRevIter
import PyProof.ConsumeWalk
import PyProof.ReprRoads
import PyProof.CallFns
import KE.KSortAsk
import KE.KSortTup
import KE.KDictSum
import PyProof.Rows.SumAny
import PyProof.EnumStmt
import PyProof.EnumMake
import PyProof.Rows.EnumRows
import PyProof.Rows.FactsN_abs
import PyProof.ReprLen
import PySem.Challenge.RW_lackstretch_k03_what_is_a_rule
set_option Elab.async false
set_option linter.all false
set_option maxRecDepth 100000
namespace L2
open PySem PySem.Spec PyProof.Rows
abbrev Key := Sum Int Str
def keyIs : Key → Value → Bool
  | .inl k, v => Value.isInt k v
  | .inr x, v => Value.isStrOf x v
def keyH (w : World) : Key → Int
  | .inl k => hashInt k
  | .inr x => hashStr w x
theorem keyIs_shape : ∀ {k : Key} {v : Value}, keyIs k v = true → (∃ i t, k = Sum.inl i ∧ v = Value.int i t) ∨ (∃ x t, k = Sum.inr x ∧ v = Value.str x t)
  | .inl i, v, h => by
    obtain ⟨t, e⟩ := Value.isInt_shape (k := i) (v := v) h
    exact .inl ⟨i, t, rfl, e⟩
  | .inr x, v, h => by
    obtain ⟨t, e⟩ := Value.isStrOf_shape (x := x) (v := v) h
    exact .inr ⟨x, t, rfl, e⟩
theorem key_ll (a b : Int) : decide ((Sum.inl a : Key) = Sum.inl b) = (a == b) := by
  by_cases e : a = b
  · subst e; simp
  · have h : ¬ (Sum.inl a : Key) = Sum.inl b := fun q => e (Sum.inl.inj q)
    rw [decide_eq_false h]
    exact (beq_eq_false_iff_ne.mpr e).symm
theorem key_rr (a b : Str) : decide ((Sum.inr a : Key) = Sum.inr b) = decide (a = b) := by
  by_cases e : a = b
  · subst e; simp
  · have h : ¬ (Sum.inr a : Key) = Sum.inr b := fun q => e (Sum.inr.inj q)
    rw [decide_eq_false h, decide_eq_false e]
theorem key_lr (a : Int) (b : Str) : decide ((Sum.inl a : Key) = Sum.inr b) = false := decide_eq_false (fun q => nomatch q)
theorem key_rl (a : Str) (b : Int) : decide ((Sum.inr a : Key) = Sum.inl b) = false := decide_eq_false (fun q => nomatch q)
def mixKind (prog : Program) (w : World) : PySem.KeyKind prog w Key where
  is := keyIs
  hash := keyH w
  inj := fun v a b ha hb => by
    rcases keyIs_shape ha with ⟨i, t, rfl, rfl⟩ | ⟨x, t, rfl, rfl⟩
    · rcases keyIs_shape hb with ⟨j, u, rfl, e⟩ | ⟨y, u, rfl, e⟩
      · injection e with e1 _; rw [e1]
      · exact nomatch e
    · rcases keyIs_shape hb with ⟨j, u, rfl, e⟩ | ⟨y, u, rfl, e⟩
      · exact nomatch e
      · injection e with e1 _; rw [e1]
  byValue := fun k v h => by
    rcases keyIs_shape h with ⟨i, t, rfl, rfl⟩ | ⟨x, t, rfl, rfl⟩ <;> rfl
  pyHash := fun hv h => by
    rcases keyIs_shape hv with ⟨i, t, rfl, rfl⟩ | ⟨x, t, rfl, rfl⟩
    · exact wpAny_pyHash_int h
    · exact wpAny_pyHash_str h
  eqBool := fun hu hv h => by
    rcases keyIs_shape hu with ⟨i, t, rfl, rfl⟩ | ⟨x, t, rfl, rfl⟩
    · rcases keyIs_shape hv with ⟨j, u, rfl, rfl⟩ | ⟨y, u, rfl, rfl⟩
      · rw [key_ll] at h; exact wpAny_eqBool_int h
      · rw [key_lr] at h; exact SeqAt.EqAt.int_str i t y u _ _ _ _ h
    · rcases keyIs_shape hv with ⟨j, u, rfl, rfl⟩ | ⟨y, u, rfl, rfl⟩
      · rw [key_rl] at h; exact SeqAt.EqAt.str_int x t j u _ _ _ _ h
      · rw [key_rr] at h; exact wpAny_eqBool_str h
  «strs» := fun k x t v h => by
    rcases keyIs_shape h with ⟨i, u, rfl, e⟩ | ⟨y, u, rfl, e⟩
    · exact nomatch e
    · injection e with e1 _
      subst e1
      cases v <;> rfl
end L2
namespace L2
open PySem PySem.Spec PyProof.Rows
inductive V where
  | non | bl (b : Bool) | int (i : Int) | str (x : Str) | byt (b : Array UInt8) | flt (b : UInt64) | ref (a : Addr) | ty (n : String)
  deriving DecidableEq
def RelV : V → Value → Prop
  | .non, u => u = Value.none
  | .bl b, u => u = Value.bool b
  | .int i, u => ∃ t, u = Value.int i t
  | .str x, u => ∃ t, u = Value.str x t
  | .byt b, u => ∃ t, u = Value.bytes b t
  | .flt b, u => ∃ t, u = Value.float b t
  | .ref a, u => u = Value.ref a
  | .ty n, u => u = Value.type n
abbrev Vals : List V → List Value → Prop := Paired RelV
theorem Vals.length {xs : List V} {us : List Value} (r : Vals xs us) : xs.length = us.length := Paired.length r
theorem Vals.get : ∀ {xs : List V} {us : List Value} {i : Nat} {x : V}, Vals xs us → xs[i]? = some x → ∃ u, us[i]? = some u ∧ RelV x u
  | _, _, _, _, .nil, e => by simp at e
  | _, _, 0, _, .cons r _, e => by simp at e; subst e; exact ⟨_, rfl, r⟩
  | _, _, i + 1, x, .cons _ t, e => by
    obtain ⟨u, h1, h2⟩ := Vals.get (i := i) (x := x) t (by simpa using e)
    exact ⟨u, by simpa using h1, h2⟩
theorem Vals.set {x : V} {u : Value} (r : RelV x u) : ∀ {xs : List V} {us : List Value} (i : Nat), Vals xs us → Vals (xs.set i x) (us.set i u)
  | _, _, _, .nil => .nil
  | _, _, 0, .cons _ t => .cons r t
  | _, _, i + 1, .cons q t => .cons q (Vals.set r i t)
theorem Vals.append : ∀ {xs ys : List V} {us ws : List Value}, Vals xs us → Vals ys ws → Vals (xs ++ ys) (us ++ ws)
  | _, _, _, _, .nil, s => s
  | _, _, _, _, .cons r t, s => .cons r (Vals.append t s)
theorem Vals.take : ∀ {xs : List V} {us : List Value} (n : Nat), Vals xs us → Vals (xs.take n) (us.take n)
  | _, _, 0, _ => .nil
  | _, _, _ + 1, .nil => .nil
  | _, _, n + 1, .cons r t => .cons r (Vals.take n t)
theorem Vals.drop : ∀ {xs : List V} {us : List Value} (n : Nat), Vals xs us → Vals (xs.drop n) (us.drop n)
  | _, _, 0, r => r
  | _, _, _ + 1, .nil => .nil
  | _, _, n + 1, .cons _ t => Vals.drop n t
def RelO : Option V → Option Value → Prop
  | some v, some u => RelV v u
  | none, none => True
  | _, _ => False
def KV {κ : Type} : List (κ × V) → List (κ × Value) → Prop := Paired fun (p : κ × V) (q : κ × Value) => p.1 = q.1 ∧ RelV p.2 q.2
def kV : Key → V
  | .inl i => .int i
  | .inr x => .str x
inductive HO where
  | lst (xs : List V)
  | tup (xs : List V)
  | dK (kvs : List (Key × V)) | dT (kvs : List (List Key × V))
  | set (S : Int → Bool) (n : Nat)
  | ins (C dx : Addr) (fs : List (Str × V))
  | own (x : Addr)
  | xd (fs : List (Str × V))
  | met (f x : Addr)
  | rng (lo hi : Int)
  | frz (o : Obj) (u : HO)
  | tbl (ps : Array Value)
  | ext (φ : Heap → Prop)
abbrev Hp := Addr → Option HO
def upd (H : Hp) (a : Addr) (o : HO) : Hp := fun b => if b = a then some o else H b
theorem upd_same {H : Hp} {a : Addr} {o : HO} : upd H a o a = some o := by unfold upd; rw [if_pos rfl]
theorem upd_ne {H : Hp} {a b : Addr} {o : HO} (h : b ≠ a) : upd H a o b = H b := by unfold upd; rw [if_neg h]
theorem ne_of_none {H : Hp} {a b : Addr} {o : HO} (h : H a = some o) (h' : H b = none) : a ≠ b := by
  intro e; subst e; rw [h] at h'; cases h'
section
variable (P : Program) (w : World)
def ObjOk (H : Hp) (h : Heap) (a : Addr) : HO → Prop
  | .lst xs => xs.length ≤ sizeLine ∧ ∃ (its : List Value) (n : Nat), Vals xs its ∧ h.get? a = some { cls := .type "list", data := .seq its.toArray n }
  | .tup xs => xs.length ≤ sizeLine ∧ ∃ its : List Value, Vals xs its ∧ IsTup h a its.toArray
  | .dK kvs => kvs.length ≤ sizeLine ∧ (a == sysModules) = false ∧ ∃ vs, KV kvs vs ∧ h.DictOf (mixKind P w) a vs
  | .dT kvs => kvs.length ≤ sizeLine ∧ (a == sysModules) = false ∧ ∃ xs : List (List Key × Addr × Value),
      Paired (fun (p : List Key × V) (q : List Key × Addr × Value) => p.1 = q.1 ∧ H q.2.1 = some (.tup (p.1.map kV)) ∧ RelV p.2 q.2.2) kvs xs ∧
      ∃ o es ep, h.get? a = some o ∧ o.ExactDict ∧ o.data = .dict es ep ∧ es.toList = xs.map (entryOfKey (tupleKind (mixKind P w))) ∧ (xs.map (·.1)).Nodup
  | .set S n => h.SetOf (intKind P w) a S n
  | .ins C dx fs => H dx = some (.own a) ∧ fs.length ≤ 1000 ∧ dx ≠ a ∧ h.get? a = some (PySem.W.instObj C dx) ∧
      ∃ mA, h.Ns1 dx mA ∧ (∀ f, RelO (fs.lookup f) (mA f)) ∧ PySem.Within mA (fs.map (·.1))
  | .own _ => ∃ o, h.get? a = some o
  | .xd fs => ∃ mA, h.Ns1 a mA ∧ ∀ f, RelO (fs.lookup f) (mA f)
  | .rng lo hi => ∃ t u v, h.get? a = some { cls := .type "range", data := .fields #[.int lo t, .int hi u, .int 1 v] }
  | .frz o u => h.get? a = some o ∧ ObjOk H h a u
  | .tbl ps => h.get? a = some { cls := .none, data := .fields ps }
  | .met f x => h.get? a = some (PySem.W.methodObj (.ref f) (.ref x))
  | .ext φ => φ h ∧ (∃ o, h.get? a = some o) ∧ ∀ h1 h2 : Heap, φ h1 → (∀ o, h1.get? a = some o → h2.get? a = some o) → φ h2
def HOk (H : Hp) (h : Heap) : Prop := ∀ a o, H a = some o → ObjOk P w H h a o
end
section
variable {P : Program} {w : World} {H H' : Hp} {h h' : Heap} {a : Addr} {o : HO}
theorem ObjOk.lt (x : ObjOk P w H h a o) : a < h.objs.size := by
  cases o with
  | lst xs => obtain ⟨_, _, _, _, e⟩ := x; exact Heap.lt_size e
  | tup xs => obtain ⟨_, _, _, p⟩ := x; exact p.lt
  | dK kvs => obtain ⟨_, _, _, _, o, _, _, e, _⟩ := x; exact Heap.lt_size e
  | dT kvs => obtain ⟨_, _, _, _, o, _, _, e, _⟩ := x; exact Heap.lt_size e
  | set S n => obtain ⟨o, _, _, _, e, _⟩ := x; exact Heap.lt_size e
  | ins C dx fs => obtain ⟨_, _, _, e, _⟩ := x; exact Heap.lt_size e
  | own y => obtain ⟨_, e⟩ := x; exact Heap.lt_size e
  | xd fs => obtain ⟨_, ⟨_, _, _, e, _⟩, _⟩ := x; exact Heap.lt_size e
  | rng lo hi => obtain ⟨_, _, _, e⟩ := x; exact Heap.lt_size e
  | frz ob u => obtain ⟨e, _⟩ := x; exact Heap.lt_size e
  | tbl ps => exact Heap.lt_size (show h.get? a = some _ from x)
  | met f y => exact Heap.lt_size (show h.get? a = some _ from x)
  | ext φ => obtain ⟨_, ⟨_, e⟩, _⟩ := x; exact Heap.lt_size e
theorem Paired.mapP {α β : Type} {F G : α → β → Prop} : ∀ {l₁ : List α} {l₂ : List β}, Paired F l₁ l₂ → (∀ a b, F a b → G a b) → Paired G l₁ l₂
  | _, _, .nil, _ => .nil
  | _, _, .cons r t, f => .cons (f _ _ r) (Paired.mapP t f)
theorem ObjOk.stay (x : ObjOk P w H h a o) (k : ∀ b u, (b = a ∨ H b = some (.own a)) → h.get? b = some u → h'.get? b = some u)
    (ho : ∀ b, H b = some (.own a) → H' b = some (.own a)) (ht : ∀ b xs, H b = some (.tup xs) → H' b = some (.tup xs)) : ObjOk P w H' h' a o := by
  induction o with
  | lst xs => obtain ⟨z, its, n, r, e⟩ := x; exact ⟨z, its, n, r, k _ _ (.inl rfl) e⟩
  | tup xs => obtain ⟨z, its, r, ob, e, c⟩ := x; exact ⟨z, its, r, ob, k _ _ (.inl rfl) e, c⟩
  | dK kvs => obtain ⟨z, y, vs, r, ob, es, ep, e, c⟩ := x; exact ⟨z, y, vs, r, ob, es, ep, k _ _ (.inl rfl) e, c⟩
  | dT kvs =>
    obtain ⟨z, y, xs, r, ob, es, ep, e, c⟩ := x
    exact ⟨z, y, xs, Paired.mapP r fun p q z => ⟨z.1, ht _ _ z.2.1, z.2.2⟩, ob, es, ep, k _ _ (.inl rfl) e, c⟩
  | set S n => obtain ⟨ob, es, ep, t, e, c⟩ := x; exact ⟨ob, es, ep, t, k _ _ (.inl rfl) e, c⟩
  | ins C dx fs =>
    obtain ⟨d, z, ne, e, mA, ⟨od, es, ep, e2, c⟩, r⟩ := x
    exact ⟨ho _ d, z, ne, k _ _ (.inl rfl) e, mA, ⟨od, es, ep, k _ _ (.inr d) e2, c⟩, r⟩
  | own y => obtain ⟨ob, e⟩ := x; exact ⟨ob, k _ _ (.inl rfl) e⟩
  | xd fs => obtain ⟨mA, ⟨od, es, ep, e, c⟩, r⟩ := x; exact ⟨mA, ⟨od, es, ep, k _ _ (.inl rfl) e, c⟩, r⟩
  | rng lo hi => obtain ⟨t, u, v, e⟩ := x; exact ⟨t, u, v, k _ _ (.inl rfl) e⟩
  | frz ob u ih => obtain ⟨e, q⟩ := x; exact ⟨k _ _ (.inl rfl) e, ih q⟩
  | tbl ps =>
    have e : h.get? a = some { cls := .none, data := .fields ps } := x
    show h'.get? a = some { cls := .none, data := .fields ps }
    exact k a _ (.inl rfl) e
  | met f y =>
    have e : h.get? a = some (PySem.W.methodObj (.ref f) (.ref y)) := x
    show h'.get? a = some (PySem.W.methodObj (.ref f) (.ref y))
    exact k a _ (.inl rfl) e
  | ext φ => obtain ⟨p, ⟨o, e⟩, st⟩ := x; exact ⟨st _ _ p fun o q => k _ _ (.inl rfl) q, ⟨o, k _ _ (.inl rfl) e⟩, st⟩
theorem HOk.lt (x : HOk P w H h) (e : H a = some o) : a < h.objs.size := (x a o e).lt
theorem HOk.fresh (x : HOk P w H h) (e : h.objs.size ≤ a) : H a = none := by
  cases q : H a with
  | none => rfl
  | some u => exact absurd (Nat.lt_of_lt_of_le (x.lt q) e) (Nat.lt_irrefl _)
theorem HOk.kept (x : HOk P w H h) (k : ∀ b u, h.get? b = some u → h'.get? b = some u) : HOk P w H h' := fun a o e =>
  (x a o e).stay (fun b u _ q => k b u q) (fun _ q => q) fun _ _ q => q
theorem HOk.laid (x : HOk P w H h) (k : ∀ b u, h.get? b = some u → h'.get? b = some u) (hp : h.objs.size ≤ a) (new : ObjOk P w (upd H a o) h' a o) : HOk P w (upd H a o) h' := fun b u e => by
  have hn := x.fresh hp
  by_cases hb : b = a
  · subst hb; rw [upd_same] at e; cases e; exact new
  · rw [upd_ne hb] at e
    exact (x b u e).stay (fun c v _ q => k c v q) (fun c q => by rw [upd_ne (ne_of_none q hn)]; exact q) fun c xs q => by rw [upd_ne (ne_of_none q hn)]; exact q
end
def Rd (H : Hp) (a : Addr) (u : HO) : Prop := H a = some u ∨ ∃ o, H a = some (.frz o u)
theorem Rd.of {H : Hp} {a : Addr} {u : HO} (h : H a = some u) : Rd H a u := .inl h
theorem Rd.ok {P : Program} {w : World} {H : Hp} {h : Heap} {a : Addr} {u : HO} (r : Rd H a u) (x : HOk P w H h) : ObjOk P w H h a u := by
  rcases r with r | ⟨o, r⟩
  · exact x a u r
  · obtain ⟨_, q⟩ := x a _ r
    exact q
def Mut : Option HO → Prop
  | some (.lst _) => True
  | some (.dK _) => True
  | some (.dT _) => True
  | some (.set _ _) => True
  | some (.ins _ _ _) => True
  | some (.ext _) => True
  | _ => False
section
variable {P : Program} {w : World} {H : Hp} {h h' : Heap} {x e : Addr} {o' : HO}
theorem HOk.write (ok : HOk P w H h) (mu : Mut (H x)) (he : e = x ∨ H e = some (.own x)) (k : ∀ b u, b ≠ e → h.get? b = some u → h'.get? b = some u) (heo : ∃ u, h'.get? e = some u)
    (new : ObjOk P w (upd H x o') h' x o') : HOk P w (upd H x o') h' := fun b u q => by
  have nown : ∀ c y, H c = some (.own y) → c ≠ x := fun c y r z => by subst z; rw [r] at mu; exact mu
  have ntup : ∀ c xs, H c = some (.tup xs) → c ≠ x := fun c xs r z => by subst z; rw [r] at mu; exact mu
  by_cases hb : b = x
  · subst hb; rw [upd_same] at q; cases q; exact new
  · rw [upd_ne hb] at q
    by_cases hbe : b = e
    · have q' : H b = some (.own x) := by
        rcases he with z | z
        · exact absurd (hbe.trans z) hb
        · rw [hbe]; exact z
      rw [q] at q'; cases q'
      obtain ⟨v, hv⟩ := heo
      exact ⟨v, by rw [hbe]; exact hv⟩
    · refine (ok b u q).stay (fun c v hc r => k c v ?_ r) (fun c r => by rw [upd_ne (nown c b r)]; exact r) fun c xs r => by rw [upd_ne (ntup c xs r)]; exact r
      rcases hc with rfl | hc
      · exact hbe
      · rintro rfl
        rcases he with z | z
        · exact nown c b hc z
        · rw [hc] at z; cases z; exact hb rfl
end
structure Un (fs ex : List Addr) (H H' : Hp) (h h' : Heap) : Prop where
  keep : ∀ b o, h.get? b = some o → H b = none → b ∉ fs → b ∉ ex → h'.get? b = some o
  slot : ∀ b o, h.get? b = some o → H b = none → b ∈ fs → b ∉ ex → ∃ sl, h'.get? b = some { o with slots := sl }
  free : ∀ b o, h.get? b = some o → H b = none → b ∉ ex → H' b = none
  there : ∀ b o, h.get? b = some o → b ∉ ex → ∃ o', h'.get? b = some o'
  tups : ∀ b xs, H b = some (.tup xs) → H' b = some (.tup xs)
  frzs : ∀ b o u, H b = some (.frz o u) → H' b = some (.frz o u)
  tbls : ∀ b ps, H b = some (.tbl ps) → ∃ more, H' b = some (.tbl (ps ++ more))
section
variable {fs fs' ex ex' : List Addr} {H H1 H2 : Hp} {h h1 h2 h' : Heap} {a x e : Addr} {o : HO}
theorem Un.any (u : Un fs ex H H1 h h1) {b : Addr} {ob : Obj} (q : h.get? b = some ob) (n : H b = none) (hx : b ∉ ex) : ∃ sl, h1.get? b = some { ob with slots := sl } := by
  by_cases hb : b ∈ fs
  · exact u.slot b ob q n hb hx
  · exact ⟨ob.slots, u.keep b ob q n hb hx⟩
theorem Un.trans (a : Un fs ex H H1 h h1) (b : Un fs ex H1 H2 h1 h2) : Un fs ex H H2 h h2 where
  keep := fun c ob q n hc hx => b.keep c ob (a.keep c ob q n hc hx) (a.free c ob q n hx) hc hx
  slot := fun c ob q n hc hx => by
    obtain ⟨sl, e1⟩ := a.slot c ob q n hc hx
    obtain ⟨sl', e2⟩ := b.slot c _ e1 (a.free c ob q n hx) hc hx
    exact ⟨sl', e2⟩
  free := fun c ob q n hx => by
    obtain ⟨o', e1⟩ := a.there c ob q hx
    exact b.free c o' e1 (a.free c ob q n hx) hx
  there := fun c ob q hx => by
    obtain ⟨o', e1⟩ := a.there c ob q hx
    exact b.there c o' e1 hx
  tups := fun c xs q => b.tups c xs (a.tups c xs q)
  frzs := fun c ob xs q => b.frzs c ob xs (a.frzs c ob xs q)
  tbls := fun c ps q => by
    obtain ⟨m1, e1⟩ := a.tbls c ps q
    obtain ⟨m2, e2⟩ := b.tbls c _ e1
    exact ⟨m1 ++ m2, by rw [e2, Array.append_assoc]⟩
theorem Un.kept (k : ∀ b u, h.get? b = some u → h'.get? b = some u) : Un fs ex H H h h' :=
  ⟨fun b ob q _ _ _ => k b ob q, fun b ob q _ _ _ => ⟨ob.slots, k b ob q⟩, fun _ _ _ n _ => n, fun b ob q _ => ⟨ob, k b ob q⟩, fun _ _ q => q, fun _ _ _ q => q, fun _ ps q => ⟨#[], by rw [q]; simp⟩⟩
theorem Un.refl : Un fs ex H H h h := Un.kept fun _ _ q => q
theorem Un.laid (k : ∀ b u, h.get? b = some u → h'.get? b = some u) (hp : h.objs.size ≤ a) (hn : H a = none) : Un fs ex H (upd H a o) h h' where
  keep := fun b u q _ _ _ => k b u q
  slot := fun b u q _ _ _ => ⟨u.slots, k b u q⟩
  free := fun b u q n _ => by rw [upd_ne (Nat.ne_of_lt (Nat.lt_of_lt_of_le (Heap.lt_size q) hp))]; exact n
  there := fun b u q _ => ⟨u, k b u q⟩
  tups := fun b xs q => by rw [upd_ne (ne_of_none q hn)]; exact q
  frzs := fun b u xs q => by rw [upd_ne (ne_of_none q hn)]; exact q
  tbls := fun b ps q => ⟨#[], by rw [upd_ne (ne_of_none q hn), q]; simp⟩
theorem Un.write (mu : Mut (H x)) (he : e = x ∨ H e = some (.own x)) (k : ∀ b u, b ≠ e → h.get? b = some u → h'.get? b = some u) (heo : ∃ u, h'.get? e = some u) : Un fs ex H (upd H x o) h h' := by
  have hx : ∀ b, H b = none → b ≠ x := fun b n z => by subst z; rw [n] at mu; exact mu
  have hb : ∀ b, H b = none → b ≠ e := fun b n z => by
    subst z
    rcases he with r | r
    · exact hx b n r
    · rw [n] at r; cases r
  have hm : ∀ b u, H b = some u → ¬ Mut (some u) → b ≠ x := fun b u q nm z => by subst z; rw [q] at mu; exact nm mu
  refine ⟨fun b u q n _ _ => k b u (hb b n) q, fun b u q n _ _ => ⟨u.slots, k b u (hb b n) q⟩, fun b u q n _ => by rw [upd_ne (hx b n)]; exact n, fun b u q _ => ?_,
    fun b xs q => by rw [upd_ne (hm b _ q fun z => z)]; exact q, fun b u xs q => by rw [upd_ne (hm b _ q fun z => z)]; exact q, fun b ps q => ⟨#[], by rw [upd_ne (hm b _ q fun z => z), q]; simp⟩⟩
  by_cases hbe : b = e
  · subst hbe; exact heo
  · exact ⟨u, k b u hbe q⟩
theorem Un.mono (u : Un fs ex H H1 h h1) (hs : ∀ b ∈ fs, b ∈ fs') (hx : ∀ b ∈ ex, b ∈ ex') : Un fs' ex' H H1 h h1 :=
  ⟨fun b ob q n hb he => u.keep b ob q n (fun z => hb (hs b z)) fun z => he (hx b z), fun _ _ q n _ he => u.any q n fun z => he (hx _ z), fun b ob q n he => u.free b ob q n fun z => he (hx b z), fun b ob q he => u.there b ob q fun z => he (hx b z), u.tups, u.frzs, u.tbls⟩
end
def trk (h : Heap) (H : Hp) : List Addr := (List.range h.objs.size).filter fun a => (H a).isSome
def hidT (h : Heap) (H : Hp) : Heap := PySem.W.hideAll h (trk h H)
theorem hidT_size (h : Heap) (H : Hp) : (hidT h H).objs.size = h.objs.size := PySem.W.hideAll_size _ _
theorem hidT_get {h : Heap} {H : Hp} {b : Addr} {o : Obj} (e : h.get? b = some o) (n : H b = none) : (hidT h H).get? b = some o :=
  PySem.W.hideAll_get _ e fun hm => by
    have q : (H b).isSome = true := (List.mem_filter.mp hm).2
    rw [n] at q; simp at q
theorem of_hidT {h : Heap} {H : Hp} {b : Addr} {o : Obj} (e : (hidT h H).get? b = some o) : h.get? b = some o ∧ H b = none := by
  have e' : h.get? b = some o := PySem.W.of_hideAll (trk h H) e
  refine ⟨e', ?_⟩
  cases q : H b with
  | none => rfl
  | some x =>
    have hm : b ∈ trk h H := List.mem_filter.mpr ⟨List.mem_range.mpr (Heap.lt_size e'), by simp [q]⟩
    have z : (hidT h H).get? b = none := PySem.W.hideAll_none (trk h H) hm
    rw [z] at e; cases e
def allNews (g h : Heap) (L : Addr) : List (Addr × Obj) := (List.range h.objs.size).filterMap fun a => if a = L ∨ (g.get? a).isSome = true then none else (h.get? a).map fun o => (a, o)
def rest (g h : Heap) (L d : Addr) : List (Addr × Obj) := (allNews g h L).filter fun p => decide (p.1 ≠ d)
end L2
namespace L2
open PySem PySem.Spec PyProof.Rows
structure Mod (K : PySem.W.Frag) (mg : Str → Option Value) (base : Heap) : Prop where
  kin : K.In base
  glob : base.Ns mainGlobals mg
  blt : ∃ mb, base.Ns builtinsNs mb ∧ ∀ x : Str, x ≠ "__name__" → mb x = bootBuiltins x
  nolimit : base.NoLimit
structure Cx where
  prog : Program
  w : World
  K : PySem.W.Frag
  mg : Str → Option Value
  base : Heap
  A : Around
  N : List Str
  s₀ : Shared
  H₀ : Hp
  env : Env
  outer : List Env
  stack : List Env
  ex : List Addr
  fn : Str → Bool
  calm : Bool
  pn : List (Addr × Obj)
  xe : Value → Shared → Prop
def frs (l : List Env) : List Addr := l.filterMap (·.frame)
abbrev Cx.fs (X : Cx) : List Addr := frs X.outer
def Vis (sc : Scope) (x : Str) : Prop := sc.names.lookup x = some .local ∨ sc.names.lookup x = some .cell ∨ sc.names.lookup x = some .free
def Loc (sc : Scope) (x : Str) : Prop := sc.names.lookup x = some .local ∨ sc.names.lookup x = some .cell
def Look (env : Env) (h : Heap) (m : Str → Option Value) (x : Str) (u : Value) : Prop :=
  (env.kindOf x = some .local ∧ m x = some u) ∨ ((env.kindOf x = some .cell ∨ env.kindOf x = some .free) ∧ ∃ c, env.cells.lookup x = some c ∧ h.IsCell c (some u))
structure Cx.Ok (X : Cx) : Prop where
  mod : Mod X.K X.mg X.base
  kind : X.env.scope.kind = .function
  glob : X.env.globals = mainGlobals
  blt : X.env.builtins = builtinsNs
  above : X.s₀.heap.objs.size ≤ X.env.locals
  inj : ∀ x y c, X.env.cells.lookup x = some c → X.env.cells.lookup y = some c → x = y
  has : ∀ x, (X.env.kindOf x = some .cell ∨ X.env.kindOf x = some .free) → ∃ c, X.env.cells.lookup x = some c
  cab : ∀ x c, X.fn x = true → X.env.cells.lookup x = some c → X.s₀.heap.objs.size ≤ c
  hd : X.calm = true → X.A.handled = none
  frames : X.A.frames = some X.stack
  stk : X.stack = X.outer ∨ (X.stack = X.env :: X.outer ∧ X.env.frame = some X.env.locals)
  exf : ∀ b ∈ X.ex, b ≠ X.env.locals ∧ ∀ x c, X.env.cells.lookup x = some c → c ≠ b
  bs : ∀ b o, X.base.get? b = some o → X.s₀.heap.get? b = some o ∧ X.H₀ b = none
  bsz : X.base.objs.size ≤ X.s₀.heap.objs.size
  noex : ∀ b o, X.base.get? b = some o → b ∉ X.ex
  exfs : ∀ b ∈ X.ex, b ∉ X.fs
  funs : X.s₀.heap.FunFrames X.base X.outer
  frf : ∀ b ∈ X.fs, X.H₀ b = none
structure Inv (X : Cx) (pins : List (Addr × Obj)) (σ : List (Option V)) (H : Hp) (s : Shared) : Prop where
  ok : X.Ok
  os : s.os = X.s₀.os
  bare : AllBare s.gens
  base : Un X.fs X.ex X.H₀ H X.s₀.heap s.heap
  loc : ∃ m, s.heap.Ns X.env.locals m ∧ ∀ (i : Nat) (x : Str) (v : V), X.N[i]? = some x → σ[i]? = some (some v) → Vis X.env.scope x → ∃ u, RelV v u ∧ Look X.env s.heap m x u
  cell : ∀ x c, X.env.cells.lookup x = some c → ∃ v, s.heap.IsCell c v
  free : H X.env.locals = none
  freeC : ∀ x c, X.env.cells.lookup x = some c → H c = none
  pin : ∀ p ∈ X.pn ++ pins, s.heap.get? p.1 = some p.2 ∧ H p.1 = none ∧ p.1 ≠ X.env.locals ∧ p.1 ∉ X.fs ∧ ∀ v, p.2.data ≠ .cell v
  hok : HOk X.prog X.w H s.heap
  len : σ.length = X.N.length
section
variable {X : Cx} {pins : List (Addr × Obj)} {σ : List (Option V)} {H H' : Hp} {s : Shared} {h' : Heap}
theorem Cx.Ok.nofr (ok : X.Ok) {b : Addr} {o : Obj} (e : X.base.get? b = some o) : b ∉ X.fs := fun hb => by
  have := (ok.funs.mem hb).1
  rw [e] at this; cases this
theorem Inv.bs (I : Inv X pins σ H s) : ∀ b o, X.base.get? b = some o → s.heap.get? b = some o ∧ H b = none := fun b o e =>
  ⟨I.base.keep b o (I.ok.bs b o e).1 (I.ok.bs b o e).2 (I.ok.nofr e) (I.ok.noex b o e), I.base.free b o (I.ok.bs b o e).1 (I.ok.bs b o e).2 (I.ok.noex b o e)⟩
theorem Inv.bk (I : Inv X pins σ H s) : ∀ b o, X.base.get? b = some o → s.heap.get? b = some o := fun b o e => (I.bs b o e).1
theorem Inv.mod (I : Inv X pins σ H s) : Mod X.K X.mg X.base := I.ok.mod
theorem Inv.kIn (I : Inv X pins σ H s) : X.K.In s.heap := I.ok.mod.kin.keeps I.bk
theorem Inv.nolimit (I : Inv X pins σ H s) : s.heap.NoLimit := I.ok.mod.nolimit.keeps I.bk
theorem Inv.fr (I : Inv X pins σ H s) : ∃ m, Fr X.base X.env.locals s.heap m :=
  let ⟨m, hn, _⟩ := I.loc
  ⟨m, hn, I.bk, Nat.le_trans I.ok.bsz I.ok.above⟩
theorem Inv.lt (I : Inv X pins σ H s) : X.env.locals < s.heap.objs.size := let ⟨_, hn, _⟩ := I.loc; hn.lt
theorem Inv.sz (I : Inv X pins σ H s) : X.s₀.heap.objs.size ≤ s.heap.objs.size := Nat.le_trans I.ok.above (Nat.le_of_lt I.lt)
theorem Inv.nofs (I : Inv X pins σ H s) {a : Addr} (h : s.heap.objs.size ≤ a) : a ∉ X.fs := fun hb => by
  obtain ⟨_, o, ho, _⟩ := I.ok.funs.mem hb
  exact absurd (Nat.lt_of_lt_of_le (Heap.lt_size ho) (Nat.le_trans I.sz h)) (Nat.lt_irrefl _)
theorem Inv.cne (I : Inv X pins σ H s) : ∀ x c, X.env.cells.lookup x = some c → c ≠ X.env.locals := fun x c e z => by
  obtain ⟨v, o, ho, hd⟩ := I.cell x c e
  obtain ⟨m, ⟨o', es, ep, ho', hd', _⟩, _⟩ := I.loc
  rw [z, ho'] at ho; cases ho; rw [hd'] at hd; cases hd
theorem Inv.funs (I : Inv X pins σ H s) : s.heap.FunFrames X.base X.outer := by
  have all : ∀ (l : List Env), (∀ b ∈ frs l, b ∈ X.fs) → X.s₀.heap.FunFrames X.base l → s.heap.FunFrames X.base l := by
    intro l
    induction l with
    | nil => intro _ _; trivial
    | cons env r ih =>
      intro hs hl
      obtain ⟨hk, ⟨L, o, hf, hn, ho, hd⟩, hr⟩ := hl
      have hL : L ∈ X.fs := hs L (by unfold frs; rw [List.filterMap_cons, hf]; exact List.mem_cons_self)
      obtain ⟨sl, e⟩ := I.base.slot L o ho (I.ok.frf L hL) hL fun z => I.ok.exfs L z hL
      exact ⟨hk, ⟨L, _, hf, hn, e, hd⟩, ih (fun b hb => hs b (by unfold frs; rw [List.filterMap_cons, hf]; exact List.mem_cons_of_mem _ hb)) hr⟩
  exact all X.outer (fun _ hb => hb) I.ok.funs
theorem Inv.stack (I : Inv X pins σ H s) : s.heap.FunFrames X.base X.stack := by
  rcases I.ok.stk with e | ⟨e, hf⟩
  · rw [e]; exact I.funs
  · rw [e]
    obtain ⟨m, hn, _⟩ := I.loc
    refine .cons (by rw [I.ok.kind]; decide) hf hn ?_ I.funs
    exact Heap.get?_none_of_le (Nat.le_trans I.ok.bsz I.ok.above)
theorem Inv.stkSub (I : Inv X pins σ H s) : ∀ b ∈ frs X.stack, b ∈ X.env.locals :: X.fs := fun b hb => by
  rcases I.ok.stk with e | ⟨e, hf⟩
  · rw [e] at hb; exact List.mem_cons_of_mem _ hb
  · rw [e] at hb
    unfold frs at hb
    rw [List.filterMap_cons, hf] at hb
    exact hb
theorem Inv.stkFree (I : Inv X pins σ H s) : ∀ b ∈ frs X.stack, H b = none := fun b hb => by
  rcases List.mem_cons.mp (I.stkSub b hb) with e | hb
  · rw [e]; exact I.free
  · obtain ⟨_, o, ho, _⟩ := I.ok.funs.mem hb
    exact I.base.free b o ho (I.ok.frf b hb) fun z => I.ok.exfs b z hb
theorem Inv.step {g' : Array GenState} {t' : Nat} {d' : Drawn} {ch : List Addr} (I : Inv X pins σ H s)
    (hch : ∀ b ∈ ch, (b ∈ X.ex ∨ X.s₀.heap.objs.size ≤ b) ∧ b ≠ X.env.locals ∧ (∀ x c, X.env.cells.lookup x = some c → c ≠ b) ∧ ∀ p ∈ X.pn ++ pins, p.1 ≠ b)
    (keep : ∀ b o, b ≠ X.env.locals → b ∉ X.fs → b ∉ ch → s.heap.get? b = some o → H b = none → h'.get? b = some o)
    (slot : ∀ b o, b ≠ X.env.locals → b ∈ X.fs → b ∉ ch → s.heap.get? b = some o → H b = none → ∃ sl, h'.get? b = some { o with slots := sl }) (free : ∀ b o, b ∉ ch → s.heap.get? b = some o → H b = none → H' b = none)
    (there : ∀ b o, b ∉ ch → s.heap.get? b = some o → ∃ o', h'.get? b = some o')
    (tups : ∀ b xs, H b = some (.tup xs) → H' b = some (.tup xs)) (frzs : ∀ b o u, H b = some (.frz o u) → H' b = some (.frz o u)) (tbls : ∀ b ps, H b = some (.tbl ps) → ∃ more, H' b = some (.tbl (ps ++ more)))
    (ns : ∀ m, s.heap.Ns X.env.locals m → h'.Ns X.env.locals m) (hok : HOk X.prog X.w H' h') (hg : AllBare g') :
    Inv X pins σ H' { s with heap := h', gens := g', drawn := d', toks := t' } := by
  have neL : ∀ b o, X.s₀.heap.get? b = some o → b ≠ X.env.locals := fun b o e => Nat.ne_of_lt (Nat.lt_of_lt_of_le (Heap.lt_size e) I.ok.above)
  have neC : ∀ b o, X.s₀.heap.get? b = some o → b ∉ X.ex → b ∉ ch := fun b o e hx hb => by
    rcases (hch b hb).1 with z | z
    · exact hx z
    · exact absurd (Nat.lt_of_lt_of_le (Heap.lt_size e) z) (Nat.lt_irrefl _)
  have cellK : ∀ x c, X.env.cells.lookup x = some c → ∀ v, s.heap.IsCell c v → h'.IsCell c v := fun x c e v ⟨o, ho, hd⟩ => by
    have nch : c ∉ ch := fun z => (hch c z).2.2.1 x c e rfl
    by_cases hc : c ∈ X.fs
    · obtain ⟨sl, q⟩ := slot c o (I.cne x c e) hc nch ho (I.freeC x c e)
      exact ⟨_, q, hd⟩
    · exact ⟨o, keep c o (I.cne x c e) hc nch ho (I.freeC x c e), hd⟩
  refine ⟨I.ok, I.os, hg, ⟨fun b o e n hb hx => ?_, fun b o e n hb hx => ?_, fun b o e n hx => ?_, fun b o e hx => ?_, fun b xs e => tups b xs (I.base.tups b xs e), fun b o xs e => frzs b o xs (I.base.frzs b o xs e), fun b ps e => ?_⟩, ?_, fun x c e => ?_, ?_, fun x c e => ?_, fun p hp => ?_, hok, I.len⟩
  · exact keep b o (neL b o e) hb (neC b o e hx) (I.base.keep b o e n hb hx) (I.base.free b o e n hx)
  · obtain ⟨sl, e1⟩ := I.base.slot b o e n hb hx
    obtain ⟨sl', e2⟩ := slot b _ (neL b o e) hb (neC b o e hx) e1 (I.base.free b o e n hx)
    exact ⟨sl', e2⟩
  · obtain ⟨o', e1⟩ := I.base.there b o e hx
    exact free b o' (neC b o e hx) e1 (I.base.free b o e n hx)
  · obtain ⟨o', e1⟩ := I.base.there b o e hx
    exact there b o' (neC b o e hx) e1
  · obtain ⟨m1, e1⟩ := I.base.tbls b ps e
    obtain ⟨m2, e2⟩ := tbls b _ e1
    exact ⟨m1 ++ m2, by rw [e2, Array.append_assoc]⟩
  · obtain ⟨m, hn, hl⟩ := I.loc
    refine ⟨m, ns m hn, fun i x v e1 e2 e3 => ?_⟩
    obtain ⟨u, r, l⟩ := hl i x v e1 e2 e3
    refine ⟨u, r, ?_⟩
    rcases l with l | ⟨k, c, e, z⟩
    · exact .inl l
    · exact .inr ⟨k, c, e, cellK x c e _ z⟩
  · obtain ⟨v, z⟩ := I.cell x c e
    exact ⟨v, cellK x c e v z⟩
  · obtain ⟨m, ⟨o, _, _, ho, _⟩, _⟩ := I.loc
    exact free _ o (fun z => (hch _ z).2.1 rfl) ho I.free
  · obtain ⟨v, o, ho, hd⟩ := I.cell x c e
    exact free c o (fun z => (hch c z).2.2.1 x c e rfl) ho (I.freeC x c e)
  · obtain ⟨e, n, ne, nf, d⟩ := I.pin p hp
    have nch : p.1 ∉ ch := fun z => (hch p.1 z).2.2.2 p hp rfl
    exact ⟨keep p.1 p.2 ne nf nch e n, free p.1 p.2 nch e n, ne, nf, d⟩
theorem Inv.un {t' : Nat} (I : Inv X pins σ H s) (u : Un X.fs [] H H' s.heap h') (hok : HOk X.prog X.w H' h') : Inv X pins σ H' { s with heap := h', toks := t' } := by
  obtain ⟨m, ⟨o, es, ep, ho, r⟩, _⟩ := id I.loc
  obtain ⟨sl, hL⟩ := u.any ho I.free (by simp)
  exact I.step (g' := s.gens) (d' := s.drawn) (ch := []) (fun _ z => nomatch z) (fun b o _ hb _ e n => u.keep b o e n hb (by simp)) (fun b o _ hb _ e n => u.slot b o e n hb (by simp)) (fun b o _ e n => u.free b o e n (by simp)) (fun b o _ e => u.there b o e (by simp)) u.tups u.frzs u.tbls (fun m' hm => by
    obtain ⟨o', es', ep', ho', r'⟩ := hm
    rw [ho] at ho'; cases ho'
    exact ⟨_, es', ep', hL, r'⟩) hok I.bare
theorem Inv.call {g' : Array GenState} {t' : Nat} {d' : Drawn} {ch : List Addr} (I : Inv X pins σ H s) (u : Un (frs X.stack) ch H H' s.heap h') (hok : HOk X.prog X.w H' h') (hg : AllBare g')
    (hch : ∀ b ∈ ch, (b ∈ X.ex ∨ X.s₀.heap.objs.size ≤ b) ∧ b ≠ X.env.locals ∧ (∀ x c, X.env.cells.lookup x = some c → c ≠ b) ∧ ∀ p ∈ X.pn ++ pins, p.1 ≠ b) :
    Inv X pins σ H' { s with heap := h', gens := g', drawn := d', toks := t' } := by
  obtain ⟨m, ⟨o, es, ep, ho, r⟩, _⟩ := id I.loc
  obtain ⟨sl, hL⟩ := u.any ho I.free fun z => (hch _ z).2.1 rfl
  exact I.step (ch := ch) hch (fun b o hL hb hc e n => u.keep b o e n (fun z => (List.mem_cons.mp (I.stkSub b z)).elim hL hb) hc) (fun b o _ _ hc e n => u.any e n hc) (fun b o hc e n => u.free b o e n hc) (fun b o hc e => u.there b o e hc) u.tups u.frzs u.tbls (fun m' hm => by
    obtain ⟨o', es', ep', ho', r'⟩ := hm
    rw [ho] at ho'; cases ho'
    exact ⟨_, es', ep', hL, r'⟩) hok hg
theorem Inv.turned {t' : Nat} {it : Addr} (I : Inv X pins σ H s) (k : ∀ b o, b ≠ it → s.heap.get? b = some o → h'.get? b = some o) (hn : H it = none) (hL : it ≠ X.env.locals)
    (h1 : it ∈ X.ex ∨ X.s₀.heap.objs.size ≤ it) (h2 : ∀ x c, X.env.cells.lookup x = some c → c ≠ it) (h3 : ∀ p ∈ X.pn ++ pins, p.1 ≠ it) : Inv X pins σ H { s with heap := h', toks := t' } := by
  have nit : ∀ b u, H b = some u → b ≠ it := fun b u e z => by rw [z, hn] at e; cases e
  refine I.step (g' := s.gens) (d' := s.drawn) (ch := [it]) (fun b hb => ?_) (fun b o _ _ hc e _ => k b o (fun z => hc (by simp [z])) e) (fun b o _ _ hc e _ => ⟨o.slots, k b o (fun z => hc (by simp [z])) e⟩) (fun _ _ _ _ n => n)
    (fun b o hc e => ⟨o, k b o (fun z => hc (by simp [z])) e⟩) (fun _ _ e => e) (fun _ _ _ e => e) (fun b ps e => ⟨#[], by rw [e]; simp⟩) (fun m hm => ?_) (fun b u e => ?_) I.bare
  · have e : b = it := by simpa using hb
    subst e
    exact ⟨h1, hL, h2, h3⟩
  · obtain ⟨o, es, ep, ho, r⟩ := hm
    exact ⟨o, es, ep, k _ o (Ne.symm hL) ho, r⟩
  · refine (I.hok b u e).stay (fun c v hc q => k c v ?_ q) (fun _ q => q) fun _ _ q => q
    rcases hc with z | z
    · rw [z]; exact nit b u e
    · exact nit c _ z
theorem Inv.tok (I : Inv X pins σ H s) (t : Nat) : Inv X pins σ H { s with toks := t } := I.un (h' := s.heap) (t' := t) Un.refl I.hok
theorem Inv.kept {t' : Nat} (I : Inv X pins σ H s) (k : ∀ b u, s.heap.get? b = some u → h'.get? b = some u) : Inv X pins σ H { s with heap := h', toks := t' } := I.un (Un.kept k) (I.hok.kept k)
theorem Inv.laid {a : Addr} {o : HO} {t' : Nat} (I : Inv X pins σ H s) (k : ∀ b u, s.heap.get? b = some u → h'.get? b = some u) (hp : s.heap.objs.size ≤ a) (new : ObjOk X.prog X.w (upd H a o) h' a o) :
    Inv X pins σ (upd H a o) { s with heap := h', toks := t' } := I.un (Un.laid k hp (I.hok.fresh hp)) (I.hok.laid k hp new)
theorem Inv.write {x e : Addr} {o : HO} {t' : Nat} (I : Inv X pins σ H s) (mu : Mut (H x)) (he : e = x ∨ H e = some (.own x)) (k : ∀ b u, b ≠ e → s.heap.get? b = some u → h'.get? b = some u) (heo : ∃ u, h'.get? e = some u)
    (new : ObjOk X.prog X.w (upd H x o) h' x o) : Inv X pins σ (upd H x o) { s with heap := h', toks := t' } := I.un (Un.write mu he k heo) (I.hok.write mu he k heo new)
theorem Inv.weak {σ' : List (Option V)} (I : Inv X pins σ H s) (hl : σ'.length = σ.length) (w : ∀ (i : Nat) v, σ'[i]? = some (some v) → σ[i]? = some (some v)) : Inv X pins σ' H s :=
  ⟨I.ok, I.os, I.bare, I.base, let ⟨m, hn, hl'⟩ := I.loc; ⟨m, hn, fun i x v e1 e2 e3 => hl' i x v e1 (w i v e2) e3⟩, I.cell, I.free, I.freeC, I.pin, I.hok, hl.trans I.len⟩
theorem Inv.pins_of {pins' : List (Addr × Obj)} (I : Inv X pins σ H s) (h : ∀ p ∈ pins', s.heap.get? p.1 = some p.2 ∧ H p.1 = none ∧ p.1 ≠ X.env.locals ∧ p.1 ∉ X.fs ∧ ∀ v, p.2.data ≠ .cell v) : Inv X pins' σ H s :=
  ⟨I.ok, I.os, I.bare, I.base, I.loc, I.cell, I.free, I.freeC, fun p hp => (List.mem_append.mp hp).elim (fun z => I.pin p (List.mem_append_left _ z)) (h p), I.hok, I.len⟩
theorem nodup_ix {N : List Str} (hN : N.Nodup) {i j : Nat} {x : Str} (a : N[i]? = some x) (b : N[j]? = some x) : i = j := by
  obtain ⟨h1, e1⟩ := List.getElem?_eq_some_iff.mp a
  obtain ⟨h2, e2⟩ := List.getElem?_eq_some_iff.mp b
  exact (List.getElem_inj hN).mp (e1.trans e2.symm)
theorem store_ok2 {M : Model} {A : Around} {E : Value → Shared → Prop} {i : Nat} {x : Str} {v : V} {u : Value} {Q : Unit → Shared → Prop} (I : Inv X pins σ H s) (hN : X.N.Nodup) (hi : X.N[i]? = some x) (hx : Loc X.env.scope x) (r : RelV v u)
    (h : ∀ s', Inv X pins (σ.set i (some v)) H s' → (∃ a, Heap.SameBut a s.heap s'.heap ∧ (a = X.env.locals ∨ X.env.cells.lookup x = some a)) → Q () s') (hf : X.fn x = true ∨ X.env.scope.names.lookup x = some .local := by first | exact .inl rfl | exact .inr rfl | assumption) : wpAny M A (storeName X.env x u) Q E s := by
  obtain ⟨m, hn, hl⟩ := id I.loc
  have hcls : (X.env.scope.kind == .class || (X.env.scope.kind == .module && X.env.locals != X.env.globals)) = false := by rw [I.ok.kind]; rfl
  have hiσ : i < σ.length := by rw [I.len]; exact (List.getElem?_eq_some_iff.mp hi).1
  have cne := I.cne
  have tracked : ∀ {a : Addr} {h' : Heap}, (∃ o, s.heap.get? a = some o ∧ H a = none) → Heap.SameBut a s.heap h' → HOk X.prog X.w H h' := fun {a h'} ha hs b ob e => by
    obtain ⟨_, _, hfree⟩ := ha
    refine (I.hok b ob e).stay (fun c w' hc q => (hs.2 c ?_).trans q) (fun _ q => q) fun _ _ q => q
    rintro rfl
    rcases hc with rfl | hc
    · rw [hfree] at e; cases e
    · rw [hfree] at hc; cases hc
  rcases hx with hk | hk
  · refine wpAny_storeName_local hk hn (fun h' hn' hs => ?_) hcls
    obtain ⟨oL, _, _, hoL, _⟩ := id hn
    refine h _ ⟨I.ok, I.os, I.bare, ⟨fun b o e n hb hx => ?_, fun b o e n hb hx => ?_, I.base.free, fun b o e hx => ?_, I.base.tups, I.base.frzs, I.base.tbls⟩, ⟨_, hn', fun j y v' e1 e2 e3 => ?_⟩, fun y c e => ?_, I.free, I.freeC, fun p hp => ?_, tracked ⟨oL, hoL, I.free⟩ hs, by simpa using I.len⟩ ⟨_, hs, .inl rfl⟩
    · exact (hs.2 b (Nat.ne_of_lt (Nat.lt_of_lt_of_le (Heap.lt_size e) I.ok.above))).trans (I.base.keep b o e n hb hx)
    · obtain ⟨sl, e1⟩ := I.base.slot b o e n hb hx
      exact ⟨sl, (hs.2 b (Nat.ne_of_lt (Nat.lt_of_lt_of_le (Heap.lt_size e) I.ok.above))).trans e1⟩
    · obtain ⟨o', e1⟩ := I.base.there b o e hx
      exact ⟨o', (hs.2 b (Nat.ne_of_lt (Nat.lt_of_lt_of_le (Heap.lt_size e) I.ok.above))).trans e1⟩
    · by_cases hj : j = i
      · subst hj
        rw [hi] at e1; cases e1
        rw [List.getElem?_set_self hiσ] at e2
        cases e2
        exact ⟨u, r, .inl ⟨hk, by simp⟩⟩
      · rw [List.getElem?_set_ne (Ne.symm hj)] at e2
        obtain ⟨u', r', q⟩ := hl j y v' e1 e2 e3
        refine ⟨u', r', ?_⟩
        rcases q with ⟨k, e⟩ | ⟨k, c, e, z⟩
        · refine .inl ⟨k, ?_⟩
          have : y ≠ x := fun e => hj (nodup_ix hN e1 (e ▸ hi))
          simp [this, e]
        · exact .inr ⟨k, c, e, z.sameBut hs (cne y c e)⟩
    · obtain ⟨w', z⟩ := I.cell y c e
      exact ⟨w', z.sameBut hs (cne y c e)⟩
    · obtain ⟨e, n, ne, nf, d⟩ := I.pin p hp
      exact ⟨(hs.2 p.1 ne).trans e, n, ne, nf, d⟩
  · have hfn : X.fn x = true := by
      rcases hf with z | z
      · exact z
      · rw [z] at hk; cases hk
    obtain ⟨c, hc⟩ := I.ok.has x (.inl hk)
    obtain ⟨w', z⟩ := I.cell x c hc
    refine wpAny_storeName_cell I.ok.kind hk hc z (fun h' hc' hs => ?_)
    obtain ⟨oc, hoc, hocd⟩ := id z
    refine h { s with heap := h' } ⟨I.ok, I.os, I.bare, ⟨fun b o e n hb hx => ?_, fun b o e n hb hx => ?_, I.base.free, fun b o e hx => ?_, I.base.tups, I.base.frzs, I.base.tbls⟩, ⟨m, hn.sameBut hs (Ne.symm (cne x c hc)), fun j y v' e1 e2 e3 => ?_⟩, fun y c' e => ?_, I.free, I.freeC, fun p hp => ?_, tracked ⟨oc, hoc, I.freeC x c hc⟩ hs, by simpa using I.len⟩ ⟨c, hs, .inr hc⟩
    · exact (hs.2 b (Nat.ne_of_lt (Nat.lt_of_lt_of_le (Heap.lt_size e) (I.ok.cab x c hfn hc)))).trans (I.base.keep b o e n hb hx)
    · obtain ⟨sl, e1⟩ := I.base.slot b o e n hb hx
      exact ⟨sl, (hs.2 b (Nat.ne_of_lt (Nat.lt_of_lt_of_le (Heap.lt_size e) (I.ok.cab x c hfn hc)))).trans e1⟩
    · obtain ⟨o', e1⟩ := I.base.there b o e hx
      exact ⟨o', (hs.2 b (Nat.ne_of_lt (Nat.lt_of_lt_of_le (Heap.lt_size e) (I.ok.cab x c hfn hc)))).trans e1⟩
    · by_cases hj : j = i
      · subst hj
        rw [hi] at e1; cases e1
        rw [List.getElem?_set_self hiσ] at e2
        cases e2
        exact ⟨u, r, .inr ⟨.inl hk, c, hc, hc'⟩⟩
      · rw [List.getElem?_set_ne (Ne.symm hj)] at e2
        obtain ⟨u', r', q⟩ := hl j y v' e1 e2 e3
        refine ⟨u', r', ?_⟩
        rcases q with q | ⟨k, c', e, z'⟩
        · exact .inl q
        · refine .inr ⟨k, c', e, z'.sameBut hs ?_⟩
          rintro rfl
          exact hj (nodup_ix hN e1 (I.ok.inj _ _ _ e hc ▸ hi))
    · by_cases hcc : c' = c
      · subst hcc; exact ⟨_, hc'⟩
      · obtain ⟨w2, z2⟩ := I.cell y c' e
        exact ⟨w2, z2.sameBut hs hcc⟩
    · obtain ⟨e, n, ne, nf, d⟩ := I.pin p hp
      refine ⟨(hs.2 p.1 ?_).trans e, n, ne, nf, d⟩
      intro q
      rw [q, hoc] at e
      have q' : oc = p.2 := Option.some.inj e
      exact d w' (by rw [← q']; exact hocd)
theorem store_ok {M : Model} {A : Around} {E : Value → Shared → Prop} {i : Nat} {x : Str} {v : V} {u : Value} {Q : Unit → Shared → Prop} (I : Inv X pins σ H s) (hN : X.N.Nodup) (hi : X.N[i]? = some x) (hx : Loc X.env.scope x) (r : RelV v u)
    (h : ∀ s', Inv X pins (σ.set i (some v)) H s' → Q () s') (hf : X.fn x = true ∨ X.env.scope.names.lookup x = some .local := by first | exact .inl rfl | exact .inr rfl | assumption) : wpAny M A (storeName X.env x u) Q E s :=
  store_ok2 I hN hi hx r (fun s' I' _ => h s' I') hf
theorem Inv.call' {s' : Shared} {ch : List Addr} (I : Inv X pins σ H s) (ho : s'.os = s.os) (u : Un (frs X.stack) ch H H' s.heap s'.heap) (hok : HOk X.prog X.w H' s'.heap) (hg : AllBare s'.gens)
    (hch : ∀ b ∈ ch, (b ∈ X.ex ∨ X.s₀.heap.objs.size ≤ b) ∧ b ≠ X.env.locals ∧ (∀ x c, X.env.cells.lookup x = some c → c ≠ b) ∧ ∀ p ∈ X.pn ++ pins, p.1 ≠ b) : Inv X pins σ H' s' := by
  obtain ⟨h', g', d', t', o'⟩ := s'
  have e : o' = s.os := ho
  subst e
  exact I.call (g' := g') (t' := t') (d' := d') u hok hg hch
end
abbrev XK := Value → Option Addr → Hp → Prop
abbrev St := List (Option V)
abbrev VK := V → Hp → Prop
abbrev TE := St → Hp → VK → Prop
abbrev TT := St → Hp → (Bool → Hp → Prop) → Prop
abbrev TA := St → Hp → (List V → Hp → Prop) → Prop
structure Ends where
  nx : St → Hp → Prop
  rt : VK
  bk : St → Hp → Prop := fun _ _ => False
  ct : St → Hp → Prop := fun _ _ => False
abbrev TS := Ends → St → Hp → Prop
def EP (X : Cx) (pins : List (Addr × Obj)) (σ : St) (Q : VK) (u : Value) (s' : Shared) : Prop := ∃ v H', Inv X pins σ H' s' ∧ RelV v u ∧ Q v H'
def TP (X : Cx) (pins : List (Addr × Obj)) (σ : St) (Q : Bool → Hp → Prop) (b : Bool) (s' : Shared) : Prop := ∃ H', Inv X pins σ H' s' ∧ Q b H'
def AP (X : Cx) (pins : List (Addr × Obj)) (σ : St) (Q : List V → Hp → Prop) (us : List Value) (s' : Shared) : Prop := ∃ vs H', Inv X pins σ H' s' ∧ Vals vs us ∧ Q vs H'
def SP (X : Cx) (pins : List (Addr × Obj)) (D : Ends) (f : Flow) (s' : Shared) : Prop :=
  match f with
  | .next => ∃ σ' H', Inv X pins σ' H' s' ∧ D.nx σ' H'
  | .brk => ∃ σ' H', Inv X pins σ' H' s' ∧ D.bk σ' H'
  | .cont => ∃ σ' H', Inv X pins σ' H' s' ∧ D.ct σ' H'
  | .ret u => ∃ v σ' H', Inv X pins σ' H' s' ∧ RelV v u ∧ D.rt v H'
def PE (X : Cx) (e : Expr) (t : TE) : Prop :=
  ∀ (pins : List (Addr × Obj)) (s : Shared) (σ : St) (H : Hp) (Q : VK), Inv X pins σ H s → t σ H Q → wpAny (model X.prog X.w) X.A (eval e X.env) (EP X pins σ Q) X.xe s
def PT (X : Cx) (e : Expr) (t : TT) : Prop :=
  ∀ (pins : List (Addr × Obj)) (s : Shared) (σ : St) (H : Hp) (Q : Bool → Hp → Prop), Inv X pins σ H s → t σ H Q → wpAny (model X.prog X.w) X.A (isTrue e X.env (eval e X.env)) (TP X pins σ Q) X.xe s
def PW (X : Cx) (e : Expr) (t : TT) : Prop :=
  ∀ (whole : Sem Value) (pins : List (Addr × Obj)) (s : Shared) (σ : St) (H : Hp) (Q : Bool → Hp → Prop), Inv X pins σ H s → t σ H Q → wpAny (model X.prog X.w) X.A (isTrue e X.env whole) (TP X pins σ Q) X.xe s
theorem PW.pt {X : Cx} {e : Expr} {t : TT} (h : PW X e t) : PT X e t := h _
def PA (X : Cx) (es : List Expr) (t : TA) : Prop :=
  ∀ (pos : Pos) (pins : List (Addr × Obj)) (s : Shared) (σ : St) (H : Hp) (Q : List V → Hp → Prop), Inv X pins σ H s → t σ H Q → wpAny (model X.prog X.w) X.A (spliced (backTo pos (starEach es X.env))) (AP X pins σ Q) X.xe s
def PS (X : Cx) (st : Stmt) (t : TS) : Prop :=
  ∀ (pins : List (Addr × Obj)) (s : Shared) (σ : St) (H : Hp) (D : Ends), Inv X pins σ H s → t D σ H → wpAny (model X.prog X.w) X.A (exec st X.env) (SP X pins D) X.xe s
def PSs (X : Cx) (st : List Stmt) (t : TS) : Prop :=
  ∀ (pins : List (Addr × Obj)) (s : Shared) (σ : St) (H : Hp) (D : Ends), Inv X pins σ H s → t D σ H → wpAny (model X.prog X.w) X.A (execs st X.env) (SP X pins D) X.xe s
theorem thn {α : Type} {t : Sem α} {Q Q' : α → Shared → Prop} {M : Model} {A : Around} {E : Value → Shared → Prop} {s : Shared} (h : wpAny M A t Q E s) (hQ : ∀ a s, Q a s → Q' a s) : wpAny M A t Q' E s := wpAny_mono h hQ fun _ _ x => x
end L2
namespace L2
open PySem PySem.Spec PyProof.Rows
section
variable {X : Cx}
def tVar (i : Nat) : TE := fun σ H Q => ∃ v, σ[i]? = some (some v) ∧ Q v H
def tC (v : V) : TE := fun _ H Q => Q v H
theorem pe_var {i : Nat} {x : Str} {pos : Pos} (hN : X.N[i]? = some x) (hv : Vis X.env.scope x) (hd : (x == ("__debug__" : Str)) = false := by decide) (hcd : (x == ("__classdict__" : Str)) = false := by decide) : PE X (.Name x pos) (tVar i) := by
  intro pins s σ H Q I h
  obtain ⟨v, e, h⟩ := h
  obtain ⟨m, hn, hl⟩ := I.loc
  obtain ⟨u, r, l⟩ := hl i x v hN e hv
  have fin : EP X pins σ Q u s := ⟨v, H, I, r, h⟩
  rcases l with ⟨hk, hm⟩ | ⟨hk, c, hc, hcell⟩
  · exact wpAny_Name (wpAny_loadName_local I.ok.kind hk hn hm fin) hd
  · rcases hk with hk | hk
    · exact wpAny_Name (wpAny_loadName_cell I.ok.kind hk hc hcell fin) hd
    · exact wpAny_Name (wpAny_loadName_free I.ok.kind hk hc hcell fin hcd) hd
theorem pe_int {i j pos} : PE X (.Constant (.int i) j pos) (tC (.int i)) := fun _ _ _ H _ I h => wpAny_Constant_int ⟨.int i, H, I.tok _, ⟨_, rfl⟩, h⟩
theorem pe_bl {b j pos} : PE X (.Constant (.bool b) j pos) (tC (.bl b)) := fun _ _ _ H _ I h => Constant_bool ⟨.bl b, H, I, rfl, h⟩
theorem pe_non {j pos} : PE X (.Constant .none j pos) (tC .non) := fun _ _ _ H _ I h => Constant_none ⟨.non, H, I, rfl, h⟩
theorem pe_str {x j pos} : PE X (.Constant (.str x) j pos) (tC (.str x)) := fun _ _ _ H _ I h => Calls.Constant_str ⟨.str x, H, I.tok _, ⟨_, rfl⟩, h⟩
def Gl (X : Cx) (x : Str) : Prop := X.env.kindOf x = some .globalImplicit
theorem ld_glob {E : Value → Shared → Prop} {pins : List (Addr × Obj)} {s : Shared} {σ : St} {H : Hp} {x : Str} {u : Value} {pos : Pos} {Q : Value → Shared → Prop} (I : Inv X pins σ H s) (hg : Gl X x) (hm : X.mg x = some u) (h : Q u s)
    (hd : (x == ("__debug__" : Str)) = false := by decide) : wpAny (model X.prog X.w) X.A (eval (.Name x pos) X.env) Q E s :=
  Calls.Name_function_global I.ok.kind hg (Calls.loadGlobal_global (by rw [I.ok.glob]; exact I.mod.glob.keeps I.bk) hm h) hd
theorem ld_blt {E : Value → Shared → Prop} {pins : List (Addr × Obj)} {s : Shared} {σ : St} {H : Hp} {x : Str} {u : Value} {pos : Pos} {Q : Value → Shared → Prop} (I : Inv X pins σ H s) (hg : Gl X x) (hm : X.mg x = none) (hv : bootBuiltins x = some u) (h : Q u s)
    (hn : x ≠ "__name__" := by decide) (hd : (x == ("__debug__" : Str)) = false := by decide) : wpAny (model X.prog X.w) X.A (eval (.Name x pos) X.env) Q E s := by
  obtain ⟨mb, h1, h2⟩ := I.mod.blt
  exact Calls.Name_function_global I.ok.kind hg (Calls.loadGlobal_builtin (by rw [I.ok.glob]; exact I.mod.glob.keeps I.bk) hm (by rw [I.ok.blt]; exact h1.keeps I.bk) ((h2 x hn).trans hv) h) hd
theorem pe_glob {x : Str} {v : V} {u : Value} {pos : Pos} (hg : Gl X x) (hm : X.mg x = some u) (r : RelV v u) (hd : (x == ("__debug__" : Str)) = false := by decide) : PE X (.Name x pos) (tC v) :=
  fun _ _ _ H _ I h => ld_glob I hg hm ⟨v, H, I, r, h⟩ hd
theorem pe_bltn {x : Str} {v : V} {u : Value} {pos : Pos} (hg : Gl X x) (hm : X.mg x = none) (hv : bootBuiltins x = some u) (r : RelV v u) (hn : x ≠ "__name__" := by decide) (hd : (x == ("__debug__" : Str)) = false := by decide) : PE X (.Name x pos) (tC v) :=
  fun _ _ _ H _ I h => ld_blt I hg hm hv ⟨v, H, I, r, h⟩ hn hd
variable {a b : Expr} {ta tb : TE} {pos : Pos}
def tB (t : TE) : TT := fun σ H Q => t σ H fun x H1 => ∃ c, x = .bl c ∧ Q c H1
theorem pt_val {e : Expr} {t : TE} (h : PE X e t) (he : ∀ whole, isTrue e X.env whole = (do let v ← whole; standAt e.pos; holding [v] (truthy v)) := by intro _; rfl) : PT X e (tB t) := by
  intro pins s σ H Q I hw
  refine isTrue_plain (thn (h pins s σ H _ I hw) fun v s1 ⟨x, H1, I1, r1, q1⟩ => ?_) (he _)
  obtain ⟨d, rfl, q⟩ := q1
  cases r1
  exact wpAny_truthy_bool ⟨H1, I1, q⟩
variable {tA tB' : TT} {rest : List Expr}
def tAnd (t u : TT) : TT := fun σ H Q => t σ H fun c H1 => if c = true then u σ H1 Q else Q false H1
def tOr (t u : TT) : TT := fun σ H Q => t σ H fun c H1 => if c = true then Q true H1 else u σ H1 Q
def tNot (t : TT) : TT := fun σ H Q => t σ H fun c H1 => Q (!c) H1
theorem pw_and1 (ha : PT X a tA) : PW X (.BoolOp .And [a] pos) tA := by
  intro wh pins s σ H Q I h
  refine isTrue_and (thn (ha pins s σ H Q I h) fun c s1 e => ?_)
  cases c with
  | true => exact isTrue_and_nil e
  | false => exact e
theorem pw_or1 (ha : PT X a tA) : PW X (.BoolOp .Or [a] pos) tA := by
  intro wh pins s σ H Q I h
  refine isTrue_or (thn (ha pins s σ H Q I h) fun c s1 e => ?_)
  cases c with
  | false => exact isTrue_or_nil e
  | true => exact e
theorem pw_and (ha : PT X a tA) (hb : PW X (.BoolOp .And (b :: rest) pos) tB') : PW X (.BoolOp .And (a :: b :: rest) pos) (tAnd tA tB') := by
  intro wh pins s σ H Q I h
  refine isTrue_and (thn (ha pins s σ H _ I h) fun c s1 ⟨H1, I1, q1⟩ => ?_)
  cases c with
  | true => exact hb wh pins s1 σ H1 Q I1 q1
  | false => exact ⟨H1, I1, q1⟩
theorem pw_or (ha : PT X a tA) (hb : PW X (.BoolOp .Or (b :: rest) pos) tB') : PW X (.BoolOp .Or (a :: b :: rest) pos) (tOr tA tB') := by
  intro wh pins s σ H Q I h
  refine isTrue_or (thn (ha pins s σ H _ I h) fun c s1 ⟨H1, I1, q1⟩ => ?_)
  cases c with
  | true => exact ⟨H1, I1, q1⟩
  | false => exact hb wh pins s1 σ H1 Q I1 q1
theorem pt_not (ha : PT X a tA) : PT X (.UnaryOp .Not a pos) (tNot tA) := by
  intro pins s σ H Q I h
  exact isTrue_not (ha pins s σ H (fun c H1 => Q (!c) H1) I h)
def tAndV (ta tb : TE) : TE := fun σ H Q => ta σ H fun x H1 => ∃ c, x = .bl c ∧ if c = true then tb σ H1 Q else Q (.bl false) H1
def tNotV (ta : TE) : TE := fun σ H Q => ta σ H fun x H1 => ∃ c, x = .bl c ∧ Q (.bl (!c)) H1
theorem pe_one {op} {t : TE} (h : PE X a t) : PE X (.BoolOp op [a] pos) t := fun pins s σ H Q I hw => BoolOp_one (h pins s σ H Q I hw)
theorem pe_and (ha : PE X a ta) (hb : PE X (.BoolOp .And (b :: rest) pos) tb) : PE X (.BoolOp .And (a :: b :: rest) pos) (tAndV ta tb) := by
  intro pins s σ H Q I h
  refine BoolOp_and (thn (ha pins s σ H _ I h) fun v s1 ⟨x, H1, I1, r1, q1⟩ => ?_)
  obtain ⟨c, rfl, q1⟩ := q1
  cases r1
  refine wpAny_truthy_bool ?_
  cases c with
  | true => exact hb pins s1 σ H1 Q I1 q1
  | false => exact ⟨.bl false, H1, I1, rfl, q1⟩
theorem pe_not (ha : PE X a ta) : PE X (.UnaryOp .Not a pos) (tNotV ta) := by
  intro pins s σ H Q I h
  refine UnaryOp_ (thn (ha pins s σ H _ I h) fun v s1 ⟨x, H1, I1, r1, q1⟩ => ?_)
  obtain ⟨c, rfl, q1⟩ := q1
  cases r1
  exact not_of (wpAny_truthy_bool ⟨.bl (!c), H1, I1, rfl, q1⟩)
end
end L2
namespace L2
open PySem PySem.Spec PyProof.Rows
def SqL (K : PySem.W.Frag) (H : Hp) (a : Addr) (xs : List V) : Prop :=
  Rd H a (.lst xs) ∨
    ∃ (o : Obj) (its : Array Value) (n : Nat), K.lookup a = some o ∧ o.cls = .type "list" ∧ o.dict = none ∧ o.data = .seq its n ∧ its.size ≤ sizeLine ∧ Vals xs its.toList
def SqT (K : PySem.W.Frag) (H : Hp) (a : Addr) (xs : List V) : Prop :=
  Rd H a (.tup xs) ∨
    ∃ (o : Obj) (its : Array Value) (n : Nat), K.lookup a = some o ∧ o.cls = .type "tuple" ∧ o.data = .seq its n ∧ its.size ≤ sizeLine ∧ Vals xs its.toList
def absV : Value → Option V
  | .none => some .non
  | .bool b => some (.bl b)
  | .int i _ => some (.int i)
  | .str x _ => some (.str x)
  | .bytes b _ => some (.byt b)
  | .float b _ => some (.flt b)
  | .ref a => some (.ref a)
  | .type n => some (.ty n)
  | _ => none
theorem RelV.abs {x : V} {u : Value} (r : RelV x u) : absV u = some x := by
  cases x with
  | non => cases r; rfl
  | bl _ => cases r; rfl
  | int _ => obtain ⟨t, rfl⟩ := r; rfl
  | str _ => obtain ⟨t, rfl⟩ := r; rfl
  | byt _ => obtain ⟨t, rfl⟩ := r; rfl
  | flt _ => obtain ⟨t, rfl⟩ := r; rfl
  | ref _ => cases r; rfl
  | ty _ => cases r; rfl
theorem RelV.inj {x y : V} {u : Value} (r : RelV x u) (q : RelV y u) : x = y := Option.some.inj (r.abs.symm.trans q.abs)
theorem Vals.inj : ∀ {xs ys : List V} {us : List Value}, Vals xs us → Vals ys us → xs = ys
  | _, _, _, .nil, .nil => rfl
  | _, _, _, .cons r t, .cons r' t' => by rw [r.inj r', Vals.inj t t']
section
variable {X : Cx} {pins : List (Addr × Obj)} {σ : St} {H : Hp} {s : Shared} {a : Addr} {xs ys : List V}
theorem SqL.of {K : PySem.W.Frag} (h : H a = some (.lst xs)) : SqL K H a xs := .inl (.inl h)
theorem SqT.of {K : PySem.W.Frag} (h : H a = some (.tup xs)) : SqT K H a xs := .inl (.inl h)
theorem Inv.list (I : Inv X pins σ H s) (h : SqL X.K H a xs) : ∃ its : List Value, Vals xs its ∧ PlainL s.heap a its.toArray ∧ xs.length ≤ sizeLine := by
  rcases h with h | ⟨o, its, n, hk, hc, hd, hs, hz, r⟩
  · obtain ⟨z, its, n, r, e⟩ := h.ok I.hok
    exact ⟨its, r, ⟨_, n, e, rfl, rfl, rfl⟩, z⟩
  · refine ⟨its.toList, r, ⟨o, n, I.kIn a o hk, hc, hd, by simpa using hs⟩, ?_⟩
    have e := r.length
    simp only [Array.length_toList] at e
    omega
theorem Inv.tuple (I : Inv X pins σ H s) (h : SqT X.K H a xs) : ∃ its : List Value, Vals xs its ∧ IsTup s.heap a its.toArray ∧ xs.length ≤ sizeLine := by
  rcases h with h | ⟨o, its, n, hk, hc, hs, hz, r⟩
  · obtain ⟨z, its, r, p⟩ := h.ok I.hok
    exact ⟨its, r, p, z⟩
  · refine ⟨its.toList, r, ⟨o, I.kIn a o hk, hc, n, by simpa using hs⟩, ?_⟩
    have e := r.length
    simp only [Array.length_toList] at e
    omega
theorem Inv.list_inj (I : Inv X pins σ H s) (h : SqL X.K H a xs) (h' : SqL X.K H a ys) : xs = ys := by
  obtain ⟨its, r, ⟨o, n, e, _, _, d⟩, _⟩ := I.list h
  obtain ⟨its', r', ⟨o', n', e', _, _, d'⟩, _⟩ := I.list h'
  rw [e] at e'; cases e'
  rw [d] at d'
  injection d' with d1 _
  have : its = its' := by simpa using congrArg Array.toList d1
  subst this
  exact r.inj r'
theorem Inv.tuple_inj (I : Inv X pins σ H s) (h : SqT X.K H a xs) (h' : SqT X.K H a ys) : xs = ys := by
  obtain ⟨its, r, ⟨o, e, _, n, d⟩, _⟩ := I.tuple h
  obtain ⟨its', r', ⟨o', e', _, n', d'⟩, _⟩ := I.tuple h'
  rw [e] at e'; cases e'
  rw [d] at d'
  injection d' with d1 _
  have : its = its' := by simpa using congrArg Array.toList d1
  subst this
  exact r.inj r'
end
abbrev Cx.wish (X : Cx) (E : Value → Shared → Prop) : Cx := { X with xe := E }
abbrev Cx.nox (X : Cx) : Cx := X.wish fun _ _ => False
theorem Cx.Ok.wish {X : Cx} (ok : X.Ok) (E : Value → Shared → Prop) : (X.wish E).Ok :=
  ⟨ok.mod, ok.kind, ok.glob, ok.blt, ok.above, ok.inj, ok.has, ok.cab, ok.hd, ok.frames, ok.stk, ok.exf, ok.bs, ok.bsz, ok.noex, ok.exfs, ok.funs, ok.frf⟩
theorem Cx.Ok.unwish {X : Cx} {E : Value → Shared → Prop} (ok : (X.wish E).Ok) : X.Ok :=
  ⟨ok.mod, ok.kind, ok.glob, ok.blt, ok.above, ok.inj, ok.has, ok.cab, ok.hd, ok.frames, ok.stk, ok.exf, ok.bs, ok.bsz, ok.noex, ok.exfs, ok.funs, ok.frf⟩
section
variable {X : Cx} {pins : List (Addr × Obj)} {σ : St} {H : Hp} {s : Shared} {E : Value → Shared → Prop}
theorem Inv.wish (I : Inv X pins σ H s) (E : Value → Shared → Prop) : Inv (X.wish E) pins σ H s := ⟨I.ok.wish E, I.os, I.bare, I.base, I.loc, I.cell, I.free, I.freeC, I.pin, I.hok, I.len⟩
theorem Inv.unwish (I : Inv (X.wish E) pins σ H s) : Inv X pins σ H s := ⟨I.ok.unwish, I.os, I.bare, I.base, I.loc, I.cell, I.free, I.freeC, I.pin, I.hok, I.len⟩
theorem SP.unwish {D : Ends} {f : Flow} {s' : Shared} (h : SP (X.wish E) pins D f s') : SP X pins D f s' := by
  cases f with
  | next => obtain ⟨σ', H', I, q⟩ := h; exact ⟨σ', H', I.unwish, q⟩
  | brk => obtain ⟨σ', H', I, q⟩ := h; exact ⟨σ', H', I.unwish, q⟩
  | cont => obtain ⟨σ', H', I, q⟩ := h; exact ⟨σ', H', I.unwish, q⟩
  | ret u => obtain ⟨v, σ', H', I, r, q⟩ := h; exact ⟨v, σ', H', I.unwish, r, q⟩
theorem PE.nox {e : Expr} {t : TE} (h : PE X.nox e t) : PE X e t := fun pins s σ H Q I hw =>
  wpAny_mono (h pins s σ H Q (I.wish _) hw) (fun _ _ ⟨v, H', I', r, q⟩ => ⟨v, H', I'.unwish, r, q⟩) fun _ _ z => False.elim z
theorem PT.nox {e : Expr} {t : TT} (h : PT X.nox e t) : PT X e t := fun pins s σ H Q I hw =>
  wpAny_mono (h pins s σ H Q (I.wish _) hw) (fun _ _ ⟨H', I', q⟩ => ⟨H', I'.unwish, q⟩) fun _ _ z => False.elim z
theorem PSs.nox {st : List Stmt} {t : TS} (h : PSs X.nox st t) : PSs X st t := fun pins s σ H D I hw =>
  wpAny_mono (h pins s σ H D (I.wish _) hw) (fun _ _ q => q.unwish) fun _ _ z => False.elim z
end
section
variable {X : Cx} {st : Stmt} {rest : List Stmt} {t u : TS} {e : Expr} {te : TE} {pos : Pos}
def tNext : TS := fun D σ H => D.nx σ H
def tSeq (t u : TS) : TS := fun D σ H => t { D with nx := u D } σ H
theorem pss_nil : PSs X [] tNext := fun _ _ σ H _ I h => wpAny_execs_nil ⟨σ, H, I, h⟩
theorem pss_cons (h1 : PS X st t) (h2 : PSs X rest u) : PSs X (st :: rest) (tSeq t u) := by
  intro pins s σ H D I h
  refine wpAny_execs_cons (thn (h1 pins s σ H { D with nx := u D } I h) fun f s1 q => ?_)
  cases f with
  | next =>
    obtain ⟨σ', H', I', q⟩ := q
    exact h2 pins s1 σ' H' D I' q
  | ret v => exact q
  | brk => exact q
  | cont => exact q
theorem pss_one (h1 : PS X st t) : PSs X [st] t := by
  intro pins s σ H D I h
  refine wpAny_execs_cons (thn (h1 pins s σ H D I h) fun f s1 q => ?_)
  cases f with
  | next => exact wpAny_execs_nil q
  | ret v => exact q
  | brk => exact q
  | cont => exact q
theorem Inv.quiet {pins : List (Addr × Obj)} {σ : St} {H : Hp} {s : Shared} (I : Inv X pins σ H s) : interactive X.env = false := by simp [interactive, I.ok.kind]
def tDrop (te : TE) : TS := fun D σ H => te σ H fun _ H1 => D.nx σ H1
theorem ps_expr (he : PE X e te) (hs : swapsWith e none pos.line X.env = pure false := by rfl) : PS X (.Expr e pos) (tDrop te) := by
  intro pins s σ H D I h
  exact wpAny_Expr_any (thn (he pins s σ H _ I h) fun v s1 ⟨x, H1, I1, r1, q1⟩ => ⟨σ, H1, I1, q1⟩) I.quiet hs
def tRet (te : TE) : TS := fun D σ H => te σ H D.rt
theorem ps_ret (he : PE X e te) : PS X (.Return (some e) pos) (tRet te) := by
  intro pins s σ H D I h
  exact wpAny_Return_some (thn (he pins s σ H _ I h) fun v s1 ⟨x, H1, I1, r1, q1⟩ => ⟨x, σ, H1, I1, r1, q1⟩)
def tIfS (c : TT) (t u : TS) : TS := fun D σ H => c σ H fun b H1 => if b = true then t D σ H1 else u D σ H1
theorem ps_if {c : Expr} {a b : List Stmt} {tc : TT} (hc : PT X c tc) (ha : PSs X a t) (hb : PSs X b u) : PS X (.If c a b pos) (tIfS tc t u) := by
  intro pins s σ H D I h
  refine wpAny_If (thn (hc pins s σ H _ I h) fun d s1 ⟨H1, I1, q1⟩ => ?_)
  cases d with
  | true => exact ha pins s1 σ H1 D I1 q1
  | false => exact hb pins s1 σ H1 D I1 q1
end
abbrev TG := V → St → Hp → (St → Hp → Prop) → Prop
abbrev TGs := List V → St → Hp → (St → Hp → Prop) → Prop
def PG (X : Cx) (target : Expr) (t : TG) : Prop :=
  ∀ (pins : List (Addr × Obj)) (s : Shared) (σ : St) (H : Hp) (v : V) (u : Value) (Q : St → Hp → Prop), Inv X pins σ H s → RelV v u → t v σ H Q →
    wpAny (model X.prog X.w) X.A (assign target X.env u) (fun _ s' => ∃ σ' H', Inv X pins σ' H' s' ∧ Q σ' H') X.xe s
def PGs (X : Cx) (ts : List Expr) (t : TGs) : Prop :=
  ∀ (pins : List (Addr × Obj)) (s : Shared) (σ : St) (H : Hp) (vs : List V) (us : List Value) (Q : St → Hp → Prop), Inv X pins σ H s → Vals vs us → t vs σ H Q →
    wpAny (model X.prog X.w) X.A (assignInOrder ((assignEach ts X.env).map (·.2)) us) (fun _ s' => ∃ σ' H', Inv X pins σ' H' s' ∧ Q σ' H') X.xe s
abbrev TSet := V → V → V → Hp → (Hp → Prop) → Prop
def PSet (X : Cx) (t : TSet) : Prop :=
  ∀ (pins : List (Addr × Obj)) (s : Shared) (σ : St) (H : Hp) (o i v : V) (ov iv u : Value) (Q : Hp → Prop), Inv X pins σ H s → RelV o ov → RelV i iv → RelV v u → t o i v H Q →
    wpAny (model X.prog X.w) X.A (setItem ov iv u) (fun _ s' => ∃ H', Inv X pins σ H' s' ∧ Q H') X.xe s
section
variable {X : Cx} {pos : Pos}
def gName (i : Nat) : TG := fun v σ H Q => Q (σ.set i (some v)) H
theorem pg_name {i : Nat} {x : Str} (hN : X.N.Nodup) (hi : X.N[i]? = some x) (hx : Loc X.env.scope x) (hf : X.fn x = true ∨ X.env.scope.names.lookup x = some .local := by first | exact .inl rfl | exact .inr rfl | assumption) : PG X (.Name x pos) (gName i) := by
  intro pins s σ H v u Q I r h
  exact wpAny_assign_Name (store_ok I hN hi hx r (fun s' I' => ⟨_, H, I', h⟩) hf)
def gNil : TGs := fun vs σ H Q => vs = [] ∧ Q σ H
def gCons (t : TG) (u : TGs) : TGs := fun vs σ H Q => ∃ v r, vs = v :: r ∧ t v σ H fun σ' H' => u r σ' H' Q
theorem pgs_nil : PGs X [] gNil := by
  intro pins s σ H vs us Q I r h
  obtain ⟨e, h⟩ := h
  subst e
  cases r
  exact assignInOrder_nil ⟨σ, H, I, h⟩
theorem pgs_cons {e : Expr} {es : List Expr} {t : TG} {u : TGs} (h1 : PG X e t) (h2 : PGs X es u)
    (hs : (assignEach (e :: es) X.env).map (·.2) = assign e X.env :: (assignEach es X.env).map (·.2) := by rfl) : PGs X (e :: es) (gCons t u) := by
  intro pins s σ H vs us Q I r h
  obtain ⟨v, vr, e1, h⟩ := h
  subst e1
  cases r with
  | cons r rr =>
    rw [hs]
    refine assignInOrder_cons (thn (h1 pins s σ H _ _ _ I r h) fun _ s1 ⟨σ1, H1, I1, q1⟩ => ?_)
    exact h2 pins s1 σ1 H1 _ _ Q I1 rr q1
def gTup (K : PySem.W.Frag) (n : Nat) (t : TGs) : TG := fun v σ H Q => ∃ a xs, v = .ref a ∧ SqT K H a xs ∧ xs.length = n ∧ t xs σ H Q
theorem pg_tup {es : List Expr} {k : Nat} {t : TGs} {n : Nat} (hc : X.calm = true) (h : PGs X es t)
    (hn : (assignEach es X.env).length = n := by rfl) (hst : (assignEach es X.env).findIdx? (·.1) = none := by rfl) : PG X (.Tuple es k pos) (gTup X.K n t) := by
  intro pins s σ H v u Q I r hw
  obtain ⟨a, xs, e1, hq, hl, hw⟩ := hw
  subst e1
  cases r
  obtain ⟨its, rv, ht, hz⟩ := I.tuple hq
  refine assign_Tuple_tuple (I.ok.hd hc) ht (by simp [hn, ← hl, rv.length]) hst fun h' hx => ?_
  have I1 : Inv X pins σ H { s with heap := h' } := I.kept (t' := s.toks) fun b o e => hx b o (Nat.ne_of_lt (Heap.lt_size e)) e
  exact h pins _ σ H xs _ Q I1 (by simpa using rv) hw
def gSub (to ti : TE) (t : TSet) : TG := fun v σ H Q => to σ H fun o H1 => ti σ H1 fun i H2 => t o i v H2 fun H3 => Q σ H3
theorem pg_sub {o i : Expr} {to ti : TE} {t : TSet} (ho : PE X o to) (hi : PE X i ti) (hs : PSet X t)
    (ha : ∀ v, assign (.Subscript o i pos) X.env v = (do
      let ov ← holding [v] (eval o X.env)
      let iv ← holding [v, ov] (eval i X.env)
      standAt pos
      holding [v, ov, iv] (setItem ov iv v)
      release [v, ov, iv] []) := by intro _; rfl) : PG X (.Subscript o i pos) (gSub to ti t) := by
  intro pins s σ H v u Q I r h
  rw [ha]
  refine wpAny_bind (wpAny_holding (thn (ho pins s σ H _ I h) fun ov s1 ⟨x, H1, I1, r1, q1⟩ => ?_))
  refine wpAny_bind (wpAny_holding (thn (hi pins s1 σ H1 _ I1 q1) fun iv s2 ⟨y, H2, I2, r2, q2⟩ => ?_))
  refine wpAny_bind (wpAny_standAt (wpAny_bind (wpAny_holding (thn (hs pins s2 σ H2 x y v ov iv u _ I2 r1 r2 r q2) fun _ s3 ⟨H3, I3, q3⟩ => ?_))))
  exact wpAny_release ⟨σ, H3, I3, q3⟩
def tAsg (te : TE) (g : TG) : TS := fun D σ H => te σ H fun x H1 => g x σ H1 D.nx
theorem ps_asg {tg e : Expr} {te : TE} {g : TG} (he : PE X e te) (hg : PG X tg g) (hs : swapsWithSole [tg] e pos.line X.env = pure false := by rfl) (hw : swappedStores [tg] e X.env = pure none := by rfl)
    (h1 : (assignEach [tg] X.env).map (·.2) = [assign tg X.env] := by rfl) : PS X (.Assign [tg] e pos) (tAsg te g) := by
  intro pins s σ H D I h
  refine wpAny_Assign_stores (thn (he pins s σ H _ I h) fun v s1 ⟨x, H1, I1, r1, q1⟩ => ?_) hs hw
  rw [h1]
  exact thn (hg pins s1 σ H1 x v _ I1 r1 q1) fun _ s2 q => q
theorem ps_set {i : Nat} {x : Str} {e : Expr} {te : TE} {pos' : Pos} (hN : X.N.Nodup) (hi : X.N[i]? = some x) (hx : Loc X.env.scope x) (he : PE X e te) (hs : swapsWith e (some (.Name x pos')) pos.line X.env = pure false := by rfl) (hf : X.fn x = true ∨ X.env.scope.names.lookup x = some .local := by first | exact .inl rfl | exact .inr rfl | assumption) :
    PS X (.Assign [.Name x pos'] e pos) (tAsg te (gName i)) := by
  intro pins s σ H D I h
  refine wpAny_Assign_Name (thn (he pins s σ H _ I h) fun v s1 ⟨y, H1, I1, r1, q1⟩ => ?_) hs
  exact store_ok I1 hN hi hx r1 (fun s2 I2 => ⟨_, H1, I2, q1⟩) hf
end
section
variable {X : Cx} {pos : Pos}
end
structure It where
  go : Nat → Hp → Prop
  yld : Nat → Hp → V → Hp → Prop
  stop : Nat → Hp → Prop
def FpOk (X : Cx) (pins : List (Addr × Obj)) (H : Hp) (b : Addr) : Prop :=
  H b = none ∧ b ≠ X.env.locals ∧ b ∉ X.fs ∧ (b ∈ X.ex ∨ X.s₀.heap.objs.size ≤ b) ∧ (∀ x c, X.env.cells.lookup x = some c → c ≠ b) ∧ ∀ p ∈ X.pn ++ pins, p.1 ≠ b
theorem Inv.fpOk {X : Cx} {pins : List (Addr × Obj)} {σ : St} {H H' : Hp} {s : Shared} {b : Addr} (I : Inv X pins σ H s) (hb : s.heap.objs.size ≤ b) (hn : H' b = none) : FpOk X pins H' b := by
  refine ⟨hn, Nat.ne_of_gt (Nat.lt_of_lt_of_le I.lt hb), I.nofs hb, .inr (Nat.le_trans I.sz hb), fun x c e z => ?_, fun p hp z => ?_⟩
  · obtain ⟨v, q⟩ := I.cell x c e
    exact absurd (Nat.lt_of_lt_of_le q.lt (by rw [z]; exact hb)) (Nat.lt_irrefl _)
  · exact absurd (Nat.lt_of_lt_of_le (Heap.lt_size (I.pin p hp).1) (by rw [z]; exact hb)) (Nat.lt_irrefl _)
structure Turn (P : Program) (w : World) (K : PySem.W.Frag) (tg : Expr) (J : It) (fp : List Addr) (it : Addr) (tn : Nat → Heap → Prop) : Prop where
  mem : it ∈ fp
  obj : ∀ i h, tn i h → ∀ b ∈ fp, ∃ o, h.get? b = some o ∧ ∀ v, o.data ≠ .cell v
  keep : ∀ i h h', tn i h → (∀ b ∈ fp, ∀ o, h.get? b = some o → h'.get? b = some o) → tn i h'
  item : ∀ (X : Cx), X.prog = P → X.w = w → X.K = K → X.calm = true → ∀ (i : Nat) (pins : List (Addr × Obj)) (s : Shared) (σ : St) (H : Hp) (E : Value → Shared → Prop), Inv X pins σ H s → (∀ b ∈ fp, FpOk X pins H b) → tn i s.heap → J.go i H →
    wpAny (model P w) X.A (pyNext (.ref it)) (fun r s1 => ∃ u, r = some u ∧
      wpAny (model P w) X.A (letOwnedTupleGo tg (.ref it) u) (fun _ s2 => ∃ x H', Inv X pins σ H' s2 ∧ RelV x u ∧ J.yld i H x H' ∧ tn (i + 1) s2.heap ∧ ∀ b ∈ fp, H' b = none) E s1) E s
  done : ∀ (X : Cx), X.prog = P → X.w = w → X.K = K → X.calm = true → ∀ (i : Nat) (pins : List (Addr × Obj)) (s : Shared) (σ : St) (H : Hp) (E : Value → Shared → Prop), Inv X pins σ H s → (∀ b ∈ fp, FpOk X pins H b) → tn i s.heap → J.stop i H →
    wpAny (model P w) X.A (pyNext (.ref it)) (fun r s1 => r = none ∧ Inv X pins σ H s1) E s
  self : ∀ (A : Around) (i : Nat) (s : Shared) (Q : Value → Shared → Prop) (E : Value → Shared → Prop), tn i s.heap → Q (.ref it) s → wpAny (model P w) A (pyIter (.ref it)) Q E s
abbrev TI := St → Hp → (It → Hp → Prop) → Prop
def PIE (X : Cx) (pins : List (Addr × Obj)) (σ : St) (tg : Expr) (R : It → Hp → Prop) (itv : Value) (s2 : Shared) : Prop :=
  ∃ (it : Addr) (fp : List Addr) (tn : Nat → Heap → Prop) (J : It) (H' : Hp), itv = .ref it ∧ Inv X pins σ H' s2 ∧ Turn X.prog X.w X.K tg J fp it tn ∧ tn 0 s2.heap ∧ (∀ b ∈ fp, FpOk X pins H' b) ∧ R J H'
def PI (X : Cx) (tg iter : Expr) (wi : TI) : Prop :=
  ∀ (pins : List (Addr × Obj)) (s : Shared) (σ : St) (H : Hp) (R : It → Hp → Prop), Inv X pins σ H s → wi σ H R →
    wpAny (model X.prog X.w) X.A (eval iter X.env) (fun v s1 => wpAny (model X.prog X.w) X.A (pyIter v) (PIE X pins σ tg R) X.xe s1) X.xe s
theorem go_of {M : Model} {A : Around} {E : Value → Shared → Prop} {s : Shared} {tg : Expr} {it : Addr} {u : Value} {o : Obj} {n : String} {vs : Array Value} {Q : Unit → Shared → Prop} (ho : s.heap.get? it = some o) (hc : o.cls = .type n) (hd : o.data = .fields vs)
    (hn : ["enumerate", "zip", "dict_itemiterator", "dict_reverseitemiterator", "odict_iterator", "itertools.zip_longest", "itertools.pairwise"].contains n = false) (hQ : Q () s) : wpAny M A (letOwnedTupleGo tg (.ref it) u) Q E s := by
  unfold letOwnedTupleGo
  cases tg <;> first
    | exact wpAny_pure hQ
    | (cases u <;> first
        | exact wpAny_pure hQ
        | (refine wpAny_bind (wpAny_load ho ?_)
           rw [hc, hd]
           show wpAny M A (if (["enumerate", "zip", "dict_itemiterator", "dict_reverseitemiterator", "odict_iterator", "itertools.zip_longest", "itertools.pairwise"].contains n && vs[0]? == some (rawInt _)) = true then _ else _) Q E s
           rw [if_neg (by intro h; rw [hn, Bool.false_and] at h; cases h)]
           exact wpAny_pure hQ))
def Itl (K : PySem.W.Frag) (a : Addr) : It :=
  ⟨fun i H => ∃ xs x, SqL K H a xs ∧ xs[i]? = some x, fun i H x H' => H' = H ∧ ∀ xs, SqL K H a xs → xs[i]? = some x, fun i H => ∃ xs, SqL K H a xs ∧ xs.length ≤ i⟩
def Itr (lo : Int) (n : Nat) : It := ⟨fun i _ => i < n, fun i H x H' => H' = H ∧ x = .int (lo + i), fun i _ => n ≤ i⟩
theorem turn_list {P : Program} {w : World} {K : PySem.W.Frag} {tg : Expr} (a it : Addr) : Turn P w K tg (Itl K a) [it] it (fun i h => h.IsListIter it a i) where
  mem := by simp
  obj := fun i h st b hb => by
    have e : b = it := by simpa using hb
    subst e
    obtain ⟨o, e, c, d⟩ := st
    exact ⟨o, e, fun v z => by rw [d] at z; cases z⟩
  keep := fun i h h' st k => st.at fun o e => k it (by simp) o e
  item := by
    intro X hP hw hK hc i pins s σ H E I hf st hg
    subst hP hw hK
    obtain ⟨xs, x, hq, hx⟩ := hg
    obtain ⟨its, rv, p, hz⟩ := I.list hq
    obtain ⟨u, hu, ru⟩ := rv.get hx
    obtain ⟨f0, f1, f2, f3, f4, f5⟩ := hf it (by simp)
    refine wpAny_pyNext_list_item st p.isList (x := u) (by simpa using hu) fun h' st' sb => ?_
    have I1 : Inv X pins σ H { s with heap := h' } := I.turned (t' := s.toks) (fun b o hb e => (sb.2 b hb).trans e) f0 f1 f3 f4 f5
    obtain ⟨o, e, c, d⟩ := id st'
    exact ⟨u, rfl, go_of (s := { s with heap := h' }) e c d (by decide) ⟨x, H, I1, ru, ⟨rfl, fun ys hy => by rw [I.list_inj hy hq]; exact hx⟩, st', fun b hb => (hf b hb).1⟩⟩
  done := by
    intro X hP hw hK hc i pins s σ H E I hf st hg
    subst hP hw hK
    obtain ⟨xs, hq, hx⟩ := hg
    obtain ⟨its, rv, p, hz⟩ := I.list hq
    obtain ⟨f0, f1, f2, f3, f4, f5⟩ := hf it (by simp)
    have hl := rv.length
    exact wpAny_pyNext_list_end (I.ok.hd hc) st p.isList (by simp; omega) fun h' eb => ⟨rfl, I.turned (t' := s.toks) (fun b o hb e => eb b o hb e) f0 f1 f3 f4 f5⟩
  self := fun _ _ _ _ _ st h => wpAny_pyIter_listiter st h
theorem turn_range {P : Program} {w : World} {K : PySem.W.Frag} {tg : Expr} (it : Addr) (lo : Int) (n : Nat) : Turn P w K tg (Itr lo n) [it] it (fun i h => IsRangeIter h it (lo + (i : Nat) * 1) ((n : Int) - (i : Nat)) 1) where
  mem := by simp
  obj := fun i h st b hb => by
    have e : b = it := by simpa using hb
    subst e
    exact ⟨_, st, fun v z => by
      have z' : Data.fields _ = Data.cell v := z
      cases z'⟩
  keep := fun i h h' st k => k it (by simp) _ st
  item := by
    intro X hP hw hK hc i pins s σ H E I hf st hg
    subst hP hw hK
    obtain ⟨f0, f1, f2, f3, f4, f5⟩ := hf it (by simp)
    have W := Walks.range (prog := X.prog) (w := X.w) (I.ok.hd hc) it lo 1 n
    refine W.item i s _ _ hg st fun v h' tk hv st' kk => ?_
    obtain ⟨t, rfl⟩ := hv
    have I1 : Inv X pins σ H { s with heap := h', toks := tk } := I.turned (fun b o hb e => kk b o (by simpa using hb) e) f0 f1 f3 f4 f5
    refine ⟨_, rfl, go_of (s := { s with heap := h', toks := tk }) (n := "range_iterator") st' rfl rfl (by decide) ⟨.int (lo + i), H, I1, ⟨t, ?_⟩, ⟨rfl, rfl⟩, st', fun b hb => (hf b hb).1⟩⟩
    rw [Int.mul_one]
  done := by
    intro X hP hw hK hc i pins s σ H E I hf st hg
    subst hP hw hK
    obtain ⟨f0, f1, f2, f3, f4, f5⟩ := hf it (by simp)
    exact wpAny_pyNext_range_end (I.ok.hd hc) st (by have : n ≤ i := hg; omega) fun h' eb => ⟨rfl, I.turned (t' := s.toks) (fun b o hb e => eb b o hb e) f0 f1 f3 f4 f5⟩
  self := fun _ _ _ _ _ st h => wpAny_pyIter_rangeiter st h
end L2
namespace L2
open PySem PySem.Spec PyProof.Rows
section
variable {X : Cx} {tg : Expr}
def iList (K : PySem.W.Frag) (tl : TE) : TI := fun σ H R => tl σ H fun x H1 => ∃ a, x = .ref a ∧ (∃ xs, SqL K H1 a xs) ∧ R (Itl K a) H1
theorem pi_list {l : Expr} {tl : TE} (hl : PE X l tl) : PI X tg l (iList X.K tl) := by
  intro pins s σ H R I h
  refine thn (hl pins s σ H _ I h) fun v s1 ⟨x, H1, I1, r1, q1⟩ => ?_
  obtain ⟨a, e, ⟨xs, hq⟩, q⟩ := q1
  subst e
  cases r1
  obtain ⟨its, rv, p, hz⟩ := I1.list hq
  refine wpAny_pyIter_list p.isList ?_
  refine ⟨s1.heap.objs.size, [s1.heap.objs.size], _, _, H1, rfl, I1.kept (t' := s1.toks) fun b o e => Heap.get?_push_of_some _ e, turn_list a _, ⟨_, Heap.get?_push_size _ rfl, rfl, rfl⟩, fun b hb => ?_, q⟩
  have e : b = s1.heap.objs.size := by simpa using hb
  subst e
  exact I1.fpOk (Nat.le_refl _) (I1.hok.fresh (Nat.le_refl _))
theorem range_it {pins : List (Addr × Obj)} {σ : St} {H : Hp} {s : Shared} {R : It → Hp → Prop} {E : Value → Shared → Prop} {lo hi : Int} {t u v : Tok} {tk : Nat} (I : Inv X pins σ H s) (h1 : -(2 ^ 62) ≤ lo) (h2 : lo < 2 ^ 62) (h3 : -(2 ^ 62) ≤ hi) (h4 : hi < 2 ^ 62)
    (q : R (Itr lo (hi - lo).toNat) H) : wpAny (model X.prog X.w) X.A (pyIter (.ref s.heap.objs.size)) (PIE X pins σ tg R) E { s with heap := s.heap.push { cls := .type "range", data := .fields #[.int lo t, .int hi u, .int 1 v] }, toks := tk } := by
  refine wpAny_pyIter_range (IsRange.new ..) (small_one h1 h2 h3 h4) ?_
  have I1 : Inv X pins σ H { s with heap := s.heap.push { cls := .type "range", data := .fields #[.int lo t, .int hi u, .int 1 v] }, toks := tk } := I.kept fun b o e => Heap.get?_push_of_some _ e
  refine ⟨(s.heap.push { cls := .type "range", data := .fields #[.int lo t, .int hi u, .int 1 v] }).objs.size, [(s.heap.push { cls := .type "range", data := .fields #[.int lo t, .int hi u, .int 1 v] }).objs.size], _, _, H, rfl,
    I1.kept (t' := tk) fun b o e => Heap.get?_push_of_some _ e, turn_range _ lo (hi - lo).toNat, ?_, fun b hb => ?_, q⟩
  · have e1 : lo + ((0 : Nat) : Int) * 1 = lo := by simp
    have e2 : (((hi - lo).toNat : Nat) : Int) - ((0 : Nat) : Int) = Builtin.Range.rangeSize lo hi 1 := by rw [rangeSize_one]; split <;> omega
    show IsRangeIter _ _ (lo + ((0 : Nat) : Int) * 1) ((((hi - lo).toNat : Nat) : Int) - ((0 : Nat) : Int)) 1
    rw [e1, e2]
    exact Heap.get?_push_size _ rfl
  · have e : b = (s.heap.push { cls := .type "range", data := .fields #[.int lo t, .int hi u, .int 1 v] }).objs.size := by simpa using hb
    subst e
    exact I1.fpOk (Nat.le_refl _) (I1.hok.fresh (Nat.le_refl _))
def iRng1 (ta : TA) : TI := fun σ H R => ta σ H fun vs H1 => ∃ j : Int, vs = [.int j] ∧ -(2 ^ 62) ≤ j ∧ j < 2 ^ 62 ∧ R (Itr 0 j.toNat) H1
theorem pi_range1 {a : Expr} {ta : TA} {p pos : Pos} (hg : Gl X "range") (hm : X.mg "range" = none) (ha : PA X [a] ta) (hs : starEach [a] X.env = [(false, eval a X.env)] := by rfl) : PI X tg (.Call (.Name "range" p) [a] [] pos) (iRng1 ta) := by
  intro pins s σ H R I h
  refine Call_ (ld_blt I hg hm boot_range (PyProof.Rows.callWith_type1 (thn (ha pos pins s σ H _ I h) fun us s1 ⟨vs, H1, I1, r1, q1⟩ => ?_) hs rfl))
  obtain ⟨j, e, q1, q2, q⟩ := q1
  subst e
  cases r1 with
  | cons r rr =>
    cases rr
    obtain ⟨t, rfl⟩ := r
    exact call_range_1 (range_it I1 (by omega) (by omega) q1 q2 (by simpa using q))
def tFor (wi : TI) (g : TG) (tb : TS) : TS := fun D σ H => wi σ H fun J H1 => ∃ W : Nat → Nat → St → Hp → Prop, (∃ m, W 0 m σ H1) ∧ ∀ i m σ H, W i m σ H →
  (J.stop i H ∧ D.nx σ H) ∨ (J.go i H ∧ ∃ N : St → Hp → Prop, (∀ σ' H', N σ' H' → ∃ m', m' < m ∧ W (i + 1) m' σ' H') ∧ ∀ x H', J.yld i H x H' → g x σ H' fun σ2 H2 => tb { D with nx := N, ct := N, bk := D.nx } σ2 H2)
def pinsAt (fp : List Addr) (h : Heap) : List (Addr × Obj) := fp.filterMap fun b => (h.get? b).map fun o => (b, o)
theorem mem_pinsAt {fp : List Addr} {h : Heap} {b : Addr} {o : Obj} (hb : b ∈ fp) (e : h.get? b = some o) : (b, o) ∈ pinsAt fp h := List.mem_filterMap.mpr ⟨b, hb, by rw [e]; rfl⟩
theorem of_pinsAt {fp : List Addr} {h : Heap} {p : Addr × Obj} (hp : p ∈ pinsAt fp h) : p.1 ∈ fp ∧ h.get? p.1 = some p.2 := by
  obtain ⟨b, hb, e⟩ := List.mem_filterMap.mp hp
  cases q : h.get? b with
  | none => rw [q] at e; cases e
  | some o =>
    rw [q] at e
    have e' : (b, o) = p := Option.some.inj e
    subst e'
    exact ⟨hb, q⟩
theorem Inv.pinned {pins : List (Addr × Obj)} {σ : St} {H : Hp} {s : Shared} {fp : List Addr} (I : Inv X pins σ H s) (hf : ∀ b ∈ fp, FpOk X pins H b) (ho : ∀ b ∈ fp, ∃ o, s.heap.get? b = some o ∧ ∀ v, o.data ≠ .cell v) : Inv X (pins ++ pinsAt fp s.heap) σ H s :=
  I.pins_of fun p hp => (List.mem_append.mp hp).elim (fun z => I.pin p (List.mem_append_right _ z)) fun z => by
    obtain ⟨hb, e⟩ := of_pinsAt z
    obtain ⟨f0, f1, f2, _⟩ := hf p.1 hb
    obtain ⟨o, e', d⟩ := ho p.1 hb
    rw [e] at e'; cases e'
    exact ⟨e, f0, f1, f2, d⟩
theorem Inv.unpinned {pins pl : List (Addr × Obj)} {σ : St} {H : Hp} {s : Shared} (I : Inv X (pins ++ pl) σ H s) : Inv X pins σ H s := I.pins_of fun p hp => I.pin p (List.mem_append_right _ (List.mem_append_left _ hp))
theorem ps_for {iter : Expr} {body : List Stmt} {wi : TI} {g : TG} {tb : TS} {pos : Pos} (hp : PassesOwn (model X.prog X.w) X.A X.env X.xe) (hc : X.calm = true) (hi : PI X tg iter wi) (hg : PG X tg g) (hb : PSs X body tb)
    (hs : ∀ x, foldedSetIterable iter X.env x = pure x := by intro _; rfl) : PS X (.For tg iter body [] pos) (tFor wi g tb) := by
  intro pins s σ H D I h
  refine wpAny_For (thn (hi pins s σ H _ I h) fun v s1 h1 => thn h1 fun itv s2 h2 => ?_) hs
  obtain ⟨it, fp, tn, J, H2, e, I2, T, st2, f2, W, ⟨m0, w0⟩, turn⟩ := h2
  subst e
  have stat : ∀ {H' : Hp}, (∀ b ∈ fp, H' b = none) → ∀ b ∈ fp, FpOk X pins H' b := fun hn b hb => ⟨hn b hb, (f2 b hb).2⟩
  refine codeAny_forLoop_any (fun n s' => ∃ i σ' H', Inv X pins σ' H' s' ∧ tn i s'.heap ∧ (∀ b ∈ fp, H' b = none) ∧ W i n σ' H') ?_ m0 ⟨0, σ, H2, I2, st2, fun b hb => (f2 b hb).1, w0⟩
  rintro n s3 ⟨i, σ3, H3, I3, st3, fr3, w3⟩
  rcases turn i n σ3 H3 w3 with ⟨stop, qn⟩ | ⟨go, N, hN, step⟩
  · refine wpAny_passesOwn hp (thn (T.done X rfl rfl rfl hc i pins s3 σ3 H3 X.xe I3 (stat fr3) st3 stop) fun r s4 ⟨hr, I4⟩ => ?_)
    subst hr
    exact wpAny_execs_nil ⟨σ3, H3, I4, qn⟩
  · refine wpAny_passesOwn hp (thn (T.item X rfl rfl rfl hc i pins s3 σ3 H3 X.xe I3 (stat fr3) st3 go) fun r s4 ⟨u, hr, h4⟩ => ?_)
    subst hr
    refine wpAny_passesOwn hp (thn h4 fun _ s5 ⟨x, H5, I5, r5, y5, st5, fr5⟩ => ?_)
    have I5' := I5.pinned (stat fr5) (T.obj _ _ st5)
    refine wpAny_passesOwn hp (thn (hg _ s5 σ3 H5 x u _ I5' r5 (step x H5 y5)) fun _ s6 ⟨σ6, H6, I6, q6⟩ => ?_)
    refine wpAny_passesOwn hp (thn (hb _ s6 σ6 H6 _ I6 q6) fun f s7 q7 => ?_)
    have again : ∀ {σ7 : St} {H7 : Hp}, Inv X (pins ++ pinsAt fp s5.heap) σ7 H7 s7 → N σ7 H7 → ∃ m, m < n ∧ ∃ i σ' H', Inv X pins σ' H' s7 ∧ tn i s7.heap ∧ (∀ b ∈ fp, H' b = none) ∧ W i m σ' H' := fun {σ7 H7} I7 n7 => by
      obtain ⟨m', hm, w7⟩ := hN σ7 H7 n7
      refine ⟨m', hm, i + 1, σ7, H7, I7.unpinned, T.keep _ _ _ st5 fun b hb o e => (I7.pin (b, o) (List.mem_append_right _ (List.mem_append_right _ (mem_pinsAt hb e)))).1, fun b hb => ?_, w7⟩
      obtain ⟨o, e, d⟩ := T.obj _ _ st5 b hb
      exact (I7.pin (b, o) (List.mem_append_right _ (List.mem_append_right _ (mem_pinsAt hb e)))).2.1
    cases f with
    | next => obtain ⟨σ7, H7, I7, n7⟩ := q7; exact again I7 n7
    | cont => obtain ⟨σ7, H7, I7, n7⟩ := q7; exact again I7 n7
    | brk => obtain ⟨σ7, H7, I7, q7⟩ := q7; exact ⟨σ7, H7, I7.unpinned, q7⟩
    | ret v => obtain ⟨x7, σ7, H7, I7, r7, q7⟩ := q7; exact ⟨x7, σ7, H7, I7.unpinned, r7, q7⟩
end
theorem for_list {K : PySem.W.Frag} {a : Addr} {xs : List V} {g : TG} {tb : TS} {D : Ends} {σ : St} {H : Hp} (Pv : Nat → St → Hp → Prop) (h0 : Pv 0 σ H) (hl : ∀ i σ H, i ≤ xs.length → Pv i σ H → SqL K H a xs)
    (hs : ∀ i x σ H, xs[i]? = some x → Pv i σ H → g x σ H fun σ2 H2 => tb { D with nx := Pv (i + 1), ct := Pv (i + 1), bk := D.nx } σ2 H2) (hd : ∀ σ H, Pv xs.length σ H → D.nx σ H) :
    ∃ W : Nat → Nat → St → Hp → Prop, (∃ m, W 0 m σ H) ∧ ∀ i m σ H, W i m σ H →
      ((Itl K a).stop i H ∧ D.nx σ H) ∨ ((Itl K a).go i H ∧ ∃ N : St → Hp → Prop, (∀ σ' H', N σ' H' → ∃ m', m' < m ∧ W (i + 1) m' σ' H') ∧ ∀ x H', (Itl K a).yld i H x H' → g x σ H' fun σ2 H2 => tb { D with nx := N, ct := N, bk := D.nx } σ2 H2) := by
  refine ⟨fun i m σ H => m = xs.length - i ∧ i ≤ xs.length ∧ Pv i σ H, ⟨xs.length, by simp, Nat.zero_le _, h0⟩, ?_⟩
  rintro i m σ H ⟨rfl, hi, p⟩
  have q := hl i σ H hi p
  by_cases hlt : i < xs.length
  · refine .inr ⟨⟨xs, xs[i], q, by simp [hlt]⟩, Pv (i + 1), fun σ' H' p' => ⟨xs.length - (i + 1), by omega, rfl, hlt, p'⟩, fun x H' y => ?_⟩
    obtain ⟨e, y⟩ := y
    subst e
    exact hs i x σ _ (y xs q) p
  · have e : i = xs.length := by omega
    subst e
    exact .inl ⟨⟨xs, q, Nat.le_refl _⟩, hd σ H p⟩
theorem for_range {lo : Int} {n : Nat} {g : TG} {tb : TS} {D : Ends} {σ : St} {H : Hp} (Pv : Nat → St → Hp → Prop) (h0 : Pv 0 σ H)
    (hs : ∀ i σ H, i < n → Pv i σ H → g (.int (lo + i)) σ H fun σ2 H2 => tb { D with nx := Pv (i + 1), ct := Pv (i + 1), bk := D.nx } σ2 H2) (hd : ∀ σ H, Pv n σ H → D.nx σ H) :
    ∃ W : Nat → Nat → St → Hp → Prop, (∃ m, W 0 m σ H) ∧ ∀ i m σ H, W i m σ H →
      ((Itr lo n).stop i H ∧ D.nx σ H) ∨ ((Itr lo n).go i H ∧ ∃ N : St → Hp → Prop, (∀ σ' H', N σ' H' → ∃ m', m' < m ∧ W (i + 1) m' σ' H') ∧ ∀ x H', (Itr lo n).yld i H x H' → g x σ H' fun σ2 H2 => tb { D with nx := N, ct := N, bk := D.nx } σ2 H2) := by
  refine ⟨fun i m σ H => m = n - i ∧ i ≤ n ∧ Pv i σ H, ⟨n, by simp, Nat.zero_le _, h0⟩, ?_⟩
  rintro i m σ H ⟨rfl, hi, p⟩
  by_cases hlt : i < n
  · refine .inr ⟨hlt, Pv (i + 1), fun σ' H' p' => ⟨n - (i + 1), by omega, rfl, hlt, p'⟩, fun x H' y => ?_⟩
    obtain ⟨e, y⟩ := y
    subst e y
    exact hs i σ _ hlt p
  · have e : i = n := by omega
    subst e
    exact .inl ⟨Nat.le_refl _, hd σ H p⟩
end L2
namespace L2
open PySem PySem.Spec PyProof.Rows
abbrev R2 := V → V → Hp → VK → Prop
def OpR (X : Cx) (f : Value → Value → Sem Value) (r : R2) : Prop :=
  ∀ (pins : List (Addr × Obj)) (s : Shared) (σ : St) (H : Hp) (x y : V) (v u : Value) (Q : VK), Inv X pins σ H s → RelV x v → RelV y u → r x y H Q →
    wpAny (model X.prog X.w) X.A (f v u) (EP X pins σ Q) X.xe s
def UnR (X : Cx) (f : Value → Sem Value) (r : V → Hp → VK → Prop) : Prop :=
  ∀ (pins : List (Addr × Obj)) (s : Shared) (σ : St) (H : Hp) (x : V) (v : Value) (Q : VK), Inv X pins σ H s → RelV x v → r x H Q →
    wpAny (model X.prog X.w) X.A (f v) (EP X pins σ Q) X.xe s
def CallR (X : Cx) (f : Value) (r : List V → Hp → VK → Prop) : Prop :=
  ∀ (pins : List (Addr × Obj)) (s : Shared) (σ : St) (H : Hp) (xs : List V) (us : List Value) (Q : VK), Inv X pins σ H s → Vals xs us → r xs H Q →
    wpAny (model X.prog X.w) X.A (call f us) (EP X pins σ Q) X.xe s
def tOp (r : R2) (ta tb : TE) : TE := fun σ H Q => ta σ H fun x H1 => tb σ H1 fun y H2 => r x y H2 Q
def tUn (r : V → Hp → VK → Prop) (ta : TE) : TE := fun σ H Q => ta σ H fun x H1 => r x H1 Q
def rI (C : Int → Int → Prop) (g : Int → Int → V) : R2 := fun x y H Q => ∃ i j, x = .int i ∧ y = .int j ∧ C i j ∧ Q (g i j) H
def rI0 (g : Int → Int → V) : R2 := fun x y H Q => ∃ i j, x = .int i ∧ y = .int j ∧ Q (g i j) H
def rU (g : Int → V) : V → Hp → VK → Prop := fun x H Q => ∃ i, x = .int i ∧ Q (g i) H
section
variable {X : Cx} {a b c : Expr} {ta tb tc : TE} {pos : Pos}
theorem binT (ha : PE X a ta) (hb : PE X b tb) {pins : List (Addr × Obj)} {s : Shared} {σ : St} {H : Hp} {R : V → V → Hp → Prop} (I : Inv X pins σ H s)
    (h : ta σ H fun x H1 => tb σ H1 fun y H2 => R x y H2) {Q : Value → Shared → Prop} {f : Value → Value → Sem Value}
    (hf : ∀ v u s2 x y H2, Inv X pins σ H2 s2 → RelV x v → RelV y u → R x y H2 → wpAny (model X.prog X.w) X.A (f v u) Q X.xe s2) :
    wpAny (model X.prog X.w) X.A (eval a X.env) (fun v s₁ => wpAny (model X.prog X.w) X.A (eval b X.env) (fun u s₂ => wpAny (model X.prog X.w) X.A (f v u) Q X.xe s₂) X.xe s₁) X.xe s := by
  refine thn (ha pins s σ H _ I h) fun v s1 ⟨x, H1, I1, r1, q1⟩ => ?_
  refine thn (hb pins s1 σ H1 _ I1 q1) fun u s2 ⟨y, H2, I2, r2, q2⟩ => ?_
  exact hf v u s2 x y H2 I2 r1 r2 q2
theorem pe_op {op : Operator} {r : R2} (ho : OpR X (binaryOp op) r) (ha : PE X a ta) (hb : PE X b tb) : PE X (.BinOp a op b pos) (tOp r ta tb) := by
  intro pins s σ H Q I h
  exact wpAny_BinOp (binT ha hb I h fun v u s2 x y H2 I2 rx ry q => ho pins s2 σ H2 x y v u Q I2 rx ry q)
theorem pe_un {op : UnaryOp} {r : V → Hp → VK → Prop} (ho : UnR X (unaryOp op) r) (ha : PE X a ta) : PE X (.UnaryOp op a pos) (tUn r ta) := by
  intro pins s σ H Q I h
  exact UnaryOp_ (thn (ha pins s σ H _ I h) fun v s1 ⟨x, H1, I1, r1, q1⟩ => ho pins s1 σ H1 x v Q I1 r1 q1)
theorem opI {f : Value → Value → Sem Value} {C : Int → Int → Prop} {g : Int → Int → Int}
    (rule : ∀ (i j : Int) (t u : Tok) (s : Shared) (Q : Value → Shared → Prop) (E : Value → Shared → Prop), C i j → Q (.int (g i j) s.toks) { s with toks := s.toks + 1 } → wpAny (model X.prog X.w) X.A (f (.int i t) (.int j u)) Q E s) :
    OpR X f (rI C fun i j => .int (g i j)) := by
  intro pins s σ H x y v u Q I rx ry h
  obtain ⟨i, j, rfl, rfl, hc, q⟩ := h
  obtain ⟨t, rfl⟩ := rx
  obtain ⟨t', rfl⟩ := ry
  exact rule i j t t' s _ _ hc ⟨.int (g i j), H, I.tok _, ⟨_, rfl⟩, q⟩
theorem opI0 {f : Value → Value → Sem Value} {g : Int → Int → Int}
    (rule : ∀ (i j : Int) (t u : Tok) (s : Shared) (Q : Value → Shared → Prop) (E : Value → Shared → Prop), Q (.int (g i j) s.toks) { s with toks := s.toks + 1 } → wpAny (model X.prog X.w) X.A (f (.int i t) (.int j u)) Q E s) :
    OpR X f (rI0 fun i j => .int (g i j)) := by
  intro pins s σ H x y v u Q I rx ry h
  obtain ⟨i, j, rfl, rfl, q⟩ := h
  obtain ⟨t, rfl⟩ := rx
  obtain ⟨t', rfl⟩ := ry
  exact rule i j t t' s _ _ ⟨.int (g i j), H, I.tok _, ⟨_, rfl⟩, q⟩
theorem opB0 {f : Value → Value → Sem Value} {g : Int → Int → Bool}
    (rule : ∀ (i j : Int) (t u : Tok) (s : Shared) (Q : Value → Shared → Prop) (E : Value → Shared → Prop), Q (.bool (g i j)) s → wpAny (model X.prog X.w) X.A (f (.int i t) (.int j u)) Q E s) :
    OpR X f (rI0 fun i j => .bl (g i j)) := by
  intro pins s σ H x y v u Q I rx ry h
  obtain ⟨i, j, rfl, rfl, q⟩ := h
  obtain ⟨t, rfl⟩ := rx
  obtain ⟨t', rfl⟩ := ry
  exact rule i j t t' s _ _ ⟨.bl (g i j), H, I, rfl, q⟩
def CPow (i j : Int) : Prop := 0 ≤ j ∧ j ≤ 1000000 ∧ i.natAbs < 2 ^ 64
def CMul (i j : Int) : Prop := (-(2 ^ 64) < i ∧ i < 2 ^ 64) ∨ (-(2 ^ 64) < j ∧ j < 2 ^ 64)
theorem CMul.ok {i j : Int} (h : CMul i j) : IntMulOk i j := by
  rcases h with ⟨h1, h2⟩ | ⟨h1, h2⟩
  · exact .of_left (intBits_le_64 h1 h2)
  · exact .of_right (intBits_le_64 h1 h2)
theorem op_add : OpR X (binaryOp .Add) (rI0 fun i j => .int (i + j)) := opI0 fun _ _ _ _ _ _ _ q => add_int q
theorem op_sub : OpR X (binaryOp .Sub) (rI0 fun i j => .int (i - j)) := opI0 fun _ _ _ _ _ _ _ q => sub_int q
theorem op_mul : OpR X (binaryOp .Mult) (rI CMul fun i j => .int (i * j)) := opI fun _ _ _ _ _ _ _ hc q => mul_int q hc.ok
theorem op_mod : OpR X (binaryOp .Mod) (rI (fun _ j => 0 < j) fun i j => .int (i % j)) := opI fun i j _ _ _ _ _ hc q => by
  have h1 : (0 : Int) < j := hc
  exact mod_int' (by omega) (by rw [Int.fmod_eq_emod_of_nonneg i (by omega)]; exact q)
theorem op_pow : OpR X (binaryOp .Pow) (rI CPow fun i j => .int (i ^ j.toNat)) := opI fun _ _ _ _ _ _ _ hc q => pow_int_small hc.1 hc.2.1 hc.2.2 q
theorem unI {f : Value → Sem Value} {g : Int → Int}
    (rule : ∀ (i : Int) (t : Tok) (s : Shared) (Q : Value → Shared → Prop) (E : Value → Shared → Prop), Q (.int (g i) s.toks) { s with toks := s.toks + 1 } → wpAny (model X.prog X.w) X.A (f (.int i t)) Q E s) :
    UnR X f (rU fun i => .int (g i)) := by
  intro pins s σ H x v Q I rx h
  obtain ⟨i, rfl, q⟩ := h
  obtain ⟨t, rfl⟩ := rx
  exact rule i t s _ _ ⟨.int (g i), H, I.tok _, ⟨_, rfl⟩, q⟩
theorem un_neg : UnR X (unaryOp .USub) (rU fun i => .int (-i)) := unI fun _ _ _ _ _ q => neg_int q
end
def scal : V → V → Bool
  | .non, .non => true | .non, .int _ => true | .int _, .non => true | .non, .bl _ => true | .bl _, .non => true | .non, .str _ => true | .str _, .non => true
  | .int _, .int _ => true | .bl _, .bl _ => true | .str _, .str _ => true | .byt _, .byt _ => true
  | .int _, .str _ => true | .str _, .int _ => true | .bl _, .str _ => true | .str _, .bl _ => true
  | _, _ => false
def rEq : R2 := fun x y H Q => scal x y = true ∧ Q (.bl (decide (x = y))) H
def rNe : R2 := fun x y H Q => scal x y = true ∧ Q (.bl (!decide (x = y))) H
theorem dec_int {i j : Int} : decide (V.int i = V.int j) = (i == j) := by
  rw [Bool.eq_iff_iff]
  simp
theorem dec_bl {i j : Bool} : decide (V.bl i = V.bl j) = (i == j) := by
  rw [Bool.eq_iff_iff]
  simp
theorem dec_str {i j : Str} : decide (V.str i = V.str j) = (i == j) := by
  rw [Bool.eq_iff_iff]
  simp
theorem dec_byt {i j : Array UInt8} : decide (V.byt i = V.byt j) = (i.toList == j.toList) := by
  rw [Bool.eq_iff_iff]
  cases i
  cases j
  simp
section
variable {X : Cx} {a b c : Expr} {ta tb tc : TE} {pos : Pos}
theorem fin_bl {pins : List (Addr × Obj)} {σ : St} {H : Hp} {s : Shared} {Q : VK} {k k' : Bool} (I : Inv X pins σ H s) (q : Q (.bl k) H) (e : k = k') : EP X pins σ Q (.bool k') s := by
  subst e
  exact ⟨.bl k, H, I, rfl, q⟩
theorem op_eq : OpR X (compareOp .Eq) rEq := by
  intro pins s σ H x y v u Q I rx ry h
  obtain ⟨hs, q⟩ := h
  cases x with
  | non =>
    cases rx
    cases y with
    | non => cases ry; exact PySem.EqNone.eq_none_none (fin_bl I q (by simp))
    | bl j => cases ry; exact PySem.EqNone.eq_none_bool (fin_bl I q (by simp))
    | int j => obtain ⟨t', rfl⟩ := ry; exact PySem.EqNone.eq_none_int (fin_bl I q (by simp))
    | str j => obtain ⟨t', rfl⟩ := ry; exact PySem.EqNone.eq_none_str (fin_bl I q (by simp))
    | _ => exact absurd (show false = true from hs) Bool.false_ne_true
  | bl i =>
    cases rx
    cases y with
    | non => cases ry; exact PySem.EqNone.eq_bool_none (fin_bl I q (by simp))
    | bl j => cases ry; exact eq_bool (fin_bl I q dec_bl)
    | str j => obtain ⟨t', rfl⟩ := ry; exact PySem.EqMixed.eq_bool_str (fin_bl I q (by simp))
    | _ => exact absurd (show false = true from hs) Bool.false_ne_true
  | int i =>
    obtain ⟨t, rfl⟩ := rx
    cases y with
    | non => cases ry; exact PySem.EqNone.eq_int_none (fin_bl I q (by simp))
    | int j => obtain ⟨t', rfl⟩ := ry; exact eq_int (fin_bl I q dec_int)
    | str j => obtain ⟨t', rfl⟩ := ry; exact PySem.EqMixed.eq_int_str (fin_bl I q (by simp))
    | _ => exact absurd (show false = true from hs) Bool.false_ne_true
  | str i =>
    obtain ⟨t, rfl⟩ := rx
    cases y with
    | non => cases ry; exact PySem.EqNone.eq_str_none (fin_bl I q (by simp))
    | bl j => cases ry; exact PySem.EqMixed.eq_str_bool (fin_bl I q (by simp))
    | int j => obtain ⟨t', rfl⟩ := ry; exact PySem.EqMixed.eq_str_int (fin_bl I q (by simp))
    | str j => obtain ⟨t', rfl⟩ := ry; exact eq_str (fin_bl I q dec_str)
    | _ => exact absurd (show false = true from hs) Bool.false_ne_true
  | byt i =>
    obtain ⟨t, rfl⟩ := rx
    cases y with
    | byt j => obtain ⟨t', rfl⟩ := ry; exact PySem.W.eq_bytes (fin_bl I q dec_byt)
    | _ => exact absurd (show false = true from hs) Bool.false_ne_true
  | _ => cases y <;> exact absurd (show false = true from hs) Bool.false_ne_true
theorem op_ne : OpR X (compareOp .NotEq) rNe := by
  intro pins s σ H x y v u Q I rx ry h
  obtain ⟨hs, q⟩ := h
  cases x with
  | non =>
    cases rx
    cases y with
    | non => cases ry; exact PySem.EqNone.ne_none_none (fin_bl I q (by simp))
    | bl j => cases ry; exact PySem.EqNone.ne_none_bool (fin_bl I q (by simp))
    | int j => obtain ⟨t', rfl⟩ := ry; exact PySem.EqNone.ne_none_int (fin_bl I q (by simp))
    | str j => obtain ⟨t', rfl⟩ := ry; exact PySem.EqNone.ne_none_str (fin_bl I q (by simp))
    | _ => exact absurd (show false = true from hs) Bool.false_ne_true
  | bl i =>
    cases rx
    cases y with
    | non => cases ry; exact PySem.EqNone.ne_bool_none (fin_bl I q (by simp))
    | bl j => cases ry; exact ne_bool (fin_bl I q (congrArg not dec_bl))
    | str j => obtain ⟨t', rfl⟩ := ry; exact PySem.EqMixed.ne_bool_str (fin_bl I q (by simp))
    | _ => exact absurd (show false = true from hs) Bool.false_ne_true
  | int i =>
    obtain ⟨t, rfl⟩ := rx
    cases y with
    | non => cases ry; exact PySem.EqNone.ne_int_none (fin_bl I q (by simp))
    | int j => obtain ⟨t', rfl⟩ := ry; exact ne_int (fin_bl I q (congrArg not dec_int))
    | str j => obtain ⟨t', rfl⟩ := ry; exact PySem.EqMixed.ne_int_str (fin_bl I q (by simp))
    | _ => exact absurd (show false = true from hs) Bool.false_ne_true
  | str i =>
    obtain ⟨t, rfl⟩ := rx
    cases y with
    | non => cases ry; exact PySem.EqNone.ne_str_none (fin_bl I q (by simp))
    | bl j => cases ry; exact PySem.EqMixed.ne_str_bool (fin_bl I q (by simp))
    | int j => obtain ⟨t', rfl⟩ := ry; exact PySem.EqMixed.ne_str_int (fin_bl I q (by simp))
    | str j => obtain ⟨t', rfl⟩ := ry; exact ne_str (fin_bl I q (congrArg not dec_str))
    | _ => exact absurd (show false = true from hs) Bool.false_ne_true
  | byt i =>
    obtain ⟨t, rfl⟩ := rx
    cases y with
    | byt j => obtain ⟨t', rfl⟩ := ry; exact PySem.W.ne_bytes (fin_bl I q (congrArg not dec_byt))
    | _ => exact absurd (show false = true from hs) Bool.false_ne_true
  | _ => cases y <;> exact absurd (show false = true from hs) Bool.false_ne_true
theorem op_lt : OpR X (compareOp .Lt) (rI0 fun i j => .bl (decide (i < j))) := opB0 fun _ _ _ _ _ _ _ q => lt_int q
theorem op_le : OpR X (compareOp .LtE) (rI0 fun i j => .bl (decide (i ≤ j))) := opB0 fun _ _ _ _ _ _ _ q => le_int q
theorem op_gt : OpR X (compareOp .Gt) (rI0 fun i j => .bl (decide (j < i))) := opB0 fun _ _ _ _ _ _ _ q => gt_int q
theorem op_ge : OpR X (compareOp .GtE) (rI0 fun i j => .bl (decide (j ≤ i))) := opB0 fun _ _ _ _ _ _ _ q => ge_int q
theorem nomark (b : Expr) {op : CmpOp} (h : op ≠ .In := by decide) (h2 : op ≠ .NotIn := by decide) : behindInMarks op b = false := by
  have e1 : (op == CmpOp.In) = false := by cases op <;> first | rfl | exact absurd rfl h
  have e2 : (op == CmpOp.NotIn) = false := by cases op <;> first | rfl | exact absurd rfl h2
  cases b <;> simp [behindInMarks, e1, e2]
theorem pe_cmpR {op : CmpOp} {r : R2} (ho : OpR X (compareOp op) r) (ha : PE X a ta) (hb : PE X b tb) (hm : behindInMarks op b = false) : PE X (.Compare a [op] [b] pos) (tOp r ta tb) := by
  intro pins s σ H Q I h
  exact wpAny_Compare1 (binT ha hb I h fun v u s2 x y H2 I2 rx ry q => ho pins s2 σ H2 x y v u Q I2 rx ry q) hm
def tTest (t : TE) : TT := fun σ H Q => t σ H fun x H' => ∃ k, x = .bl k ∧ Q k H'
theorem pt_cmpR {op : CmpOp} {r : R2} (ho : OpR X (compareOp op) r) (ha : PE X a ta) (hb : PE X b tb) (hm : behindInMarks op b = false) : PT X (.Compare a [op] [b] pos) (tTest (tOp r ta tb)) := by
  intro pins s σ H Q I h
  refine wpAny_isTrue_Compare1 (thn (ha pins s σ H _ I h) fun v s1 ⟨x, H1, I1, r1, q1⟩ => thn (hb pins s1 σ H1 _ I1 q1) fun u s2 ⟨y, H2, I2, r2, q2⟩ =>
    thn (ho pins s2 σ H2 x y v u _ I2 r1 r2 q2) fun c s3 ⟨z, H3, I3, r3, k, e, q3⟩ => ?_) hm
  subst e
  cases r3
  exact wpAny_truthy_bool ⟨H3, I3, q3⟩
def tChain (r r' : R2) (ta tb tc : TE) : TE := fun σ H Q => ta σ H fun x H1 => tb σ H1 fun y H2 => r x y H2 fun z H3 => ∃ k, z = .bl k ∧
  (if k = true then tc σ H3 fun w' H4 => r' y w' H4 Q else Q (.bl false) H3)
theorem pe_chain {op op' : CmpOp} {r r' : R2} (ho : OpR X (compareOp op) r) (ho' : OpR X (compareOp op') r') (ha : PE X a ta) (hb : PE X b tb) (hc : PE X c tc)
    (hm : lastMarks [op, op'] [b, c] = false := by with_unfolding_all rfl) : PE X (.Compare a [op, op'] [b, c] pos) (tChain r r' ta tb tc) := by
  intro pins s σ H Q I h
  refine Compare_chain (thn (ha pins s σ H _ I h) fun v s1 ⟨x, H1, I1, r1, q1⟩ => chain_link (thn (hb pins s1 σ H1 _ I1 q1) fun u s2 ⟨y, H2, I2, r2, q2⟩ =>
    thn (ho pins s2 σ H2 x y v u _ I2 r1 r2 q2) fun d s3 ⟨z, H3, I3, r3, k, e, q3⟩ => ?_)) hm
  subst e
  cases r3
  refine wpAny_truthy_bool ?_
  cases k with
  | false => exact ite_ff ⟨.bl false, H3, I3, rfl, q3⟩
  | true => exact ite_tt (chain_last (thn (hc pins s3 σ H3 _ I3 q3) fun w' s4 ⟨z', H4, I4, r4, q4⟩ => ho' pins s4 σ H4 y z' u w' Q I4 r2 r4 q4))
theorem pt_chain {op op' : CmpOp} {r r' : R2} (ho : OpR X (compareOp op) r) (ho' : OpR X (compareOp op') r') (ha : PE X a ta) (hb : PE X b tb) (hc : PE X c tc)
    (hm : lastMarks [op, op'] [b, c] = false := by with_unfolding_all rfl) : PT X (.Compare a [op, op'] [b, c] pos) (tTest (tChain r r' ta tb tc)) := by
  intro pins s σ H Q I h
  refine isTrue_chain (thn (ha pins s σ H _ I h) fun v s1 ⟨x, H1, I1, r1, q1⟩ => test_link (thn (hb pins s1 σ H1 _ I1 q1) fun u s2 ⟨y, H2, I2, r2, q2⟩ =>
    thn (ho pins s2 σ H2 x y v u _ I2 r1 r2 q2) fun d s3 ⟨z, H3, I3, r3, k, e, q3⟩ => ?_)) hm
  subst e
  cases r3
  refine wpAny_truthy_bool ?_
  cases k with
  | false =>
    obtain ⟨k', e', q'⟩ := q3
    cases e'
    exact ite_ff ⟨H3, I3, q'⟩
  | true =>
    refine ite_tt (test_last (thn (hc pins s3 σ H3 _ I3 q3) fun w' s4 ⟨z', H4, I4, r4, q4⟩ => thn (ho' pins s4 σ H4 y z' u w' _ I4 r2 r4 q4) fun d' s5 ⟨z2, H5, I5, r5, k2, e2, q5⟩ => ?_))
    subst e2
    cases r5
    exact wpAny_truthy_bool ⟨H5, I5, q5⟩
theorem line63 : (sizeLine : Nat) < 2 ^ 63 := by rw [sizeLine_eq]; decide
theorem vals1 {x : V} {us : List Value} (r : Vals [x] us) : ∃ u, us = [u] ∧ RelV x u := by
  cases r with
  | cons r1 r2 => cases r2; exact ⟨_, rfl, r1⟩
theorem vals2 {x y : V} {us : List Value} (r : Vals [x, y] us) : ∃ u w', us = [u, w'] ∧ RelV x u ∧ RelV y w' := by
  cases r with
  | cons r1 r2 =>
    cases r2 with
    | cons r3 r4 => cases r4; exact ⟨_, _, rfl, r1, r3⟩
theorem call_max2 (hc : X.calm = true) : CallR X (.builtin "max") (fun xs H Q => ∃ i j, xs = [.int i, .int j] ∧ Q (.int (if j > i then j else i)) H) := by
  intro pins s σ H xs us Q I r h
  obtain ⟨i, j, rfl, q⟩ := h
  obtain ⟨u, w', rfl, ⟨t, rfl⟩, ⟨t', rfl⟩⟩ := vals2 r
  refine max_two_ints (I.ok.hd hc) fun h' tk k => ⟨_, H, I.kept k, ?_, q⟩
  by_cases hj : j > i
  · rw [if_pos hj, if_pos hj]; exact ⟨_, rfl⟩
  · rw [if_neg hj, if_neg hj]; exact ⟨_, rfl⟩
theorem call_min2 (hc : X.calm = true) : CallR X (.builtin "min") (fun xs H Q => ∃ i j, xs = [.int i, .int j] ∧ Q (.int (if j < i then j else i)) H) := by
  intro pins s σ H xs us Q I r h
  obtain ⟨i, j, rfl, q⟩ := h
  obtain ⟨u, w', rfl, ⟨t, rfl⟩, ⟨t', rfl⟩⟩ := vals2 r
  refine min_two_ints (I.ok.hd hc) fun h' tk k => ⟨_, H, I.kept k, ?_, q⟩
  by_cases hj : j < i
  · rw [if_pos hj, if_pos hj]; exact ⟨_, rfl⟩
  · rw [if_neg hj, if_neg hj]; exact ⟨_, rfl⟩
theorem call_int1 : CallR X (.type "int") (fun xs H Q => (∃ i, xs = [.int i] ∧ Q (.int i) H) ∨ ∃ k, xs = [.bl k] ∧ Q (.int (if k then 1 else 0)) H) := by
  intro pins s σ H xs us Q I r h
  rcases h with ⟨i, rfl, q⟩ | ⟨k, rfl, q⟩
  · obtain ⟨u, rfl, t, rfl⟩ := vals1 r
    exact call_int_int ⟨.int i, H, I, ⟨_, rfl⟩, q⟩
  · obtain ⟨u, rfl, r1⟩ := vals1 r
    cases r1
    exact call_int_bool ⟨.int (if k then 1 else 0), H, I.tok _, ⟨_, rfl⟩, q⟩
end
end L2
namespace L2
open PySem PySem.Spec PyProof.Rows
structure ObjM (h : Heap) (x dx C : Addr) (mA : Str → Option Value) : Prop where
  obj : h.get? x = some (PySem.W.instObj C dx)
  ns : h.Ns1 dx mA
  ne : dx ≠ x
theorem lookIn_ns {h : Heap} {dx : Addr} {mA : Str → Option Value} (n : h.Ns1 dx mA) : ∃ od, h.get? dx = some od ∧ ∀ name, PySem.W.lookIn name od = some (mA name) := by
  obtain ⟨o, es, ep, ho, hd, hk, _, hm⟩ := n
  refine ⟨o, ho, fun name => ?_⟩
  have e := hm name
  unfold nsFind findBy at e
  rw [← Array.find?_toList] at e
  unfold PySem.W.lookIn
  rw [hd]
  dsimp only
  split
  · rename_i y q
    rw [q] at e
    exact congrArg some e
  · rename_i q
    rw [q] at e
    have a : es.toList.any (·.refKey) = false := by
      rw [List.any_eq_false]
      intro y hy
      obtain ⟨z, t, hkey⟩ := hk y (Array.mem_toList_iff.mp hy)
      simp [DictEntry.refKey, hkey]
    have a' : ¬ es.toList.any (·.refKey) = true := by rw [a]; exact Bool.false_ne_true
    rw [if_neg a']
    exact congrArg some e
theorem ObjM.look {h : Heap} {x dx C : Addr} {mA : Str → Option Value} (I : ObjM h x dx C mA) : ∃ od, PySem.W.InstAt h x (PySem.W.instObj C dx) C (some od) ∧ ∀ name, PySem.W.lookIn name od = some (mA name) :=
  let ⟨od, ho, hl⟩ := lookIn_ns I.ns
  ⟨od, ⟨I.obj, rfl, rfl, ho⟩, hl⟩
section
variable {prog : Program} {w : World} {A : Around} {E : Value → Shared → Prop} {s : Shared} {K : PySem.W.Frag} {x dx C f : Addr} {mA : Str → Option Value} {name : Str} {v : Value}
end
section
variable {P : Program} {w : World} {H H' : Hp} {h h' : Heap} {a C dx : Addr} {fs fs' : List (Str × V)}
theorem ins_get (hok : HOk P w H h) (e : H a = some (.ins C dx fs)) : ∃ mA, ObjM h a dx C mA ∧ (∀ f, RelO (fs.lookup f) (mA f)) ∧ PySem.Within mA (fs.map (·.1)) ∧ fs.length ≤ 1000 ∧ H dx = some (.own a) := by
  obtain ⟨d, z, ne, ob, mA, n, r, q⟩ := (show ObjOk P w H h a (.ins C dx fs) from hok a _ e)
  exact ⟨mA, ⟨ob, n, ne⟩, r, q, z, d⟩
end
structure Cls (K : PySem.W.Frag) (C : Addr) : Prop where
  pg : PySem.W.plainGet K C Str.empty = true
  hd : PySem.W.hasDictIn K C = true
  po : PySem.W.plainOver K C = true
  sa : PySem.W.findIn K (.ref C) "__setattr__" = some (some (.builtin "object.__setattr__"))
theorem Cls.get {K : PySem.W.Frag} {C : Addr} (c : Cls K C) (f : Str) : PySem.W.plainGet K C f = true := c.pg
structure Con (K : PySem.W.Frag) (C : Addr) (f : Str) (v : V) (u : Value) : Prop where
  at_ : PySem.W.findIn K (.ref C) f = some (some u)
  rel : RelV v u
  get : PySem.W.specialIn K u "__get__" = some none
  cp : PySem.W.copiedNames.contains f = false
structure Meth (K : PySem.W.Frag) (C : Addr) (m : Str) (f : Addr) : Prop where
  at_ : PySem.W.findIn K (.ref C) m = some (some (.ref f))
  fn : PySem.W.isFn K (.ref f) = true
  kp : PySem.W.keepIn K (.ref f) = true
section
variable {X : Cx} {pins : List (Addr × Obj)} {σ : St} {H : Hp} {s : Shared} {a C dx : Addr} {fs : List (Str × V)} {f : Str} {v : V} {A : Around} {E : Value → Shared → Prop}
end
section
variable {X : Cx} {o e value : Expr} {f : Str} {pos pos' tpos : Pos} {ta tv : TE}
end
section
variable {X : Cx} {pins : List (Addr × Obj)} {σ : St} {H : Hp} {s : Shared} {A : Around} {E : Value → Shared → Prop} {Q : Value → Shared → Prop} {c : Value} {b : Bool}
inductive TyOf (K : PySem.W.Frag) (H : Hp) : V → Value → Prop where
  | non : TyOf K H .non (.type "NoneType")
  | bl (x : Bool) : TyOf K H (.bl x) (.type "bool")
  | int (i : Int) : TyOf K H (.int i) (.type "int")
  | str (x : Str) : TyOf K H (.str x) (.type "str")
  | flt (x : UInt64) : TyOf K H (.flt x) (.type "float")
  | lst {a : Addr} {xs : List V} (e : H a = some (.lst xs)) : TyOf K H (.ref a) (.type "list")
  | frz {a : Addr} {o : Obj} {xs : List V} (e : H a = some (.frz o (.lst xs))) : TyOf K H (.ref a) (.type "list")
  | tup {a : Addr} {xs : List V} (e : H a = some (.tup xs)) : TyOf K H (.ref a) (.type "tuple")
  | dK {a : Addr} {kvs : List (Key × V)} (e : H a = some (.dK kvs)) : TyOf K H (.ref a) (.type "dict")
  | dT {a : Addr} {kvs : List (List Key × V)} (e : H a = some (.dT kvs)) : TyOf K H (.ref a) (.type "dict")
  | ins {a C dx : Addr} {fs : List (Str × V)} (e : H a = some (.ins C dx fs)) (cl : Cls K C) (ha : PySem.W.findIn K (.ref C) "__class__" = some (some (.builtin "object.__class__")))
      (hn : PySem.W.specialIn K (.builtin "object.__class__") "__get__" = some (some (.builtin "getset_descriptor.__get__"))) (htk : PySem.W.takesIn K (.builtin "object.__class__") = some true)
      (hm : PySem.W.mroIn K C (.type "object") = some true) : TyOf K H (.ref a) (.ref C)
theorem isinst_ok {x : V} {u t : Value} (I : Inv X pins σ H s) (rx : RelV x u) (ty : TyOf X.K H x t) (e : PySem.W.kitOne X.K t c = some b) (h : ∀ tk, Q (.bool b) { s with toks := tk }) :
    wpAny (model X.prog X.w) A (call (.builtin "isinstance") [u, c]) Q E s := by
  cases ty with
  | non => cases (show u = Value.none from rx); exact PySem.W.kia_one PySem.W.kitx_none I.kIn True.intro e (fun z => nomatch z) h
  | bl y => cases (show u = Value.bool y from rx); exact PySem.W.kia_one PySem.W.kitx_bool I.kIn True.intro e (fun z => nomatch z) h
  | int i => obtain ⟨t, q⟩ := (show ∃ t, u = Value.int i t from rx); cases q; exact PySem.W.kia_one PySem.W.kitx_int I.kIn True.intro e (fun z => nomatch z) h
  | str y => obtain ⟨t, q⟩ := (show ∃ t, u = Value.str y t from rx); cases q; exact PySem.W.kia_one PySem.W.kitx_str I.kIn True.intro e (fun z => nomatch z) h
  | flt y => obtain ⟨t, q⟩ := (show ∃ t, u = Value.float y t from rx); cases q; exact PySem.W.kia_one PySem.W.kitx_float I.kIn True.intro e (fun z => nomatch z) h
  | @lst a xs ea =>
    cases (show u = Value.ref a from rx)
    obtain ⟨_, _, n, _, h1⟩ := (show ObjOk X.prog X.w H s.heap a (.lst xs) from I.hok a _ ea)
    exact PySem.W.kia_one PySem.W.kitx_list I.kIn ⟨_, h1, rfl⟩ e (fun z => nomatch z) h
  | @frz a ob xs ea =>
    cases (show u = Value.ref a from rx)
    obtain ⟨_, _, _, n, _, h1⟩ := (show ObjOk X.prog X.w H s.heap a (.frz ob (.lst xs)) from I.hok a _ ea)
    exact PySem.W.kia_one PySem.W.kitx_list I.kIn ⟨_, h1, rfl⟩ e (fun z => nomatch z) h
  | @tup a xs ea =>
    cases (show u = Value.ref a from rx)
    obtain ⟨_, _, _, p⟩ := (show ObjOk X.prog X.w H s.heap a (.tup xs) from I.hok a _ ea)
    obtain ⟨o, h1, h2, _⟩ := p
    exact PySem.W.kia_one PySem.W.kitx_tuple I.kIn ⟨o, h1, h2⟩ e (fun z => nomatch z) h
  | @dK a kvs ea =>
    cases (show u = Value.ref a from rx)
    obtain ⟨_, _, vs, _, p⟩ := (show ObjOk X.prog X.w H s.heap a (.dK kvs) from I.hok a _ ea)
    obtain ⟨o, es, ep, h1, h2, _⟩ := p
    exact PySem.W.kia_one PySem.W.kitx_dict I.kIn ⟨o, h1, h2.1⟩ e (fun z => nomatch z) h
  | @dT a kvs ea =>
    cases (show u = Value.ref a from rx)
    obtain ⟨_, _, xs, _, o, es, ep, h1, h2, _⟩ := (show ObjOk X.prog X.w H s.heap a (.dT kvs) from I.hok a _ ea)
    exact PySem.W.kia_one PySem.W.kitx_dict I.kIn ⟨o, h1, h2.1⟩ e (fun z => nomatch z) h
  | @ins a C dx fs ea cl ha hn htk hm =>
    cases (show u = Value.ref a from rx)
    obtain ⟨mA, O, _⟩ := ins_get I.hok ea
    obtain ⟨od, J, _⟩ := O.look
    exact PySem.W.kia_one (PySem.W.kitx_own (cl.get _) cl.hd ha hn htk hm) I.kIn J e (fun z => nomatch z) h
end
end L2
namespace L2
open PySem PySem.Spec PyProof.Rows
structure Room (k : Nat) (A : Around) : Prop where
  hd : A.handled = none
  dp : A.depth + 3 * k + 5 < recursionLimit
  un : A.units + 16 * k + 200 < cLine
  gd : A.guards = some []
theorem Room.mono {j k : Nat} {A : Around} (r : Room k A) (h : j ≤ k) : Room j A := ⟨r.hd, by have := r.dp; omega, by have := r.un; omega, r.gd⟩
theorem Room.deeper {k : Nat} {A : Around} (r : Room (k + 1) A) (env : Env) : Room k (A.deeper env) :=
  ⟨r.hd, by have := r.dp; show A.depth + 1 + 3 * k + 5 < _; omega, by have := r.un; show A.units + 3 + 16 * k + 200 < _; omega, r.gd⟩
theorem Room.in1 {k : Nat} {A : Around} (r : Room (k + 1) A) : Room k A.in1 :=
  ⟨r.hd, by have := r.dp; show A.depth + 3 * k + 5 < _; omega, by have := r.un; show A.units + 1 + 16 * k + 200 < _; omega, r.gd⟩
theorem Room.depth {k : Nat} {A : Around} (r : Room k A) : A.depth < recursionLimit := by have := r.dp; omega
theorem Room.units {k : Nat} {A : Around} (r : Room k A) : A.units + 64 < cLine := by have := r.un; omega
def tNil : TA := fun _ H Q => Q [] H
def tCons (ta : TE) (tr : TA) : TA := fun σ H Q => ta σ H fun x H1 => tr σ H1 fun xs H2 => Q (x :: xs) H2
section
variable {X : Cx} {e : Expr} {es : List Expr} {te : TE} {t : TA} {pos : Pos}
theorem pa_nil : PA X [] tNil := fun _ _ _ _ H Q I h => Calls.spliced_nil ⟨[], H, I, .nil, h⟩
theorem pa_cons (ha : PE X e te) (hr : PA X es t) (hs : starEach (e :: es) X.env = (false, eval e X.env) :: starEach es X.env := by rfl) : PA X (e :: es) (tCons te t) := by
  intro pos pins s σ H Q I h
  rw [hs]
  show wpAny _ _ (spliced ((false, eval e X.env) :: backTo pos (starEach es X.env))) _ _ s
  refine Calls.spliced_cons (thn (ha pins s σ H _ I h) fun u s1 ⟨x, H1, I1, r1, q1⟩ => ?_)
  exact thn (hr pos pins s1 σ H1 _ I1 q1) fun us s2 ⟨xs, H2, I2, r2, q2⟩ => ⟨x :: xs, H2, I2, .cons r1 r2, q2⟩
def tTup (t : TA) : TE := fun σ H Q => t σ H fun xs H1 => xs.length ≤ sizeLine ∧ ∀ p, H1 p = none → Q (.ref p) (upd H1 p (.tup xs))
def tLst (t : TA) : TE := fun σ H Q => t σ H fun xs H1 => xs.length ≤ sizeLine ∧ ∀ p, H1 p = none → Q (.ref p) (upd H1 p (.lst xs))
theorem pe_tup {x1} (h : PA X es t) : PE X (.Tuple es x1 pos) (tTup t) := by
  intro pins s σ H Q I hq
  refine wpAny_Tuple_spliced (thn (h pos pins s σ H _ I hq) fun us s1 ⟨xs, H1, I1, r, z, q⟩ => ⟨by rw [← r.length]; exact z, ?_⟩)
  have hf : H1 s1.heap.objs.size = none := I1.hok.fresh (Nat.le_refl _)
  refine ⟨.ref s1.heap.objs.size, upd H1 s1.heap.objs.size (.tup xs), I1.laid (t' := s1.toks) (fun b u e => Heap.get?_push_of_some _ e) (Nat.le_refl _) ?_, rfl, q _ hf⟩
  exact ⟨z, us, r, ⟨_, Heap.get?_push_size _ rfl, rfl, _, rfl⟩⟩
theorem pe_lst (h : PA X es t) : PE X (.List es pos) (tLst t) := by
  intro pins s σ H Q I hq
  refine wpAny_List_spliced (thn (h pos pins s σ H _ I hq) fun us s1 ⟨xs, H1, I1, r, z, q⟩ => ⟨by rw [← r.length]; exact z, ?_⟩)
  have hf : H1 s1.heap.objs.size = none := I1.hok.fresh (Nat.le_refl _)
  refine ⟨.ref s1.heap.objs.size, upd H1 s1.heap.objs.size (.lst xs), I1.laid (t' := s1.toks) (fun b u e => Heap.get?_push_of_some _ e) (Nat.le_refl _) ?_, rfl, q _ hf⟩
  exact ⟨z, us, 0, r, Heap.get?_push_size _ rfl⟩
end
abbrev Sp := List V → Hp → VK → XK → Prop
abbrev CXT := List Env → Hp → Shared → XK → Value → Shared → Prop
structure Env0 (P : Program) (w : World) (K : PySem.W.Frag) (mg : Str → Option Value) (base : Heap) (A : Around) (outer : List Env) (s : Shared) (H : Hp) : Prop where
  frames : A.frames = some outer
  mod : Mod K mg base
  bs : ∀ b o, base.get? b = some o → s.heap.get? b = some o ∧ H b = none
  bsz : base.objs.size ≤ s.heap.objs.size
  funs : s.heap.FunFrames base outer
  frf : ∀ b ∈ frs outer, H b = none
  hok : HOk P w H s.heap
  bare : AllBare s.gens
def CE (outer : List Env) (P : Program) (w : World) (H : Hp) (s : Shared) (Q : VK) (u : Value) (s' : Shared) : Prop :=
  ∃ v H', s'.os = s.os ∧ AllBare s'.gens ∧ Un (frs outer) [] H H' s.heap s'.heap ∧ HOk P w H' s'.heap ∧ RelV v u ∧ Q v H'
def CR (CX : CXT) (outer : List Env) (P : Program) (w : World) (H : Hp) (s : Shared) (Q : VK) (E : XK) (r : Result) (s' : Shared) : Prop :=
  match r with
  | .ok (.ret u) => CE outer P w H s Q u s'
  | .ok _ => False
  | .error e => CX outer H s E e s'
structure FnOk (P : Program) (w : World) (K : PySem.W.Frag) (mg : Str → Option Value) (base : Heap) (CX : CXT) (k : Nat) (f : Addr) (fd : FuncData) (ps : List Str) (sp : Sp) : Prop where
  len : ∀ vs H Q E, sp vs H Q E → vs.length = ps.length
  run : ∀ (A : Around) (outer : List Env) (s : Shared) (H : Hp) (args : Args) (us : List Value) (vs : List V) (Q : VK) (E : XK), Room k A → Env0 P w K mg base A outer s H → BindsTo s fd args (ps.zip us) → Vals vs us → sp vs H Q E →
    codeAny (model P w) A (.call (.ref f) args) (CR CX outer P w H s Q E) s
theorem FnOk.mono {P : Program} {w : World} {K : PySem.W.Frag} {mg : Str → Option Value} {base : Heap} {CX : CXT} {j k : Nat} {f : Addr} {fd : FuncData} {ps : List Str} {sp : Sp} (F : FnOk P w K mg base CX j f fd ps sp) (h : j ≤ k) :
    FnOk P w K mg base CX k f fd ps sp := ⟨F.len, fun A outer s H args us vs Q E hr => F.run A outer s H args us vs Q E (hr.mono h)⟩
theorem Env0.in1 {P : Program} {w : World} {K : PySem.W.Frag} {mg : Str → Option Value} {base : Heap} {A : Around} {outer : List Env} {s : Shared} {H : Hp} (e : Env0 P w K mg base A outer s H) :
    Env0 P w K mg base A.in1 outer s H := ⟨e.frames, e.mod, e.bs, e.bsz, e.funs, e.frf, e.hok, e.bare⟩
section
variable {X : Cx} {pins : List (Addr × Obj)} {σ : St} {H : Hp} {s s' : Shared}
theorem Inv.env0 (I : Inv X pins σ H s) : Env0 X.prog X.w X.K X.mg X.base X.A X.stack s H :=
  ⟨I.ok.frames, I.ok.mod, I.bs, Nat.le_trans I.ok.bsz I.sz, I.stack, I.stkFree, I.hok, I.bare⟩
theorem Inv.after {Q : VK} {u : Value} (I : Inv X pins σ H s) (h : CE X.stack X.prog X.w H s Q u s') : EP X pins σ Q u s' := by
  obtain ⟨v, H', os, bare, un, hok, r, q⟩ := h
  obtain ⟨hh, g, d, t, os'⟩ := s'
  obtain rfl : os' = s.os := os
  exact ⟨v, H', I.call (h' := hh) (g' := g) (d' := d) (t' := t) (ch := []) un hok bare (fun b z => absurd z (by simp)), r, q⟩
end
def tCall (sp : Sp) (dvs : List V) (E : XK) (t : TA) : TE := fun σ H Q => t σ H fun vs H1 => sp (vs ++ dvs) H1 Q E
def Binds (K : PySem.W.Frag) (fd : FuncData) (ps : List Str) (ds : List Value) : Prop :=
  ∀ (s : Shared) (us : List Value), K.In s.heap → (us ++ ds).length = ps.length → BindsTo s fd ⟨us, []⟩ (ps.zip (us ++ ds))
theorem Binds.all {K : PySem.W.Frag} {fd : FuncData} {ps : List Str} (h : ∀ us : List Value, us.length = ps.length → bindArgs fd ⟨us, []⟩ = pure (ps.zip us)) : Binds K fd ps [] := fun s us _ hl => by
  rw [List.append_nil] at hl ⊢
  exact .of_eq (h us hl)
def Passes (CX : CXT) (X : Cx) (E : XK) : Prop := ∀ (pins : List (Addr × Obj)) (σ : St) (H : Hp) (s : Shared) (e : Value) (s' : Shared), Inv X pins σ H s → CX X.stack H s E e s' → X.xe e s'
section
variable {X : Cx} {CX : CXT} {k : Nat} {f C : Addr} {fd : FuncData} {ps : List Str} {sp : Sp} {dvs : List V} {ds : List Value} {E : XK} {x m : Str} {p pos apos : Pos} {e o : Expr} {es : List Expr} {ta : TE} {t : TA}
theorem run_fn {pins : List (Addr × Obj)} {σ : St} {H : Hp} {s : Shared} {Q : VK} {us : List Value} {vs : List V} (F : FnOk X.prog X.w X.K X.mg X.base CX k f fd ps sp) (hr : Room k X.A) (hb : Binds X.K fd ps ds) (hd : Vals dvs ds) (hx : Passes CX X E)
    (I : Inv X pins σ H s) (r : Vals vs us) (h : sp (vs ++ dvs) H Q E) : wpAny (model X.prog X.w) X.A (call (.ref f) us) (EP X pins σ Q) X.xe s := by
  have r2 : Vals (vs ++ dvs) (us ++ ds) := r.append hd
  have hl : (us ++ ds).length = ps.length := by rw [← r2.length]; exact F.len _ _ _ _ h
  refine wpAny_call (codeAny_mono (F.run X.A X.stack s H ⟨us, []⟩ (us ++ ds) (vs ++ dvs) Q E hr I.env0 (hb s us I.kIn hl) r2 h) fun r s' hq => ?_)
  cases r with
  | error e => exact hx pins σ H s e s' I hq
  | ok fl =>
    cases fl with
    | ret u => exact I.after hq
    | next => exact False.elim hq
    | brk => exact False.elim hq
    | cont => exact False.elim hq
theorem pe_call (F : FnOk X.prog X.w X.K X.mg X.base CX k f fd ps sp) (hr : Room k X.A) (hg : Gl X x) (hm : X.mg x = some (.ref f)) (hk : PySem.W.keepIn X.K (.ref f) = true) (hb : Binds X.K fd ps ds) (hd : Vals dvs ds) (hx : Passes CX X E)
    (ha : PA X (e :: es) t) (hdb : (x == ("__debug__" : Str)) = false := by decide) (he : starEach (e :: es) X.env = (false, eval e X.env) :: starEach es X.env := by rfl) (hpl : (backTo pos (starEach es X.env)).any (·.1) = false := by rfl) :
    PE X (.Call (.Name x p) (e :: es) [] pos) (tCall sp dvs E t) := by
  intro pins s σ H Q I h
  refine wpAny_Call_Name_kw (ld_glob I hg hm ?_ hdb)
  refine PySem.W.callWith_K (h₀ := X.base) I.ok.mod.kin hk (thn (ha pos pins s σ H _ I h) fun us s1 ⟨vs, H1, I1, r, q⟩ => ⟨I1.kIn, ?_⟩) he hpl
  exact run_fn F hr hb hd hx I1 r q
structure Mk (K : PySem.W.Frag) (C f : Addr) : Prop where
  makes : PySem.W.makesIn K C = true
  init : PySem.W.findIn K (.ref C) "__init__" = some (some (.ref f))
  fn : PySem.W.isFn K (.ref f) = true
  kp : PySem.W.keepIn K (.ref C) = true
end
section
variable {X : Cx} {CX : CXT} {k : Nat} {f C : Addr} {fd : FuncData} {ps ks : List Str} {sp : Sp} {E : XK} {x m : Str} {p pos apos kpos : Pos} {e o : Expr} {es : List Expr} {kws : List Keyword} {te ta : TE} {t tk : TA} {nm : Option Str}
structure KBinds (K : PySem.W.Frag) (fd : FuncData) (ps ks : List Str) (g : List Value → List Value → List Value) (gV : List V → List V → List V) : Prop where
  to : ∀ (s : Shared) (us ws : List Value), K.In s.heap → (g us ws).length = ps.length → BindsTo s fd ⟨us, ks.zip ws⟩ (ps.zip (g us ws))
  rel : ∀ {vs : List V} {us : List Value} {zs : List V} {ws : List Value}, Vals vs us → Vals zs ws → Vals (gV vs zs) (g us ws)
variable {g : List Value → List Value → List Value} {gV : List V → List V → List V}
end
structure FnScope (N P : List Str) (sc : Scope) : Prop where
  kind : sc.kind = .function
  co : sc.isCoroutine = false
  gen : sc.isGenerator = false
  nd : N.Nodup
  pre : N.take P.length = P
  par : ∀ x ∈ P, sc.names.lookup x = some .local ∨ sc.names.lookup x = some .cell
  nofree : ∀ y ∈ sc.names, y.2 ≠ .free
theorem bindL_out {kindOf : Str → Option NameKind} {x : Str} : ∀ {binds : List (Str × Value)} {m : Str → Option Value}, (∀ v, (x, v) ∉ binds) → bindL kindOf binds m x = m x
  | [], _, _ => rfl
  | (n, v) :: r, m, h => by
    unfold bindL
    rw [bindL_out fun w hw => h w (List.mem_cons_of_mem _ hw)]
    split
    · have : x ≠ n := by rintro rfl; exact h v List.mem_cons_self
      simp [this]
    · rfl
theorem bindC_out {kindOf : Str → Option NameKind} {x : Str} : ∀ {binds : List (Str × Value)} {m : Str → Option Value}, (∀ v, (x, v) ∉ binds) → bindC kindOf binds m x = m x
  | [], _, _ => rfl
  | (n, v) :: r, m, h => by
    unfold bindC
    rw [bindC_out fun w hw => h w (List.mem_cons_of_mem _ hw)]
    split
    · rfl
    · have : x ≠ n := by rintro rfl; exact h v List.mem_cons_self
      simp [this]
theorem bindL_get {kindOf : Str → Option NameKind} {x : Str} {v : Value} : ∀ {P : List Str} {vs : List Value} {i : Nat} {m : Str → Option Value}, P.Nodup → P[i]? = some x → vs[i]? = some v → kindOf x = some .local →
    bindL kindOf (P.zip vs) m x = some v
  | [], _, _, _, _, h, _, _ => by simp at h
  | _ :: _, [], _, _, _, _, h, _ => by simp at h
  | p :: P, w :: vs, 0, m, nd, h1, h2, hk => by
    simp at h1 h2; subst h1; subst h2
    show bindL kindOf ((p, w) :: P.zip vs) m p = _
    unfold bindL
    rw [bindL_out fun v hv => (List.nodup_cons.mp nd).1 (List.of_mem_zip hv).1, if_pos hk]
    simp
  | p :: P, w :: vs, i + 1, m, nd, h1, h2, hk => by
    show bindL kindOf ((p, w) :: P.zip vs) m x = _
    unfold bindL
    exact bindL_get (i := i) (List.nodup_cons.mp nd).2 (by simpa using h1) (by simpa using h2) hk
theorem bindC_get {kindOf : Str → Option NameKind} {x : Str} {v : Value} : ∀ {P : List Str} {vs : List Value} {i : Nat} {m : Str → Option Value}, P.Nodup → P[i]? = some x → vs[i]? = some v → kindOf x ≠ some .local →
    bindC kindOf (P.zip vs) m x = some v
  | [], _, _, _, _, h, _, _ => by simp at h
  | _ :: _, [], _, _, _, _, h, _ => by simp at h
  | p :: P, w :: vs, 0, m, nd, h1, h2, hk => by
    simp at h1 h2; subst h1; subst h2
    show bindC kindOf ((p, w) :: P.zip vs) m p = _
    unfold bindC
    rw [bindC_out fun v hv => (List.nodup_cons.mp nd).1 (List.of_mem_zip hv).1, if_neg hk]
    simp
  | p :: P, w :: vs, i + 1, m, nd, h1, h2, hk => by
    show bindC kindOf ((p, w) :: P.zip vs) m x = _
    unfold bindC
    exact bindC_get (i := i) (List.nodup_cons.mp nd).2 (by simpa using h1) (by simpa using h2) hk
def start (N : List Str) (vs : List V) : St := vs.map some ++ List.replicate (N.length - vs.length) none
def cxOf (CX : CXT) (P : Program) (w : World) (K : PySem.W.Frag) (mg : Str → Option Value) (base : Heap) (N : List Str) (qual : Str) (scope : Scope) (f : Addr) (cd : Value) (A : Around) (outer : List Env) (s : Shared) (H : Hp) (E : XK) : Cx where
  prog := P
  w := w
  K := K
  mg := mg
  base := base
  A := A.deeper (envOfC qual scope s.heap.objs.size f cd)
  N := N
  s₀ := s
  H₀ := H
  env := envOfC qual scope s.heap.objs.size f cd
  outer := outer
  stack := envOfC qual scope s.heap.objs.size f cd :: outer
  ex := []
  calm := true
  fn := fun _ => true
  pn := []
  xe := fun e s' => wpAny (model P w) (A.deeper (envOfC qual scope s.heap.objs.size f cd)) (leaving (envOfC qual scope s.heap.objs.size f cd) e) (fun _ s'' => CX outer H s E e s'') (fun e' s'' => CX outer H s E e' s'') s'
theorem cell_has {sc : Scope} {n : Nat} {x : Str} (h : sc.names.lookup x = some .cell) : ∃ c, (cellsFrom n sc.names []).lookup x = some c := by
  have q := PySem.W.cellsFrom_some sc.names n [] (.inl h)
  exact Option.isSome_iff_exists.mp q
theorem inv_start {CX : CXT} {P : Program} {w : World} {K : PySem.W.Frag} {mg : Str → Option Value} {base : Heap} {N ps : List Str} {qual : Str} {scope : Scope} {f : Addr} {cd : Value} {A : Around} {outer : List Env} {s s1 : Shared} {H : Hp} {E : XK} {us : List Value} {vs : List V}
    (S : FnScope N ps scope) (hd : A.handled = none) (e0 : Env0 P w K mg base A outer s H) (hl : vs.length = ps.length) (r : Vals vs us)
    (x : InCallC s s.heap.objs.size (bindL (envOfC qual scope s.heap.objs.size f cd).kindOf (ps.zip us) fun _ => none) (cellsFrom (s.heap.objs.size + 1) scope.names []) (bindC (envOfC qual scope s.heap.objs.size f cd).kindOf (ps.zip us) fun _ => none) s1) :
    Inv (cxOf CX P w K mg base N qual scope f cd A outer s H E) [] (start N vs) H s1 := by
  have hpl : ps.length ≤ N.length := by have := congrArg List.length S.pre; rw [List.length_take] at this; omega
  obtain ⟨h1, tk, rfl, hk⟩ := x.done
  have noA : ∀ b : Addr, b ∉ (cxOf CX P w K mg base N qual scope f cd A outer s H E).ex := fun b z => absurd (show b ∈ ([] : List Addr) from z) (by simp)
  refine ⟨⟨e0.mod, S.kind, rfl, rfl, Nat.le_refl _, fun y z c h1 h2 => ?_, fun y hy => ?_, fun y c _ h => ?_, fun _ => hd, Around.frames_deeper e0.frames, .inr ⟨rfl, rfl⟩, fun b z => absurd z (noA b), e0.bs, e0.bsz, fun b _ _ => noA b, fun b z => absurd z (noA b), e0.funs, e0.frf⟩,
    rfl, e0.bare, Un.kept hk, ⟨_, x.toInCall.ns, fun i y v h1 h2 h3 => ?_⟩, fun y c h => ⟨_, x.cell y c h⟩, e0.hok.fresh (Nat.le_refl _), fun y c h => ?_, fun p hp => absurd (show p ∈ ([] : List (Addr × Obj)) from hp) (by simp), e0.hok.kept hk, ?_⟩
  · exact name_of_addr x.apart (PySem.mem_of_lookup h1) (PySem.mem_of_lookup h2)
  · have hy : scope.names.lookup y = some .cell ∨ scope.names.lookup y = some .free := hy
    rcases hy with hy | hy
    · exact cell_has hy
    · exact absurd rfl (S.nofree _ (PySem.mem_of_lookup hy))
  · exact Nat.le_of_lt (x.above y c (PySem.mem_of_lookup h))
  · have hi : i < vs.length := by
      unfold start at h2
      by_cases hi : i < vs.length
      · exact hi
      · rw [List.getElem?_append_right (by simpa using hi)] at h2
        rw [List.getElem?_replicate] at h2
        split at h2 <;> cases h2
    have ha : vs[i]? = some v := by
      unfold start at h2
      rw [List.getElem?_append_left (by simpa using hi), List.getElem?_map] at h2
      cases e : vs[i]? with
      | none => rw [e] at h2; cases h2
      | some a => rw [e] at h2; cases h2; rfl
    obtain ⟨u, hu, rv⟩ := r.get ha
    have hp : ps[i]? = some y := by
      rw [← S.pre, List.getElem?_take_of_lt (by omega)]; exact h1
    have ndP : ps.Nodup := by rw [← S.pre]; exact S.nd.sublist (List.take_sublist _ _)
    refine ⟨u, rv, ?_⟩
    rcases S.par y (List.mem_of_getElem? hp) with k | k
    · exact .inl ⟨k, bindL_get ndP hp hu k⟩
    · obtain ⟨c, e⟩ := cell_has (n := s.heap.objs.size + 1) k
      refine .inr ⟨.inl k, c, e, ?_⟩
      have q := x.cell y c e
      rw [bindC_get ndP hp hu (by show scope.names.lookup y ≠ _; rw [k]; decide)] at q
      exact q
  · exact e0.hok.fresh (Nat.le_of_lt (x.above y c (PySem.mem_of_lookup h)))
  · unfold start
    show _ = N.length
    rw [List.length_append, List.length_map, List.length_replicate]
    omega
theorem fn_of {CX : CXT} {P : Program} {w : World} {K : PySem.W.Frag} {mg : Str → Option Value} {base : Heap} {k : Nat} {f : Addr} {name qual : Str} {params : Arguments} {body : List Stmt} {scope : Scope} {dV kV doc pm cdv ct oc : Value} {an od : Option Addr}
    {osl : Array (Option Value)} {N ps : List Str} {sp : Sp} (lk : K.lookup f = some ⟨oc, od, .func (PySem.W.fnOf name qual params body scope dV kV doc pm an cdv ct), osl⟩) (hcd : PySem.W.codeIn K cdv qual = true) (S : FnScope N ps scope)
    (len : ∀ vs H Q E, sp vs H Q E → vs.length = ps.length)
    (hbody : ∀ (A : Around) (outer : List Env) (s : Shared) (H : Hp) (vs : List V) (Q : VK) (E : XK), Room k (A.deeper (envOfC qual scope s.heap.objs.size f cdv)) → sp vs H Q E →
      ∃ t, PSs (cxOf CX P w K mg base N qual scope f cdv A outer s H E) body t ∧ t { nx := fun _ H' => Q .non H', rt := Q } (start N vs) H) :
    FnOk P w K mg base CX (k + 1) f (PySem.W.fnOf name qual params body scope dV kV doc pm an cdv ct) ps sp := by
  refine ⟨len, fun A outer s H args us vs Q E hr e0 hb r hsp => ?_⟩
  have hl := len _ _ _ _ hsp
  have KX : K.In s.heap := e0.mod.kin.keeps fun b o e => (e0.bs b o e).1
  have lim : s.heap.NoLimit := e0.mod.nolimit.keeps fun b o e => (e0.bs b o e).1
  have hkind : ∀ y ∈ ps.zip us, scope.names.lookup y.1 = some .local ∨ (scope.names.lookup y.1 = some .cell ∧ ((cellsFrom (s.heap.objs.size + 1) scope.names []).lookup y.1).isSome = true) := fun ⟨n, v⟩ hy => by
    rcases S.par n (List.of_mem_zip hy).1 with q | q
    · exact .inl q
    · exact .inr ⟨q, PySem.W.cellsFrom_some _ _ _ (.inl q)⟩
  refine codeAny_call_function hr.depth (KX _ _ lk) rfl S.co S.gen rfl (PySem.W.codeRec_of KX hcd) (hb _ _ _ _ ?_)
  refine wpAny_newFunctionEnv_cells S.kind hkind fun env he s1 x => ?_
  subst he
  refine ⟨lim.keeps x.toInCall.keep, codeAny_func ?_⟩
  obtain ⟨t, ht, hq⟩ := hbody A outer s H vs Q E (hr.deeper _) hsp
  have I : Inv (cxOf CX P w K mg base N qual scope f cdv A outer s H E) [] (start N vs) H s1 := inv_start S hr.hd e0 hl r x
  refine wpAny_mono (ht [] s1 (start N vs) H _ I hq) (fun fl s' hs => ?_) fun e s' hs => hs
  have fin : ∀ {σ' : St} {H' : Hp} {v : V} {u : Value}, Inv (cxOf CX P w K mg base N qual scope f cdv A outer s H E) [] σ' H' s' → RelV v u → Q v H' → CE outer P w H s Q u s' :=
    fun {σ' H' v u} J rv q => ⟨v, H', J.os, J.bare, J.base, J.hok, rv, q⟩
  cases fl with
  | ret u =>
    obtain ⟨v, σ', H', J, rv, q⟩ := hs
    exact fin J rv q
  | next =>
    obtain ⟨σ', H', J, q⟩ := hs
    exact fin (v := V.non) (u := Value.none) J rfl q
  | brk =>
    obtain ⟨_, _, _, q⟩ := hs
    exact False.elim q
  | cont =>
    obtain ⟨_, _, _, q⟩ := hs
    exact False.elim q
end L2
namespace L2
open PySem PySem.Spec PyProof.Rows
section
variable {X : Cx} {x : Str} {p pos : Pos} {e : Expr} {es : List Expr} {t : TA} {id T : String} {r : List V → Hp → VK → Prop}
def tCB (r : List V → Hp → VK → Prop) (t : TA) : TE := fun σ H Q => t σ H fun vs H1 => r vs H1 Q
theorem pe_callB (hc : CallR X (.builtin id) r) (hg : Gl X x) (hm : X.mg x = none) (hv : bootBuiltins x = some (.builtin id)) (ha : PA X (e :: es) t) (hn : x ≠ "__name__" := by decide) (hdb : (x == ("__debug__" : Str)) = false := by decide)
    (he : starEach (e :: es) X.env = (false, eval e X.env) :: starEach es X.env := by rfl) (hpl : (backTo pos (starEach es X.env)).any (·.1) = false := by rfl) : PE X (.Call (.Name x p) (e :: es) [] pos) (tCB r t) := by
  intro pins s σ H Q I h
  refine wpAny_Call_Name_kw (ld_blt I hg hm hv ?_ hn hdb)
  exact PyProof.Rows.callWith_builtin1 (thn (ha pos pins s σ H _ I h) fun us s1 ⟨vs, H1, I1, r1, q1⟩ => hc pins s1 σ H1 vs us Q I1 r1 q1) he hpl
theorem pe_callTy (hc : CallR X (.type T) r) (hg : Gl X x) (hm : X.mg x = none) (hv : bootBuiltins x = some (.type T)) (ha : PA X (e :: es) t) (hn : x ≠ "__name__" := by decide) (hdb : (x == ("__debug__" : Str)) = false := by decide)
    (he : starEach (e :: es) X.env = (false, eval e X.env) :: starEach es X.env := by rfl) (hpl : (backTo pos (starEach es X.env)).any (·.1) = false := by rfl) : PE X (.Call (.Name x p) (e :: es) [] pos) (tCB r t) := by
  intro pins s σ H Q I h
  refine wpAny_Call_Name_kw (ld_blt I hg hm hv ?_ hn hdb)
  exact PyProof.Rows.callWith_type1 (thn (ha pos pins s σ H _ I h) fun us s1 ⟨vs, H1, I1, r1, q1⟩ => hc pins s1 σ H1 vs us Q I1 r1 q1) he hpl
end
end L2
namespace HT
open PySem PyProof.Rows
def lexLt : List Int → List Int → Bool
  | [], [] => false
  | [], _ :: _ => true
  | _ :: _, [] => false
  | x :: xs, y :: ys => if x = y then lexLt xs ys else decide (x < y)
theorem lexLt_cons (x y : Int) (xs ys : List Int) : lexLt (x :: xs) (y :: ys) = if x = y then lexLt xs ys else decide (x < y) := rfl
theorem lexLt_nil_nil : lexLt [] [] = false := rfl
theorem lexLt_nil_cons (y : Int) (ys : List Int) : lexLt [] (y :: ys) = true := rfl
theorem lexLt_cons_nil (x : Int) (xs : List Int) : lexLt (x :: xs) [] = false := rfl
theorem eqAt_int (A : Around) (s : Shared) (a : Int) (t : Tok) (c : Int) (u : Tok) : ∃ e, SeqAt.EqAt A s (.int a t) (.int c u) e ∧ (e = true ↔ a = c) :=
  ⟨(a == c), SeqAt.EqAt.int_int a t c u, by simp⟩
theorem rcLt_int (A : Around) (s : Shared) (a : Int) (t : Tok) (c : Int) (u : Tok) (prog : Program) (w : World) (E : Value → Shared → Prop) (Q : Value → Shared → Prop) (h : Q (.bool (decide (a < c))) s) :
    wpAny (model prog w) A (richCompare .Lt (.int a t) (.int c u)) Q E s :=
  (PyProof.Rows.lt_int h : wpAny (model prog w) A (compareOp .Lt (.int a t) (.int c u)) Q E s)
section
open PySem.SeqAt
open PySem.AutoSeq1 (wpAny_loadPart')
open PySem.MeetsSeq PySem.MeetsSeq2 PySem.MeetsSeq3
end
section
variable {prog : Program} {w : World} {A : Around} {E : Value → Shared → Prop} {s : Shared}
def sIx (n d : Nat) : Option Int → Nat
  | none => d
  | some v => if v < 0 then (v + (n : Int)).toNat else min v.toNat n
end
end HT
namespace L2
open PySem PySem.Spec PyProof.Rows
abbrev TO := St → Hp → (Option Int → Hp → Prop) → Prop
def PO (X : Cx) (e : Option Expr) (t : TO) : Prop :=
  ∀ (pins : List (Addr × Obj)) (s : Shared) (σ : St) (H : Hp) (Q : Option Int → Hp → Prop), Inv X pins σ H s → t σ H Q →
    wpAny (model X.prog X.w) X.A (evalPart e X.env) (fun u s' => ∃ o H', Inv X pins σ H' s' ∧ IsPart u o ∧ Q o H') X.xe s
def tNoPart : TO := fun _ H Q => Q none H
def tPart (t : TE) : TO := fun σ H Q => t σ H fun x H1 => ∃ i, x = .int i ∧ Q (some i) H1
theorem intsAre_of {ns : List Int} : ∀ {us : List Value}, Vals (ns.map V.int) us → IntsAre us ns := by
  induction ns with
  | nil => intro us r; rw [List.map_nil] at r; cases r; exact .nil
  | cons n ns ih =>
    intro us r
    rw [List.map_cons] at r
    cases r with
    | cons r1 r2 =>
      obtain ⟨t, e⟩ := r1
      subst e
      exact .cons n t (ih r2)
section
variable {X : Cx} {e : Expr} {te : TE} {lo hi : Option Expr} {tl th : TO} {pos p2 : Pos}
theorem po_none : PO X none tNoPart := by
  intro pins s σ H Q I h
  rw [evalPart_none]
  exact wpAny_pure ⟨none, H, I, .none, h⟩
theorem po_some (h : PE X e te) : PO X (some e) (tPart te) := by
  intro pins s σ H Q I hw
  rw [evalPart_some]
  refine thn (h pins s σ H _ I hw) fun u s1 ⟨x, H1, I1, r1, q1⟩ => ?_
  obtain ⟨i, rfl, q⟩ := q1
  obtain ⟨t, rfl⟩ := r1
  exact ⟨some i, H1, I1, .int i t, q⟩
def SlR (X : Cx) (r : V → Option Int → Option Int → Hp → VK → Prop) : Prop :=
  ∀ (pins : List (Addr × Obj)) (s : Shared) (σ : St) (H : Hp) (x : V) (v vl vu : Value) (lo hi : Option Int) (sl : Addr) (Q : VK), Inv X pins σ H s → RelV x v → s.heap.IsSliceOf sl vl vu .none → IsPart vl lo → IsPart vu hi → r x lo hi H Q →
    ∃ T id, typeLookup (.type T) "__getitem__" = pure (some (.builtin id)) ∧ s.TypeIs v T ∧ wpAny (model X.prog X.w) X.A (getItem v (.ref sl)) (EP X pins σ Q) X.xe s
def tSl (r : V → Option Int → Option Int → Hp → VK → Prop) (te : TE) (tl th : TO) : TE := fun σ H Q => te σ H fun x H1 => tl σ H1 fun l H2 => th σ H2 fun u H3 => r x l u H3 Q
theorem pe_slice {r : V → Option Int → Option Int → Hp → VK → Prop} (hr : SlR X r) (he : PE X e te) (hl : PO X lo tl) (hu : PO X hi th) : PE X (.Subscript e (.Slice lo hi none p2) pos) (tSl r te tl th) := by
  intro pins s σ H Q I h
  refine Subscript_ (thn (he pins s σ H _ I h) fun v s1 ⟨x, H1, I1, r1, q1⟩ => ?_)
  refine wpAny_Slice (thn (hl pins s1 σ H1 _ I1 q1) fun vl s2 ⟨l, H2, I2, pl, q2⟩ => thn (hu pins s2 σ H2 _ I2 q2) fun vu s3 ⟨u, H3, I3, pu, q3⟩ => ?_)
  rw [evalPart_none]
  refine wpAny_pure ?_
  have I4 : Inv X pins σ H3 { s3 with heap := s3.heap.push { cls := .type "slice", data := .fields #[vl, vu, .none] } } := I3.kept (t' := s3.toks) fun b ob q => Heap.get?_push_of_some _ q
  obtain ⟨T, id, hT, ht, hg⟩ := hr pins { s3 with heap := s3.heap.push { cls := .type "slice", data := .fields #[vl, vu, .none] } } σ H3 x v vl vu l u s3.heap.objs.size Q I4 r1 (Heap.IsSliceOf.new ..) pl pu q3
  show wpAny (model X.prog X.w) X.A (subscriptTail e (.Slice lo hi none p2) v (.ref s3.heap.objs.size)) (EP X pins σ Q) X.xe { s3 with heap := s3.heap.push { cls := .type "slice", data := .fields #[vl, vu, .none] } }
  exact tail_any (ops := [.ref s3.heap.objs.size, v]) ht hT hg (by with_unfolding_all rfl)
def cutV (xs : List V) (lo hi : Option Int) : List V := (xs.drop (HT.sIx xs.length 0 lo)).take (HT.sIx xs.length xs.length hi - HT.sIx xs.length 0 lo)
theorem cutV_length (xs : List V) (lo hi : Option Int) : (cutV xs lo hi).length ≤ xs.length := by
  unfold cutV
  rw [List.length_take, List.length_drop]
  omega
end
end L2
namespace L2
open PySem PySem.Spec PyProof.Rows
def ixN (n : Nat) (i : Int) : Option Nat := if 0 ≤ i then (if i < n then some i.toNat else none) else if -(n : Int) ≤ i then some (i + n).toNat else none
def atI {α : Type} (xs : List α) (i : Int) : Option α := (ixN xs.length i).bind fun j => xs[j]?
theorem ixN_seq {n : Nat} {i : Int} {j : Nat} (h : ixN n i = some j) : seqIndex? i n = some j ∧ j < n ∧ -(n : Int) ≤ i ∧ i < n := by
  unfold ixN at h
  by_cases h0 : 0 ≤ i
  · rw [if_pos h0] at h
    by_cases h1 : i < n
    · rw [if_pos h1] at h
      have e : i.toNat = j := Option.some.inj h
      exact ⟨by rw [seqIndex_of h0 h1, e], by omega, by omega, h1⟩
    · rw [if_neg h1] at h; cases h
  · rw [if_neg h0] at h
    by_cases h1 : -(n : Int) ≤ i
    · rw [if_pos h1] at h
      have e : (i + n).toNat = j := Option.some.inj h
      exact ⟨by rw [seqIndex_neg (by omega) h1, e], by omega, h1, by omega⟩
    · rw [if_neg h1] at h; cases h
theorem atI_get {α : Type} {xs : List α} {i : Int} {v : α} (h : atI xs i = some v) : ∃ j, seqIndex? i xs.length = some j ∧ xs[j]? = some v ∧ j < xs.length ∧ -(xs.length : Int) ≤ i ∧ i < xs.length := by
  unfold atI at h
  cases e : ixN xs.length i with
  | none => rw [e] at h; cases h
  | some j =>
    rw [e] at h
    obtain ⟨h1, h2, h3, h4⟩ := ixN_seq e
    exact ⟨j, h1, h, h2, h3, h4⟩
theorem atI_nat {α : Type} {xs : List α} {j : Nat} {v : α} (h : xs[j]? = some v) : atI xs (j : Int) = some v := by
  have hj : j < xs.length := (List.getElem?_eq_some_iff.mp h).1
  have e : ixN xs.length (j : Int) = some j := by
    unfold ixN
    rw [if_pos (by omega), if_pos (by omega)]; simp
  unfold atI; rw [e]; exact h
def PlainIx (b : Expr) : Prop := ∀ o i, subscripted b false o i = operate [o, i] (getItem o i)
def IxR (X : Cx) (r : R2) : Prop :=
  ∀ (value slice : Expr) (pins : List (Addr × Obj)) (s : Shared) (σ : St) (H : Hp) (x y : V) (v u : Value) (Q : VK), Inv X pins σ H s → RelV x v → RelV y u → r x y H Q →
    subscripted slice false v u = operate [v, u] (getItem v u) → wpAny (model X.prog X.w) X.A (subscriptTail value slice v u) (EP X pins σ Q) X.xe s
def MtR (X : Cx) (id : String) (r : V → List V → Hp → VK → Prop) : Prop :=
  ∀ (pins : List (Addr × Obj)) (s : Shared) (σ : St) (H : Hp) (x : V) (xs : List V) (v : Value) (us : List Value) (Q : VK), Inv X pins σ H s → RelV x v → Vals xs us → r x xs H Q →
    wpAny (model X.prog X.w) X.A (call (.builtin id) (v :: us)) (EP X pins σ Q) X.xe s
section
variable {X : Cx} {a b : Expr} {ta tb : TE} {pos : Pos}
theorem pe_ix {r : R2} (hr : IxR X r) (ha : PE X a ta) (hb : PE X b tb) (hs : PlainIx b) : PE X (.Subscript a b pos) (tOp r ta tb) := by
  intro pins s σ H Q I h
  exact Subscript_ (binT ha hb I h fun v u s2 x y H2 I2 rx ry q => hr a b pins s2 σ H2 x y v u Q I2 rx ry q (hs _ _))
def rIxL (K : PySem.W.Frag) : R2 := fun x y H Q => ∃ p xs i v, x = .ref p ∧ y = .int i ∧ SqL K H p xs ∧ atI xs i = some v ∧ Q v H
def rIxT (K : PySem.W.Frag) : R2 := fun x y H Q => ∃ p xs i v, x = .ref p ∧ y = .int i ∧ SqT K H p xs ∧ atI xs i = some v ∧ Q v H
theorem ix_list : IxR X (rIxL X.K) := by
  intro value slice pins s σ H x y v u Q I rx ry h hs
  obtain ⟨p, xs, i, z, rfl, rfl, hq, he, q⟩ := h
  cases rx
  obtain ⟨t, rfl⟩ := ry
  obtain ⟨its, r, pl, hz⟩ := I.list hq
  obtain ⟨j, h1, h2, h3, h4, h5⟩ := atI_get he
  obtain ⟨w, ew, rw'⟩ := r.get h2
  have hl := r.length
  have hn := line63
  have fin : EP X pins σ Q w s := ⟨z, H, I, rw', q⟩
  by_cases h0 : 0 ≤ i
  · have hj : i.toNat = j := by
      rw [seqIndex_of h0 h5] at h1
      exact Option.some.inj h1
    exact item_listR pl.isList h0 (by omega) (by rw [hj]; simpa using ew) fin hs
  · have hj : (i + (its.toArray.size : Int)).toNat = j := by
      rw [seqIndex_neg (by omega) h4] at h1
      rw [List.size_toArray, ← hl]
      exact Option.some.inj h1
    exact subscriptTail_builtinR (x := w) pl.isList.typeIs slot_list_getitem.lookup
      (wpAny_getItem_list_neg (Q := fun r s' => r = w ∧ EP X pins σ Q r s') pl.isList (by omega) (by rw [List.size_toArray] <;> omega) (by omega) (by rw [hj]; simpa using ew) ⟨rfl, fin⟩) hs
theorem ix_tup : IxR X (rIxT X.K) := by
  intro value slice pins s σ H x y v u Q I rx ry h hs
  obtain ⟨p, xs, i, z, rfl, rfl, hq, he, q⟩ := h
  cases rx
  obtain ⟨t, rfl⟩ := ry
  obtain ⟨its, r, pl, hz⟩ := I.tuple hq
  obtain ⟨j, h1, h2, h3, h4, h5⟩ := atI_get he
  obtain ⟨w, ew, rw'⟩ := r.get h2
  have hl := r.length
  have hn := line63
  have fin : EP X pins σ Q w s := ⟨z, H, I, rw', q⟩
  exact subscriptTail_builtinR (x := w) pl.typeIs slot_tuple_getitem.lookup
    (getItem_tuple (j := j) (Q := fun r s' => r = w ∧ EP X pins σ Q r s') pl (by omega) (by omega) (by rw [List.size_toArray, ← hl]; exact h1) (by simpa using ew) ⟨rfl, fin⟩) hs
theorem mapSeq_set (its : List Value) (n j : Nat) (u : Value) : Obj.mapSeq (·.setIfInBounds j u) { cls := .type "list", data := .seq its.toArray n } = { cls := .type "list", data := .seq (its.set j u).toArray n } := by
  simp [Obj.mapSeq]
theorem Inv.lst {pins : List (Addr × Obj)} {σ : St} {H : Hp} {s : Shared} {p : Addr} {xs : List V} (I : Inv X pins σ H s) (h : H p = some (.lst xs)) :
    ∃ (its : List Value) (n : Nat), Vals xs its ∧ s.heap.get? p = some { cls := .type "list", data := .seq its.toArray n } ∧ xs.length ≤ sizeLine := by
  obtain ⟨z, its, n, r, e⟩ := I.hok p _ h
  exact ⟨its, n, r, e, z⟩
theorem Inv.lstUpd {pins : List (Addr × Obj)} {σ : St} {H : Hp} {s : Shared} {p : Addr} {xs ys : List V} {its its' : List Value} {n n' : Nat} {f : Obj → Obj} (I : Inv X pins σ H s) (h : H p = some (.lst xs))
    (ho : s.heap.get? p = some { cls := .type "list", data := .seq its.toArray n }) (hf : f { cls := .type "list", data := .seq its.toArray n } = { cls := .type "list", data := .seq its'.toArray n' }) (r : Vals ys its') (hz : ys.length ≤ sizeLine) (t : Nat) :
    Inv X pins σ (upd H p (.lst ys)) { s with heap := s.heap.update p f, toks := t } := by
  have e : (s.heap.update p f).get? p = some { cls := .type "list", data := .seq its'.toArray n' } := by
    rw [Heap.get?_update_self f ho (by rw [hf] <;> rfl), hf]
  refine I.write (x := p) (e := p) (by rw [h]; trivial) (.inl rfl) (fun b u hb q => (Heap.get?_update_other _ _ (Ne.symm hb)).trans q) ⟨_, e⟩ ?_
  exact ⟨hz, its', n', r, e⟩
def rSetL : V → V → V → Hp → (Hp → Prop) → Prop := fun o i v H Q => ∃ p xs k j, o = .ref p ∧ i = .int k ∧ H p = some (.lst xs) ∧ ixN xs.length k = some j ∧ Q (upd H p (.lst (xs.set j v)))
theorem set_list : PSet X rSetL := by
  intro pins s σ H o i v ov iv u Q I ro ri rv h
  obtain ⟨p, xs, k, j, rfl, rfl, hp, hj, q⟩ := h
  cases ro
  obtain ⟨t, rfl⟩ := ri
  obtain ⟨its, n, r, ho, hz⟩ := I.lst hp
  obtain ⟨h1, h2, h3, h4⟩ := ixN_seq hj
  have hl := r.length
  have hn := line63
  have I' : Inv X pins σ (upd H p (.lst (xs.set j v))) { s with heap := s.heap.update p (Obj.mapSeq (·.setIfInBounds j u)) } :=
    I.lstUpd hp ho (mapSeq_set its n j u) (r.set rv j) (by rw [List.length_set]; exact hz) s.toks
  by_cases h0 : 0 ≤ k
  · have hk : k.toNat = j := by
      rw [seqIndex_of h0 h4] at h1
      exact Option.some.inj h1
    exact PySem.W.ki_setAt ho h0 (by omega) (by rw [List.size_toArray, ← hl]; exact h4) (by rw [hk]; exact ⟨_, I', q⟩)
  · have hk : (k + (its.toArray.size : Int)).toNat = j := by
      rw [seqIndex_neg (by omega) h3] at h1
      rw [List.size_toArray, ← hl]
      exact Option.some.inj h1
    exact PySem.W.ki_setBack ho (by omega) (by rw [List.size_toArray, ← hl]; exact h3) (by omega) (by rw [hk]; exact ⟨_, I', q⟩)
theorem slice_bounds (lo hi : Option Int) (n : Nat) : (sliceBounds lo hi none n).1 = ((HT.sIx n 0 lo : Nat) : Int) ∧ (sliceBounds lo hi none n).2.1 = ((HT.sIx n n hi : Nat) : Int) ∧ (sliceBounds lo hi none n).2.2 = 1 := by
  refine ⟨?_, ?_, rfl⟩
  · cases lo with
    | none => simp [sliceBounds, HT.sIx]
    | some i =>
      simp only [sliceBounds, HT.sIx, Option.getD_none, show (1 : Int) > 0 by decide, if_true]
      by_cases h : i < 0
      · simp only [h, if_true] <;> omega
      · simp only [h, if_false] <;> omega
  · cases hi with
    | none => simp [sliceBounds, HT.sIx]
    | some i =>
      simp only [sliceBounds, HT.sIx, Option.getD_none, show (1 : Int) > 0 by decide, if_true]
      by_cases h : i < 0
      · simp only [h, if_true] <;> omega
      · simp only [h, if_false] <;> omega
theorem slicePick_cut (its : List Value) (lo hi : Option Int) : slicePick its.toArray lo hi none = ((its.drop (HT.sIx its.length 0 lo)).take (HT.sIx its.length its.length hi - HT.sIx its.length 0 lo)).toArray := by
  obtain ⟨h1, h2, h3⟩ := slice_bounds lo hi its.toArray.size
  unfold slicePick
  rw [h1, h2, h3]
  simp only [sliceRange_one, pick_run, List.size_toArray] <;> rfl
def rSlL (K : PySem.W.Frag) : V → Option Int → Option Int → Hp → VK → Prop := fun x lo hi H Q => ∃ a xs, x = .ref a ∧ SqL K H a xs ∧ ∀ p, H p = none → Q (.ref p) (upd H p (.lst (cutV xs lo hi)))
theorem sl_list : SlR X (rSlL X.K) := by
  intro pins s σ H x v vl vu lo hi sl Q I rx hs pl pu h
  obtain ⟨a, xs, rfl, hx, q⟩ := h
  cases rx
  obtain ⟨its, r, ht, hz⟩ := I.list hx
  have hlen := r.length
  refine ⟨"list", _, slot_list_getitem.lookup, ht.isList.typeIs, ?_⟩
  refine wpAny_getItem_list_slice ht.isList hs pl pu .none (by simp) ?_ (by rw [List.size_toArray] <;> omega)
  rw [slicePick_cut, ← hlen]
  refine ⟨.ref s.heap.objs.size, _, I.laid (t' := s.toks) (o := .lst (cutV xs lo hi)) (fun b ob q => Heap.get?_push_of_some _ q) (Nat.le_refl _) ?_, rfl, q _ (I.hok.fresh (Nat.le_refl _))⟩
  exact ⟨Nat.le_trans (cutV_length xs lo hi) hz, _, 0, (r.drop (HT.sIx xs.length 0 lo)).take (HT.sIx xs.length xs.length hi - HT.sIx xs.length 0 lo), Heap.get?_push_size _ rfl⟩
theorem call_len_seq : CallR X (.builtin "len") (fun xs H Q => ∃ p ys, xs = [.ref p] ∧ (SqL X.K H p ys ∨ SqT X.K H p ys) ∧ Q (.int ys.length) H) := by
  intro pins s σ H xs us Q I r h
  obtain ⟨p, ys, rfl, hq, q⟩ := h
  obtain ⟨u, rfl, rx⟩ := vals1 r
  cases rx
  have hn := line63
  rcases hq with hq | hq
  · obtain ⟨its, r', pl, hz⟩ := I.list hq
    have hlen := r'.length
    exact Calls.call_len_list pl.isList (by simp only [List.size_toArray] <;> omega) ⟨.int ys.length, H, I.tok _, ⟨s.toks + 1, by rw [List.size_toArray, hlen]⟩, q⟩
  · obtain ⟨its, r', pl, hz⟩ := I.tuple hq
    have hlen := r'.length
    exact len_tuple pl (by simp only [List.size_toArray] <;> omega) ⟨.int ys.length, H, I.tok _, ⟨s.toks + 1, by rw [List.size_toArray, hlen]⟩, q⟩
theorem call_list_of : CallR X (.type "list") (fun xs H Q => ∃ p ys, xs = [.ref p] ∧ (SqL X.K H p ys ∨ SqT X.K H p ys) ∧ ∀ l, H l = none → Q (.ref l) (upd H l (.lst ys))) := by
  intro pins s σ H xs us Q I r h
  obtain ⟨p, ys, rfl, hq, q⟩ := h
  obtain ⟨u, rfl, rx⟩ := vals1 r
  cases rx
  have fin : ∀ (its : List Value), Vals ys its → ys.length ≤ sizeLine → ∀ (h' : Heap) (c' : Nat), (∀ b o', s.heap.get? b = some o' → h'.get? b = some o') →
      h'.get? s.heap.objs.size = some { cls := .type "list", dict := none, data := .seq its.toArray c', slots := #[] } → EP X pins σ Q (.ref s.heap.objs.size) { s with heap := h' } := fun its r' hz h' c' kp e =>
    ⟨.ref s.heap.objs.size, _, I.laid (t' := s.toks) kp (Nat.le_refl _) (show ObjOk X.prog X.w _ h' _ (.lst ys) from ⟨hz, its, c', r', e⟩), rfl, q _ (I.hok.fresh (Nat.le_refl _))⟩
  rcases hq with hq | hq
  · obtain ⟨its, r', pl, hz⟩ := I.list hq
    have hlen := r'.length
    obtain ⟨o, ho, hc, n, hd⟩ := pl.isList
    exact call_list_seq p (.inl rfl) ho hc hd (fun h' c' kp e => fin its r' hz h' c' kp e) (by simp only [List.size_toArray] <;> omega)
  · obtain ⟨its, r', pl, hz⟩ := I.tuple hq
    have hlen := r'.length
    obtain ⟨o, ho, hc, n, hd⟩ := pl
    exact call_list_seq p (.inr rfl) ho hc hd (fun h' c' kp e => fin its r' hz h' c' kp e) (by simp only [List.size_toArray] <;> omega)
theorem call_tuple_of : CallR X (.type "tuple") (fun xs H Q => ∃ p ys, xs = [.ref p] ∧ ((SqL X.K H p ys ∧ ∀ l, H l = none → Q (.ref l) (upd H l (.tup ys))) ∨ (SqT X.K H p ys ∧ Q (.ref p) H))) := by
  intro pins s σ H xs us Q I r h
  obtain ⟨p, ys, rfl, h⟩ := h
  obtain ⟨u, rfl, rx⟩ := vals1 r
  cases rx
  rcases h with ⟨hq, q⟩ | ⟨hq, q⟩
  · obtain ⟨its, r', pl, hz⟩ := I.list hq
    have hlen := r'.length
    refine call_tuple_list pl.isList (fun h' kp => ?_) (by simp only [List.size_toArray] <;> omega)
    have I1 : Inv X pins σ H { s with heap := h' } := I.kept (t' := s.toks) kp
    have I2 : Inv X pins σ (upd H h'.objs.size (.tup ys)) { s with heap := h'.push { cls := .type "tuple", data := .seq its.toArray } } :=
      I1.laid (t' := s.toks) (fun b o e => Heap.get?_push_of_some _ e) (Nat.le_refl _) (show ObjOk X.prog X.w _ _ _ (.tup ys) from ⟨hz, its, r', IsTup.new _ _⟩)
    exact ⟨.ref h'.objs.size, _, I2, rfl, q _ (I1.hok.fresh (Nat.le_refl _))⟩
  · obtain ⟨its, r', pl, hz⟩ := I.tuple hq
    exact call_tuple_same pl ⟨.ref p, H, I, rfl, q⟩
def tyV (K : PySem.W.Frag) (T : String) (x : V) (H : Hp) : Prop := match x with
  | .str _ => T = "str"
  | .int _ => T = "int"
  | .ref p => (T = "list" ∧ ∃ xs, SqL K H p xs) ∨ (T = "tuple" ∧ ∃ o, K.lookup p = some o ∧ o.cls = .type "tuple" ∧ o.dict = none) ∨
      (T = "dict" ∧ ((∃ kvs, H p = some (.dK kvs)) ∨ ∃ kvs, H p = some (.dT kvs))) ∨ (T = "set" ∧ ∃ S n, H p = some (.set S n))
  | _ => False
theorem tyV_is {pins : List (Addr × Obj)} {σ : St} {H : Hp} {s : Shared} {T : String} {x : V} {v : Value} (I : Inv X pins σ H s) (r : RelV x v) (ty : tyV X.K T x H) :
    s.TypeIs v T ∧ ∀ a, v = .ref a → ∃ ob, s.heap.get? a = some ob ∧ ob.dict = none := by
  cases x with
  | str z =>
    obtain ⟨t, rfl⟩ := r
    cases (show T = "str" from ty)
    exact ⟨typeIs_str s z t, fun _ e => nomatch e⟩
  | int i =>
    obtain ⟨t, rfl⟩ := r
    cases (show T = "int" from ty)
    exact ⟨typeIs_int s i t, fun _ e => nomatch e⟩
  | ref p =>
    cases r
    rcases ty with ⟨rfl, xs, hq⟩ | ⟨rfl, o, hk, hc, hd⟩ | ⟨rfl, hk⟩ | ⟨rfl, S, n, hk⟩
    · obtain ⟨its, _, pl, _⟩ := I.list hq
      refine ⟨pl.isList.typeIs, fun a e => ?_⟩
      cases e
      obtain ⟨o, n, e, c, hd, _⟩ := pl
      exact ⟨o, e, hd⟩
    · refine ⟨⟨o, I.kIn p o hk, hc⟩, fun a e => ?_⟩
      cases e
      exact ⟨o, I.kIn _ o hk, hd⟩
    · have z : ∃ o, s.heap.get? p = some o ∧ o.ExactDict := by
        rcases hk with ⟨kvs, hk⟩ | ⟨kvs, hk⟩
        · obtain ⟨_, _, _, _, o, _, _, e, ex, _⟩ := I.hok p _ hk
          exact ⟨o, e, ex⟩
        · obtain ⟨_, _, _, _, o, _, _, e, ex, _⟩ := I.hok p _ hk
          exact ⟨o, e, ex⟩
      obtain ⟨o, e, ex⟩ := z
      refine ⟨⟨o, e, ex.1⟩, fun a e2 => ?_⟩
      cases e2
      exact ⟨o, e, ex.2.1⟩
    · obtain ⟨o, _, _, _, e, ex, _⟩ := I.hok p _ hk
      refine ⟨⟨o, e, ex.1⟩, fun a e2 => ?_⟩
      cases e2
      exact ⟨o, e, ex.2.1⟩
  | _ => exact False.elim ty
def tBM (K : PySem.W.Frag) (T : String) (r : V → List V → Hp → VK → Prop) (to : TE) (t : TA) : TE := fun σ H Q => to σ H fun x H1 => tyV K T x H1 ∧ t σ H1 fun xs H2 => r x xs H2 Q
variable {o e : Expr} {es : List Expr} {to : TE} {t : TA} {name : Str} {apos cpos : Pos} {T id : String} {r : V → List V → Hp → VK → Prop}
theorem pe_bm (pa : PlainAttrs T) (slot : Slot T name id) (hty : typeOf (.builtin id) = pure (.type "method_descriptor")) (hm : MtR X id r) (ho : PE X o to) (ha : PA X (e :: es) t)
    (hbase : attributeBase o name X.env (eval o X.env) = eval o X.env := by rfl)
    (hfew : ((backTo cpos (starEach (e :: es) X.env)).all (fun x => !x.1) && (backToKw cpos (keywordEach [] X.env)).all (fun x => x.1.isSome)
      && decide ((e :: es).length + ([] : List Keyword).length + (if ([] : List Keyword).isEmpty then 0 else 1) < 30)) = true := by rfl)
    (hline : (apos.endLine == cpos.line) = true := by rfl) (hs : starEach (e :: es) X.env = (false, eval e X.env) :: starEach es X.env := by rfl) (hplain : (backTo cpos (starEach es X.env)).any (·.1) = false := by rfl) :
    PE X (.Call (.Attribute o name apos) (e :: es) [] cpos) (tBM X.K T r to t) := by
  intro pins s σ H Q I h
  refine wpAny_Call_method_late hbase hfew hline rfl (thn (ho pins s σ H _ I h) fun v s1 ⟨x, H1, I1, r1, ty, q1⟩ => ?_)
  obtain ⟨h1, h2⟩ := tyV_is I1 r1 ty
  refine ⟨T, id, pa, slot, hty, h1, h2, ?_⟩
  have hA := ha cpos pins s1 σ H1 _ I1 q1
  rw [hs] at hA ⊢
  refine Calls.callWith_builtin (by show (false || (backTo cpos (starEach es X.env)).any (·.1)) = false; rw [hplain] <;> rfl) (Calls.evalArgs_plain ?_)
  exact thn hA fun us s2 ⟨vs, H2, I2, r2, q2⟩ => hm pins s2 σ H2 x vs v us Q I2 r1 r2 q2
end
end L2
namespace L2
open PySem PySem.Spec PyProof.Rows
def MtM (X : Cx) (id : String) (r : V → List V → Hp → VK → Prop) : Prop :=
  ∀ (pins : List (Addr × Obj)) (s : Shared) (σ : St) (H : Hp) (x : V) (xs : List V) (v : Value) (us : List Value) (Q : VK), Inv X pins σ H s → RelV x v → Vals xs us → r x xs H Q →
    wpAny (model X.prog X.w) X.A (call (.builtin id) (v :: us)) (EP X pins σ Q) X.xe s
theorem Vals.one : ∀ {x : V} {us : List Value}, Vals [x] us → ∃ u, us = [u] ∧ RelV x u
  | _, _, .cons r .nil => ⟨_, rfl, r⟩
theorem Vals.zero : ∀ {us : List Value}, Vals [] us → us = []
  | _, .nil => rfl
theorem Vals.reverse {xs : List V} {us : List Value} (h : Vals xs us) : Vals xs.reverse us.reverse := by
  induction h with
  | nil => exact .nil
  | cons r t ih => rw [List.reverse_cons, List.reverse_cons]; exact Vals.append ih (.cons r .nil)
theorem Vals.rep {xs : List V} {us : List Value} (h : Vals xs us) : ∀ k : Nat, Vals (List.replicate k xs).flatten (List.replicate k us).flatten
  | 0 => .nil
  | k + 1 => by
    rw [List.replicate_succ, List.replicate_succ, List.flatten_cons, List.flatten_cons]
    exact Vals.append h (Vals.rep h k)
theorem foldl_rep (its : List Value) : ∀ (k : Nat) (acc : List Value),
    List.foldl (fun x1 x2 => x1 ++ x2) acc.toArray (List.replicate k its.toArray) = (acc ++ (List.replicate k its).flatten).toArray
  | 0, acc => by simp
  | k + 1, acc => by
    have e : acc.toArray ++ its.toArray = (acc ++ its).toArray := by simp
    have e2 : (acc ++ its) ++ (List.replicate k its).flatten = acc ++ (List.replicate (k + 1) its).flatten := by
      rw [List.replicate_succ, List.flatten_cons, List.append_assoc]
    rw [← e2, ← foldl_rep its k (acc ++ its), ← e, List.replicate_succ, List.foldl_cons]
section
variable {X : Cx} {pins : List (Addr × Obj)} {σ : St} {H : Hp} {s : Shared} {l b : Addr} {xs ys zs : List V}
theorem Inv.lset {its its' : List Value} {n : Nat} {f : Array Value → Array Value} {t' : Nat} (I : Inv X pins σ H s) (hH : H l = some (.lst xs))
    (e : s.heap.get? l = some { cls := .type "list", data := .seq its.toArray n }) (hf : f its.toArray = its'.toArray) (hv : Vals ys its') (hz : ys.length ≤ sizeLine) :
    Inv X pins σ (upd H l (.lst ys)) { s with heap := s.heap.update l (Obj.mapSeq f), toks := t' } := by
  have q := PySem.IsL.update e f
  rw [hf] at q
  refine I.write (x := l) (e := l) (by rw [hH]; exact trivial) (.inl rfl) (fun b' u hb hu => (Heap.get?_update_other s.heap (Obj.mapSeq f) (Ne.symm hb)).trans hu) ⟨_, q⟩ ?_
  exact ⟨hz, its', _, hv, q⟩
theorem Inv.lnew {its : List Value} {t' : Nat} (I : Inv X pins σ H s) (hv : Vals ys its) (hz : ys.length ≤ sizeLine) :
    Inv X pins σ (upd H s.heap.objs.size (.lst ys)) { s with heap := s.heap.push { cls := .type "list", data := .seq its.toArray }, toks := t' } :=
  I.laid (fun _ _ q => Heap.get?_push_of_some _ q) (Nat.le_refl _) ⟨hz, its, 0, hv, Heap.get?_push_size _ rfl⟩
theorem Inv.fresh (I : Inv X pins σ H s) : H s.heap.objs.size = none := I.hok.fresh (Nat.le_refl _)
theorem Inv.lstM (I : Inv X pins σ H s) (hH : H l = some (.lst xs)) : xs.length ≤ sizeLine ∧ ∃ (its : List Value) (n : Nat), Vals xs its ∧ xs.length = its.length ∧ s.heap.get? l = some { cls := .type "list", data := .seq its.toArray n } := by
  obtain ⟨z, its, n, r, e⟩ := I.hok l _ hH
  exact ⟨z, its, n, r, r.length, e⟩
theorem notLongL {n : Nat} (h : n ≤ sizeLine) : Builtin.List.listTooLong n = false := by
  unfold Builtin.List.listTooLong
  exact decide_eq_false (by omega)
end
section
variable {X : Cx}
def rAppend : V → List V → Hp → VK → Prop := fun x vs H Q => ∃ l xs y, x = .ref l ∧ vs = [y] ∧ H l = some (.lst xs) ∧ xs.length < sizeLine ∧ Q .non (upd H l (.lst (xs ++ [y])))
theorem mt_append : MtM X "list.append" rAppend := by
  intro pins s σ H x vs v us Q I rx rv h
  obtain ⟨l, xs, y, rfl, rfl, hH, hz, q⟩ := h
  cases rx
  obtain ⟨u, rfl, ru⟩ := rv.one
  obtain ⟨z, its, n, r, hl, e⟩ := I.lstM hH
  refine call_meets F.slot_list_append ⟨_, e, rfl⟩ F.entry_list_append (F.args_list_append_2 _ _) (PySem.list_append l its.toArray n u (by rw [List.size_toArray]; omega)) ⟨e, ?_⟩
  refine ⟨.non, _, I.lset (its' := its ++ [u]) hH e (by simp) (r.append (.cons ru .nil)) ?_, rfl, q⟩
  rw [List.length_append, List.length_singleton]
  omega
def rCat : R2 := fun x y H Q => ∃ l b xs zs, x = .ref l ∧ y = .ref b ∧ H l = some (.lst xs) ∧ H b = some (.lst zs) ∧ xs.length + zs.length ≤ sizeLine ∧ ∀ p, H p = none → Q (.ref p) (upd H p (.lst (xs ++ zs)))
theorem op_cat : OpR X (binaryOp .Add) rCat := by
  intro pins s σ H x y v u Q I rx ry h
  obtain ⟨l, b, xs, zs, rfl, rfl, hH, hB, hz, q⟩ := h
  cases rx
  cases ry
  obtain ⟨z, its, n, r, hl, e⟩ := I.lstM hH
  obtain ⟨z2, its2, n2, r2, hl2, e2⟩ := I.lstM hB
  refine PySem.P.add_list e e2 ?_ (by rw [List.size_toArray, List.size_toArray]; omega)
  have ea : its.toArray ++ its2.toArray = (its ++ its2).toArray := by simp
  rw [ea]
  exact ⟨.ref _, _, I.lnew (t' := s.toks) (r.append r2) (by rw [List.length_append]; omega), rfl, q _ I.fresh⟩
def rRep : R2 := fun x y H Q => ∃ l k xs, x = .ref l ∧ y = .int k ∧ H l = some (.lst xs) ∧ -(2 ^ 63) ≤ k ∧ k < 2 ^ 63 ∧ xs.length * k.toNat ≤ sizeLine ∧
  ∀ p, H p = none → Q (.ref p) (upd H p (.lst (List.replicate k.toNat xs).flatten))
theorem len_rep {α : Type} (xs : List α) (k : Nat) : (List.replicate k xs).flatten.length = k * xs.length := by
  induction k with
  | zero => simp
  | succ k ih => rw [List.replicate_succ, List.flatten_cons, List.length_append, ih, Nat.succ_mul, Nat.add_comm]
theorem op_rep : OpR X (binaryOp .Mult) rRep := by
  intro pins s σ H x y v u Q I rx ry h
  obtain ⟨l, k, xs, rfl, rfl, hH, h1, h2, hz, q⟩ := h
  cases rx
  obtain ⟨t, rfl⟩ := ry
  obtain ⟨z, its, n, r, hl, e⟩ := I.lstM hH
  have hlen : its.toArray.size * k.toNat ≤ sizeLine := by rw [List.size_toArray, ← hl]; exact hz
  have hcap : ¬ its.toArray.size * k.toNat > (2 ^ 63 - 1) / 8 := by
    have : (sizeLine : Nat) ≤ (2 ^ 63 - 1) / 8 := by decide
    omega
  have hfit : ¬ (!Builtin.List.listFitsIndex k) = true := by
    rw [fitsIndex_both h1 h2]
    exact Bool.false_ne_true
  have hlong : ¬ Builtin.List.listTooLong (its.toArray.size * k.toNat) = true := by
    rw [notLongL hlen]
    exact Bool.false_ne_true
  have hnew : List.foldl (fun x1 x2 => x1 ++ x2) #[] (List.replicate (if its.toArray.isEmpty = true then 0 else k.toNat) its.toArray) = (List.replicate k.toNat its).flatten.toArray := by
    have f0 : ∀ m : Nat, List.foldl (fun x1 x2 => x1 ++ x2) #[] (List.replicate m its.toArray) = (List.replicate m its).flatten.toArray := fun m => by
      have := foldl_rep its m []
      rw [List.nil_append] at this
      exact this
    rw [f0]
    cases its with
    | nil => simp
    | cons a r' => rw [if_neg (by simp)]
  refine wpAny_binaryOp_repeat_ref (T := "list") (U := "int") (by decide) ⟨_, e, rfl⟩ (fun s' => typeIs_int s' k t) noFill_list_mul F.fills_int_mul F.slot_int_rmul repeat_list F.slot_int_index.lookup
    (call_meets F.slot_int_rmul (typeIs_int s k t) F.entry_int_rmul (F.args_int_rmul_2 _ _) (int___rmul___int_list k t l its.toArray n)
      ⟨e, rfl, ⟨_, e, rfl⟩, call_meets F.slot_list_mul ⟨_, e, rfl⟩ F.entry_list_mul (F.args_list_mul_2 _ _) (AutoListH.list___mul___list_int_3 l its.toArray n k t hfit hcap hlong) ⟨e, ?_⟩⟩)
  rw [hnew]
  exact ⟨.ref _, _, I.lnew (t' := s.toks) (r.rep k.toNat) (by rw [len_rep, Nat.mul_comm]; exact hz), rfl, q _ I.fresh⟩
end
section
variable {prog : Program} {w : World} {A : Around} {E : Value → Shared → Prop} {s : Shared}
end
section
variable {X : Cx}
end
end L2
namespace Att
open PySem PySem.W PySem.Calls PyProof.Rows
theorem ints_of_wellAll {P : Params} {h : Heap} : ∀ (ns : List Int) (vs : List Value), WellAll P h vs (ns.map WData.int) → IntsAre vs ns := by
  intro ns
  induction ns with
  | nil =>
    intro vs w
    rw [List.map_nil] at w
    cases w
    exact .nil
  | cons n ns ih =>
    intro vs w
    rw [List.map_cons] at w
    cases w with
    | cons a b =>
      cases a
      exact .cons _ _ (ih _ b)
theorem script_of {l : OpenLaw} {n : Nat} (hn : l.most = some n) {P : Params} {h : Heap} {args : List WData} {vals : List Value}
    (hpre : l.row.toRowW.claim.pre args = true) (hwl : WellAll P h vals args) :
    ∃ a vs ns, vals = [Value.ref a] ∧ args = [WData.list (ns.map WData.int)] ∧ h.get? a = some { cls := .type "list", data := .seq vs.toArray } ∧ IntsAre vs ns ∧ ns.length ≤ n := by
  have hsh : WShape.hasAll [] args [.list .int] = true := (pre_splitW hpre).1
  have hc : l.pre.holds [] { args := args } = true := (pre_splitW hpre).2
  obtain ⟨d, r, rfl, h1, h2⟩ := hasAllW_cons hsh
  obtain rfl := hasAllW_nil h2
  obtain ⟨xs, rfl, h3⟩ := hasW_list h1
  obtain ⟨ns, rfl⟩ := items_int h3
  have hlen : ns.length ≤ n := by
    unfold OpenLaw.pre at hc
    have h4 : (WTm.not (.lt (.lit (.int (n : Int))) (.len (.arg 0)))).holds [] { args := [.list (ns.map .int)] } = true := by
      have h4 := (holds_andW hc).1
      rw [hn] at h4
      exact h4
    have h5 := condW_of h4 (w_not (w_lt w_lit (w_len_list (w_arg rfl))))
    rw [List.length_map] at h5
    refine Nat.le_of_not_lt fun q => ?_
    have q' : (n : Int) < ((ns.length : Nat) : Int) := by omega
    first
      | (rw [decide_eq_true q'] at h5; exact absurd h5 (by decide))
      | (simp at h5; omega)
  cases hwl with
  | cons w1 w2 =>
    cases w2
    cases w1 with
    | list ho hall => exact ⟨_, _, ns, rfl, rfl, ho, ints_of_wellAll ns _ hall, hlen⟩
theorem post_true (l : OpenLaw) (args : List WData) : l.row.toRowW.claim.post args (.bool true) args = true :=
  postW_of (r := l.row.toRowW) (X := (true == true))
    (show WShape.has [] (.bool true) .bool = true by first | rfl | decide | simp [WShape.has, WShape.arms, WShape.armsAll])
    (show (WTm.eq .res (.lit (.bool true))).value [] { args := args, res := some (.bool true), after := args } = some (.bool (true == true)) from w_eq_bool (w_res rfl) w_lit) rfl
theorem attach_call {l : OpenLaw} {n : Nat} {q : Program} {loose : List Str} {XP : (Str → Option Value) → Heap → Prop} {YP : World → Heap → Prop} {d : DefRec}
    (hn : l.most = some n) (hdf : d.params.defaults = [])
    (call : ∀ (w : World) (s₀ s₁ : Shared) (mg mb : Str → Option Value) (fa : Addr) (o : Obj) (pm cd doc : Value) (a : Addr) (vs : List Value) (ns : List Int),
      Ground q loose [] XP w s₀ mg mb s₁.heap → YP w s₁.heap →
      s₁.heap.get? fa = some o → o.data = .func (docDef d.name d.params d.body d.scope pm cd doc) → s₁.heap.CodeRec cd d.name → mg d.name = some (.ref fa) →
      s₁.heap.get? a = some { cls := .type "list", data := .seq vs.toArray } → IntsAre vs ns → ns.length ≤ n → s₁.gens = #[] →
      codeAny (model l.prog w) callerA (.call (.ref fa) ⟨[.ref a], []⟩) (fun r s' => r = .ok (.ret (.bool true)) ∧ OldK s₁.heap s'.heap ∧ s'.os = s₁.os ∧ AllBare s'.gens) s₁) :
    WalkO q loose XP YP l.row.toRowW d [] (fun f vs => PySem.call f vs) := by
  intro w s₀ s₁ mg mb G Y fa o pm cd doc dV kV ho hd hcd hD hmg hg args vals as hpre hlay hrd hwl hlo
  obtain rfl : dV = .none := Dflts.none hD hdf
  obtain rfl : kV = .none := Dflts.noKw hD
  obtain ⟨a, vs, ns, rfl, rfl, hobj, hints, hlen⟩ := script_of hn hpre hwl
  refine enter_call (codeAny_mono (call w s₀ s₁ mg mb fa o pm cd doc a vs ns G Y ho (fd_plain hd) hcd hmg hobj hints hlen hg) fun r s' hq => ?_)
  obtain ⟨rfl, h2, h3, h4⟩ := hq
  exact ⟨.inl ⟨.bool true, .bool true, [], rfl, fun _ => rfl, .bool true, post_true l _, fun _ => ⟨List.Pairwise.nil, fun _ hm => (nomatch hm)⟩⟩, h2, h3, h4⟩
section
variable {prog : Program} {w : World} {A : Around} {E : Value → Shared → Prop} {s : Shared} {K : Frag}
end
end Att
namespace L2
open PySem PySem.Spec PyProof.Rows
theorem vals_ints : ∀ {vs : List Value} {ns : List Int}, IntsAre vs ns → Vals (ns.map V.int) vs
  | _, _, .nil => .nil
  | _, _, .cons n t h => .cons ⟨t, rfl⟩ (vals_ints h)
def Only (H : Hp) : Prop := ∀ b, H b = none ∨ ∃ o xs, H b = some (.frz o (.lst xs))
theorem law_call {P : Program} {w : World} {K : PySem.W.Frag} {mg mb : Str → Option Value} {CX : CXT} {k : Nat} {fa a : Addr} {fd : FuncData} {x : Str} {sp : Sp} {s₁ : Shared} {vs : List Value} {ns : List Int}
    (KX : K.In s₁.heap) (hns : s₁.heap.Ns mainGlobals mg) (hb : s₁.heap.Ns builtinsNs mb) (hbb : ∀ x : Str, x ≠ "__name__" → mb x = bootBuiltins x) (hlim : s₁.heap.NoLimit) (hg : s₁.gens = #[])
    (ha : s₁.heap.get? a = some { cls := .type "list", data := .seq vs.toArray }) (hi : IntsAre vs ns) (hl : ns.length ≤ sizeLine) (hr : Room k callerA)
    (F : ∀ base : Heap, K.In base → base.Ns mainGlobals mg → FnOk P w K mg base CX k fa fd [x] sp) (hbind : ∀ (s : Shared) (u : Value), BindsTo s fd ⟨[u], []⟩ [(x, u)])
    (hsp : ∀ H : Hp, Only H → SqL K H a (ns.map V.int) → sp [.ref a] H (fun v _ => v = .bl true) fun _ _ _ => False)
    (hCX : ∀ H e s', CX [] H s₁ (fun _ _ _ => False) e s' → False) :
    codeAny (model P w) callerA (.call (.ref fa) ⟨[.ref a], []⟩) (fun r s' => r = .ok (.ret (.bool true)) ∧ OldK s₁.heap s'.heap ∧ s'.os = s₁.os ∧ AllBare s'.gens) s₁ := by
  have rv := vals_ints hi
  have lenV := hi.length
  have core : ∀ H : Hp, Only H → SqL K H a (ns.map V.int) → HOk P w H s₁.heap → (∀ b, H b ≠ none → b = a) → (H a ≠ none → K.lookup a = none) →
      codeAny (model P w) callerA (.call (.ref fa) ⟨[.ref a], []⟩) (fun r s' => r = .ok (.ret (.bool true)) ∧ OldK s₁.heap s'.heap ∧ s'.os = s₁.os ∧ AllBare s'.gens) s₁ := by
    intro H hO hS hok hA hK
    have base_of : ∀ {b : Addr} {o : Obj}, s₁.heap.get? b = some o → H b = none → (hidT s₁.heap H).get? b = some o := fun e n => hidT_get e n
    have noA : ∀ {b : Addr} {o : Obj} {es : Array DictEntry} {ep : Nat}, s₁.heap.get? b = some o → o.data = .dict es ep → H b = none := fun {b o es ep} e d => by
      cases q : H b with
      | none => rfl
      | some u =>
        have e' : b = a := hA b (by rw [q]; simp)
        subst e'
        rw [ha] at e; cases e
        have d' : Data.seq vs.toArray _ = Data.dict es ep := d
        cases d'
    have nsK : ∀ {b : Addr} {m : Str → Option Value}, s₁.heap.Ns b m → (hidT s₁.heap H).Ns b m := fun {b m} ⟨o, es, ep, e, d, r⟩ => ⟨o, es, ep, base_of e (noA e d), d, r⟩
    have hKb : K.In (hidT s₁.heap H) := fun b o e => base_of (KX b o e) (by
      cases q : H b with
      | none => rfl
      | some u =>
        have e' : b = a := hA b (by rw [q]; simp)
        subst e'
        rw [hK (by rw [q]; simp)] at e; cases e)
    have hM : Mod K mg (hidT s₁.heap H) := ⟨hKb, nsK hns, ⟨mb, nsK hb, hbb⟩, let ⟨mc, h1, h2⟩ := hlim; ⟨mc, nsK h1, h2⟩⟩
    have e0 : Env0 P w K mg (hidT s₁.heap H) callerA [] s₁ H := ⟨rfl, hM, fun b o e => of_hidT e, Nat.le_of_eq (hidT_size _ _), trivial, fun b hb => absurd (show b ∈ ([] : List Addr) from hb) (by simp), hok, .of_eq hg⟩
    refine codeAny_mono ((F _ hKb (nsK hns)).run callerA [] s₁ H ⟨[.ref a], []⟩ [.ref a] [.ref a] _ _ hr e0 (hbind s₁ (.ref a)) (.cons rfl .nil) (hsp H hO hS)) fun r s' h => ?_
    cases r with
    | error e => exact (hCX H e s' h).elim
    | ok fl =>
      cases fl with
      | next => exact False.elim h
      | brk => exact False.elim h
      | cont => exact False.elim h
      | ret u =>
        obtain ⟨v, H', os, bare, un, hok', r', q⟩ := h
        have q' : v = .bl true := q
        subst q'
        obtain rfl : u = Value.bool true := r'
        refine ⟨rfl, OldK.of_keep fun b o e => ?_, os, bare⟩
        cases q : H b with
        | none => exact un.keep b o e q (by intro z; exact absurd (show b ∈ ([] : List Addr) from z) (by simp)) (by simp)
        | some u =>
          rcases hO b with z | ⟨ob, xs, z⟩
          · rw [q] at z; cases z
          · have z2 := un.frzs b ob _ z
            obtain ⟨e1, _⟩ := hok b _ z
            obtain ⟨e2, _⟩ := hok' b _ z2
            rw [e] at e1; cases e1
            exact e2
  cases hk : K.lookup a with
  | some o =>
    have e := KX a o hk
    rw [ha] at e
    cases e
    refine core (fun _ => none) (fun _ => .inl rfl) (.inr ⟨_, vs.toArray, _, hk, rfl, rfl, rfl, by rw [List.size_toArray, lenV]; exact hl, by simpa using rv⟩) (fun b u z => by have z' : (none : Option HO) = some u := z; cases z') (fun b z => absurd rfl z) fun z => absurd rfl z
  | none =>
    refine core (fun b => if b = a then some (.frz { cls := .type "list", data := .seq vs.toArray } (.lst (ns.map V.int))) else none) (fun b => ?_) (.inl (.inr ⟨{ cls := .type "list", data := .seq vs.toArray }, if_pos rfl⟩)) (fun b u z => ?_) (fun b z => ?_) fun _ => hk
    · by_cases hb : b = a
      · exact .inr ⟨_, _, if_pos hb⟩
      · exact .inl (if_neg hb)
    · by_cases hb : b = a
      · have z' := (if_pos hb).symm.trans z
        cases z'
        subst hb
        exact ⟨ha, by rw [List.length_map]; exact hl, vs, _, rv, ha⟩
      · have z' := (if_neg hb).symm.trans z
        cases z'
    · by_cases hb : b = a
      · exact hb
      · exact absurd (if_neg hb) z
end L2
namespace L2
open PySem PySem.Spec PyProof.Rows
theorem walk_of {l : PySem.W.OpenLaw} {n k : Nat} {q : Program} {loose : List Str} {XP : (Str → Option Value) → Heap → Prop} {YP : World → Heap → Prop} {d : DefRec} {K : Params → PySem.W.Frag} {CX : World → CXT} {sp : World → Sp} {x : Str}
    (hn : l.most = some n) (hn2 : n ≤ sizeLine) (hdf : d.params.defaults = []) (hr : Room k callerA)
    (hY : ∀ (w : World) (h : Heap), YP w h → (K w.params).In h)
    (F : ∀ (w : World) (mg : Str → Option Value) (fa : Addr) (h : Heap), (K w.params).In h → h.Ns mainGlobals mg → mg d.name = some (.ref fa) →
      ∃ fd : FuncData, (∀ (s : Shared) (u : Value), BindsTo s fd ⟨[u], []⟩ [(x, u)]) ∧
        ∀ base : Heap, (K w.params).In base → base.Ns mainGlobals mg → FnOk l.prog w (K w.params) mg base (CX w) k fa fd [x] (sp w))
    (hsp : ∀ (w : World) (H : Hp) (a : Addr) (ns : List Int), ns.length ≤ n → Only H → SqL (K w.params) H a (ns.map V.int) → sp w [.ref a] H (fun v _ => v = .bl true) fun _ _ _ => False)
    (hCX : ∀ (w : World) (H : Hp) (s : Shared) (e : Value) (s' : Shared), CX w [] H s (fun _ _ _ => False) e s' → False) :
    PySem.W.WalkO q loose XP YP l.row.toRowW d [] (fun f vs => PySem.call f vs) := by
  refine Att.attach_call hn hdf fun w s₀ s₁ mg mb fa o pm cd doc a vs ns G Y ho hd hcd hmg hobj hints hlen hg => ?_
  have KX := hY w _ Y
  obtain ⟨fd, hb, hF⟩ := F w mg fa _ KX G.T.g hmg
  exact law_call KX G.T.g G.T.b G.T.builtins G.T.nolimit hg hobj hints (Nat.le_trans hlen hn2) hr hF hb (fun H hO hS => hsp w H a ns hlen hO hS) fun H e s' => hCX w H s₁ e s'
end L2
namespace L2
open PySem PySem.Spec PyProof.Rows
def defArgs (s : Stmt) : Arguments := match s with
  | .FunctionDef _ a _ _ _ _ _ _ _ _ => a
  | _ => { posonlyargs := [], args := [], vararg := none, kwonlyargs := [], kw_defaults := [], kwarg := none, defaults := [] }
def defBody (s : Stmt) : List Stmt := match s with
  | .FunctionDef _ _ b _ _ _ _ _ _ _ => b
  | _ => []
def defScope (s : Stmt) : Scope := match s with
  | .FunctionDef _ _ _ _ _ _ sc _ _ _ => sc
  | _ => { kind := .function, names := [], isGenerator := false, isCoroutine := false }
abbrev CX0 : CXT := fun _ _ _ _ _ _ => False
abbrev E0 : XK := fun _ _ _ => False
theorem pass0 {X : Cx} : Passes CX0 X E0 := fun _ _ _ _ _ _ _ h => h.elim
structure Fun (K : PySem.W.Frag) (x qual : Str) (st : Stmt) (f : Addr) (fd : FuncData) : Prop where
  ex : ∃ (oc : Value) (od : Option Addr) (kV doc pm : Value) (an : Option Addr) (cdv ct : Value) (osl : Array (Option Value)),
    fd = PySem.W.fnOf x qual (defArgs st) (defBody st) (defScope st) .none kV doc pm an cdv ct ∧ K.lookup f = some ⟨oc, od, .func fd, osl⟩ ∧ PySem.W.codeIn K cdv qual = true
  kp : PySem.W.keepIn K (.ref f) = true
section
variable {P : Program} {w : World} {K : PySem.W.Frag} {mg : Str → Option Value} {base : Heap}
theorem Fun.ok {x qual : Str} {st : Stmt} {f : Addr} {fd : FuncData} {N ps : List Str} {k : Nat} {sp : Sp} (F : Fun K x qual st f fd) (S : FnScope N ps (defScope st)) (len : ∀ vs H Q E, sp vs H Q E → vs.length = ps.length)
    (hbody : ∀ (cdv : Value) (A : Around) (outer : List Env) (s : Shared) (H : Hp) (vs : List V) (Q : VK) (E : XK), Room k (A.deeper (envOfC qual (defScope st) s.heap.objs.size f cdv)) → sp vs H Q E →
      ∃ t, PSs (cxOf CX0 P w K mg base N qual (defScope st) f cdv A outer s H E).nox (defBody st) t ∧ t { nx := fun _ H' => Q .non H', rt := Q } (start N vs) H) : FnOk P w K mg base CX0 (k + 1) f fd ps sp := by
  obtain ⟨oc, od, kV, doc, pm, an, cdv, ct, osl, rfl, lk, hcd⟩ := F.ex
  refine fn_of lk hcd S len fun A outer s H vs Q E hr hsp => ?_
  obtain ⟨t, h, q⟩ := hbody cdv A outer s H vs Q E hr hsp
  exact ⟨t, h.nox, q⟩
theorem Fun.binds {x qual : Str} {st : Stmt} {f : Addr} {fd : FuncData} {ps : List Str} (F : Fun K x qual st f fd)
    (h : ∀ (kV doc pm : Value) (an : Option Addr) (cdv ct : Value) (us : List Value), us.length = ps.length → bindArgs (PySem.W.fnOf x qual (defArgs st) (defBody st) (defScope st) .none kV doc pm an cdv ct) ⟨us, []⟩ = pure (ps.zip us)) : Binds K fd ps [] := by
  obtain ⟨oc, od, kV, doc, pm, an, cdv, ct, osl, rfl, lk, hcd⟩ := F.ex
  exact .all (h kV doc pm an cdv ct)
theorem fun_mk {x qual : Str} {st : Stmt} {f : Addr} {oc : Value} {od an : Option Addr} {osl : Array (Option Value)} {kV doc pm cdv ct : Value} (l : K.lookup f = some ⟨oc, od, .func (PySem.W.fnOf x qual (defArgs st) (defBody st) (defScope st) .none kV doc pm an cdv ct), osl⟩)
    (c : PySem.W.codeIn K cdv qual = true) (k : PySem.W.keepIn K (.ref f) = true) : Fun K x qual st f (PySem.W.fnOf x qual (defArgs st) (defBody st) (defScope st) .none kV doc pm an cdv ct) := ⟨⟨oc, od, kV, doc, pm, an, cdv, ct, osl, rfl, l, c⟩, k⟩
end
section
variable {X : Cx}
theorem pv (i : Nat) {x : Str} {pos : Pos} (hN : X.N[i]? = some x := by rfl) (hv : Vis X.env.scope x := by first | exact Or.inl rfl | exact Or.inr (Or.inl rfl) | exact Or.inr (Or.inr rfl)) (hd : (x == ("__debug__" : Str)) = false := by decide)
    (hcd : (x == ("__classdict__" : Str)) = false := by decide) : PE X (.Name x pos) (tVar i) := pe_var hN hv hd hcd
end
theorem iteF {A B : Prop} (h : B) : if false = true then A else B := by
  rw [if_neg Bool.false_ne_true]
  exact h
theorem iteT {A B : Prop} (h : A) : if true = true then A else B := by
  rw [if_pos rfl]
  exact h
theorem ite2 {c A B : Prop} [Decidable c] (h1 : c → A) (h2 : ¬ c → B) : if c then A else B := by
  by_cases h : c
  · rw [if_pos h]
    exact h1 h
  · rw [if_neg h]
    exact h2 h
def Same (H H' : Hp) : Prop := ∀ b o, H b = some o → H' b = some o
theorem Same.refl (H : Hp) : Same H H := fun _ _ h => h
theorem Same.trans {H H1 H2 : Hp} (a : Same H H1) (b : Same H1 H2) : Same H H2 := fun c o h => b c o (a c o h)
theorem Same.free {H H' : Hp} (e : Same H H') {l : Addr} (h : H' l = Option.none) : H l = Option.none := by
  cases q : H l with
  | none => rfl
  | some o =>
    rw [e l o q] at h
    cases h
theorem Same.seq {K : PySem.W.Frag} {H H' : Hp} {a : Addr} {xs : List V} (e : Same H H') (h : SqL K H a xs) : SqL K H' a xs := by
  rcases h with (h | ⟨o, h⟩) | h
  · exact .inl (.inl (e _ _ h))
  · exact .inl (.inr ⟨o, e _ _ h⟩)
  · exact .inr h
end L2
set_option Elab.async false
set_option linter.all false
set_option maxRecDepth 100000
namespace L2
open PySem PySem.Spec PyProof.Rows
def closOf (cells : List (Str × Addr)) : List (Str × NameKind) → List (Str × Addr) → List (Str × Addr)
  | [], cs => cs
  | (n, k) :: r, cs => closOf cells r (if k = .free then (match cells.lookup n with | some c => (n, c) :: cs | none => cs) else cs)
theorem closureFor_loop {env : Env} : ∀ (names : List (Str × NameKind)) (cs : List (Str × Addr)), (∀ x ∈ names, x.2 = .free → ∃ c, env.cells.lookup x.1 = some c) →
    (forIn names cs fun (x : Str × NameKind) (r : List (Str × Addr)) => if (x.2 == .free) = true then (do let c ← cellOf env x.1; pure (ForInStep.yield ((x.1, c) :: r)) : Sem _) else pure (ForInStep.yield r)) = pure (closOf env.cells names cs)
  | [], cs, _ => rfl
  | (n, k) :: r, cs, h => by
    have ih := fun cs' => closureFor_loop (env := env) r cs' fun x hx => h x (List.mem_cons_of_mem _ hx)
    rw [List.forIn_cons]
    by_cases hk : k = .free
    · subst hk
      obtain ⟨c, hc⟩ := h (n, .free) List.mem_cons_self rfl
      have e : cellOf env n = pure c := by unfold cellOf; rw [hc]
      simp only [beq_self_eq_true, if_true, e, pure_bind, closOf, hc]
      exact ih _
    · have hb : (k == NameKind.free) = false := by simpa using hk
      simp only [hb, Bool.false_eq_true, if_false, pure_bind, closOf, hk]
      exact ih _
theorem closureFor_eq {scope : Scope} {env : Env} (h : ∀ x ∈ scope.names, x.2 = .free → ∃ c, env.cells.lookup x.1 = some c) : closureFor scope env = pure (closOf env.cells scope.names []) := by
  have e := closureFor_loop scope.names [] h
  unfold closureFor
  first
    | (simp only [bind_pure]; exact e)
    | (show (forIn scope.names [] _ >>= fun r => pure r) = _
       rw [show (forIn scope.names ([] : List (Str × Addr)) _ : Sem _) = _ from e]
       rfl)
theorem closOf_sub {cells : List (Str × Addr)} {y : Str} {c : Addr} : ∀ {names : List (Str × NameKind)} {cs : List (Str × Addr)}, (∀ y c, cs.lookup y = some c → cells.lookup y = some c) → (closOf cells names cs).lookup y = some c → cells.lookup y = some c
  | [], cs, h, e => h y c e
  | (n, k) :: r, cs, h, e => by
    refine closOf_sub (names := r) ?_ e
    intro y' c' e'
    by_cases hk : k = .free
    · rw [if_pos hk] at e'
      cases q : cells.lookup n with
      | none => rw [q] at e'; exact h _ _ e'
      | some d =>
        rw [q] at e'
        simp only [List.lookup_cons] at e'
        cases hb : y' == n with
        | true =>
          rw [hb] at e'
          cases e'
          have : y' = n := by simpa using hb
          rw [this]; exact q
        | false => rw [hb] at e'; exact h _ _ e'
    · rw [if_neg hk] at e'; exact h _ _ e'
theorem closOf_has {cells : List (Str × Addr)} {y : Str} : ∀ {names : List (Str × NameKind)} {cs : List (Str × Addr)}, ((∃ c, cs.lookup y = some c) ∨ ((y, NameKind.free) ∈ names ∧ ∃ c, cells.lookup y = some c)) → ∃ c, (closOf cells names cs).lookup y = some c
  | [], cs, h => by
    rcases h with h | ⟨h, _⟩
    · exact h
    · cases h
  | (n, k) :: r, cs, h => by
    refine closOf_has (names := r) ?_
    rcases h with ⟨c, h⟩ | ⟨h, c, hc⟩
    · left
      by_cases hk : k = .free
      · rw [if_pos hk]
        cases q : cells.lookup n with
        | none => exact ⟨c, h⟩
        | some d =>
          simp only [List.lookup_cons]
          cases hb : y == n with
          | true => exact ⟨d, rfl⟩
          | false => exact ⟨c, h⟩
      · rw [if_neg hk]; exact ⟨c, h⟩
    · rcases List.mem_cons.mp h with e | h
      · cases e
        left
        rw [if_pos rfl, hc]
        exact ⟨c, by simp⟩
      · exact .inr ⟨h, c, hc⟩
theorem lookup_relabel {env : Env} : ∀ {names : List (Str × NameKind)} {x : Str} {k : NameKind},
    (names.map fun (n, k) => if (k == NameKind.free && env.scope.kind == .function && env.kindOf n == some .cell) then (n, NameKind.cell) else (n, k)).lookup x = some k → names.lookup x = some k ∨ (k = .cell ∧ names.lookup x = some .free)
  | [], _, _, h => by simp at h
  | (n, k0) :: r, x, k, h => by
    have ih := @lookup_relabel env r x k
    rw [List.map_cons] at h
    by_cases hc : (k0 == NameKind.free && env.scope.kind == .function && env.kindOf n == some .cell) = true
    · simp only [hc, if_true, List.lookup_cons] at h
      have hk0 : k0 = .free := by
        simp only [Bool.and_eq_true] at hc
        simpa using hc.1.1
      cases hx : x == n with
      | true => rw [hx] at h; cases h; right; simp [List.lookup_cons, hx, hk0]
      | false => rw [hx] at h; simp only [List.lookup_cons, hx]; exact ih h
    · have hc' : (k0 == NameKind.free && env.scope.kind == .function && env.kindOf n == some .cell) = false := by simpa using hc
      simp only [hc', Bool.false_eq_true, if_false, List.lookup_cons] at h
      cases hx : x == n with
      | true => rw [hx] at h; cases h; left; simp [List.lookup_cons, hx]
      | false => rw [hx] at h; simp only [List.lookup_cons, hx]; exact ih h
def cxC (X : Cx) (N : List Str) (scope : Scope) (C : Addr) (s₀ : Shared) (H₀ : Hp) (ex : List Addr) : Cx where
  prog := X.prog
  w := X.w
  K := X.K
  mg := X.mg
  base := X.base
  A := X.A
  N := N
  s₀ := s₀
  H₀ := H₀
  env := compEnvC scope (closOf X.env.cells scope.names []) C X.env
  outer := X.stack
  stack := X.stack
  ex := ex
  fn := fun _ => false
  calm := X.calm
  pn := []
  xe := fun _ _ => False
def capt (js : List Nat) (σ : St) : St := js.map fun j => (σ[j]?).join
theorem capt_get {js : List Nat} {σ : St} {i : Nat} {v : V} (h : (capt js σ)[i]? = some (some v)) : ∃ j, js[i]? = some j ∧ σ[j]? = some (some v) := by
  unfold capt at h
  rw [List.getElem?_map] at h
  cases e : js[i]? with
  | none => rw [e] at h; cases h
  | some j =>
    rw [e] at h
    have h' : (σ[j]?).join = some v := Option.some.inj h
    refine ⟨j, rfl, ?_⟩
    cases q : σ[j]? with
    | none => rw [q] at h'; cases h'
    | some z => rw [q] at h'; exact congrArg some h'
structure CScope (sc : Scope) (scope : Scope) (x : Str) (M : List Str) (ys : List Str) (js : List Nat) : Prop where
  kind : scope.kind = .function
  cell : ∀ y ∈ scope.names, y.2 ≠ .cell
  loc : ∀ y ∈ scope.names, y.2 = .local → scope.names.lookup y.1 = some .local
  var : scope.names.lookup x = some .local
  free : ∀ y ∈ scope.names, y.2 = .free → sc.names.lookup y.1 = some .cell ∨ sc.names.lookup y.1 = some .free
  caps : js.map (M[·]?) = ys.map some
  fr : ∀ y ∈ ys, scope.names.lookup y = some .free
  nd : (x :: ys).Nodup
section
variable {X : Cx} {pins : List (Addr × Obj)} {σ : St} {H : Hp} {s : Shared}
theorem inv_comp {scope : Scope} {x : Str} {ys : List Str} {js : List Nat} {fp : List Addr} {h₁ : Heap} {tk : Nat} {C : Addr} (I : Inv X pins σ H s) (S : CScope X.env.scope scope x X.N ys js) (hf : ∀ b ∈ fp, FpOk X pins H b) (ho : ∀ b ∈ fp, ∃ o, s.heap.get? b = some o)
    (hC : s.heap.objs.size ≤ C) (hk : ∀ b o, s.heap.get? b = some o → h₁.get? b = some o) (hn : h₁.Ns C fun _ => none) :
    Inv (cxC X (x :: ys) scope C s H fp) [] (none :: capt js σ) H { s with heap := h₁, toks := tk } := by
  have sub : ∀ y c, (closOf X.env.cells scope.names []).lookup y = some c → X.env.cells.lookup y = some c := fun y c e => closOf_sub (fun _ _ z => by simp at z) e
  have has : ∀ y, scope.names.lookup y = some .free → ∃ c, (closOf X.env.cells scope.names []).lookup y = some c := fun y e => by
    have m : (y, NameKind.free) ∈ scope.names := PySem.mem_of_lookup e
    exact closOf_has (.inr ⟨m, I.ok.has y (S.free _ m rfl)⟩)
  have lt : ∀ b ∈ fp, b < s.heap.objs.size := fun b hb => by obtain ⟨o, e⟩ := ho b hb; exact Heap.lt_size e
  have ok : (cxC X (x :: ys) scope C s H fp).Ok := by
    refine ⟨I.ok.mod, S.kind, I.ok.glob, I.ok.blt, hC, fun y z c e1 e2 => I.ok.inj y z c (sub _ _ e1) (sub _ _ e2), fun y hy => ?_, fun y c z => ?_, I.ok.hd, I.ok.frames, .inl rfl, fun b hb => ?_, I.bs, Nat.le_trans I.ok.bsz I.sz, fun b o e hb => ?_, fun b hb z => ?_, I.stack, I.stkFree⟩
    · have hy' : (relabel scope X.env).names.lookup y = some .cell ∨ (relabel scope X.env).names.lookup y = some .free := hy
      have nocell : scope.names.lookup y ≠ some .cell := fun z => S.cell _ (PySem.mem_of_lookup z) rfl
      rcases hy' with e | e
      · rcases lookup_relabel e with z | ⟨_, z⟩
        · exact absurd z nocell
        · exact has y z
      · rcases lookup_relabel e with z | ⟨z, _⟩
        · exact has y z
        · cases z
    · exact absurd (show false = true from z) Bool.false_ne_true
    · refine ⟨Nat.ne_of_lt (Nat.lt_of_lt_of_le (lt b hb) hC), fun y c e => (hf b hb).2.2.2.2.1 y c (sub y c e)⟩
    · rcases (hf b hb).2.2.2.1 with z | z
      · exact I.ok.noex b o e z
      · exact absurd (Nat.lt_of_lt_of_le (Heap.lt_size e) (Nat.le_trans I.ok.bsz z)) (Nat.lt_irrefl _)
    · rcases List.mem_cons.mp (I.stkSub b z) with e | e
      · exact (hf b hb).2.1 e
      · exact (hf b hb).2.2.1 e
  refine ⟨ok, rfl, I.bare, Un.kept hk, ⟨_, hn, fun i y v e1 e2 e3 => ?_⟩, fun y c e => ?_, I.hok.fresh hC, fun y c e => I.freeC y c (sub y c e), fun p hp => absurd (show p ∈ ([] : List (Addr × Obj)) from hp) (by simp), I.hok.kept hk, ?_⟩
  · cases i with
    | zero => simp at e2
    | succ i =>
      have e1' : ys[i]? = some y := by simpa [cxC] using e1
      have e2' : (capt js σ)[i]? = some (some v) := by simpa using e2
      obtain ⟨j, hj, hσ⟩ := capt_get e2'
      have hN : X.N[j]? = some y := by
        have z := congrArg (fun l => l[i]?) S.caps
        simp only [List.getElem?_map, hj, e1', Option.map_some] at z
        exact Option.some.inj z
      have hfr := S.fr y (List.mem_of_getElem? e1')
      have m : (y, NameKind.free) ∈ scope.names := PySem.mem_of_lookup hfr
      have hkind := S.free _ m rfl
      obtain ⟨m', hns, hl⟩ := I.loc
      obtain ⟨u, r, lk⟩ := hl j y v hN hσ (by rcases hkind with z | z; exact .inr (.inl z); exact .inr (.inr z))
      refine ⟨u, r, .inr ⟨?_, ?_⟩⟩
      · have e3' : (relabel scope X.env).names.lookup y = some .local ∨ (relabel scope X.env).names.lookup y = some .cell ∨ (relabel scope X.env).names.lookup y = some .free := e3
        rcases e3' with z | z | z
        · rcases lookup_relabel z with q | ⟨q, _⟩
          · rw [hfr] at q; cases q
          · cases q
        · exact .inl z
        · exact .inr z
      · obtain ⟨c, hc⟩ := has y hfr
        refine ⟨c, hc, ?_⟩
        rcases lk with ⟨z, _⟩ | ⟨_, c', hc', cell⟩
        · rcases hkind with q | q
          · have q' : X.env.kindOf y = some .cell := q
            rw [show X.env.kindOf y = some .local from z] at q'; cases q'
          · have q' : X.env.kindOf y = some .free := q
            rw [show X.env.kindOf y = some .local from z] at q'; cases q'
        · rw [sub y c hc] at hc'
          cases hc'
          obtain ⟨o, e, d⟩ := cell
          exact ⟨o, hk _ _ e, d⟩
  · obtain ⟨v, o, e', d⟩ := I.cell y c (sub y c e)
    exact ⟨v, o, hk _ _ e', d⟩
  · have z := congrArg List.length S.caps
    simp only [List.length_map] at z
    show (none :: capt js σ).length = (x :: ys).length
    simp [capt, z]
end
end L2
set_option Elab.async false
set_option linter.all false
set_option maxRecDepth 100000
namespace L2
open PySem PySem.Spec PyProof.Rows
theorem from_pure {α β : Type} {M : Model} {A : Around} {a : α} {Q : α → Shared → Prop} {E E' : Value → Shared → Prop} {s : Shared} {t : Sem β} {Q' : β → Shared → Prop} (h : wpAny M A (pure a) Q E s) (k : Q a s → wpAny M A t Q' E' s) : wpAny M A t Q' E' s :=
  fun Γ p hΓ => k (h Γ p hΓ) Γ p hΓ
def PTs (X : Cx) (ifs : List Expr) (t : TT) : Prop :=
  ∀ (pins : List (Addr × Obj)) (s : Shared) (σ : St) (H : Hp) (Q : Bool → Hp → Prop), Inv X pins σ H s → t σ H Q →
    wpAny (model X.prog X.w) X.A (forIn ifs true fun c r => if r = true then do let ok ← isTrue c X.env (eval c X.env); pure (ForInStep.yield ok) else pure (ForInStep.yield r)) (TP X pins σ Q) X.xe s
def tYes : TT := fun _ H Q => Q true H
theorem pts_nil {X : Cx} : PTs X [] tYes := fun pins s σ H Q I h => wpAny_tests_nil ⟨H, I, h⟩
def CompLoop (J : It) (js : List Nat) (tt : TT) (te : TE) (σ : St) (Q : VK) (H : Hp) : Prop := ∃ W : Nat → Nat → List V → Hp → Prop, (∃ m, W 0 m [] H) ∧ ∀ i m ys H, W i m ys H →
  (J.stop i H ∧ ∀ D, H D = none → Q (.ref D) (upd H D (.lst ys))) ∨
  (J.go i H ∧ ys.length < sizeLine ∧ ∃ N : List V → Hp → Prop, (∀ ys' H', N ys' H' → ∃ m', m' < m ∧ W (i + 1) m' ys' H') ∧ ∀ x H', J.yld i H x H' → tt (some x :: capt js σ) H' fun b H2 => if b = true then te (some x :: capt js σ) H2 fun v H3 => N (ys ++ [v]) H3 else N ys H2)
def tComp (wi : TI) (js : List Nat) (tt : TT) (te : TE) : TE := fun σ H Q => wi σ H fun J H1 => CompLoop J js tt te σ Q H1
theorem HOk.track {P : Program} {w : World} {H : Hp} {h : Heap} {a : Addr} {o : HO} (x : HOk P w H h) (hn : H a = none) (new : ObjOk P w (upd H a o) h a o) : HOk P w (upd H a o) h := fun b u e => by
  by_cases hb : b = a
  · subst hb; rw [upd_same] at e; cases e; exact new
  · rw [upd_ne hb] at e
    exact (x b u e).stay (fun _ _ _ q => q) (fun c q => by rw [upd_ne (ne_of_none q hn)]; exact q) fun c xs q => by rw [upd_ne (ne_of_none q hn)]; exact q
section
variable {X : Cx} {elt iter : Expr} {ifs : List Expr} {x : Str} {px pos : Pos} {scope : Scope} {ys : List Str} {js : List Nat} {wi : TI} {tt : TT} {te : TE}
theorem comp_block {pins : List (Addr × Obj)} {σ : St} {H : Hp} {s : Shared} {J : It} {fp : List Addr} {it : Addr} {tn : Nat → Heap → Prop} {Q : VK} {E : Value → Shared → Prop} {R : Value → Addr → Result → Shared → Prop}
    (S : CScope X.env.scope scope x X.N ys js) (hc : X.calm = true) (ht : ∀ C s₀ H₀ ex, PTs (cxC X (x :: ys) scope C s₀ H₀ ex) ifs tt) (he : ∀ C s₀ H₀ ex, PE (cxC X (x :: ys) scope C s₀ H₀ ex) elt te)
    (I : Inv X pins σ H s) (T : Turn X.prog X.w X.K (.Name x px) J fp it tn) (st : tn 0 s.heap) (hf : ∀ b ∈ fp, FpOk X pins H b)
    (hw : ∃ W : Nat → Nat → List V → Hp → Prop, (∃ m, W 0 m [] H) ∧ ∀ i m zs H, W i m zs H →
      (J.stop i H ∧ ∀ D, H D = none → Q (.ref D) (upd H D (.lst zs))) ∨
      (J.go i H ∧ zs.length < sizeLine ∧ ∃ N : List V → Hp → Prop, (∀ ys' H', N ys' H' → ∃ m', m' < m ∧ W (i + 1) m' ys' H') ∧ ∀ x H', J.yld i H x H' → tt (some x :: capt js σ) H' fun b H2 => if b = true then te (some x :: capt js σ) H2 fun v H3 => N (zs ++ [v]) H3 else N zs H2))
    (hR : ∀ D C s' H' m', Inv X pins σ H' s' → Q (.ref D) H' → s.heap.objs.size ≤ C → H' C = none → s'.heap.Ns C m' → R (.ref D) C (.ok .next) s') :
    wpAny (model X.prog X.w) X.A (newList []) (fun acc s₃ => wpAny (model X.prog X.w) X.A (newFunctionEnv scope X.env.globals (closOf X.env.cells scope.names []) [] X.env.qual none .none (some X.env)) (fun cenv s₄ =>
      codeAny (model X.prog X.w) X.A (.compStart (.ListComp elt [⟨.Name x px, iter, ifs, 0⟩] scope pos) 0 (.ref it) acc { cenv with scope := relabel scope X.env }) (R acc cenv.locals) s₄) E s₃) E s := by
  obtain ⟨W, ⟨m0, w0⟩, turn⟩ := hw
  refine wpAny_newObj_type (wpAny_newFunctionEnv S.cell (by intro y hy; simp at hy) (fun h₁ hns₁ hsb₁ => ?_) S.kind)
  dsimp only at hns₁ hsb₁ ⊢
  generalize hH2 : s.heap.push { cls := .type "list", dict := none, data := .seq ([] : List Value).toArray } = G at hns₁ hsb₁ ⊢
  generalize hD : s.heap.objs.size = D at *
  generalize hCe : G.objs.size = C at *
  have hC : C = D + 1 := by rw [← hCe, ← hH2, Heap.size_push, hD]
  have hDlt : D < C := by rw [hC]; exact Nat.lt_succ_self D
  have hDC : D ≠ C := Nat.ne_of_lt hDlt
  have old : ∀ b o, s.heap.get? b = some o → h₁.get? b = some o := fun b o e => by
    have hb : b < D := hD ▸ Heap.lt_size e
    exact (hsb₁.2 b (Nat.ne_of_lt (Nat.lt_trans hb hDlt))).trans (Heap.get?_push_of_some _ (hH2 ▸ Heap.get?_push_of_some _ e))
  have hacc : h₁.get? D = some { cls := .type "list", data := .seq ([] : List Value).toArray 0 } := by
    refine (hsb₁.2 D hDC).trans (Heap.get?_push_of_some _ ?_)
    rw [← hH2, ← hD]
    exact Heap.get?_push_size _ rfl
  have obj0 := T.obj 0 _ st
  have fplt : ∀ b ∈ fp, b < D := fun b hb => by obtain ⟨o, e, _⟩ := obj0 b hb; exact hD ▸ Heap.lt_size e
  generalize hX : cxC X (x :: ys) scope C s H fp = X'
  have I1 : Inv X' [] (none :: capt js σ) H { s with heap := h₁, toks := s.toks + ([] : List (Str × Value)).length } := by
    subst hX
    exact inv_comp I S hf (fun b hb => by obtain ⟨o, e, _⟩ := obj0 b hb; exact ⟨o, e⟩) (by omega) old (by simpa using hns₁)
  have eP : X'.prog = X.prog := by subst hX; rfl
  have eW : X'.w = X.w := by subst hX; rfl
  have eK : X'.K = X.K := by subst hX; rfl
  have eA : X'.A = X.A := by subst hX; rfl
  have eC : X'.calm = true := by subst hX; exact hc
  have eL : X'.env.locals = C := by subst hX; rfl
  have eS : X'.s₀ = s := by subst hX; rfl
  have eN : X'.N = x :: ys := by subst hX; rfl
  have eE : X'.env = compEnvC scope (closOf X.env.cells scope.names []) C X.env := by subst hX; rfl
  have eXe : X'.xe = fun _ _ => False := by subst hX; rfl
  have eX : X'.ex = fp := by subst hX; rfl
  have ePn : X'.pn = [] := by subst hX; rfl
  have efs : ∀ b, b ∈ X'.fs → b ∈ frs X.stack := fun b z => by subst hX; exact z
  have cellLt : ∀ y c, X'.env.cells.lookup y = some c → c < D := fun y c e => by
    have e' : (closOf X.env.cells scope.names []).lookup y = some c := by rw [eE] at e; exact e
    obtain ⟨v, o, e2, _⟩ := I.cell y c (closOf_sub (fun _ _ z => by simp at z) e')
    exact hD ▸ Heap.lt_size e2
  have frLt : ∀ b, b ∈ X'.fs → b < D := fun b z => by
    rcases List.mem_cons.mp (I.stkSub b (efs b z)) with e | e
    · rw [e]; exact hD ▸ I.lt
    · exact Nat.lt_of_not_le fun h => I.nofs (hD ▸ h) e
  have fpOk : ∀ (p : List (Addr × Obj)) (H' : Hp), (∀ b ∈ fp, H' b = none) → (∀ q ∈ p, q.1 = D) → ∀ b ∈ fp, FpOk X' p H' b := fun p H' hn hp b hb => by
    refine ⟨hn b hb, ?_, fun z => ?_, .inl (eX ▸ hb), fun y c e => ?_, fun q hq => ?_⟩
    · rw [eL]; exact Nat.ne_of_lt (Nat.lt_trans (fplt b hb) hDlt)
    · rcases List.mem_cons.mp (I.stkSub b (efs b z)) with e | e
      · exact (hf b hb).2.1 e
      · exact (hf b hb).2.2.1 e
    · have e' : (closOf X.env.cells scope.names []).lookup y = some c := by rw [eE] at e; exact e
      exact (hf b hb).2.2.2.2.1 y c (closOf_sub (fun _ _ z => by simp at z) e')
    · rw [ePn, List.nil_append] at hq
      rw [hp q hq]; exact Nat.ne_of_gt (fplt b hb)
  have noCell : ∀ (its : List Value) (k : Nat) v, ({ cls := .type "list", data := .seq its.toArray k } : Obj).data ≠ .cell v := fun its k v z => by cases z
  have done : ∀ {zs : List V} {its : List Value} {k : Nat} {H' : Hp} {s' : Shared}, Inv X' [] (none :: capt js σ) H' s' → s'.heap.get? D = some { cls := .type "list", data := .seq its.toArray k } → Vals zs its → H' D = none → zs.length ≤ sizeLine →
      (∀ D, H' D = none → Q (.ref D) (upd H' D (.lst zs))) → R (.ref D) C (.ok .next) s' := fun {zs its k H' s'} I' hd hv hn hz q => by
    have un := I'.base
    obtain ⟨m', hns, _⟩ := I'.loc
    rw [eL] at hns
    have hCn : H' C = none := by have := I'.free; rw [eL] at this; exact this
    have hH0 : X'.H₀ = H := by subst hX; rfl
    rw [hH0, eS, eX] at un
    have un2 : Un (frs X.stack) fp H (upd H' D (.lst zs)) s.heap s'.heap := by
      have ne : ∀ b o, s.heap.get? b = some o → b ≠ D := fun b o e => Nat.ne_of_lt (hD ▸ Heap.lt_size e)
      have un' : Un (frs X.stack) fp H H' s.heap s'.heap := by subst hX; exact un
      exact ⟨un'.keep, un'.slot, fun b o e n hx => by rw [upd_ne (ne b o e)]; exact un'.free b o e n hx, un'.there, fun b xs e => by rw [upd_ne (ne_of_none (un'.tups b xs e) hn)]; exact un'.tups b xs e,
        fun b o u e => by rw [upd_ne (ne_of_none (un'.frzs b o u e) hn)]; exact un'.frzs b o u e, fun b ps e => by
          obtain ⟨more, z⟩ := un'.tbls b ps e
          exact ⟨more, by rw [upd_ne (ne_of_none z hn)]; exact z⟩⟩
    have hok : HOk X.prog X.w (upd H' D (.lst zs)) s'.heap := by
      have h0 := I'.hok
      rw [eP, eW] at h0
      exact h0.track hn ⟨hz, its, k, hv, hd⟩
    have I2 : Inv X pins σ (upd H' D (.lst zs)) s' := I.call' (by have := I'.os; rw [eS] at this; exact this) un2 hok I'.bare fun b hb => ⟨(hf b hb).2.2.2.1, (hf b hb).2.1, (hf b hb).2.2.2.2.1, (hf b hb).2.2.2.2.2⟩
    exact hR D C s' _ m' I2 (q D hn) (by omega) (by rw [upd_ne (Ne.symm hDC)]; exact hCn) hns
  have loop : codeAny (model X.prog X.w) X.A (.compLoop (.ListComp elt [⟨.Name x px, iter, ifs, 0⟩] scope pos) 0 (.ref it) (.ref D) X'.env) (R (.ref D) C) { s with heap := h₁, toks := s.toks + ([] : List (Str × Value)).length } := by
    refine codeAny_compLoop_tests (fun n s' => ∃ i zs its k H', Inv X' [] (none :: capt js σ) H' s' ∧ tn i s'.heap ∧ (∀ b ∈ fp, H' b = none) ∧ s'.heap.get? D = some { cls := .type "list", data := .seq its.toArray k } ∧ Vals zs its ∧ H' D = none ∧ zs.length ≤ sizeLine ∧ W i n zs H')
      ?_ m0 ⟨0, [], [], 0, H, I1, T.keep _ _ _ st (fun b hb o e => old b o e), fun b hb => (hf b hb).1, hacc, .nil, I.hok.fresh (by omega), Nat.zero_le _, w0⟩ (fun _ => rfl)
    rintro n s3 ⟨i, zs, its, k, H3, I3, st3, fr3, d3, v3, n3, z3, w3⟩
    have pinD : Inv X' [(D, { cls := .type "list", data := .seq its.toArray k })] (none :: capt js σ) H3 s3 := I3.pins_of fun p hp => by
      have e : p = (D, { cls := .type "list", data := .seq its.toArray k }) := by simpa using hp
      subst e
      exact ⟨d3, n3, by rw [eL]; exact hDC, fun z => Nat.lt_irrefl _ (frLt D z), noCell its k⟩
    have hpD : ∀ q ∈ [(D, ({ cls := .type "list", data := .seq its.toArray k } : Obj))], q.1 = D := fun q hq => by
      have e : q = (D, { cls := .type "list", data := .seq its.toArray k }) := by simpa using hq
      rw [e]
    rcases turn i n zs H3 w3 with ⟨stop, qn⟩ | ⟨go, hzl, NN, hNN, step⟩
    · refine thn (eA ▸ T.done X' eP eW eK eC i _ s3 _ H3 _ pinD (fpOk _ _ fr3 hpD) st3 stop) fun r s4 ⟨hr, I4⟩ => ?_
      subst hr
      exact done (I4.pins_of fun p hp => absurd hp (by simp)) (I4.pin (D, { cls := .type "list", data := .seq its.toArray k }) (List.mem_append_right _ (by simp))).1 v3 n3 z3 qn
    · refine thn (eA ▸ T.item X' eP eW eK eC i _ s3 _ H3 _ pinD (fpOk _ _ fr3 hpD) st3 go) fun r s4 ⟨u, hr, h4⟩ => ?_
      subst hr
      refine from_pure (a := ()) h4 fun ⟨v, H5, I5, r5, y5, st5, fr5⟩ => ?_
      have I5' := I5.pinned (fpOk _ _ fr5 hpD) (T.obj _ _ st5)
      have ev : ∀ {α : Type} {t : Sem α} {Q' : α → Shared → Prop} {E' : Value → Shared → Prop} {s' : Shared}, wpAny (model X'.prog X'.w) X'.A t Q' X'.xe s' → wpAny (model X.prog X.w) X.A t Q' E' s' := fun {α t Q' E' s'} hh => by
        rw [eP, eW, eA, eXe] at hh
        exact wpAny_mono hh (fun _ _ q => q) fun _ _ z => z.elim
      refine ev (thn (pg_name (X := X') (i := 0) (by rw [eN]; exact S.nd) (by rw [eN]; rfl) (.inl (by rw [eE]; exact lookup_relabel_local S.var)) (.inr (by rw [eE]; exact lookup_relabel_local S.var)) _ s4 _ H5 v u (fun σ' H' => σ' = some v :: capt js σ ∧ H' = H5) I5' r5 ⟨rfl, rfl⟩) fun _ s6 ⟨σ6, H6, I6, e6, e6'⟩ => ?_)
      subst e6 e6'
      have back : ∀ {σ' : St} {H7 : Hp} {s7 : Shared}, Inv X' ([(D, { cls := .type "list", data := .seq its.toArray k })] ++ pinsAt fp s4.heap) (some v :: capt js σ) H7 s7 → Inv X' [] (none :: capt js σ) H7 s7 := fun {_ H7 s7} I7 => by
        refine (I7.pins_of fun p hp => absurd hp (by simp)).weak rfl fun i v' e => ?_
        cases i with
        | zero => simp at e
        | succ i => simpa using e
      have fps : ∀ {σ' : St} {H7 : Hp} {s7 : Shared}, Inv X' ([(D, { cls := .type "list", data := .seq its.toArray k })] ++ pinsAt fp s4.heap) σ' H7 s7 → (∀ b ∈ fp, H7 b = none) ∧ (∀ b ∈ fp, ∀ o, s4.heap.get? b = some o → s7.heap.get? b = some o) ∧ s7.heap.get? D = some { cls := .type "list", data := .seq its.toArray k } ∧ H7 D = none := fun {σ' H7 s7} I7 => by
        have g : ∀ b ∈ fp, ∀ o, s4.heap.get? b = some o → s7.heap.get? b = some o ∧ H7 b = none := fun b hb o e => by
          have z := I7.pin (b, o) (List.mem_append_right _ (List.mem_append_right _ (mem_pinsAt hb e)))
          exact ⟨z.1, z.2.1⟩
        refine ⟨fun b hb => ?_, fun b hb o e => (g b hb o e).1, (I7.pin (D, { cls := .type "list", data := .seq its.toArray k }) (List.mem_append_right _ (by simp))).1, (I7.pin (D, { cls := .type "list", data := .seq its.toArray k }) (List.mem_append_right _ (by simp))).2.1⟩
        obtain ⟨o, e, _⟩ := T.obj _ _ st5 b hb
        exact (g b hb o e).2
      have hte : PTs X' ifs tt := hX ▸ ht C s H fp
      have hee : PE X' elt te := hX ▸ he C s H fp
      refine ev (thn (hte _ s6 _ H6 _ I6 (step v H6 y5)) fun b s7 ⟨H7, I7, q7⟩ => ?_)
      cases b with
      | false =>
        rw [if_neg Bool.false_ne_true]
        rw [if_neg Bool.false_ne_true] at q7
        obtain ⟨m', hm, w7⟩ := hNN _ _ q7
        obtain ⟨g1, g2, g3, g4⟩ := fps I7
        exact ⟨m', hm, i + 1, zs, its, k, H7, back (σ' := []) I7, T.keep _ _ _ st5 g2, g1, g3, v3, g4, z3, w7⟩
      | true =>
        rw [if_pos rfl]
        rw [if_pos rfl] at q7
        refine ev (thn (hee _ s7 _ H7 _ I7 q7) fun u8 s8 ⟨v8, H8, I8, r8, q8⟩ => ?_)
        obtain ⟨m', hm, w8⟩ := hNN _ _ q8
        obtain ⟨g1, g2, g3, g4⟩ := fps I8
        have hil := v3.length
        refine call_meets F.slot_list_append ⟨_, g3, rfl⟩ F.entry_list_append (F.args_list_append_2 _ _) (PySem.list_append D its.toArray k u8 (by rw [List.size_toArray]; omega)) ⟨g3, ?_⟩
        have q := PySem.IsL.update g3 (fun a => a.push u8)
        have ea : its.toArray.push u8 = (its ++ [u8]).toArray := by simp
        rw [ea] at q
        have kk : ∀ b o, b ≠ D → s8.heap.get? b = some o → (s8.heap.update D (Obj.mapSeq fun a => a.push u8)).get? b = some o := fun b o hb e => (Heap.get?_update_other _ _ (Ne.symm hb)).trans e
        have I9 : Inv X' [] (none :: capt js σ) H8 { s8 with heap := s8.heap.update D (Obj.mapSeq fun a => a.push u8), toks := s8.toks } := by
          refine (back (σ' := []) I8).turned kk g4 (by rw [eL]; exact hDC) (.inr (by rw [eS]; omega)) (fun y c e => Nat.ne_of_lt (cellLt y c e)) fun p hp => ?_
          rw [ePn] at hp
          exact absurd hp (by simp)
        refine ⟨m', hm, i + 1, zs ++ [v8], its ++ [u8], _, H8, I9, T.keep _ _ _ st5 (fun b hb o e => kk b o (Nat.ne_of_lt (fplt b hb)) (g2 b hb o e)), g1, q, v3.append (.cons r8 .nil), g4, ?_, w8⟩
        rw [List.length_append, List.length_singleton]
        omega
  rw [eE] at loop
  exact codeAny_compStart_list loop (T.self _ 0 _ _ _ (T.keep _ _ _ st (fun b hb o e => old b o e)) loop)
theorem pe_comp (S : CScope X.env.scope scope x X.N ys js) (hc : X.calm = true) (hi : PI X (.Name x px) iter wi) (ht : ∀ C s₀ H₀ ex, PTs (cxC X (x :: ys) scope C s₀ H₀ ex) ifs tt) (he : ∀ C s₀ H₀ ex, PE (cxC X (x :: ys) scope C s₀ H₀ ex) elt te)
    (hs : ∀ x, foldedSetIterable iter X.env x = pure x := by intro _; rfl) : PE X (.ListComp elt [⟨.Name x px, iter, ifs, 0⟩] scope pos) (tComp wi js tt te) := by
  intro pins s σ H Q I h
  rw [eval_ListComp]
  refine wpAny_comprehension_free (use := none) rfl hs (closureFor_eq fun y hy e => I.ok.has _ (S.free y hy e)) S.kind S.loc (thn (hi pins s σ H _ I h) fun v s1 h1 => thn h1 fun itv s2 h2 => ?_)
  obtain ⟨it, fp, tn, J, H2, e, I2, T, st2, f2, hw⟩ := h2
  subst e
  refine comp_block (Q := Q) (R := fun acc C => compPost (model X.prog X.w) X.A X.xe none (EP X pins σ Q) acc C) S hc ht he I2 T st2 f2 hw ?_
  intro D C s' H' m' I' q hC hn hns
  refine ⟨m', hns, fun h' hs' => ⟨.ref D, H', ?_, rfl, q⟩⟩
  have e := I2.fpOk hC hn
  exact I'.turned (t' := s'.toks) (fun b o hb e => (hs'.2 b hb).trans e) hn e.2.1 e.2.2.2.1 e.2.2.2.2.1 e.2.2.2.2.2
theorem ps_setComp {i : Nat} {y : Str} {py spos : Pos} (S : CScope X.env.scope scope x X.N ys js) (hc : X.calm = true) (hN : X.N.Nodup) (hy : X.N[i]? = some y) (hl : Loc X.env.scope y) (hi : PI X (.Name x px) iter wi) (ht : ∀ C s₀ H₀ ex, PTs (cxC X (x :: ys) scope C s₀ H₀ ex) ifs tt) (he : ∀ C s₀ H₀ ex, PE (cxC X (x :: ys) scope C s₀ H₀ ex) elt te)
    (hf : X.fn y = true ∨ X.env.scope.names.lookup y = some .local := by first | exact .inl rfl | exact .inr rfl | assumption)
    (hsw : swapsWith (.ListComp elt [⟨.Name x px, iter, ifs, 0⟩] scope pos) (some (.Name y py)) spos.line X.env = pure true := by rfl)
    (hs : ∀ x, foldedSetIterable iter X.env x = pure x := by intro _; rfl) : PS X (.Assign [.Name y py] (.ListComp elt [⟨.Name x px, iter, ifs, 0⟩] scope pos) spos) (tAsg (tComp wi js tt te) (gName i)) := by
  intro pins s σ H D I h
  rw [exec_Assign_Name_used _ _ _ _ hsw]
  refine wpAny_bind (wpAny_standAt (wpAny_bind ?_))
  show wpAny _ X.A (do let _ ← comprehension (.ListComp elt [⟨.Name x px, iter, ifs, 0⟩] scope pos) scope X.env _ (newList []) false (eval iter X.env) (some (assign (.Name y py) X.env))) _ _ s
  refine wpAny_bind (wpAny_mono (wpAny_comprehension_free (use := some (assign (.Name y py) X.env)) (Q := fun _ s' => SP X pins D .next s') rfl hs (closureFor_eq fun y hy e => I.ok.has _ (S.free y hy e)) S.kind S.loc
    (thn (hi pins s σ H _ I h) fun v s1 h1 => thn h1 fun itv s2 h2 => ?_)) (fun _ s' hq => wpAny_pure (wpAny_pure hq)) fun _ _ e => e)
  obtain ⟨it, fp, tn, J, H2, e, I2, T, st2, f2, hw⟩ := h2
  subst e
  refine comp_block (Q := fun v H' => gName i v σ H' D.nx) (R := fun acc C => compPost (model X.prog X.w) X.A X.xe (some (assign (.Name y py) X.env)) (fun _ s' => SP X pins D .next s') acc C) S hc ht he I2 T st2 f2 hw ?_
  intro Da C s' H' m' I' q hC hn hns
  have e := I2.fpOk hC hn
  show wpAny _ X.A (assign (.Name y py) X.env (.ref Da)) _ _ _
  refine wpAny_assign_Name (store_ok2 I' hN hy hl (show RelV (.ref Da) (.ref Da) from rfl) (fun s2' I3 ⟨a, sb, ha⟩ => ?_) hf)
  have hCa : C ≠ a := by
    rcases ha with z | z
    · rw [z]; exact e.2.1
    · intro w; exact e.2.2.2.2.1 _ _ z w.symm
  refine ⟨m', hns.sameBut sb hCa, fun h' hs' => ⟨_, H', ?_, q⟩⟩
  exact I3.turned (t' := s2'.toks) (fun b o hb e => (hs'.2 b hb).trans e) hn e.2.1 e.2.2.2.1 e.2.2.2.2.1 e.2.2.2.2.2
end
theorem comp_list {K : PySem.W.Frag} {a : Addr} {xs : List V} {js : List Nat} {tt : TT} {te : TE} {σ : St} {H : Hp} {Q : VK} (Pv : Nat → List V → Hp → Prop) (h0 : Pv 0 [] H) (hl : ∀ i ys H, i ≤ xs.length → Pv i ys H → SqL K H a xs)
    (hs : ∀ i x ys H, xs[i]? = some x → Pv i ys H → ys.length < sizeLine ∧ tt (some x :: capt js σ) H fun b H2 => if b = true then te (some x :: capt js σ) H2 fun v H3 => Pv (i + 1) (ys ++ [v]) H3 else Pv (i + 1) ys H2)
    (hd : ∀ ys H, Pv xs.length ys H → ∀ D, H D = none → Q (.ref D) (upd H D (.lst ys))) :
    CompLoop (Itl K a) js tt te σ Q H := by
  refine ⟨fun i m ys H => m = xs.length - i ∧ i ≤ xs.length ∧ Pv i ys H, ⟨xs.length, by simp, Nat.zero_le _, h0⟩, ?_⟩
  rintro i m ys H ⟨rfl, hi, p⟩
  have q := hl i ys H hi p
  by_cases hlt : i < xs.length
  · have hx : xs[i]? = some xs[i] := List.getElem?_eq_getElem hlt
    obtain ⟨hz, hst⟩ := hs i xs[i] ys H hx p
    refine .inr ⟨⟨xs, xs[i], q, hx⟩, hz, Pv (i + 1), fun ys' H' p' => ⟨xs.length - (i + 1), by omega, rfl, hlt, p'⟩, fun x H' y => ?_⟩
    obtain ⟨e, y⟩ := y
    subst e
    have e2 := y xs q
    rw [hx] at e2
    cases e2
    exact hst
  · have e : i = xs.length := by omega
    subst e
    exact .inl ⟨⟨xs, q, Nat.le_refl _⟩, hd ys H p⟩
theorem comp_range {lo : Int} {n : Nat} {js : List Nat} {tt : TT} {te : TE} {σ : St} {H : Hp} {Q : VK} (Pv : Nat → List V → Hp → Prop) (h0 : Pv 0 [] H)
    (hs : ∀ i ys H, i < n → Pv i ys H → ys.length < sizeLine ∧ tt (some (.int (lo + i)) :: capt js σ) H fun b H2 => if b = true then te (some (.int (lo + i)) :: capt js σ) H2 fun v H3 => Pv (i + 1) (ys ++ [v]) H3 else Pv (i + 1) ys H2)
    (hd : ∀ ys H, Pv n ys H → ∀ D, H D = none → Q (.ref D) (upd H D (.lst ys))) :
    CompLoop (Itr lo n) js tt te σ Q H := by
  refine ⟨fun i m ys H => m = n - i ∧ i ≤ n ∧ Pv i ys H, ⟨n, by simp, Nat.zero_le _, h0⟩, ?_⟩
  rintro i m ys H ⟨rfl, hi, p⟩
  by_cases hlt : i < n
  · obtain ⟨hz, hst⟩ := hs i ys H hlt p
    refine .inr ⟨hlt, hz, Pv (i + 1), fun ys' H' p' => ⟨n - (i + 1), by omega, rfl, hlt, p'⟩, fun x H' y => ?_⟩
    obtain ⟨e, y⟩ := y
    subst e y
    exact hst
  · have e : i = n := by omega
    subst e
    exact .inl ⟨Nat.le_refl _, hd ys H p⟩
end L2
set_option Elab.async false
set_option linter.all false
set_option maxRecDepth 100000
namespace L2
open PySem PySem.Spec PyProof.Rows PySem.SeqAt
inductive Tr where
  | non | bl (b : Bool) | int (i : Int) | str (x : Str) | lst (ts : List Tr) | tup (ts : List Tr)
mutual
def TrAt (K : PySem.W.Frag) (H : Hp) : Tr → V → Prop
  | .non, v => v = .non
  | .bl b, v => v = .bl b
  | .int i, v => v = .int i
  | .str x, v => v = .str x
  | .lst ts, v => ∃ a xs, v = .ref a ∧ SqL K H a xs ∧ TrsAt K H ts xs
  | .tup ts, v => ∃ a xs, v = .ref a ∧ SqT K H a xs ∧ TrsAt K H ts xs
def TrsAt (K : PySem.W.Frag) (H : Hp) : List Tr → List V → Prop
  | [], xs => xs = []
  | t :: ts, xs => ∃ y ys, xs = y :: ys ∧ TrAt K H t y ∧ TrsAt K H ts ys
end
mutual
def teq : Tr → Tr → Bool
  | .non, .non => true
  | .bl a, .bl b => a == b
  | .bl a, .int b => (if a then 1 else 0) == b
  | .int a, .bl b => a == (if b then 1 else 0)
  | .int a, .int b => a == b
  | .str a, .str b => a == b
  | .lst a, .lst b => teqs a b
  | .tup a, .tup b => teqs a b
  | _, _ => false
def teqs : List Tr → List Tr → Bool
  | [], [] => true
  | t :: ts, u :: us => teq t u && teqs ts us
  | _, _ => false
end
mutual
def tdep : Tr → Nat
  | .lst ts => tdeps ts + 1
  | .tup ts => tdeps ts + 1
  | _ => 0
def tdeps : List Tr → Nat
  | [] => 0
  | t :: ts => max (tdep t) (tdeps ts)
end
theorem tdep_mem {t : Tr} : ∀ {ts : List Tr}, t ∈ ts → tdep t ≤ tdeps ts
  | u :: ts, h => by
    rw [tdeps]
    rcases List.mem_cons.mp h with e | h
    · rw [e]; exact Nat.le_max_left _ _
    · exact Nat.le_trans (tdep_mem h) (Nat.le_max_right _ _)
section
variable {K : PySem.W.Frag} {H : Hp}
theorem TrsAt.length : ∀ {ts : List Tr} {xs : List V}, TrsAt K H ts xs → ts.length = xs.length
  | [], xs, h => by rw [TrsAt] at h; subst h; rfl
  | t :: ts, xs, h => by
    rw [TrsAt] at h
    obtain ⟨y, ys, rfl, _, h⟩ := h
    rw [List.length_cons, List.length_cons, TrsAt.length h]
theorem TrsAt.get : ∀ {ts : List Tr} {xs : List V} {j : Nat} {t : Tr}, TrsAt K H ts xs → ts[j]? = some t → ∃ x, xs[j]? = some x ∧ TrAt K H t x
  | [], xs, j, t, h, e => by simp at e
  | u :: ts, xs, 0, t, h, e => by
    rw [TrsAt] at h
    obtain ⟨y, ys, rfl, hy, h⟩ := h
    simp at e
    subst e
    exact ⟨y, rfl, hy⟩
  | u :: ts, xs, j + 1, t, h, e => by
    rw [TrsAt] at h
    obtain ⟨y, ys, rfl, hy, h⟩ := h
    obtain ⟨x, e1, e2⟩ := TrsAt.get (j := j) h (by simpa using e)
    exact ⟨x, by simpa using e1, e2⟩
theorem TrsAt.ints : ∀ {ns : List Int}, TrsAt K H (ns.map Tr.int) (ns.map V.int)
  | [] => by rw [List.map_nil, TrsAt]; rfl
  | n :: ns => by rw [List.map_cons, TrsAt]; exact ⟨_, _, rfl, by rw [TrAt], TrsAt.ints⟩
def tInts (ns : List Int) : Tr := .lst (ns.map Tr.int)
theorem TrAt.ints {a : Addr} {ns : List Int} (h : SqL K H a (ns.map V.int)) : TrAt K H (tInts ns) (.ref a) := by
  unfold tInts; rw [TrAt]; exact ⟨a, _, rfl, h, TrsAt.ints⟩
end
mutual
theorem teq_refl : ∀ t : Tr, teq t t = true
  | .non => by rw [teq]
  | .bl b => by rw [teq]; simp
  | .int i => by rw [teq]; simp
  | .str x => by rw [teq]; simp
  | .lst ts => by rw [teq]; exact teqs_refl ts
  | .tup ts => by rw [teq]; exact teqs_refl ts
theorem teqs_refl : ∀ ts : List Tr, teqs ts ts = true
  | [] => by rw [teqs]
  | t :: ts => by rw [teqs, teq_refl t, teqs_refl ts]; rfl
end
theorem teqs_map {α : Type} [DecidableEq α] {f : α → Tr} (h : ∀ a b, teq (f a) (f b) = decide (a = b)) : ∀ (xs ys : List α), teqs (xs.map f) (ys.map f) = decide (xs = ys)
  | [], [] => by simp [teqs]
  | [], _ :: _ => by simp [teqs]
  | _ :: _, [] => by simp [teqs]
  | x :: xs, y :: ys => by
    rw [List.map_cons, List.map_cons, teqs, h, teqs_map h xs ys, Bool.eq_iff_iff]
    simp
theorem teq_int (a b : Int) : teq (.int a) (.int b) = decide (a = b) := by rw [teq, Bool.eq_iff_iff]; simp
theorem teq_ints (a b : List Int) : teq (tInts a) (tInts b) = decide (a = b) := by unfold tInts; rw [teq]; exact teqs_map teq_int a b
theorem tdeps_ints : ∀ ns : List Int, tdeps (ns.map Tr.int) = 0
  | [] => by simp [tdeps]
  | n :: ns => by rw [List.map_cons, tdeps, tdeps_ints ns, tdep] <;> simp
theorem tdep_tInts (ns : List Int) : tdep (tInts ns) = 1 := by unfold tInts; rw [tdep, tdeps_ints]
theorem teqs_length : ∀ {ts us : List Tr}, ts.length ≠ us.length → teqs ts us = false
  | [], [], h => absurd rfl h
  | [], _ :: _, _ => by simp [teqs]
  | _ :: _, [], _ => by simp [teqs]
  | t :: ts, u :: us, h => by rw [teqs, teqs_length (by simpa using h), Bool.and_false]
def eAt (ts us : List Tr) (j : Nat) : Bool := match ts[j]?, us[j]? with
  | some t, some u => teq t u
  | _, _ => true
theorem all_eAt : ∀ {ts us : List Tr}, ts.length = us.length → (List.range ts.length).all (eAt ts us) = teqs ts us
  | [], [], _ => by simp [teqs]
  | [], _ :: _, h => by simp at h
  | _ :: _, [], h => by simp at h
  | t :: ts, u :: us, h => by
    rw [List.length_cons, List.range_succ_eq_map, List.all_cons, List.all_map, teqs, ← all_eAt (ts := ts) (us := us) (by simpa using h)]
    rfl
section
variable {X : Cx} {pins : List (Addr × Obj)} {σ : St} {H : Hp} {s : Shared}
theorem tr_inj (I : Inv X pins σ H s) : ∀ (n : Nat) {t u : Tr} {v : V}, tdep t ≤ n → TrAt X.K H t v → TrAt X.K H u v → t = u := by
  intro n
  induction n with
  | zero =>
    intro t u v hd ht hu
    cases t with
    | lst ts => rw [tdep] at hd; omega
    | tup ts => rw [tdep] at hd; omega
    | _ => (rw [TrAt] at ht; subst ht; cases u <;> (rw [TrAt] at hu) <;> first | rfl | (obtain ⟨_, _, z, _⟩ := hu; cases z) | (cases hu; rfl) | cases hu)
  | succ n ih =>
    intro t u v hd ht hu
    have lists : ∀ {ts us : List Tr} {xs : List V}, tdeps ts ≤ n → TrsAt X.K H ts xs → TrsAt X.K H us xs → ts = us := by
      intro ts us xs hd h1 h2
      apply List.ext_getElem?
      intro j
      have l1 := h1.length
      have l2 := h2.length
      by_cases hj : j < ts.length
      · obtain ⟨t, e⟩ : ∃ t, ts[j]? = some t := ⟨_, List.getElem?_eq_getElem hj⟩
        obtain ⟨u, e'⟩ : ∃ u, us[j]? = some u := ⟨_, List.getElem?_eq_getElem (by omega)⟩
        obtain ⟨x, ex, hx⟩ := h1.get e
        obtain ⟨y, ey, hy⟩ := h2.get e'
        rw [ex] at ey
        cases ey
        rw [e, e', ih (Nat.le_trans (tdep_mem (List.mem_of_getElem? e)) hd) hx hy]
      · rw [List.getElem?_eq_none (by omega), List.getElem?_eq_none (by omega)]
    cases t with
    | lst ts =>
      rw [TrAt] at ht
      obtain ⟨a, xs, rfl, q, h1⟩ := ht
      cases u with
      | lst us =>
        rw [TrAt] at hu
        obtain ⟨b, ys, e, q', h2⟩ := hu
        cases e
        rw [I.list_inj q' q] at h2
        rw [lists (by rw [tdep] at hd; omega) h1 h2]
      | tup us =>
        rw [TrAt] at hu
        obtain ⟨b, ys, e, q', h2⟩ := hu
        cases e
        obtain ⟨_, _, pl, _⟩ := I.list q
        obtain ⟨_, _, pt, _⟩ := I.tuple q'
        exact absurd rfl (ne_of_list_tuple pl.isList pt)
      | _ => rw [TrAt] at hu; cases hu
    | tup ts =>
      rw [TrAt] at ht
      obtain ⟨a, xs, rfl, q, h1⟩ := ht
      cases u with
      | tup us =>
        rw [TrAt] at hu
        obtain ⟨b, ys, e, q', h2⟩ := hu
        cases e
        rw [I.tuple_inj q' q] at h2
        rw [lists (by rw [tdep] at hd; omega) h1 h2]
      | lst us =>
        rw [TrAt] at hu
        obtain ⟨b, ys, e, q', h2⟩ := hu
        cases e
        obtain ⟨_, _, pl, _⟩ := I.list q'
        obtain ⟨_, _, pt, _⟩ := I.tuple q
        exact absurd rfl (ne_of_list_tuple pl.isList pt)
      | _ => rw [TrAt] at hu; cases hu
    | _ => (rw [TrAt] at ht; subst ht; cases u <;> (rw [TrAt] at hu) <;> first | rfl | (obtain ⟨_, _, z, _⟩ := hu; cases z) | (cases hu; rfl) | cases hu)
structure Cmps (A : Around) (s : Shared) (a b : Value) (r : Bool) : Prop where
  rc : RcAt A s a b r
  ne : RcNeAt A s a b (!r)
  eq : EqAt A s a b r
theorem units_in1 (A : Around) : A.in1.units = A.units + 1 := rfl
theorem tr_cmps (I : Inv X pins σ H s) : ∀ (n : Nat) {t u : Tr} {v w : V} {a b : Value} {A : Around}, tdep t ≤ n → TrAt X.K H t v → TrAt X.K H u w → RelV v a → RelV w b → A.units + n < cLine → Cmps A s a b (teq t u) := by
  intro n
  induction n with
  | zero =>
    intro t u v w a b A hd ht hu ra rb hA
    have hA' : A.units < cLine := by omega
    cases t with
    | lst ts => rw [tdep] at hd; omega
    | tup ts => rw [tdep] at hd; omega
    | non =>
      rw [TrAt] at ht; subst ht; cases ra
      cases u with
      | non => rw [TrAt] at hu; subst hu; cases rb; rw [teq]; exact ⟨.none_none, .none_none, .same _⟩
      | bl b => rw [TrAt] at hu; subst hu; cases rb; simp only [teq]; exact ⟨.none_bool _, .none_bool _, .none_bool _⟩
      | int b => rw [TrAt] at hu; subst hu; obtain ⟨_, rfl⟩ := rb; simp only [teq]; exact ⟨.none_int _ _, .none_int _ _, .none_int _ _⟩
      | str b => rw [TrAt] at hu; subst hu; obtain ⟨_, rfl⟩ := rb; simp only [teq]; exact ⟨.none_str _ _, .none_str _ _, .none_str _ _⟩
      | lst us => rw [TrAt] at hu; obtain ⟨p, ys, rfl, q, _⟩ := hu; cases rb; obtain ⟨_, _, pl, _⟩ := I.list q; simp only [teq]; exact ⟨.none_list pl.isList hA', .none_list pl.isList hA', .none_list pl.isList hA'⟩
      | tup us => rw [TrAt] at hu; obtain ⟨p, ys, rfl, q, _⟩ := hu; cases rb; obtain ⟨_, _, pl, _⟩ := I.tuple q; simp only [teq]; exact ⟨.none_tuple pl hA', .none_tuple pl hA', .none_tuple pl hA'⟩
    | bl c =>
      rw [TrAt] at ht; subst ht; cases ra
      cases u with
      | non => rw [TrAt] at hu; subst hu; cases rb; simp only [teq]; exact ⟨.bool_none _, .bool_none _, .bool_none _⟩
      | bl b => rw [TrAt] at hu; subst hu; cases rb; rw [teq]; exact ⟨.bool_bool _ _, .bool_bool _ _, .bool_bool _ _⟩
      | int b => rw [TrAt] at hu; subst hu; obtain ⟨_, rfl⟩ := rb; rw [teq]; exact ⟨.bool_int _ _ _, .bool_int _ _ _, .bool_int _ _ _⟩
      | str b => rw [TrAt] at hu; subst hu; obtain ⟨_, rfl⟩ := rb; simp only [teq]; exact ⟨.bool_str _ _ _, .bool_str _ _ _, .bool_str _ _ _⟩
      | lst us => rw [TrAt] at hu; obtain ⟨p, ys, rfl, q, _⟩ := hu; cases rb; obtain ⟨_, _, pl, _⟩ := I.list q; simp only [teq]; exact ⟨.bool_list _ pl.isList hA', .bool_list _ pl.isList hA', .bool_list _ pl.isList hA'⟩
      | tup us => rw [TrAt] at hu; obtain ⟨p, ys, rfl, q, _⟩ := hu; cases rb; obtain ⟨_, _, pl, _⟩ := I.tuple q; simp only [teq]; exact ⟨.bool_tuple _ pl hA', .bool_tuple _ pl hA', .bool_tuple _ pl hA'⟩
    | int c =>
      rw [TrAt] at ht; subst ht; obtain ⟨_, rfl⟩ := ra
      cases u with
      | non => rw [TrAt] at hu; subst hu; cases rb; simp only [teq]; exact ⟨.int_none _ _, .int_none _ _, .int_none _ _⟩
      | bl b => rw [TrAt] at hu; subst hu; cases rb; rw [teq]; exact ⟨.int_bool _ _ _, .int_bool _ _ _, .int_bool _ _ _⟩
      | int b => rw [TrAt] at hu; subst hu; obtain ⟨_, rfl⟩ := rb; rw [teq]; exact ⟨.int_int _ _ _ _, .int_int _ _ _ _, .int_int _ _ _ _⟩
      | str b => rw [TrAt] at hu; subst hu; obtain ⟨_, rfl⟩ := rb; simp only [teq]; exact ⟨.int_str _ _ _ _, .int_str _ _ _ _, .int_str _ _ _ _⟩
      | lst us => rw [TrAt] at hu; obtain ⟨p, ys, rfl, q, _⟩ := hu; cases rb; obtain ⟨_, _, pl, _⟩ := I.list q; simp only [teq]; exact ⟨.int_list _ _ pl.isList hA', .int_list _ _ pl.isList hA', .int_list _ _ pl.isList hA'⟩
      | tup us => rw [TrAt] at hu; obtain ⟨p, ys, rfl, q, _⟩ := hu; cases rb; obtain ⟨_, _, pl, _⟩ := I.tuple q; simp only [teq]; exact ⟨.int_tuple _ _ pl hA', .int_tuple _ _ pl hA', .int_tuple _ _ pl hA'⟩
    | str c =>
      rw [TrAt] at ht; subst ht; obtain ⟨_, rfl⟩ := ra
      cases u with
      | non => rw [TrAt] at hu; subst hu; cases rb; simp only [teq]; exact ⟨.str_none _ _, .str_none _ _, .str_none _ _⟩
      | bl b => rw [TrAt] at hu; subst hu; cases rb; simp only [teq]; exact ⟨.str_bool _ _ _, .str_bool _ _ _, .str_bool _ _ _⟩
      | int b => rw [TrAt] at hu; subst hu; obtain ⟨_, rfl⟩ := rb; simp only [teq]; exact ⟨.str_int _ _ _ _, .str_int _ _ _ _, .str_int _ _ _ _⟩
      | str b => rw [TrAt] at hu; subst hu; obtain ⟨_, rfl⟩ := rb; rw [teq]; exact ⟨.str_str _ _ _ _, .str_str _ _ _ _, .str_str _ _ _ _⟩
      | lst us => rw [TrAt] at hu; obtain ⟨p, ys, rfl, q, _⟩ := hu; cases rb; obtain ⟨_, _, pl, _⟩ := I.list q; simp only [teq]; exact ⟨.str_list _ _ pl.isList hA', .str_list _ _ pl.isList hA', .str_list _ _ pl.isList hA'⟩
      | tup us => rw [TrAt] at hu; obtain ⟨p, ys, rfl, q, _⟩ := hu; cases rb; obtain ⟨_, _, pl, _⟩ := I.tuple q; simp only [teq]; exact ⟨.str_tuple _ _ pl hA', .str_tuple _ _ pl hA', .str_tuple _ _ pl hA'⟩
  | succ n ih =>
    intro t u v w a b A hd ht hu ra rb hA
    have hA' : A.units < cLine := by omega
    have items : ∀ {ts us : List Tr} {xs ys : List V} {its its2 : List Value}, tdeps ts ≤ n → TrsAt X.K H ts xs → TrsAt X.K H us ys → Vals xs its → Vals ys its2 →
        ∀ j (h1 : j < its.toArray.size) (h2 : j < its2.toArray.size), EqAt A.in1 s its.toArray[j] its2.toArray[j] (eAt ts us j) := by
      intro ts us xs ys its its2 hdn h1 h2 r1 r2 j hj1 hj2
      have l1 := h1.length
      have l2 := h2.length
      have m1 := r1.length
      have m2 := r2.length
      rw [List.size_toArray] at hj1 hj2
      obtain ⟨t, e⟩ : ∃ t, ts[j]? = some t := ⟨_, List.getElem?_eq_getElem (by omega)⟩
      obtain ⟨u, e'⟩ : ∃ u, us[j]? = some u := ⟨_, List.getElem?_eq_getElem (by omega)⟩
      obtain ⟨x, ex, hx⟩ := h1.get e
      obtain ⟨y, ey, hy⟩ := h2.get e'
      obtain ⟨vx, fx, rx⟩ := r1.get ex
      obtain ⟨vy, fy, ry⟩ := r2.get ey
      have g1 : its.toArray[j]'(by simpa using hj1) = vx := by
        have z : its[j] = vx := Option.some.inj ((List.getElem?_eq_getElem hj1).symm.trans fx)
        simpa using z
      have g2 : its2.toArray[j]'(by simpa using hj2) = vy := by
        have z : its2[j] = vy := Option.some.inj ((List.getElem?_eq_getElem hj2).symm.trans fy)
        simpa using z
      rw [g1, g2]
      have q := (ih (A := A.in1) (Nat.le_trans (tdep_mem (List.mem_of_getElem? e)) hdn) hx hy rx ry (by rw [units_in1]; omega)).eq
      unfold eAt
      rw [e, e']
      exact q
    by_cases hz : tdep t ≤ n
    · exact ih hz ht hu ra rb (by omega)
    cases t with
    | lst ts =>
      rw [TrAt] at ht; obtain ⟨p, xs, rfl, q, h1⟩ := ht; cases ra
      obtain ⟨its, r1, pl, _⟩ := I.list q
      cases u with
      | non => rw [TrAt] at hu; subst hu; cases rb; simp only [teq]; exact ⟨.list_none pl.isList hA', .list_none pl.isList hA', .list_none pl.isList hA'⟩
      | bl b => rw [TrAt] at hu; subst hu; cases rb; simp only [teq]; exact ⟨.list_bool _ pl.isList hA', .list_bool _ pl.isList hA', .list_bool _ pl.isList hA'⟩
      | int b => rw [TrAt] at hu; subst hu; obtain ⟨_, rfl⟩ := rb; simp only [teq]; exact ⟨.list_int _ _ pl.isList hA', .list_int _ _ pl.isList hA', .list_int _ _ pl.isList hA'⟩
      | str b => rw [TrAt] at hu; subst hu; obtain ⟨_, rfl⟩ := rb; simp only [teq]; exact ⟨.list_str _ _ pl.isList hA', .list_str _ _ pl.isList hA', .list_str _ _ pl.isList hA'⟩
      | tup us => rw [TrAt] at hu; obtain ⟨p', ys, rfl, q', _⟩ := hu; cases rb; obtain ⟨_, _, pl', _⟩ := I.tuple q'; simp only [teq]; exact ⟨.list_tuple pl.isList pl' hA', .list_tuple pl.isList pl' hA', .list_tuple pl.isList pl' hA'⟩
      | lst us =>
        have hu0 := hu
        rw [TrAt] at hu; obtain ⟨p', ys, rfl, q', h2⟩ := hu; cases rb
        obtain ⟨its2, r2, pl', _⟩ := I.list q'
        have l1 := h1.length
        have l2 := h2.length
        have m1 := r1.length
        have m2 := r2.length
        have hdn : tdeps ts ≤ n := by rw [tdep] at hd; omega
        have both : RcAt A s (.ref p) (.ref p') (teqs ts us) ∧ RcNeAt A s (.ref p) (.ref p') (!teqs ts us) := by
          by_cases hsz : ts.length = us.length
          · have hs : its.toArray.size = its2.toArray.size := by rw [List.size_toArray, List.size_toArray]; omega
            have it := items hdn h1 h2 r1 r2
            have e1 : (List.range its.toArray.size).all (eAt ts us) = teqs ts us := by
              rw [List.size_toArray, ← m1, ← l1]; exact all_eAt hsz
            have a1 := RcAt.lists pl.isList pl'.isList hs hA' it
            have a2 := RcNeAt.lists pl.isList pl'.isList hs hA' it
            rw [e1] at a1 a2
            exact ⟨a1, a2⟩
          · have hs : (its.toArray.size != its2.toArray.size) = true := by
              rw [List.size_toArray, List.size_toArray, bne_iff_ne]; omega
            rw [teqs_length hsz]
            exact ⟨.lists_lengths pl.isList pl'.isList hs hA', .lists_lengths pl.isList pl'.isList hs hA'⟩
        rw [teq]
        refine ⟨both.1, both.2, ?_⟩
        by_cases hpp : p = p'
        · subst hpp
          have e : Tr.lst ts = Tr.lst us := tr_inj I (n + 1) hd (show TrAt X.K H (.lst ts) (.ref p) by rw [TrAt]; exact ⟨p, xs, rfl, q, h1⟩) hu0
          cases e
          rw [teqs_refl]
          exact .same _
        · exact .of_refs hpp both.1
    | tup ts =>
      rw [TrAt] at ht; obtain ⟨p, xs, rfl, q, h1⟩ := ht; cases ra
      obtain ⟨its, r1, pl, _⟩ := I.tuple q
      cases u with
      | non => rw [TrAt] at hu; subst hu; cases rb; simp only [teq]; exact ⟨.tuple_none pl hA', .tuple_none pl hA', .tuple_none pl hA'⟩
      | bl b => rw [TrAt] at hu; subst hu; cases rb; simp only [teq]; exact ⟨.tuple_bool _ pl hA', .tuple_bool _ pl hA', .tuple_bool _ pl hA'⟩
      | int b => rw [TrAt] at hu; subst hu; obtain ⟨_, rfl⟩ := rb; simp only [teq]; exact ⟨.tuple_int _ _ pl hA', .tuple_int _ _ pl hA', .tuple_int _ _ pl hA'⟩
      | str b => rw [TrAt] at hu; subst hu; obtain ⟨_, rfl⟩ := rb; simp only [teq]; exact ⟨.tuple_str _ _ pl hA', .tuple_str _ _ pl hA', .tuple_str _ _ pl hA'⟩
      | lst us => rw [TrAt] at hu; obtain ⟨p', ys, rfl, q', _⟩ := hu; cases rb; obtain ⟨_, _, pl', _⟩ := I.list q'; simp only [teq]; exact ⟨.tuple_list pl pl'.isList hA', .tuple_list pl pl'.isList hA', .tuple_list pl pl'.isList hA'⟩
      | tup us =>
        have hu0 := hu
        rw [TrAt] at hu; obtain ⟨p', ys, rfl, q', h2⟩ := hu; cases rb
        obtain ⟨its2, r2, pl', _⟩ := I.tuple q'
        have l1 := h1.length
        have l2 := h2.length
        have m1 := r1.length
        have m2 := r2.length
        have hdn : tdeps ts ≤ n := by rw [tdep] at hd; omega
        have e1 : ((List.range (min its.toArray.size its2.toArray.size)).all (eAt ts us) && its.toArray.size == its2.toArray.size) = teqs ts us := by
          rw [List.size_toArray, List.size_toArray, ← m1, ← l1, ← m2, ← l2]
          by_cases hsz : ts.length = us.length
          · rw [← hsz, Nat.min_self, beq_self_eq_true, Bool.and_true]; exact all_eAt hsz
          · rw [teqs_length hsz, beq_eq_false_iff_ne.mpr hsz, Bool.and_false]
        have it := items hdn h1 h2 r1 r2
        have a1 := RcAt.tuples pl pl' hA' it
        have a2 := RcNeAt.tuples pl pl' hA' it
        rw [e1] at a1 a2
        rw [teq]
        refine ⟨a1, a2, ?_⟩
        by_cases hpp : p = p'
        · subst hpp
          have e : Tr.tup ts = Tr.tup us := tr_inj I (n + 1) hd (show TrAt X.K H (.tup ts) (.ref p) by rw [TrAt]; exact ⟨p, xs, rfl, q, h1⟩) hu0
          cases e
          rw [teqs_refl]
          exact .same _
        · exact .of_refs hpp a1
    | non => exact absurd (Nat.zero_le _) hz
    | bl b => exact absurd (Nat.zero_le _) hz
    | int b => exact absurd (Nat.zero_le _) hz
    | str b => exact absurd (Nat.zero_le _) hz
end
section
variable {X : Cx}
open Classical in
def rInT (K : PySem.W.Frag) (neg : Bool) : R2 := fun x y H Q => ∃ p xs ts u, y = .ref p ∧ SqL K H p xs ∧ TrsAt K H ts xs ∧ TrAt K H u x ∧ tdeps ts ≤ 8 ∧ Q (.bl (if neg then !(ts.any fun t => teq t u) else ts.any fun t => teq t u)) H
open Classical in
theorem in_any {pins : List (Addr × Obj)} {σ : St} {H : Hp} {s : Shared} (I : Inv X pins σ H s) {u : Tr} : ∀ {ts : List Tr} {xs : List V} {its : List Value}, tdeps ts ≤ 8 → TrsAt X.K H ts xs → Vals xs its →
    its.any (fun y => decide (∃ t x, RelV x y ∧ TrAt X.K H t x ∧ teq t u = true)) = ts.any fun t => teq t u
  | [], xs, its, _, h, r => by rw [TrsAt] at h; subst h; cases r; rfl
  | t :: ts, xs, its, hd, h, r => by
    rw [TrsAt] at h
    obtain ⟨y, ys, rfl, hy, h⟩ := h
    cases r with
    | cons r1 r2 =>
      rw [tdeps] at hd
      rw [List.any_cons, List.any_cons, in_any I (by omega) h r2]
      congr 1
      rw [Bool.eq_iff_iff, decide_eq_true_iff]
      constructor
      · rintro ⟨t', x', r', h', e⟩
        rw [r1.inj r'] at hy
        rw [tr_inj I 8 (by omega) hy h']; exact e
      · intro e
        exact ⟨t, y, r1, hy, e⟩
open Classical in
theorem in_core {pins : List (Addr × Obj)} {σ : St} {H : Hp} {s : Shared} (I : Inv X pins σ H s) (hu : X.A.units + 64 < cLine) {u : Tr} {x : V} {v : Value} (hx : TrAt X.K H u x) (rx : RelV x v) {ts : List Tr} {xs : List V} {its : List Value} (hd : tdeps ts ≤ 8) (h : TrsAt X.K H ts xs) (r : Vals xs its) :
    ∀ y, y ∈ its.toArray → SeqAt.EqAt X.A.in1 s y v (decide (∃ t x, RelV x y ∧ TrAt X.K H t x ∧ teq t u = true)) := by
  intro y hy
  have hy' : y ∈ its := by simpa using hy
  obtain ⟨j, hj, e⟩ := List.getElem_of_mem hy'
  have l1 := h.length
  have m1 := r.length
  obtain ⟨t, et⟩ : ∃ t, ts[j]? = some t := ⟨_, List.getElem?_eq_getElem (by omega)⟩
  obtain ⟨z, ez, hz⟩ := h.get et
  obtain ⟨w, ew, rw'⟩ := r.get ez
  have e' : y = w := by
    rw [List.getElem?_eq_getElem hj] at ew
    exact e.symm.trans (Option.some.inj ew)
  subst e'
  have hd' : tdep t ≤ 8 := Nat.le_trans (tdep_mem (List.mem_of_getElem? et)) hd
  have q := (tr_cmps I 8 (A := X.A.in1) hd' hz hx rw' rx (by rw [units_in1]; omega)).eq
  have e2 : decide (∃ t x, RelV x y ∧ TrAt X.K H t x ∧ teq t u = true) = teq t u := by
    rw [Bool.eq_iff_iff, decide_eq_true_iff]
    constructor
    · rintro ⟨t', x', r', h', e3⟩
      rw [rw'.inj r'] at hz
      rw [tr_inj I 8 hd' hz h']; exact e3
    · intro e3
      exact ⟨t, z, rw', hz, e3⟩
  rw [e2]
  exact q
open Classical in
theorem op_notInT (hu : X.A.units + 64 < cLine) : OpR X (compareOp .NotIn) (rInT X.K true) := by
  intro pins s σ H x y v u Q I rx ry h
  obtain ⟨p, xs, ts, t, rfl, hq, hts, ht, hd, q⟩ := h
  cases ry
  obtain ⟨its, r, pl, hz⟩ := I.list hq
  refine SeqAt.notIn_listAt _ pl.isList (in_core I hu ht rx hd hts r) ⟨.bl _, H, I, rfl, ?_⟩
  simp only [List.any_toArray]
  rw [in_any I hd hts r]
  exact q
end
end L2
set_option Elab.async false
set_option linter.all false
set_option maxRecDepth 100000
namespace L2
open PySem PySem.Spec PyProof.Rows
theorem kit_ty {K : PySem.W.Frag} {T U : String} {b : Bool} (h1 : PySem.W.kitMeta U = true) (h2 : (fastBuiltinMro T).map (·.contains (Value.type U)) = some b) (hb : T = U → b = true) : PySem.W.kitOne K (.type T) (.type U) = some b := by
  unfold PySem.W.kitOne
  by_cases e : T = U
  · subst e
    rw [if_pos (by simp), hb rfl]
  · rw [if_neg (by simpa using e)]
    show (if PySem.W.kitMeta U = true then PySem.W.subIn K (.type T) (.type U) else none) = some b
    rw [if_pos h1]
    exact h2
section
variable {K : PySem.W.Frag}
theorem kit_bool_bool : PySem.W.kitOne K (.type "bool") (.type "bool") = some true := kit_ty (by decide +kernel) (by decide +kernel) (fun _ => rfl)
end
section
variable {X : Cx}
def rIsi (K : PySem.W.Frag) : List V → Hp → VK → Prop := fun xs H Q => ∃ x T t b, xs = [x, .ty T] ∧ TyOf K H x t ∧ PySem.W.kitOne K t (.type T) = some b ∧ Q (.bl b) H
theorem call_isi : CallR X (.builtin "isinstance") (rIsi X.K) := by
  intro pins s σ H xs us Q I r h
  obtain ⟨x, T, t, b, rfl, ty, e, q⟩ := h
  obtain ⟨u, v, rfl, rx, rt⟩ := vals2 r
  cases rt
  exact isinst_ok I rx ty e fun tk => ⟨.bl b, H, I.tok tk, rfl, q⟩
def CDivB (i j : Int) : Prop := 0 < j ∧ j < 2 ^ 200
theorem op_fdivB : OpR X (binaryOp .FloorDiv) (rI CDivB fun i j => .int (i / j)) := opI fun i j _ _ _ _ _ hc q => by
  have h1 : (0 : Int) < j := hc.1
  have h2 : j < 2 ^ 200 := hc.2
  refine floordiv_int (by omega) (by rw [Int.fdiv_eq_ediv_of_nonneg i (by omega)]; exact q) (.inl (PyProof.noPylong_of_log2 ?_))
  have h3 : j.natAbs < 2 ^ 200 := by omega
  have h4 : j.natAbs.log2 < 200 := (Nat.log2_lt (by omega)).mpr h3
  omega
def rIsB (neg : Bool) : R2 := fun x y H Q => ∃ a b, x = .bl a ∧ y = .bl b ∧ Q (.bl (if neg then !decide (a = b) else decide (a = b))) H
theorem truth_bools {P : Program} {w : World} {A : Around} {its : List Value} {bs : List Bool} (r : Vals (bs.map V.bl) its) : TruthOf P w A (fun i v => its.toArray[i]? = some v) (fun i => bs.getD i false) := by
  intro i v s Q E hP hQ
  have hl := r.length
  rw [List.length_map] at hl
  have e : its[i]? = some v := by simpa using hP
  have hi : i < its.length := (List.getElem?_eq_some_iff.mp e).1
  have e2 : (bs.map V.bl)[i]? = some (.bl (bs[i]'(by omega))) := by rw [List.getElem?_map, List.getElem?_eq_getElem (by omega)]; rfl
  obtain ⟨u, e3, r3⟩ := r.get e2
  rw [e] at e3
  cases e3
  cases r3
  have e4 : bs.getD i false = bs[i] := by rw [List.getD_eq_getElem?_getD, List.getElem?_eq_getElem (by omega)]; rfl
  exact wpAny_truthy_bool (e4 ▸ hQ)
theorem all_getD : ∀ bs : List Bool, (List.range bs.length).all (fun i => bs.getD i false) = bs.all id
  | [] => rfl
  | b :: bs => by
    rw [List.length_cons, List.range_succ_eq_map, List.all_cons, List.all_map, List.all_cons, ← all_getD bs]
    rfl
def rAll (K : PySem.W.Frag) : List V → Hp → VK → Prop := fun xs H Q => ∃ (a : Addr) (bs : List Bool), xs = [.ref a] ∧ SqL K H a (bs.map V.bl) ∧ Q (.bl (bs.all id)) H
theorem call_all (hc : X.calm = true) : CallR X (.builtin "all") (rAll X.K) := by
  intro pins s σ H xs us Q I r h
  obtain ⟨a, bs, rfl, hq, q⟩ := h
  obtain ⟨u, rfl, rx⟩ := vals1 r
  cases rx
  obtain ⟨its, rv, pl, hz⟩ := I.list hq
  have hl := rv.length
  rw [List.length_map] at hl
  obtain ⟨o, n, eo, _⟩ := id pl
  have hne : a ≠ s.heap.objs.size := Nat.ne_of_lt (Heap.lt_size eo)
  refine call_all_walk (wpAny_pyIter_list pl.isList ?_)
  refine ⟨_, _, _, _, _, _, _, rfl, Walks.list (A := X.A.in1) (show X.A.in1.handled = none from I.ok.hd hc) s.heap.objs.size a hne its.toArray, ⟨⟨_, Heap.get?_push_size _ rfl, rfl, rfl⟩, pl.isList.at fun o e => Heap.get?_push_of_some _ e⟩, truth_bools rv, fun h' tk hk => ?_⟩
  have I1 : Inv X pins σ H { s with heap := h', toks := tk } := I.kept fun b o e => hk b o (by have := Heap.lt_size e; simp; exact Nat.ne_of_lt this) (Heap.get?_push_of_some _ e)
  refine ⟨.bl _, H, I1, rfl, ?_⟩
  rw [List.size_toArray, ← hl, all_getD]
  exact q
def rRevS (K : PySem.W.Frag) (te : TE) : TE := fun σ H Q => te σ H fun x H1 => ∃ a xs, x = .ref a ∧ SqL K H1 a xs ∧ ∀ p, H1 p = none → Q (.ref p) (upd H1 p (.lst xs.reverse))
theorem pe_revSlice {e : Expr} {te : TE} {j : Nat} {p1 p2 p3 pos : Pos} (he : PE X e te) : PE X (.Subscript e (.Slice none none (some (.UnaryOp .USub (.Constant (.int 1) j p1) p2)) p3) pos) (rRevS X.K te) := by
  intro pins s σ H Q I h
  refine Subscript_ (thn (he pins s σ H _ I h) fun v s1 ⟨x, H1, I1, r1, q1⟩ => ?_)
  obtain ⟨a, xs, rfl, hx, q⟩ := q1
  cases r1
  refine wpAny_Slice ?_
  rw [evalPart_none]
  refine wpAny_pure (wpAny_pure ?_)
  rw [evalPart_some]
  refine thn (pe_un un_neg (pe_int (X := X)) pins s1 σ H1 (fun v H2 => v = .int (-1) ∧ H2 = H1) I1 ⟨1, rfl, rfl, rfl⟩) fun u s2 ⟨y, H2, I2, r2, e1, e2⟩ => ?_
  subst e1 e2
  obtain ⟨t, rfl⟩ := r2
  obtain ⟨its, r, ht, hz⟩ := I2.list hx
  have hlen := r.length
  have I3 : Inv X pins σ H2 { s2 with heap := s2.heap.push { cls := .type "slice", data := .fields #[.none, .none, .int (-1) t] } } := I2.kept (t' := s2.toks) fun b ob q => Heap.get?_push_of_some _ q
  obtain ⟨its', r', ht', hz'⟩ := I3.list hx
  have hlen' := r'.length
  show wpAny (model X.prog X.w) X.A (subscriptTail e (.Slice none none (some _) p3) (.ref a) (.ref s2.heap.objs.size)) (EP X pins σ Q) X.xe { s2 with heap := s2.heap.push { cls := .type "slice", data := .fields #[.none, .none, .int (-1) t] } }
  refine tail_any (ops := [.ref a, .ref s2.heap.objs.size]) ht'.isList.typeIs slot_list_getitem.lookup ?_ (by with_unfolding_all rfl)
  refine wpAny_getItem_list_slice ht'.isList (Heap.IsSliceOf.new ..) .none .none (.int (-1) t) (by simp) ?_ (by rw [List.size_toArray] <;> omega)
  rw [PySem.W.krv_pick]
  refine ⟨.ref _, _, I3.laid (t' := s2.toks) (o := .lst xs.reverse) (fun b ob q => Heap.get?_push_of_some _ q) (Nat.le_refl _) ?_, rfl, q _ (I3.hok.fresh (Nat.le_refl _))⟩
  exact ⟨by rw [List.length_reverse]; exact hz, _, 0, r'.reverse, Heap.get?_push_size _ rfl⟩
section
variable {prog : Program} {w : World} {A : Around} {E : Value → Shared → Prop} {s : Shared}
end
end
section
variable {X : Cx} (K : PySem.W.Frag)
theorem k_isi (e : X.K = K := by rfl) : CallR X (.builtin "isinstance") (rIsi K) := by subst e; exact call_isi
theorem k_len (e : X.K = K := by rfl) : CallR X (.builtin "len") (fun xs H Q => ∃ p ys, xs = [.ref p] ∧ (SqL K H p ys ∨ SqT K H p ys) ∧ Q (.int ys.length) H) := by subst e; exact call_len_seq
theorem k_ixL (e : X.K = K := by rfl) : IxR X (rIxL K) := by subst e; exact ix_list
theorem k_ixT (e : X.K = K := by rfl) : IxR X (rIxT K) := by subst e; exact ix_tup
theorem k_slL (e : X.K = K := by rfl) : SlR X (rSlL K) := by subst e; exact sl_list
theorem k_all (hc : X.calm = true) (e : X.K = K := by rfl) : CallR X (.builtin "all") (rAll K) := by subst e; exact call_all hc
theorem k_listOf (e : X.K = K := by rfl) : CallR X (.type "list") (fun xs H Q => ∃ p ys, xs = [.ref p] ∧ (SqL K H p ys ∨ SqT K H p ys) ∧ ∀ l, H l = none → Q (.ref l) (upd H l (.lst ys))) := by subst e; exact call_list_of
theorem k_notInT (hu : X.A.units + 64 < cLine) (e : X.K = K := by rfl) : OpR X (compareOp .NotIn) (rInT K true) := by subst e; exact op_notInT hu
theorem k_pi {tg l : Expr} {tl : TE} (hl : PE X l tl) (e : X.K = K := by rfl) : PI X tg l (iList K tl) := by subst e; exact pi_list hl
end
structure Df (K : PySem.W.Frag) (mg : Str → Option Value) (x : Str) (st : Stmt) (ps : List Str) (f : Addr) (fd : FuncData) : Prop where
  fn : Fun K x x st f fd
  b : Binds K fd ps []
  g : mg x = some (.ref f)
theorem pcall {X : Cx} {x : Str} {st : Stmt} {ps : List Str} {f : Addr} {fd : FuncData} {k : Nat} {sp : Sp} {e : Expr} {es : List Expr} {t : TA} {p pos : Pos} (D : Df X.K X.mg x st ps f fd) (G : FnOk X.prog X.w X.K X.mg X.base CX0 k f fd ps sp) (hr : Room k X.A) (ha : PA X (e :: es) t) (hg : Gl X x := by rfl)
    (hdb : (x == ("__debug__" : Str)) = false := by decide) (he : starEach (e :: es) X.env = (false, eval e X.env) :: starEach es X.env := by rfl) (hpl : (backTo pos (starEach es X.env)).any (·.1) = false := by rfl) : PE X (.Call (.Name x p) (e :: es) [] pos) (tCall sp [] E0 t) :=
  pe_call G hr hg D.g D.fn.kp D.b .nil pass0 ha hdb he hpl
theorem df_mk {K : PySem.W.Frag} {h : Heap} {mg : Str → Option Value} {x : Str} {st : Stmt} {ps : List Str} {f : Addr} {oc : Value} {od an : Option Addr} {osl : Array (Option Value)} {kV doc pm cdv ct : Value} (X : K.In h) (G : h.Ns mainGlobals mg)
    (a : PySem.W.nsIn K mainGlobals x = some (some (.ref f))) (l : K.lookup f = some ⟨oc, od, .func (PySem.W.fnOf x x (defArgs st) (defBody st) (defScope st) .none kV doc pm an cdv ct), osl⟩) (c : PySem.W.codeIn K cdv x = true) (k : PySem.W.keepIn K (.ref f) = true)
    (hb : ∀ (kV doc pm : Value) (an : Option Addr) (cdv ct : Value) (us : List Value), us.length = ps.length → bindArgs (PySem.W.fnOf x x (defArgs st) (defBody st) (defScope st) .none kV doc pm an cdv ct) ⟨us, []⟩ = pure (ps.zip us)) :
    Df K mg x st ps f (PySem.W.fnOf x x (defArgs st) (defBody st) (defScope st) .none kV doc pm an cdv ct) :=
  ⟨fun_mk l c k, (fun_mk (st := st) l c k).binds hb, PySem.W.mg_of X G a⟩
structure Blt (mg : Str → Option Value) : Prop where
  n_isinstance : mg "isinstance" = none
  n_int : mg "int" = none
  n_bool : mg "bool" = none
  n_list : mg "list" = none
  n_tuple : mg "tuple" = none
  n_reversed : mg "reversed" = none
  n_len : mg "len" = none
  n_max : mg "max" = none
  n_min : mg "min" = none
  n_range : mg "range" = none
  n_all : mg "all" = none
  n_any : mg "any" = none
  n_sorted : mg "sorted" = none
  n_enumerate : mg "enumerate" = none
  n_repr : mg "repr" = none
theorem HUof {A : Around} {k : Nat} (hr : Room k A) : A.units + 64 < cLine := hr.units
def aw (fp : List Addr) (H : Hp) : Hp := fun b => if b ∈ fp then none else H b
theorem aw_in {fp : List Addr} {H : Hp} {b : Addr} (h : b ∈ fp) : aw fp H b = none := by unfold aw; rw [if_pos h]
theorem aw_out {fp : List Addr} {H : Hp} {b : Addr} (h : b ∉ fp) : aw fp H b = H b := by unfold aw; rw [if_neg h]
theorem aw_same (fp : List Addr) (H : Hp) : Same (aw fp H) H := fun b o e => by
  by_cases h : b ∈ fp
  · rw [aw_in h] at e; cases e
  · rw [aw_out h] at e; exact e
theorem Same.aw {H H' : Hp} (h : Same H H') (fp : List Addr) : Same (aw fp H) (aw fp H') := fun b o e => by
  by_cases hb : b ∈ fp
  · rw [aw_in hb] at e; cases e
  · rw [aw_out hb] at e ⊢; exact h b o e
theorem same_upd {H : Hp} {p : Addr} {o : HO} (h : H p = none) : Same H (upd H p o) := fun b u e => by rw [upd_ne (ne_of_none e h)]; exact e
end L2
set_option Elab.async false
set_option linter.all false
set_option maxRecDepth 100000
namespace L2
open PySem PyProof.Rows
mutual
def ThAt (H : Hp) : PyData → V → Prop
  | .none, v => v = .non
  | .bool b, v => v = .bl b
  | .int i, v => v = .int i
  | .str x, v => v = .str x
  | .list xs, v => ∃ a ys, v = .ref a ∧ H a = some (.lst ys) ∧ ThsAt H xs ys
  | .tuple xs, v => ∃ a ys, v = .ref a ∧ H a = some (.tup ys) ∧ ThsAt H xs ys
  | .dict kvs, v => kvs = [] ∧ ∃ a, v = .ref a ∧ H a = some (.dK [])
def ThsAt (H : Hp) : List PyData → List V → Prop
  | [], ys => ys = []
  | d :: ds, ys => ∃ y zs, ys = y :: zs ∧ ThAt H d y ∧ ThsAt H ds zs
end
mutual
theorem ThAt.same {H H' : Hp} (m : Same H H') : ∀ {d : PyData} {v : V}, ThAt H d v → ThAt H' d v
  | .none, v, h => by rw [ThAt] at h ⊢; exact h
  | .bool b, v, h => by rw [ThAt] at h ⊢; exact h
  | .int i, v, h => by rw [ThAt] at h ⊢; exact h
  | .str x, v, h => by rw [ThAt] at h ⊢; exact h
  | .list xs, v, h => by
    rw [ThAt] at h ⊢
    obtain ⟨a, ys, h1, h2, h3⟩ := h
    exact ⟨a, ys, h1, m _ _ h2, ThsAt.same m h3⟩
  | .tuple xs, v, h => by
    rw [ThAt] at h ⊢
    obtain ⟨a, ys, h1, h2, h3⟩ := h
    exact ⟨a, ys, h1, m _ _ h2, ThsAt.same m h3⟩
  | .dict kvs, v, h => by
    rw [ThAt] at h ⊢
    obtain ⟨h0, a, h1, h2⟩ := h
    exact ⟨h0, a, h1, m _ _ h2⟩
theorem ThsAt.same {H H' : Hp} (m : Same H H') : ∀ {ds : List PyData} {ys : List V}, ThsAt H ds ys → ThsAt H' ds ys
  | [], ys, h => by rw [ThsAt] at h ⊢; exact h
  | d :: ds, ys, h => by
    rw [ThsAt] at h ⊢
    obtain ⟨y, zs, h1, h2, h3⟩ := h
    exact ⟨y, zs, h1, ThAt.same m h2, ThsAt.same m h3⟩
end
theorem ThsAt.len {H : Hp} : ∀ {ds : List PyData} {ys : List V}, ThsAt H ds ys → ys.length = ds.length
  | [], ys, h => by rw [ThsAt] at h; rw [h]; rfl
  | d :: ds, ys, h => by
    rw [ThsAt] at h
    obtain ⟨y, zs, h1, h2, h3⟩ := h
    rw [h1, List.length_cons, List.length_cons, ThsAt.len h3]
theorem ThsAt.get {H : Hp} : ∀ {ds : List PyData} {ys : List V} {k : Nat} {v : V}, ThsAt H ds ys → ys[k]? = some v → ∃ d, ds[k]? = some d ∧ ThAt H d v
  | [], ys, k, v, h, e => by rw [ThsAt] at h; rw [h] at e; simp at e
  | d :: ds, ys, k, v, h, e => by
    rw [ThsAt] at h
    obtain ⟨y, zs, h1, h2, h3⟩ := h
    rw [h1] at e
    cases k with
    | zero => exact ⟨d, rfl, by have : y = v := by simpa using e
                                rw [← this]; exact h2⟩
    | succ k => exact ThsAt.get (ds := ds) (k := k) h3 (by simpa using e)
def tyT : PyData → String
  | .none => "NoneType" | .bool _ => "bool" | .int _ => "int" | .str _ => "str" | .list _ => "list" | .tuple _ => "tuple" | .dict _ => "dict"
theorem ThAt.ty {K : PySem.W.Frag} {H : Hp} {d : PyData} {v : V} (h : ThAt H d v) : TyOf K H v (.type (tyT d)) := by
  cases d with
  | none => rw [ThAt] at h; rw [h]; exact .non
  | bool b => rw [ThAt] at h; rw [h]; exact .bl b
  | int i => rw [ThAt] at h; rw [h]; exact .int i
  | str x => rw [ThAt] at h; rw [h]; exact .str x
  | list xs => rw [ThAt] at h; obtain ⟨a, ys, rfl, h2, _⟩ := h; exact .lst h2
  | tuple xs => rw [ThAt] at h; obtain ⟨a, ys, rfl, h2, _⟩ := h; exact .tup h2
  | dict kvs => rw [ThAt] at h; obtain ⟨_, a, rfl, h2⟩ := h; exact .dK h2
def isS (T t : String) : Bool := t == T || (t == "bool" && T == "int")
def isT (T : String) (d : PyData) : Bool := isS T (tyT d)
section
variable {K : PySem.W.Frag}
theorem kit_ts {T t : String} (hT : T = "int" ∨ T = "bool" ∨ T = "list" ∨ T = "tuple" ∨ T = "str") (ht : t = "NoneType" ∨ t = "bool" ∨ t = "int" ∨ t = "str" ∨ t = "list" ∨ t = "tuple" ∨ t = "dict") : PySem.W.kitOne K (.type t) (.type T) = some (isS T t) := by
  rcases hT with rfl | rfl | rfl | rfl | rfl <;> rcases ht with rfl | rfl | rfl | rfl | rfl | rfl | rfl <;>
    first
    | exact kit_ty (by decide +kernel) (by decide +kernel) (fun _ => rfl)
    | exact kit_ty (by decide +kernel) (by decide +kernel) (fun e => absurd e (by decide))
theorem tyT_one (d : PyData) : tyT d = "NoneType" ∨ tyT d = "bool" ∨ tyT d = "int" ∨ tyT d = "str" ∨ tyT d = "list" ∨ tyT d = "tuple" ∨ tyT d = "dict" := by
  cases d <;> simp [tyT]
theorem kit_int (d : PyData) : PySem.W.kitOne K (.type (tyT d)) (.type "int") = some (isT "int" d) := kit_ts (by simp) (tyT_one d)
theorem kit_bool (d : PyData) : PySem.W.kitOne K (.type (tyT d)) (.type "bool") = some (isT "bool" d) := kit_ts (by simp) (tyT_one d)
theorem kit_list (d : PyData) : PySem.W.kitOne K (.type (tyT d)) (.type "list") = some (isT "list" d) := kit_ts (by simp) (tyT_one d)
theorem kit_tuple (d : PyData) : PySem.W.kitOne K (.type (tyT d)) (.type "tuple") = some (isT "tuple" d) := kit_ts (by simp) (tyT_one d)
end
end L2
set_option Elab.async false
set_option linter.all false
set_option maxRecDepth 100000
namespace L2
open PySem PyProof.Rows
section
variable {P : Program} {w : World} {H : Hp} {h : Heap}
theorem lst_obj {a : Addr} {ys : List V} (ok : HOk P w H h) (e : H a = some (.lst ys)) : ∃ (its : List Value) (n : Nat), Vals ys its ∧ h.get? a = some { cls := .type "list", data := .seq its.toArray n } := (ok a _ e).2
theorem tup_obj {a : Addr} {ys : List V} (ok : HOk P w H h) (e : H a = some (.tup ys)) : ∃ (its : List Value) (o : Obj) (n : Nat), Vals ys its ∧ h.get? a = some o ∧ o.cls = .type "tuple" ∧ o.data = .seq its.toArray n := by
  obtain ⟨_, its, r, o, h1, h2, n, h3⟩ := ok a _ e
  exact ⟨its, o, n, r, h1, h2, h3⟩
theorem emp_obj {a : Addr} (ok : HOk P w H h) (e : H a = some (.dK [])) : (a == sysModules) = false ∧ ∃ (o : Obj) (n : Nat), h.get? a = some o ∧ o.cls = .type "dict" ∧ o.data = .dict #[] n := by
  obtain ⟨_, hs, vs, r, o, es, ep, e1, ex, ed, _, pr, _⟩ := ok a _ e
  cases r
  refine ⟨hs, o, ep, e1, ex.1, ?_⟩
  obtain ⟨l⟩ := es
  have pr' : Pairs (mixKind P w) l [] := pr
  cases pr'
  exact ed
mutual
theorem th_reads (ok : HOk P w H h) : ∀ {d : PyData} {v : V} {u : Value}, ThAt H d v → RelV v u → ∃ as, Reads h u d as
  | .none, v, u, t, r => by
    rw [ThAt] at t; subst t
    have e : u = Value.none := r
    subst e; exact ⟨_, .none⟩
  | .bool b, v, u, t, r => by
    rw [ThAt] at t; subst t
    have e : u = Value.bool b := r
    subst e; exact ⟨_, .bool b⟩
  | .int i, v, u, t, r => by
    rw [ThAt] at t; subst t
    obtain ⟨k, rfl⟩ : ∃ k, u = Value.int i k := r
    exact ⟨_, .int i k⟩
  | .str x, v, u, t, r => by
    rw [ThAt] at t; subst t
    obtain ⟨k, rfl⟩ : ∃ k, u = Value.str x k := r
    exact ⟨_, .str x k⟩
  | .list xs, v, u, t, r => by
    rw [ThAt] at t
    obtain ⟨a, ys, rfl, ha, hx⟩ := t
    have e : u = Value.ref a := r
    subst e
    obtain ⟨its, n, rv, ho⟩ := lst_obj ok ha
    obtain ⟨as, q⟩ := ths_reads ok hx rv
    exact ⟨_, .list ho rfl rfl q⟩
  | .tuple xs, v, u, t, r => by
    rw [ThAt] at t
    obtain ⟨a, ys, rfl, ha, hx⟩ := t
    have e : u = Value.ref a := r
    subst e
    obtain ⟨its, o, n, rv, h1, h2, h3⟩ := tup_obj ok ha
    obtain ⟨as, q⟩ := ths_reads ok hx rv
    exact ⟨_, .tuple h1 h2 h3 q⟩
  | .dict kvs, v, u, t, r => by
    rw [ThAt] at t
    obtain ⟨rfl, a, rfl, ha⟩ := t
    have e : u = Value.ref a := r
    subst e
    obtain ⟨_, o, n, h1, h2, h3⟩ := emp_obj ok ha
    exact ⟨_, .dict h1 h2 h3 .nil .nil⟩
theorem ths_reads (ok : HOk P w H h) : ∀ {ds : List PyData} {ys : List V} {us : List Value}, ThsAt H ds ys → Vals ys us → ∃ as, ReadsAll h us ds as
  | [], ys, us, t, r => by
    rw [ThsAt] at t; subst t
    cases r
    exact ⟨_, .nil⟩
  | d :: ds, ys, us, t, r => by
    rw [ThsAt] at t
    obtain ⟨y, zs, rfl, h1, h2⟩ := t
    cases r with
    | cons r1 r2 =>
      obtain ⟨as, q⟩ := th_reads ok h1 r1
      obtain ⟨bs, q2⟩ := ths_reads ok h2 r2
      exact ⟨_, .cons q q2⟩
end
mutual
theorem th_shown (ok : HOk P w H h) : ∀ {d : PyData} {v : V} {u : Value}, ThAt H d v → RelV v u → d.showable = true → d.shown.length ≤ sizeLine → ∃ bs, ReadAtMost h d.depth bs ∧ ReprK P w bs h d.depth u d.shown
  | .none, v, u, t, r, _, _ => by
    rw [ThAt] at t; subst t
    have e : u = Value.none := r
    subst e
    exact ⟨[], by simp [ReadAtMost], by rw [PyData.shown]; exact .of_is ReprIs.none _ _ _⟩
  | .bool b, v, u, t, r, _, _ => by
    rw [ThAt] at t; subst t
    have e : u = Value.bool b := r
    subst e
    exact ⟨[], by simp [ReadAtMost], by rw [PyData.shown]; exact .of_is (ReprIs.bool b) _ _ _⟩
  | .int i, v, u, t, r, hs, _ => by
    rw [ThAt] at t; subst t
    obtain ⟨k, rfl⟩ : ∃ k, u = Value.int i k := r
    rw [PyData.showable] at hs
    exact ⟨[], by simp [ReadAtMost], by rw [PyData.shown]; exact .of_is (ReprIs.int k (of_decide_eq_true hs)) _ _ _⟩
  | .str x, v, u, t, r, _, hz => by
    rw [ThAt] at t; subst t
    obtain ⟨k, rfl⟩ : ∃ k, u = Value.str x k := r
    rw [PyData.shown] at hz
    exact ⟨[], by simp [ReadAtMost], by rw [PyData.shown]; exact .of_is (ReprIs.str x k hz) _ _ _⟩
  | .list xs, v, u, t, r, hs, hz => by
    obtain ⟨as, rd⟩ := th_reads ok t r
    rw [ThAt] at t
    obtain ⟨a, ys, rfl, ha, hx⟩ := t
    have e : u = Value.ref a := r
    subst e
    obtain ⟨its, n, rv, ho⟩ := lst_obj ok ha
    rw [PyData.showable] at hs
    rw [PyData.shown] at hz
    obtain ⟨bs, hb, hk⟩ := ths_shown ok hx rv hs fun s hsm => Nat.le_trans (listText_mem_le hsm) hz
    have dd : (PyData.list xs).depth = PyData.depthAll xs + 1 := by rw [PyData.depth]
    refine ⟨a :: bs, ReadAtMost.cons rd (by omega) hb, ?_⟩
    rw [dd, PyData.shown]
    cases its with
    | nil =>
      cases rv
      cases xs with
      | nil => rw [PyData.shownAll, listText_nil]; exact ReprK.listEmpty ho rfl rfl
      | cons _ _ => rw [ThsAt] at hx; obtain ⟨_, _, z, _⟩ := hx; cases z
    | cons x l => exact ReprK.list ho rfl rfl (not_mem_of_deeper rd (by omega) hb) (by rw [hk.length_eq]; simp) fun i y q => hk.item i y (by simpa using q)
  | .tuple xs, v, u, t, r, hs, hz => by
    obtain ⟨as, rd⟩ := th_reads ok t r
    rw [ThAt] at t
    obtain ⟨a, ys, rfl, ha, hx⟩ := t
    have e : u = Value.ref a := r
    subst e
    obtain ⟨its, o, n, rv, h1, h2, h3⟩ := tup_obj ok ha
    rw [PyData.showable] at hs
    rw [PyData.shown] at hz
    obtain ⟨bs, hb, hk⟩ := ths_shown ok hx rv hs fun s hsm => Nat.le_trans (tupleText_mem_le hsm) hz
    have dd : (PyData.tuple xs).depth = PyData.depthAll xs + 1 := by rw [PyData.depth]
    refine ⟨a :: bs, ReadAtMost.cons rd (by omega) hb, ?_⟩
    rw [dd, PyData.shown]
    exact ReprK.tuple h1 h2 h3 (not_mem_of_deeper rd (by omega) hb) hk
  | .dict kvs, v, u, t, r, hs, hz => by
    obtain ⟨as, rd⟩ := th_reads ok t r
    rw [ThAt] at t
    obtain ⟨rfl, a, rfl, ha⟩ := t
    have e : u = Value.ref a := r
    subst e
    obtain ⟨sy, o, n, h1, h2, h3⟩ := emp_obj ok ha
    have dd : (PyData.dict []).depth = 0 + 1 := by rw [PyData.depth, PyData.depthKv]
    refine ⟨[a], ReadAtMost.cons rd (Nat.zero_le _) (by simp [ReadAtMost]), ?_⟩
    rw [dd, PyData.shown, PyData.shownKv]
    exact ReprK.dict h1 h2 h3 sy (by simp) .nil
theorem ths_shown (ok : HOk P w H h) : ∀ {ds : List PyData} {ys : List V} {us : List Value}, ThsAt H ds ys → Vals ys us → PyData.showableAll ds = true → (∀ s ∈ PyData.shownAll ds, s.length ≤ sizeLine) → ∃ bs, ReadAtMost h (PyData.depthAll ds) bs ∧ ReprAllK P w bs h (PyData.depthAll ds) us (PyData.shownAll ds)
  | [], ys, us, t, r, _, _ => by
    rw [ThsAt] at t; subst t
    cases r
    exact ⟨[], by simp [ReadAtMost], by rw [PyData.shownAll]; exact .nil⟩
  | d :: ds, ys, us, t, r, hs, hz => by
    rw [ThsAt] at t
    obtain ⟨y, zs, rfl, h1, h2⟩ := t
    rw [PyData.showableAll, Bool.and_eq_true] at hs
    rw [PyData.shownAll] at hz
    cases r with
    | cons r1 r2 =>
      obtain ⟨b1, q1, k1⟩ := th_shown ok h1 r1 hs.1 (hz _ (.head _))
      obtain ⟨b2, q2, k2⟩ := ths_shown ok h2 r2 hs.2 fun s hsm => hz s (.tail _ hsm)
      have dd : PyData.depthAll (d :: ds) = max d.depth (PyData.depthAll ds) := by rw [PyData.depthAll]
      refine ⟨b1 ++ b2, (q1.mono (by omega)).append (q2.mono (by omega)), ?_⟩
      rw [PyData.shownAll]
      exact .cons ((k1.more fun b hb => List.mem_append_left _ hb).level_le (by omega)) (k2.more_le (fun b hb => List.mem_append_right _ hb) (by omega))
end
end
def rReprT : List V → Hp → VK → Prop := fun xs H Q => ∃ v d, xs = [v] ∧ ThAt H d v ∧ d.showable = true ∧ d.shown.length ≤ sizeLine ∧ d.depth ≤ 40 ∧ Q (.str d.shown) H
theorem call_reprT {X : Cx} (hg : X.A.guards = some []) (hu : X.A.units + 64 < cLine) : CallR X (.builtin "repr") rReprT := by
  intro pins s σ H xs us Q I r hq
  obtain ⟨v, d, rfl, t, hs, hz, hd, q⟩ := hq
  obtain ⟨u, rfl, ru⟩ := vals1 r
  obtain ⟨as, rd⟩ := th_reads I.hok t ru
  cases d with
  | none =>
    rw [ThAt] at t; subst t
    have e : u = Value.none := ru
    subst e
    rw [PyData.shown] at q
    exact P.repr_of_none ⟨.str "None", H, I.tok _, ⟨_, rfl⟩, q⟩
  | bool b =>
    rw [ThAt] at t; subst t
    have e : u = Value.bool b := ru
    subst e
    rw [PyData.shown] at q
    exact P.repr_of_bool ⟨.str _, H, I.tok _, ⟨_, rfl⟩, q⟩
  | int i =>
    rw [ThAt] at t; subst t
    obtain ⟨k, rfl⟩ : ∃ k, u = Value.int i k := ru
    rw [PyData.shown] at q
    rw [PyData.showable] at hs
    exact P.repr_of_int (of_decide_eq_true hs) ⟨.str _, H, I.tok _, ⟨_, rfl⟩, q⟩
  | str x =>
    rw [ThAt] at t; subst t
    obtain ⟨k, rfl⟩ : ∃ k, u = Value.str x k := ru
    rw [PyData.shown] at q hz
    exact P.repr_of_str ⟨.str _, H, I.tok _, ⟨_, rfl⟩, q⟩ hz
  | list xs =>
    rw [ThAt] at t
    obtain ⟨a, ys, rfl, ha, hx⟩ := t
    have e : u = Value.ref a := ru
    subst e
    obtain ⟨its, n, rv, ho⟩ := lst_obj I.hok ha
    rw [PyData.showable] at hs
    rw [PyData.shown] at hz q
    obtain ⟨bs, hb, hk⟩ := ths_shown I.hok hx rv hs fun s hsm => Nat.le_trans (listText_mem_le hsm) hz
    have dd : (PyData.list xs).depth = PyData.depthAll xs + 1 := by rw [PyData.depth]
    refine call_repr_slot (by omega) ⟨_, ho, rfl⟩ PySem.F.slot_list_repr.toG ?_
    cases its with
    | nil =>
      cases rv
      cases xs with
      | nil =>
        rw [PyData.shownAll, listText_nil] at q
        exact call_list_repr_empty ⟨_, ho, rfl⟩ ho rfl ⟨_, _, rfl, .str "[]", H, I.tok _, ⟨_, rfl⟩, q⟩
      | cons _ _ => rw [ThsAt] at hx; obtain ⟨_, _, z, _⟩ := hx; cases z
    | cons x l =>
      exact call_list_reprK ho rfl rfl (not_mem_of_deeper rd (by omega) hb) (by rw [hk.length_eq]; simp) (fun i y q => hk.item i y (by simpa using q)) (A := X.A.in1) hg (fun b _ => Clear.nil b) (by show X.A.units + 1 + (PyData.depthAll xs + 1) < cLine; omega) (fun _ _ e => e) (fun h' u tk hk => ⟨_, _, rfl, .str _, H, I.kept hk, ⟨_, rfl⟩, q⟩) hz
  | tuple xs =>
    rw [ThAt] at t
    obtain ⟨a, ys, rfl, ha, hx⟩ := t
    have e : u = Value.ref a := ru
    subst e
    obtain ⟨its, o, n, rv, h1, h2, h3⟩ := tup_obj I.hok ha
    rw [PyData.showable] at hs
    rw [PyData.shown] at hz q
    obtain ⟨bs, hb, hk⟩ := ths_shown I.hok hx rv hs fun s hsm => Nat.le_trans (tupleText_mem_le hsm) hz
    have dd : (PyData.tuple xs).depth = PyData.depthAll xs + 1 := by rw [PyData.depth]
    exact call_repr_slot (by omega) ⟨_, h1, h2⟩ PySem.F.slot_tuple_repr (call_tuple_reprK h1 h2 h3 (not_mem_of_deeper rd (by omega) hb) hk (A := X.A.in1) hg (fun b _ => Clear.nil b) (by show X.A.units + 1 + (PyData.depthAll xs + 1) < cLine; omega) (fun _ _ e => e) (fun h' u tk hk => ⟨_, _, rfl, .str _, H, I.kept hk, ⟨_, rfl⟩, q⟩) hz)
  | dict kvs =>
    rw [ThAt] at t
    obtain ⟨rfl, a, rfl, ha⟩ := t
    have e : u = Value.ref a := ru
    subst e
    obtain ⟨sy, o, n, h1, h2, h3⟩ := emp_obj I.hok ha
    rw [PyData.shown, PyData.shownKv] at q hz
    exact call_repr_slot (by omega) ⟨_, h1, h2⟩ PySem.F.slot_dict_repr (call_dict_reprK (as := []) (d := 0) (ps := []) h1 h2 h3 sy (by simp) .nil (A := X.A.in1) hg (fun b _ => Clear.nil b) (by show X.A.units + 1 + (0 + 1) < cLine; omega) (fun _ _ e => e) (fun h' u tk hk => ⟨_, _, rfl, .str _, H, I.kept hk, ⟨_, rfl⟩, q⟩) hz)
end L2
set_option Elab.async false
set_option linter.all false
set_option maxRecDepth 100000
namespace HT
open PySem PyProof.Rows
section
open PySem.SeqAt
open PySem.AutoSeq1 (wpAny_loadPart')
open PySem.MeetsSeq PySem.MeetsSeq2 PySem.MeetsSeq3 PySem.SeqRoads2
theorem ints_at {vs : List Value} {ns : List Int} (h : IntsAre vs ns) {i : Nat} (hi : i < ns.length) : ∃ t, vs[i]? = some (.int (ns[i]) t) := by
  induction h generalizing i with
  | nil => simp at hi
  | cons a t h ih =>
    cases i with
    | zero => exact ⟨t, rfl⟩
    | succ i =>
      obtain ⟨t', e⟩ := ih (i := i) (by simpa using hi)
      exact ⟨t', by simpa using e⟩
theorem lt_loop (l b : Addr) (items items2 : Array Value) (n n2 : Nat) (dd dd2 : Option Addr) (sl sl2 : Array (Option Value)) (ns ms : List Int) (hi : IntsAre items.toList ns) (hj : IntsAre items2.toList ms) (k : Nat) :
    ∀ i : Nat, ns.length - i = k → i ≤ ns.length → i ≤ ms.length → Meets (Builtin.«list.__eq__.loop» ⟨[.ref l, .ref b, rawInt i, rawInt 0], []⟩)
      (fun _ R s => s.heap.get? l = some { cls := .type "list", dict := dd, data := .seq items n, slots := sl } ∧ s.heap.get? b = some { cls := .type "list", dict := dd2, data := .seq items2 n2, slots := sl2 } ∧
        R (.ok (.ret (.bool (lexLt (ns.drop i) (ms.drop i))))) s) := by
  have z1 : items.size = ns.length := by rw [← hi.length]; simp
  have z2 : items2.size = ms.length := by rw [← hj.length]; simp
  induction k with
  | zero =>
    intro i hk h1 h2 prog w A R s h
    obtain ⟨hp, g, d, tk, os⟩ := s; obtain ⟨hl, hb, h⟩ := h
    have hin : i = ns.length := by omega
    wp_walk using wpAny_loadPart' hl, wpAny_loadPart' hb
    have hi1 : items[((i : Nat) : Int).toNat]? = none := by simp; omega
    have hd : ns.drop i = [] := by simp; omega
    rw [hd] at h
    rw [hi1]
    wp_walk using wpAny_loadPart' hl, wpAny_loadPart' hb
    show R (.ok (.ret (.bool (decide (items.size < items2.size))))) _
    have e : lexLt [] (ms.drop i) = decide (items.size < items2.size) := by
      cases q : ms.drop i with
      | nil =>
        rw [lexLt_nil_nil]
        have : ms.length ≤ i := by simpa using List.drop_eq_nil_iff.mp q
        exact (decide_eq_false (by omega)).symm
      | cons x y =>
        rw [lexLt_nil_cons]
        have : i < ms.length := by
          by_cases z : i < ms.length
          · exact z
          · rw [List.drop_of_length_le (by omega)] at q; cases q
        exact (decide_eq_true (by omega)).symm
    rw [← e]
    exact h
  | succ k ih =>
    intro i hk h1 h2 prog w A R s h
    obtain ⟨hp, g, d, tk, os⟩ := s; obtain ⟨hl, hb, h⟩ := h
    have hlt : i < ns.length := by omega
    obtain ⟨t, et⟩ := ints_at hi hlt
    have hi1 : items[((i : Nat) : Int).toNat]? = some (.int (ns[i]) t) := by simpa using et
    by_cases hm : i < ms.length
    · obtain ⟨u, eu⟩ := ints_at hj hm
      have hi2 : items2[((i : Nat) : Int).toNat]? = some (.int (ms[i]) u) := by simpa using eu
      wp_walk using wpAny_loadPart' hl, wpAny_loadPart' hb
      rw [List.drop_eq_getElem_cons hlt, List.drop_eq_getElem_cons hm, lexLt_cons] at h
      have hc : ((i : Int) + 1) = ((i + 1 : Nat) : Int) := by push_cast; rfl
      rw [hi1, hi2]
      obtain ⟨e, he, hiff⟩ := eqAt_int A.in1 ⟨hp, g, d, tk, os⟩ (ns[i]) t (ms[i]) u
      refine wpAny_bind (he prog w _ _ ?_)
      cases e with
      | true =>
        rw [if_pos (hiff.mp rfl)] at h
        wp_walk
        rw [hc]
        exact ⟨plainId_quiet plain_eq_loop _, codeAny_builtin entry_eq_loop (by
          rw [Around.under_plainId plain_eq_loop _]
          exact ih (i + 1) (by omega) (by omega) (by omega) prog w A R _ ⟨hl, hb, h⟩)⟩
      | false =>
        rw [if_neg (fun q => absurd (hiff.mpr q) Bool.false_ne_true)] at h
        have hri := rcLt_int A.in1 ⟨hp, g, d, tk, os⟩ (ns[i]) t (ms[i]) u prog w
        wp_walk using wpAny_loadPart' hl, wpAny_loadPart' hb
        rw [hi1, hi2]
        wp_walk using hri
        simpa using h
    · have hi2 : items2[((i : Nat) : Int).toNat]? = none := by simp; omega
      wp_walk using wpAny_loadPart' hl, wpAny_loadPart' hb
      rw [List.drop_eq_getElem_cons hlt, List.drop_of_length_le (show ms.length ≤ i by omega), lexLt_cons_nil] at h
      rw [hi1, hi2]
      wp_walk using wpAny_loadPart' hl, wpAny_loadPart' hb
      show R (.ok (.ret (.bool (decide (items.size < items2.size))))) _
      rw [decide_eq_false (by omega)]
      exact h
theorem list_lt_ints (l b : Addr) (items items2 : Array Value) (n n2 : Nat) (dd dd2 : Option Addr) (sl sl2 : Array (Option Value)) (ns ms : List Int) (hi : IntsAre items.toList ns) (hj : IntsAre items2.toList ms) :
    Meets (Builtin.«list.__lt__» ⟨[.ref l, .ref b], []⟩)
      (fun _ R s => s.heap.get? l = some { cls := .type "list", dict := dd, data := .seq items n, slots := sl } ∧ s.heap.get? b = some { cls := .type "list", dict := dd2, data := .seq items2 n2, slots := sl2 } ∧
        R (.ok (.ret (.bool (lexLt ns ms)))) s) := by
  intro prog w A R s h
  obtain ⟨hp, g, d, tk, os⟩ := s; obtain ⟨hl, hb, h⟩ := h
  have f3 := AutoSeq1.sub_list_list
  wp_walk using wpAny_loadPart' hl, wpAny_loadPart' hb
  exact ⟨plainId_quiet plain_eq_loop _, codeAny_builtin entry_eq_loop (by
    rw [Around.under_plainId plain_eq_loop _]
    exact lt_loop l b items items2 n n2 dd dd2 sl sl2 ns ms hi hj _ 0 rfl (Nat.zero_le _) (Nat.zero_le _) prog w A R _ ⟨hl, hb, by simpa using h⟩)⟩
end
section
variable {prog : Program} {w : World} {A : Around} {E : Value → Shared → Prop} {s : Shared}
theorem lt_listInts {l b : Addr} {items items2 : Array Value} {ns ms : List Int} {Q : Value → Shared → Prop} (hl : s.heap.IsList l items) (hb : s.heap.IsList b items2) (hi : IntsAre items.toList ns) (hj : IntsAre items2.toList ms)
    (hu : A.units < cLine) (h : Q (.bool (lexLt ns ms)) s) : wpAny (model prog w) A (richCompare .Lt (.ref l) (.ref b)) Q E s := by
  obtain ⟨⟨cls, dd, data, sl⟩, ho, hc, n, hd⟩ := id hl
  obtain ⟨⟨cls2, dd2, data2, sl2⟩, ho2, hc2, n2, hd2⟩ := id hb
  simp only at hc hd hc2 hd2
  subst hc hd hc2 hd2
  exact richCompare_meets_room (op := .Lt) ⟨_, ho, rfl⟩ ⟨_, ho2, rfl⟩ PySem.F.slot_list_lt PySem.F.entry_list_lt (PySem.F.args_list_lt_2 _ _) (list_lt_ints l b items items2 n n2 dd dd2 sl sl2 ns ms hi hj)
    ⟨ho, ho2, show Value.bool (lexLt ns ms) ≠ Value.notImplemented ∧ Q (.bool (lexLt ns ms)) s from ⟨(fun x => nomatch x), h⟩⟩ hu
end
end HT
namespace HT
open PySem PyProof.Rows PySem.W
def krun {α : Type} (c : Nat → Nat → Bool) : KasT α → α
  | .ret a => a
  | .ask i j k => krun c (k (c i j))
def kin {α : Type} (n : Nat) : KasT α → Bool
  | .ret _ => true
  | .ask i j k => decide (i < n) && decide (j < n) && kin n (k true) && kin n (k false)
theorem krun_wp {α : Type} {n : Nat} {c : Nat → Nat → Bool} {cmp : Nat → Nat → (Bool → Shared → Prop) → Shared → Prop} {s : Shared} {Q : α → Shared → Prop} (hc : ∀ i j C, i < n → j < n → C (c i j) s → cmp i j C s) :
    ∀ t : KasT α, kin n t = true → Q (krun c t) s → t.kasWp cmp Q s
  | .ret a, _, q => q
  | .ask i j k, h, q => by
    unfold kin at h
    simp only [Bool.and_eq_true, decide_eq_true_eq] at h
    refine hc i j _ h.1.1.1 h.1.1.2 ?_
    have q' : Q (krun c (k (c i j))) s := q
    cases e : c i j with
    | true => rw [e] at q'; exact krun_wp hc (k true) h.1.2 q'
    | false => rw [e] at q'; exact krun_wp hc (k false) h.2 q'
theorem krun_congr {α : Type} {n : Nat} {c d : Nat → Nat → Bool} (h : ∀ i j, i < n → j < n → c i j = d i j) : ∀ t : KasT α, kin n t = true → krun c t = krun d t
  | .ret a, _ => rfl
  | .ask i j k, hk => by
    unfold kin at hk
    simp only [Bool.and_eq_true, decide_eq_true_eq] at hk
    unfold krun
    rw [h i j hk.1.1.1 hk.1.1.2]
    cases d i j with
    | true => exact krun_congr h (k true) hk.1.2
    | false => exact krun_congr h (k false) hk.2
def tab (b : Nat → Nat → Bool) (i j : Nat) : Bool := if i < j then b i j else if j < i then !b j i else false
def okOut (n : Nat) (c : Nat → Nat → Bool) (p : List Nat) : Bool := p.isPerm (List.range n) && (List.range n).all fun i => (List.range n).all fun j => !decide (i < j) || c (p.getD i 0) (p.getD j 0)
def tr3 (n : Nat) (c : Nat → Nat → Bool) : Bool := (List.range n).all fun i => (List.range n).all fun j => (List.range n).all fun k => !c i j || !c j k || c i k
def half (b01 b02 b03 b12 b13 b23 : Bool) (i j : Nat) : Bool := match i, j with
  | 0, 1 => b01 | 0, 2 => b02 | 0, 3 => b03 | 1, 2 => b12 | 1, 3 => b13 | 2, 3 => b23 | _, _ => false
theorem kin2 : kin 2 (kas_sort 2) = true := by decide +kernel
theorem kin3 : kin 3 (kas_sort 3) = true := by decide +kernel
theorem kin4 : kin 4 (kas_sort 4) = true := by decide +kernel
theorem sort2 : ∀ b01 : Bool, okOut 2 (tab (half b01 true true true true true)) (krun (tab (half b01 true true true true true)) (kas_sort 2)).toList = true := by decide +kernel
theorem sort3 : ∀ b01 b02 b12 : Bool, tr3 3 (tab (half b01 b02 true b12 true true)) = true → okOut 3 (tab (half b01 b02 true b12 true true)) (krun (tab (half b01 b02 true b12 true true)) (kas_sort 3)).toList = true := by decide +kernel
theorem sort4 : ∀ b01 b02 b03 b12 b13 b23 : Bool, tr3 4 (tab (half b01 b02 b03 b12 b13 b23)) = true → okOut 4 (tab (half b01 b02 b03 b12 b13 b23)) (krun (tab (half b01 b02 b03 b12 b13 b23)) (kas_sort 4)).toList = true := by decide +kernel
theorem lexLt_irrefl : ∀ a : List Int, lexLt a a = false
  | [] => rfl
  | x :: a => by rw [lexLt_cons, if_pos rfl, lexLt_irrefl a]
theorem lexLt_flip : ∀ a b : List Int, a ≠ b → lexLt b a = !lexLt a b
  | [], [], h => absurd rfl h
  | [], _ :: _, _ => rfl
  | _ :: _, [], _ => rfl
  | x :: a, y :: b, h => by
    rw [lexLt_cons, lexLt_cons]
    by_cases e : x = y
    · subst e
      rw [if_pos rfl, if_pos rfl]
      exact lexLt_flip a b fun z => h (by rw [z])
    · rw [if_neg e, if_neg (Ne.symm e), Bool.eq_iff_iff]
      simp
      omega
theorem lexLt_trans : ∀ a b c : List Int, lexLt a b = true → lexLt b c = true → lexLt a c = true
  | [], [], _, h, _ => by rw [lexLt_nil_nil] at h; cases h
  | [], _ :: _, [], _, h => by rw [lexLt_cons_nil] at h; cases h
  | [], _ :: _, _ :: _, _, _ => rfl
  | _ :: _, [], _, h, _ => by rw [lexLt_cons_nil] at h; cases h
  | _ :: _, _ :: _, [], _, h => by rw [lexLt_cons_nil] at h; cases h
  | x :: a, y :: b, z :: c, h1, h2 => by
    rw [lexLt_cons] at h1 h2 ⊢
    by_cases e1 : x = y
    · subst e1
      rw [if_pos rfl] at h1
      by_cases e2 : x = z
      · subst e2
        rw [if_pos rfl] at h2 ⊢
        exact lexLt_trans a b c h1 h2
      · rw [if_neg e2] at h2 ⊢; exact h2
    · rw [if_neg e1] at h1
      have h1' := of_decide_eq_true h1
      by_cases e2 : y = z
      · subst e2
        rw [if_neg e1]; exact h1
      · rw [if_neg e2] at h2
        have h2' := of_decide_eq_true h2
        rw [if_neg (show x ≠ z by omega)]
        exact decide_eq_true (by omega)
theorem half_eq {n : Nat} (hn : n ≤ 4) {c : Nat → Nat → Bool} {b01 b02 b03 b12 b13 b23 : Bool} (h01 : 1 < n → b01 = c 0 1) (h02 : 2 < n → b02 = c 0 2) (h03 : 3 < n → b03 = c 0 3) (h12 : 2 < n → b12 = c 1 2) (h13 : 3 < n → b13 = c 1 3) (h23 : 3 < n → b23 = c 2 3) :
    ∀ i j, i < j → j < n → half b01 b02 b03 b12 b13 b23 i j = c i j := by
  intro i j h1 h2
  have hh : (i = 0 ∧ j = 1) ∨ (i = 0 ∧ j = 2) ∨ (i = 0 ∧ j = 3) ∨ (i = 1 ∧ j = 2) ∨ (i = 1 ∧ j = 3) ∨ (i = 2 ∧ j = 3) := by omega
  rcases hh with ⟨rfl, rfl⟩ | ⟨rfl, rfl⟩ | ⟨rfl, rfl⟩ | ⟨rfl, rfl⟩ | ⟨rfl, rfl⟩ | ⟨rfl, rfl⟩
  · exact h01 h2
  · exact h02 h2
  · exact h03 h2
  · exact h12 h2
  · exact h13 h2
  · exact h23 h2
theorem sort_ok {ls : List (List Int)} (nd : ls.Nodup) (h2 : 2 ≤ ls.length) (h4 : ls.length ≤ 4) :
    kin ls.length (kas_sort ls.length) = true ∧ okOut ls.length (fun i j => lexLt (ls.getD i []) (ls.getD j [])) (krun (fun i j => lexLt (ls.getD i []) (ls.getD j [])) (kas_sort ls.length)).toList = true := by
  generalize hc : (fun i j => lexLt (ls.getD i []) (ls.getD j [])) = c
  have cd : ∀ i j, c i j = lexLt (ls.getD i []) (ls.getD j []) := fun i j => by rw [← hc]
  have flip : ∀ i j, i < ls.length → j < ls.length → i ≠ j → c j i = !c i j := fun i j hi hj hij => by
    rw [cd, cd]
    refine lexLt_flip _ _ fun e => hij ?_
    have e1 : ls.getD i [] = ls[i] := by rw [List.getD_eq_getElem?_getD, List.getElem?_eq_getElem hi]; rfl
    have e2 : ls.getD j [] = ls[j] := by rw [List.getD_eq_getElem?_getD, List.getElem?_eq_getElem hj]; rfl
    rw [e1, e2] at e
    exact (List.getElem_inj nd).mp e
  have tabc : ∀ b : Nat → Nat → Bool, (∀ i j, i < j → j < ls.length → b i j = c i j) → ∀ i j, i < ls.length → j < ls.length → tab b i j = c i j := fun b hb i j hi hj => by
    unfold tab
    by_cases h : i < j
    · rw [if_pos h, hb i j h hj]
    · rw [if_neg h]
      by_cases h' : j < i
      · rw [if_pos h', hb j i h' hi, flip j i hj hi (by omega)]
      · rw [if_neg h']
        have : i = j := by omega
        subst this
        rw [cd, lexLt_irrefl]
  have outc : ∀ (b : Nat → Nat → Bool) (p : List Nat), (∀ i j, i < ls.length → j < ls.length → tab b i j = c i j) → okOut ls.length (tab b) p = true → okOut ls.length c p = true := fun b p hb h => by
    unfold okOut at h ⊢
    rw [Bool.and_eq_true] at h ⊢
    refine ⟨h.1, ?_⟩
    have pm := List.isPerm_iff.mp h.1
    have hl : p.length = ls.length := by rw [pm.length_eq, List.length_range]
    rw [List.all_eq_true] at h ⊢
    intro i hi
    have q := h.2 i hi
    rw [List.all_eq_true] at q ⊢
    intro j hj
    have q2 := q j hj
    have hi' := List.mem_range.mp hi
    have hj' := List.mem_range.mp hj
    have m : ∀ k, k < ls.length → p.getD k 0 < ls.length := fun k hk => by
      have e : p.getD k 0 = p[k]'(by omega) := by rw [List.getD_eq_getElem?_getD, List.getElem?_eq_getElem (by omega)]; rfl
      rw [e]
      exact List.mem_range.mp (pm.mem_iff.mp (List.getElem_mem _))
    rw [hb _ _ (m i hi') (m j hj')] at q2
    exact q2
  have trc : ∀ (b : Nat → Nat → Bool), (∀ i j, i < ls.length → j < ls.length → tab b i j = c i j) → tr3 ls.length (tab b) = true := fun b hb => by
    unfold tr3
    simp only [List.all_eq_true, List.mem_range]
    intro i hi j hj k hk
    rw [hb i j hi hj, hb j k hj hk, hb i k hi hk]
    cases e1 : c i j
    · rfl
    · cases e2 : c j k
      · rfl
      · rw [cd] at e1 e2
        rw [cd, lexLt_trans _ _ _ e1 e2]; rfl
  have hn : ls.length = 2 ∨ ls.length = 3 ∨ ls.length = 4 := by omega
  rcases hn with hn | hn | hn
  · rw [hn] at tabc outc trc ⊢
    have t := tabc (half (c 0 1) true true true true true) (half_eq (by decide) (fun _ => rfl) (fun z => by omega) (fun z => by omega) (fun z => by omega) (fun z => by omega) (fun z => by omega))
    refine ⟨kin2, ?_⟩
    rw [krun_congr (fun i j hi hj => (t i j hi hj).symm) _ kin2]
    exact outc _ _ t (sort2 _)
  · rw [hn] at tabc outc trc ⊢
    have t := tabc (half (c 0 1) (c 0 2) true (c 1 2) true true) (half_eq (by decide) (fun _ => rfl) (fun _ => rfl) (fun z => by omega) (fun _ => rfl) (fun z => by omega) (fun z => by omega))
    refine ⟨kin3, ?_⟩
    rw [krun_congr (fun i j hi hj => (t i j hi hj).symm) _ kin3]
    exact outc _ _ t (sort3 _ _ _ (trc _ t))
  · rw [hn] at tabc outc trc ⊢
    have t := tabc (half (c 0 1) (c 0 2) (c 0 3) (c 1 2) (c 1 3) (c 2 3)) (half_eq (by decide) (fun _ => rfl) (fun _ => rfl) (fun _ => rfl) (fun _ => rfl) (fun _ => rfl) (fun _ => rfl))
    refine ⟨kin4, ?_⟩
    rw [krun_congr (fun i j hi hj => (t i j hi hj).symm) _ kin4]
    exact outc _ _ t (sort4 _ _ _ _ _ _ (trc _ t))
end HT
namespace L2
open PySem PySem.Spec PyProof.Rows
section
variable {X : Cx}
def rLtL (K : PySem.W.Frag) : R2 := fun x y H Q => ∃ (a b : Addr) (ns ms : List Int), x = .ref a ∧ y = .ref b ∧ SqL K H a (ns.map V.int) ∧ SqL K H b (ms.map V.int) ∧ Q (.bl (HT.lexLt ns ms)) H
theorem k_ltL (K : PySem.W.Frag) (hu : X.A.units + 64 < cLine) (e : X.K = K := by rfl) : OpR X (compareOp .Lt) (rLtL K) := by
  subst e
  intro pins s σ H x y v u Q I rx ry h
  obtain ⟨a, b, ns, ms, rfl, rfl, ha, hb, q⟩ := h
  cases rx
  cases ry
  obtain ⟨its, r1, p1, _⟩ := I.list ha
  obtain ⟨its2, r2, p2, _⟩ := I.list hb
  exact HT.lt_listInts p1.isList p2.isList (intsAre_of r1) (intsAre_of r2) (by omega) ⟨.bl (HT.lexLt ns ms), H, I, rfl, q⟩
end
end L2
set_option Elab.async false
set_option linter.all false
set_option maxRecDepth 100000
namespace HT
open PySem PyProof.Rows PySem.W
def KW {α : Type} (c : Nat → Nat → Bool) (n : Nat) : KasT α → (α → Prop) → Prop
  | .ret a, Q => Q a
  | .ask i j k, Q => i < n ∧ j < n ∧ KW c n (k (c i j)) Q
theorem KW.bind {α β : Type} {c : Nat → Nat → Bool} {n : Nat} {f : α → KasT β} {Q : β → Prop} : ∀ {t : KasT α}, KW c n t (fun a => KW c n (f a) Q) → KW c n (t.bind f) Q
  | .ret _, h => h
  | .ask _ _ k, h => ⟨h.1, h.2.1, KW.bind (t := k _) h.2.2⟩
theorem KW.mono {α : Type} {c : Nat → Nat → Bool} {n : Nat} {Q Q' : α → Prop} (hq : ∀ a, Q a → Q' a) : ∀ {t : KasT α}, KW c n t Q → KW c n t Q'
  | .ret a, h => hq a h
  | .ask _ _ k, h => ⟨h.1, h.2.1, KW.mono hq (t := k _) h.2.2⟩
structure Ord (c : Nat → Nat → Bool) (n : Nat) : Prop where
  tr : ∀ i j k, i < n → j < n → k < n → c i j = true → c j k = true → c i k = true
  tot : ∀ i j, i < n → j < n → i ≠ j → c i j = false → c j i = true
  asy : ∀ i j, i < n → j < n → c i j = true → c j i = false
structure Pm (n : Nat) (p : Array Nat) : Prop where
  sz : p.size = n
  pm : p.toList.Perm (List.range n)
theorem Pm.lt {n : Nat} {p : Array Nat} (h : Pm n p) (i : Nat) (hi : i < n) : p.getD i 0 < n := by
  have hs := h.sz
  have e : p.getD i 0 = p[i] := by simp [Array.getD, hs, hi]
  rw [e]
  exact List.mem_range.mp (h.pm.mem_iff.mp (by simp))
theorem Pm.ne {n : Nat} {p : Array Nat} (h : Pm n p) {i j : Nat} (hi : i < n) (hj : j < n) (hij : i ≠ j) : p.getD i 0 ≠ p.getD j 0 := by
  have hs := h.sz
  have e1 : p.getD i 0 = p.toList[i]'(by simp [hs, hi]) := by simp [Array.getD, hs, hi]
  have e2 : p.getD j 0 = p.toList[j]'(by simp [hs, hj]) := by simp [Array.getD, hs, hj]
  rw [e1, e2]
  have nd : p.toList.Nodup := h.pm.nodup_iff.mpr List.nodup_range
  intro z
  exact hij ((List.getElem_inj nd).mp z)
theorem Pm.of {n : Nat} {p q : Array Nat} (h : Pm n p) (z : q.Perm p) : Pm n q := ⟨by rw [z.size_eq]; exact h.sz, (Array.perm_iff_toList_perm.mp z).trans h.pm⟩
section
variable {c : Nat → Nat → Bool} {n : Nat}
end
end HT
set_option Elab.async false
set_option linter.all false
set_option maxRecDepth 100000
namespace HT
open PySem PyProof.Rows PySem.W
section
variable {prog : Program} {w : World} {A : Around} {E : Value → Shared → Prop} {s : Shared}
theorem one_lt {l b : Addr} {items items2 : Array Value} {ns ms : List Int} {Q : Bool → Shared → Prop} (hl : s.heap.IsList l items) (hb : s.heap.IsList b items2) (hi : IntsAre items.toList ns) (hj : IntsAre items2.toList ms) (hu : A.units + 1 < cLine)
    (h : Q (lexLt ns ms) s) : wpAny (model prog w) A (keyLt' oneType' (.ref l) (.ref b)) Q E s := by
  obtain ⟨⟨cls, dd, data, sl⟩, ho, hc, n, hd⟩ := id hl
  obtain ⟨⟨cls2, dd2, data2, sl2⟩, ho2, hc2, n2, hd2⟩ := id hb
  simp only at hc hd hc2 hd2
  subst hc hd hc2 hd2
  rw [keyLt'_oneType, oneLt'_eq]
  simp only [if_true]
  refine wpAny_bind (wpAny_cRoomFor (by omega) (wpAny_bind (wpAny_callSpecialIfBound?_slot (T := "list") (name := "__lt__") ⟨_, ho, rfl⟩ PySem.F.slot_list_lt
    (call_meets PySem.F.slot_list_lt ⟨_, ho, rfl⟩ PySem.F.entry_list_lt (PySem.F.args_list_lt_2 _ _) (list_lt_ints l b items items2 n n2 dd dd2 sl sl2 ns ms hi hj) ⟨ho, ho2, ?_⟩))))
  exact wpAny_truthy_bool h
theorem perm_getD {α : Type} (d : α) (zs : List α) {p : List Nat} (h : p.Perm (List.range zs.length)) : (p.map fun i => zs.getD i d).Perm zs := by
  have e : (List.range zs.length).map (fun i => zs.getD i d) = zs := by
    apply List.ext_getElem?
    intro i
    rw [List.getElem?_map]
    by_cases hi : i < zs.length
    · rw [List.getElem?_range hi, Option.map_some, List.getD_eq_getElem?_getD, List.getElem?_eq_getElem hi]; rfl
    · rw [List.getElem?_eq_none (by simpa using hi), List.getElem?_eq_none (by omega)]; rfl
  have q := h.map fun i => zs.getD i d
  rw [e] at q
  exact q
theorem sortL_tree {a : Addr} {zs : List (Addr × List Int)} {n0 : Nat} {P : Fin → Shared → Prop} (ho : s.heap.get? a = some (seqObj "list" (zs.map fun z => Value.ref z.1).toArray n0))
    (hz : ∀ z ∈ zs, z.1 ≠ a ∧ ∃ its : List Value, s.heap.IsList z.1 its.toArray ∧ IntsAre its z.2) (nd : (zs.map (·.2)).Nodup) (h4 : zs.length ≤ 4) (hu : A.units + 1 < cLine)
    (h : ∀ zs' : List (Addr × List Int), zs'.Perm zs → zs'.Pairwise (fun x y => lexLt x.2 y.2 = true) → P (.done (.ret .none)) { s with heap := sortedHeap s.heap a (zs.map fun z => Value.ref z.1) (zs'.map fun z => Value.ref z.1).toArray }) :
    wpAny (model prog w) A (Builtin.«list.sort» ⟨[.ref a], []⟩) P E s := by
  rw [list_sort_plain]
  generalize hvs : (zs.map fun z => Value.ref z.1) = vs at ho h ⊢
  have hvl : vs.length = zs.length := by rw [← hvs, List.length_map]
  have hsl : vs.length ≤ sizeLine := by rw [hvl, sizeLine_eq]; omega
  have ha : a < s.heap.objs.size := Heap.lt_size ho
  obtain ⟨e1, ho1⟩ : ∃ e1, (s.heap.update a (Obj.mapSeq fun _ => #[])).get? a = some (seqObj "list" #[] e1) := ⟨_, get?_update_seq ho (fun _ => #[])⟩
  refine wpAny_bind (listItems_at ho rfl (wpAny_bind (listUpdate_at ho rfl (wpAny_bind (seqEpoch_at ho1 rfl (wpAny_bind (wpAny_newTuple (wpAny_bind (wpAny_newList (wpAny_holding ?_) (Nat.zero_le _))) (by show vs.length ≤ _; exact hsl))))) (by rw [List.size_toArray]; exact hsl) (Nat.zero_le _))))
  generalize hG : (((s.heap.update a (Obj.mapSeq fun _ => (#[] : Array Value))).push (seqObj "tuple" vs.toArray 0)).push (seqObj "list" #[] 0)) = G
  have ho6 : G.get? a = some (seqObj "list" #[] e1) := by
    rw [← hG, Heap.get?_push_ne _ _ _ (by rw [size_push', Heap.size_update]; exact Nat.ne_of_lt (Nat.lt_succ_of_lt ha)), Heap.get?_push_ne _ _ _ (by rw [Heap.size_update]; exact Nat.ne_of_lt ha)]; exact ho1
  have keep : ∀ b o, b ≠ a → s.heap.get? b = some o → G.get? b = some o := fun b o hb e => by
    have hlt := Heap.lt_size e
    rw [← hG, Heap.get?_push_ne _ _ _ (by rw [size_push', Heap.size_update]; exact Nat.ne_of_lt (Nat.lt_succ_of_lt hlt)), Heap.get?_push_ne _ _ _ (by rw [Heap.size_update]; exact Nat.ne_of_lt hlt), Heap.get?_update_other _ _ (Ne.symm hb)]; exact e
  show wpAny (model prog w) A _ P E { s with heap := G }
  dsimp only
  by_cases h2 : vs.toArray.size < 2
  · rw [if_pos h2, if_pos h2]
    refine wpAny_bind (wpAny_pure ?_)
    rw [StateT.run_pure]
    refine wpAny_bind (wpAny_pure ?_)
    dsimp only
    have hout : (arrOf (SortSt.mk' general' (vs.toArray.zip vs.toArray) #[] 7 none)).map (·.2) = vs.toArray := by
      show (vs.toArray.zip vs.toArray).map (·.2) = vs.toArray
      apply Array.toList_inj.mp
      rw [Array.toList_map, Array.toList_zip, List.map_snd_zip (by simp)]
    rw [hout]
    refine wpAny_bind (seqEpoch_at ho6 rfl (wpAny_bind (listUpdate_at ho6 rfl ?_ (Nat.zero_le _) (by rw [List.size_toArray]; exact Nat.le_succ_of_le hsl))))
    have q := h zs (List.Perm.refl _) (by
      rw [List.size_toArray, hvl] at h2
      match zs, h2 with
      | [], _ => exact .nil
      | [_], _ => exact List.pairwise_singleton _ _)
    rw [hvs] at q
    simp only [bne_self_eq_false, Bool.false_eq_true, if_false]
    have e2 : G.update a (Obj.mapSeq fun _ => vs.toArray) = sortedHeap s.heap a vs vs.toArray := by rw [← hG]; rfl
    rw [e2]
    exact wpAny_pure q
  · rw [if_neg h2, if_neg h2]
    rw [List.size_toArray, hvl] at h2
    have ls2 : (zs.map (·.2)).length = zs.length := List.length_map ..
    obtain ⟨hkin, hok⟩ := sort_ok nd (by rw [ls2]; omega) (by rw [ls2]; exact h4)
    rw [ls2] at hkin hok
    generalize hcd : (fun i j => lexLt ((zs.map (·.2)).getD i []) ((zs.map (·.2)).getD j [])) = c at hok
    have gz : ∀ i, i < zs.length → vs.getD i Value.none = .ref (zs.getD i (0, [])).1 ∧ (zs.map (·.2)).getD i [] = (zs.getD i (0, [])).2 ∧ zs.getD i (0, []) ∈ zs := fun i hi => by
      have e : zs.getD i (0, []) = zs[i] := by rw [List.getD_eq_getElem?_getD, List.getElem?_eq_getElem hi]; rfl
      rw [e]
      refine ⟨?_, ?_, List.getElem_mem _⟩
      · rw [← hvs, List.getD_eq_getElem?_getD, List.getElem?_map, List.getElem?_eq_getElem hi]; rfl
      · rw [List.getD_eq_getElem?_getD, List.getElem?_map, List.getElem?_eq_getElem hi]; rfl
    refine wpAny_bind (kas_kind (T := .type "list") (by rw [hvl]; omega) (fun v hv => ?_) (by decide) (by decide) ?_)
    · rw [← hvs] at hv
      obtain ⟨z, hzm, rfl⟩ := List.mem_map.mp hv
      obtain ⟨hza, its, hl, _⟩ := hz z hzm
      obtain ⟨o, e, hcl, _⟩ := hl
      intro A' Q' E' s' k q
      exact wpAny_typeOf (T := "list") ⟨o, k _ _ (keep _ _ hza e), hcl⟩ q
    have est : SortSt.mk' oneType' (vs.toArray.zip vs.toArray) #[] 7 none = kas_st oneType' (pairsOf vs) (List.toArray (List.range vs.length)) := by
      have e := kas_range (pairsOf vs)
      rw [pairsOf_size] at e
      unfold kas_st; rw [e]; rfl
    have ask : (kas_sort vs.length).kasWp (kas_cmp prog w A oneType' (pairsOf vs)) (fun p s' => s' = { s with heap := G } ∧ p = krun c (kas_sort zs.length)) { s with heap := G } := by
      rw [hvl, ← kas_ask_eq]
      refine krun_wp (n := zs.length) (c := c) (fun i j C hi hj hC => ?_) _ hkin ⟨rfl, rfl⟩
      obtain ⟨a1, a2, a3⟩ := gz i hi
      obtain ⟨b1, b2, b3⟩ := gz j hj
      obtain ⟨hza, its, hl, hI⟩ := hz _ a3
      obtain ⟨hzb, its2, hl2, hI2⟩ := hz _ b3
      unfold kas_ask
      rw [a1, b1]
      refine one_lt (s := { s with heap := G }) (hl.at fun o e => keep _ o hza e) (hl2.at fun o e => keep _ o hzb e) (by simpa using hI) (by simpa using hI2) hu ?_
      rw [← hcd] at hC
      simp only [a2, b2] at hC
      exact hC
    have run := kas_runs (E := E) (Q := fun _ st' s' => s' = { s with heap := G } ∧ arrOf st' = (krun c (kas_sort zs.length)).map (kas_item (pairsOf vs)) ∧ failedOf st' = none) (by rw [hvl]; omega) (by rw [hvl]; omega)
      (fun p' st' s' a1 a2 a3 a4 => ⟨a4.1, by rw [a2, a4.2], a3⟩) ask
    rw [← est] at run
    refine wpAny_bind (wpAny_mono run ?_ fun _ _ e => e)
    rintro ⟨⟨⟩, st'⟩ s' ⟨rfl, har, hf⟩
    dsimp only
    generalize hp : krun c (kas_sort zs.length) = p at har hok
    have hout : (arrOf st').map (·.2) = ((p.toList.map fun i => zs.getD i (0, [])).map fun z => Value.ref z.1).toArray := by
      apply Array.toList_inj.mp
      rw [har, Array.map_map, Array.toList_map, List.map_map]
      refine List.map_congr_left fun i hi => ?_
      show (kas_item (pairsOf vs) i).2 = _
      rw [kas_item_eq]
      unfold okOut at hok
      rw [Bool.and_eq_true] at hok
      exact (gz i (List.mem_range.mp ((List.isPerm_iff.mp hok.1).mem_iff.mp hi))).1
    rw [hout]
    have pm : p.toList.Perm (List.range zs.length) := by
      unfold okOut at hok
      rw [Bool.and_eq_true] at hok
      exact List.isPerm_iff.mp hok.1
    have q := h (p.toList.map fun i => zs.getD i (0, [])) (perm_getD _ zs pm) (by
      rw [List.pairwise_map, List.pairwise_iff_getElem]
      intro i j hi hj hij
      have hpl : p.toList.length = zs.length := by rw [pm.length_eq, List.length_range]
      unfold okOut at hok
      simp only [Bool.and_eq_true, List.all_eq_true, List.mem_range] at hok
      have q1 := hok.2 i (by omega) j (by omega)
      rw [decide_eq_true hij] at q1
      have e1 : p.toList.getD i 0 = p.toList[i] := by rw [List.getD_eq_getElem?_getD, List.getElem?_eq_getElem hi]; rfl
      have e2 : p.toList.getD j 0 = p.toList[j] := by rw [List.getD_eq_getElem?_getD, List.getElem?_eq_getElem hj]; rfl
      rw [e1, e2, ← hcd] at q1
      have m1 := List.mem_range.mp (pm.mem_iff.mp (List.getElem_mem hi))
      have m2 := List.mem_range.mp (pm.mem_iff.mp (List.getElem_mem hj))
      rw [← (gz _ m1).2.1, ← (gz _ m2).2.1]
      simpa using q1)
    have hol : ((p.toList.map fun i => zs.getD i (0, [])).map fun z => Value.ref z.1).length = zs.length := by rw [List.length_map, List.length_map, pm.length_eq, List.length_range]
    refine wpAny_bind (seqEpoch_at ho6 rfl (wpAny_bind (listUpdate_at ho6 rfl ?_ (Nat.zero_le _) (by rw [List.size_toArray, hol]; rw [hvl] at hsl; exact Nat.le_succ_of_le hsl))))
    rw [hf]
    simp only [bne_self_eq_false, Bool.false_eq_true, if_false]
    have e2 : ∀ out : Array Value, G.update a (Obj.mapSeq fun _ => out) = sortedHeap s.heap a vs out := fun out => by rw [← hG]; rfl
    rw [e2]
    exact wpAny_pure q
theorem sortedL {l : Addr} {zs : List (Addr × List Int)} {Q : Value → Shared → Prop} (hl : s.heap.IsList l (zs.map fun z => Value.ref z.1).toArray) (hz : ∀ z ∈ zs, ∃ its : List Value, s.heap.IsList z.1 its.toArray ∧ IntsAre its z.2) (nd : (zs.map (·.2)).Nodup) (h4 : zs.length ≤ 4) (hu : A.units + 8 < cLine)
    (h : ∀ zs' : List (Addr × List Int), zs'.Perm zs → zs'.Pairwise (fun x y => lexLt x.2 y.2 = true) → Q (.ref (s.heap.objs.size + 1)) { s with heap := sortedAll s.heap (zs.map fun z => Value.ref z.1) (zs'.map fun z => Value.ref z.1).toArray }) :
    wpAny (model prog w) A (call (.builtin "sorted") [.ref l]) Q E s := by
  have hsl : (zs.map fun z => Value.ref z.1).length ≤ sizeLine := by rw [List.length_map, sizeLine_eq]; omega
  refine Calls.call_function_entry kind_sorted plain_sorted entry_sorted (args_sorted1 _) ?_
  unfold Builtin.«sorted»
  refine wpAny_bind (m := checkCount "sorted" 1 1 _) (wpAny_pure (wpAny_bind (collect_list hl (wpAny_bind (wpAny_newList ?_ hsl)) hsl)))
  generalize hB : (s.heap.push (seqObj "list" #[] 0)).update s.heap.objs.size (Obj.mapSeq (· ++ (zs.map fun z => Value.ref z.1).toArray)) = B
  have hsz : B.objs.size = s.heap.objs.size + 1 := by rw [← hB, Heap.size_update, size_push']
  have keep : ∀ b o, s.heap.get? b = some o → (B.push (seqObj "list" (zs.map fun z => Value.ref z.1).toArray 0)).get? b = some o := fun b o q => by
    have hlt : b < s.heap.objs.size := Heap.lt_size q
    rw [Heap.get?_push_ne _ _ _ (by rw [hsz]; exact Nat.ne_of_lt (Nat.lt_succ_of_lt hlt)), ← hB, Heap.get?_update_ne _ _ _ _ (Nat.ne_of_lt hlt), Heap.get?_push_ne _ _ _ (Nat.ne_of_lt hlt)]; exact q
  have hoL : (B.push (seqObj "list" (zs.map fun z => Value.ref z.1).toArray 0)).get? (s.heap.objs.size + 1) = some (seqObj "list" (zs.map fun z => Value.ref z.1).toArray 0) := by
    rw [← hsz]; exact Heap.get?_push_size _ rfl
  show wpAny _ _ _ _ _ { s with heap := B.push (seqObj "list" (zs.map fun z => Value.ref z.1).toArray 0) }
  dsimp only
  rw [hsz]
  refine wpAny_bind (wpAny_holding (wpAny_call_entry slot_list_sort ⟨_, hoL, rfl⟩ entry_list_sort (sortL_tree (A := A.in1.in1) (s := { s with heap := B.push (seqObj "list" (zs.map fun z => Value.ref z.1).toArray 0) }) hoL (fun z hzm => ?_) nd h4 (by show A.units + 1 + 1 + 1 < cLine; omega) fun zs' a1 a2 => ⟨_, rfl, ?_⟩) (args_list_sort _)))
  · obtain ⟨its, hl', hI⟩ := hz z hzm
    obtain ⟨o, e, _⟩ := id hl'
    exact ⟨Nat.ne_of_lt (Nat.lt_succ_of_lt (Heap.lt_size e)), its, hl'.at fun o e => keep _ o e, hI⟩
  · have q := h zs' a1 a2
    have e2 : sortedHeap (B.push (seqObj "list" (zs.map fun z => Value.ref z.1).toArray 0)) (s.heap.objs.size + 1) (zs.map fun z => Value.ref z.1) (zs'.map fun z => Value.ref z.1).toArray = sortedAll s.heap (zs.map fun z => Value.ref z.1) (zs'.map fun z => Value.ref z.1).toArray := by rw [← hB]; rfl
    show wpAny _ _ _ _ _ { s with heap := sortedHeap (B.push (seqObj "list" (zs.map fun z => Value.ref z.1).toArray 0)) (s.heap.objs.size + 1) (zs.map fun z => Value.ref z.1) (zs'.map fun z => Value.ref z.1).toArray }
    rw [e2]
    exact wpAny_pure ⟨_, rfl, q⟩
end
end HT
namespace L2
open PySem PySem.Spec PyProof.Rows
section
variable {X : Cx}
def rSortL (K : PySem.W.Frag) : List V → Hp → VK → Prop := fun xs H Q => ∃ (a : Addr) (zs : List (Addr × List Int)), xs = [.ref a] ∧ SqL K H a (zs.map fun z => V.ref z.1) ∧ zs.length ≤ 4 ∧ (∀ z ∈ zs, SqL K H z.1 (z.2.map V.int)) ∧ (zs.map (·.2)).Nodup ∧
  ∀ (p : Addr) (zs' : List (Addr × List Int)), H p = none → zs'.Perm zs → zs'.Pairwise (fun x y => HT.lexLt x.2 y.2 = true) → Q (.ref p) (upd H p (.lst (zs'.map fun z => V.ref z.1)))
theorem vals_refs : ∀ {zs : List (Addr × List Int)} {its : List Value}, Vals (zs.map fun z => V.ref z.1) its → its = zs.map fun z => Value.ref z.1
  | [], its, h => by cases h; rfl
  | z :: zs, its, h => by
    cases h with
    | cons r t => rw [vals_refs t]; cases r; rfl
theorem refs_vals : ∀ (zs : List (Addr × List Int)), Vals (zs.map fun z => V.ref z.1) (zs.map fun z => Value.ref z.1)
  | [] => .nil
  | z :: zs => .cons rfl (refs_vals zs)
theorem k_sortL (K : PySem.W.Frag) (hu : X.A.units + 64 < cLine) (e : X.K = K := by rfl) : CallR X (.builtin "sorted") (rSortL K) := by
  subst e
  intro pins s σ H xs us Q I r h
  obtain ⟨a, zs, rfl, ha, h4, hz, nd, q⟩ := h
  obtain ⟨u, rfl, rx⟩ := vals1 r
  cases rx
  obtain ⟨its, r1, p1, _⟩ := I.list ha
  have e1 := vals_refs r1
  subst e1
  refine HT.sortedL p1.isList (fun z hzm => ?_) nd h4 (by omega) fun zs' pm pw => ?_
  · obtain ⟨its, r2, p2, _⟩ := I.list (hz z hzm)
    exact ⟨its, p2.isList, by simpa using intsAre_of r2⟩
  · obtain ⟨c, hat⟩ := sortedAll_at s.heap (zs.map fun z => Value.ref z.1) (zs'.map fun z => Value.ref z.1).toArray
    have hfree : H (s.heap.objs.size + 1) = none := I.hok.fresh (Nat.le_succ _)
    refine ⟨.ref (s.heap.objs.size + 1), _, I.laid (t' := s.toks) (o := .lst (zs'.map fun z => V.ref z.1)) (fun b o e => sortedAll_old e) (Nat.le_succ _) ?_, rfl, q _ zs' hfree pm pw⟩
    exact ⟨by rw [List.length_map, pm.length_eq]; exact Nat.le_trans h4 (by decide), _, c, refs_vals zs', hat⟩
end
end L2
set_option Elab.async false
set_option linter.all false
set_option maxRecDepth 100000
namespace L2
open PySem PySem.Spec PyProof.Rows
section
variable {κ : Type} [DecidableEq κ]
def valV (kvs : List (κ × V)) (k : κ) : Option V := (kvs.find? fun kv => decide (kv.1 = k)).map (·.2)
def putK (kvs : List (κ × V)) (k : κ) (v : V) : List (κ × V) :=
  if (kvs.any fun kv => decide (kv.1 = k)) = true then kvs.map (fun kv => if kv.1 = k then (kv.1, v) else kv) else kvs ++ [(k, v)]
def dropK (kvs : List (κ × V)) (k : κ) : List (κ × V) := kvs.filter fun kv => decide (kv.1 ≠ k)
theorem valV_pos {p : κ × V} {r : List (κ × V)} {k : κ} (e : p.1 = k) : valV (p :: r) k = some p.2 := by simp [valV, List.find?_cons, e]
theorem valV_neg {p : κ × V} {r : List (κ × V)} {k : κ} (e : ¬ p.1 = k) : valV (p :: r) k = valV r k := by simp [valV, List.find?_cons, e]
theorem valV_any (k : κ) : ∀ kvs : List (κ × V), (kvs.any fun kv => decide (kv.1 = k)) = (valV kvs k).isSome
  | [] => rfl
  | p :: r => by
    rw [List.any_cons]
    by_cases e : p.1 = k
    · simp only [valV_pos e, decide_eq_true e, Bool.true_or, Option.isSome_some]
    · rw [valV_neg e, decide_eq_false e, Bool.false_or]; exact valV_any k r
theorem RelO.isSome_eq {o : Option V} {u : Option Value} (r : RelO o u) : o.isSome = u.isSome := by
  cases o with
  | none => cases u with
    | none => rfl
    | some _ => exact (show False from r).elim
  | some _ => cases u with
    | none => exact (show False from r).elim
    | some _ => rfl
theorem RelO.getD {o : Option V} {u : Option Value} {d : V} {d' : Value} (r : RelO o u) (rd : RelV d d') : RelV (o.getD d) (u.getD d') := by
  cases o with
  | none => cases u with
    | none => exact rd
    | some _ => exact (show False from r).elim
  | some _ => cases u with
    | none => exact (show False from r).elim
    | some _ => exact r
theorem KV.val {kvs : List (κ × V)} {vs : List (κ × Value)} (r : KV kvs vs) (k : κ) : RelO (valV kvs k) (valueAt vs k) := by
  unfold KV at r
  induction r with
  | nil => exact True.intro
  | @cons p q ps qs h t ih =>
    obtain ⟨h1, h2⟩ := h
    by_cases e : p.1 = k
    · have e' : q.1 = k := h1.symm.trans e
      have b : valueAt (q :: qs) k = some q.2 := by simp [valueAt, List.find?_cons, e']
      rw [valV_pos e, b]; exact h2
    · have e' : ¬ q.1 = k := fun z => e (h1.trans z)
      have b : valueAt (q :: qs) k = valueAt qs k := by simp [valueAt, List.find?_cons, e']
      rw [valV_neg e, b]; exact ih
theorem KV.any {kvs : List (κ × V)} {vs : List (κ × Value)} (r : KV kvs vs) (k : κ) : (kvs.any fun kv => decide (kv.1 = k)) = vs.any fun kv => decide (kv.1 = k) := by
  unfold KV at r
  induction r with
  | nil => rfl
  | cons h t ih => rw [List.any_cons, List.any_cons, ih, h.1]
theorem KV.repl {kvs : List (κ × V)} {vs : List (κ × Value)} (r : KV kvs vs) (k : κ) {y : V} {u : Value} (ry : RelV y u) :
    KV (kvs.map fun kv => if kv.1 = k then (kv.1, y) else kv) (vs.map fun kv => if kv.1 = k then (kv.1, u) else kv) := by
  unfold KV at r ⊢
  induction r with
  | nil => exact .nil
  | @cons p q ps qs h t ih =>
    rw [List.map_cons, List.map_cons]
    refine .cons ?_ ih
    obtain ⟨h1, h2⟩ := h
    by_cases e : p.1 = k
    · rw [if_pos e, if_pos (h1.symm.trans e)]; exact ⟨h1, ry⟩
    · rw [if_neg e, if_neg (fun z => e (h1.trans z))]; exact ⟨h1, h2⟩
theorem KV.put {kvs : List (κ × V)} {vs : List (κ × Value)} (r : KV kvs vs) (k : κ) {y : V} {u : Value} (ry : RelV y u) : KV (putK kvs k y) (stored vs k u) := by
  unfold putK stored
  rw [r.any k]
  by_cases e : (vs.any fun kv => decide (kv.1 = k)) = true
  · rw [if_pos e, if_pos e]; exact r.repl k ry
  · rw [if_neg e, if_neg e]; exact Paired.snoc r ⟨rfl, ry⟩
theorem KV.drop {kvs : List (κ × V)} {vs : List (κ × Value)} (r : KV kvs vs) (k : κ) : KV (dropK kvs k) (without vs k) := by
  unfold KV at r ⊢
  unfold dropK without
  induction r with
  | nil => exact .nil
  | @cons p q ps qs h t ih =>
    obtain ⟨h1, h2⟩ := h
    rw [List.filter_cons, List.filter_cons]
    by_cases e : p.1 = k
    · have a : ¬ decide (p.1 ≠ k) = true := by simp [e]
      have b : ¬ decide (q.1 ≠ k) = true := by simp [h1.symm.trans e]
      rw [if_neg a, if_neg b]; exact ih
    · have e' : ¬ q.1 = k := fun z => e (h1.trans z)
      have a : decide (p.1 ≠ k) = true := by simp [e]
      have b : decide (q.1 ≠ k) = true := by simp [e']
      rw [if_pos a, if_pos b]; exact .cons ⟨h1, h2⟩ ih
theorem KV.length {kvs : List (κ × V)} {vs : List (κ × Value)} (r : KV kvs vs) : kvs.length = vs.length := Paired.length r
end
abbrev KT (H : Hp) : List (List Key × V) → List (List Key × Addr × Value) → Prop := Paired fun p q => p.1 = q.1 ∧ H q.2.1 = some (.tup (p.1.map kV)) ∧ RelV p.2 q.2.2
theorem KT.val {H : Hp} {kvs : List (List Key × V)} {xs : List (List Key × Addr × Value)} (r : KT H kvs xs) (k : List Key) : RelO (valV kvs k) ((atKey xs k).map (·.2)) := by
  induction r with
  | nil => exact True.intro
  | @cons p q ps qs h t ih =>
    obtain ⟨h1, _, h2⟩ := h
    by_cases e : p.1 = k
    · have e' : q.1 = k := h1.symm.trans e
      have b : atKey (q :: qs) k = some q.2 := by simp [atKey, List.find?_cons, e']
      rw [valV_pos e, b]; exact h2
    · have e' : ¬ q.1 = k := fun z => e (h1.trans z)
      have b : atKey (q :: qs) k = atKey qs k := by simp [atKey, List.find?_cons, e']
      rw [valV_neg e, b]; exact ih
theorem KT.repl {H : Hp} {kvs : List (List Key × V)} {xs : List (List Key × Addr × Value)} (r : KT H kvs xs) (k : List Key) {y : V} {u : Value} (ry : RelV y u) :
    KT H (kvs.map fun kv => if kv.1 = k then (kv.1, y) else kv) (xs.map (putAt k u)) := by
  induction r with
  | nil => exact .nil
  | @cons p q ps qs h t ih =>
    rw [List.map_cons, List.map_cons]
    refine .cons ?_ ih
    obtain ⟨h1, h2, h3⟩ := h
    unfold putAt
    by_cases e : p.1 = k
    · rw [if_pos e, if_pos (h1.symm.trans e)]; exact ⟨h1, h2, ry⟩
    · rw [if_neg e, if_neg (fun z => e (h1.trans z))]; exact ⟨h1, h2, h3⟩
theorem KT.put {H : Hp} {kvs : List (List Key × V)} {xs : List (List Key × Addr × Value)} (r : KT H kvs xs) (k : List Key) {b : Addr} {y : V} {u : Value} (hb : H b = some (.tup (k.map kV))) (ry : RelV y u) :
    KT H (putK kvs k y) (storedH xs k b u) := by
  have e : (kvs.any fun kv => decide (kv.1 = k)) = (atKey xs k).isSome := by
    rw [valV_any, (r.val k).isSome_eq, Option.isSome_map]
  unfold putK storedH
  rw [e]
  by_cases q : (atKey xs k).isSome = true
  · rw [if_pos q, if_pos q]; exact r.repl k ry
  · rw [if_neg q, if_neg q]; exact Paired.snoc r ⟨rfl, hb, ry⟩
theorem KT.keeps {H H' : Hp} {kvs : List (List Key × V)} {xs : List (List Key × Addr × Value)} (r : KT H kvs xs) (ht : ∀ b ys, H b = some (.tup ys) → H' b = some (.tup ys)) : KT H' kvs xs :=
  Paired.mapP r fun _ _ z => ⟨z.1, ht _ _ z.2.1, z.2.2⟩
section
variable {P : Program} {w : World} {H : Hp} {h : Heap} {a : Addr}
end
def DGet (H : Hp) (a : Addr) (y : V) (r : Option V) : Prop :=
  (∃ kvs k, Rd H a (.dK kvs) ∧ y = kV k ∧ r = valV kvs k) ∨ ∃ kvs k b, Rd H a (.dT kvs) ∧ y = .ref b ∧ H b = some (.tup (k.map kV)) ∧ r = valV kvs k
def DPut (H : Hp) (a : Addr) (y v : V) (H' : Hp) : Prop :=
  (∃ kvs k, H a = some (.dK kvs) ∧ y = kV k ∧ kvs.length < sizeLine ∧ H' = upd H a (.dK (putK kvs k v))) ∨
  ∃ kvs k b, H a = some (.dT kvs) ∧ y = .ref b ∧ H b = some (.tup (k.map kV)) ∧ kvs.length < sizeLine ∧ H' = upd H a (.dT (putK kvs k v))
theorem DGet.k {H : Hp} {a : Addr} {kvs : List (Key × V)} {k : Key} (e : H a = some (.dK kvs)) : DGet H a (kV k) (valV kvs k) := .inl ⟨kvs, k, .inl e, rfl, rfl⟩
theorem DGet.t {H : Hp} {a b : Addr} {kvs : List (List Key × V)} {k : List Key} (e : H a = some (.dT kvs)) (eb : H b = some (.tup (k.map kV))) : DGet H a (.ref b) (valV kvs k) := .inr ⟨kvs, k, b, .inl e, rfl, eb, rfl⟩
theorem DPut.k {H : Hp} {a : Addr} {kvs : List (Key × V)} {k : Key} {v : V} (e : H a = some (.dK kvs)) (hl : kvs.length < sizeLine) : DPut H a (kV k) v (upd H a (.dK (putK kvs k v))) := .inl ⟨kvs, k, e, rfl, hl, rfl⟩
theorem DPut.t {H : Hp} {a b : Addr} {kvs : List (List Key × V)} {k : List Key} {v : V} (e : H a = some (.dT kvs)) (eb : H b = some (.tup (k.map kV))) (hl : kvs.length < sizeLine) :
    DPut H a (.ref b) v (upd H a (.dT (putK kvs k v))) := .inr ⟨kvs, k, b, e, rfl, eb, hl, rfl⟩
section
variable {X : Cx} {pins : List (Addr × Obj)} {σ : St} {H : Hp} {s : Shared} {a : Addr} {y v : V} {u r : Value} {o : Option V} {A : Around} {E : Value → Shared → Prop}
theorem Inv.big (I : Inv X pins σ H s) : sysModules < s.heap.objs.size := by
  have h : mainGlobals < s.heap.objs.size := (I.mod.glob.keeps I.bk).lt
  exact Nat.lt_trans (by decide) h
end
section
variable {X : Cx} {pins : List (Addr × Obj)} {σ : St} {H : Hp} {s : Shared} {a : Addr} {kvs : List (Key × V)} {k : Key} {u : Value} {A : Around} {E : Value → Shared → Prop}
end
section
variable {X : Cx} {o i e value : Expr} {pos pos' tpos : Pos} {td ty tv : TE}
end
theorem dk_empty {P : Program} {w : World} {H : Hp} (h : Heap) (hb : sysModules < h.objs.size) : ObjOk P w H (h.push { cls := .type "dict", data := .dict #[] }) h.objs.size (.dK []) :=
  ⟨Nat.zero_le _, beq_eq_false_iff_ne.mpr (Ne.symm (Nat.ne_of_lt hb)), [], .nil, Heap.DictOf.new h⟩
def tDNewK : TE := fun _ H Q => ∀ p, H p = none → Q (.ref p) (upd H p (.dK []))
section
variable {X : Cx} {pos : Pos}
theorem pe_dnewK : PE X (.Dict [] [] pos) tDNewK := fun pins s σ H Q I h =>
  wpAny_Dict_empty ⟨.ref s.heap.objs.size, _, I.laid (a := s.heap.objs.size) (o := .dK []) (t' := s.toks) (fun _ _ q => Heap.get?_push_of_some _ q) (Nat.le_refl _) (dk_empty s.heap I.big), rfl, h _ (I.hok.fresh (Nat.le_refl _))⟩
end
structure M1 (X : Cx) (o : Expr) (m : Str) (apos : Pos) (e : Expr) (cpos : Pos) : Prop where
  base : attributeBase o m X.env (eval o X.env) = eval o X.env
  few : ((backTo cpos (starEach [e] X.env)).all (fun x => !x.1) && (backToKw cpos (keywordEach [] X.env)).all (fun x => x.1.isSome)
    && decide (([e] : List Expr).length + ([] : List Keyword).length + (if ([] : List Keyword).isEmpty then 0 else 1) < 30)) = true
  line : (apos.endLine == cpos.line) = true
  trees : backTo cpos (starEach [e] X.env) = [(false, eval e X.env)]
structure M2 (X : Cx) (o : Expr) (m : Str) (apos : Pos) (e f : Expr) (cpos : Pos) : Prop where
  base : attributeBase o m X.env (eval o X.env) = eval o X.env
  few : ((backTo cpos (starEach [e, f] X.env)).all (fun x => !x.1) && (backToKw cpos (keywordEach [] X.env)).all (fun x => x.1.isSome)
    && decide (([e, f] : List Expr).length + ([] : List Keyword).length + (if ([] : List Keyword).isEmpty then 0 else 1) < 30)) = true
  line : (apos.endLine == cpos.line) = true
  trees : backTo cpos (starEach [e, f] X.env) = [(false, eval e X.env), (false, eval f X.env)]
section
variable {X : Cx} {pins : List (Addr × Obj)} {σ : St} {H : Hp} {s : Shared} {a : Addr} {y d : V} {u r : Value} {o : Option V} {A : Around} {E : Value → Shared → Prop}
end
section
variable {X : Cx} {o e f : Expr} {apos cpos : Pos} {td ty tx : TE}
end
section
variable {X : Cx} {pins : List (Addr × Obj)} {σ : St} {H : Hp} {s : Shared} {a : Addr} {kvs : List (Key × V)} {A : Around} {E : Value → Shared → Prop}
end
section
variable {X : Cx} {pins : List (Addr × Obj)} {σ : St} {H : Hp} {s : Shared} {a : Addr} {y : V} {u : Value} {A : Around} {E : Value → Shared → Prop}
end
end L2
namespace L2
open PySem PySem.Spec PyProof.Rows
section
variable {X : Cx}
end
section
variable {κ : Type} [DecidableEq κ]
end
end L2
set_option Elab.async false
set_option linter.all false
set_option maxRecDepth 100000
namespace HT
open PySem PyProof.Rows PySem.W
section
variable {prog : Program} {w : World} {A : Around} {E : Value → Shared → Prop} {s : Shared}
end
end HT
set_option Elab.async false
set_option linter.all false
set_option maxRecDepth 100000
namespace HT
open PySem PyProof.Rows PySem.W
def RawD (h : Heap) (d : Addr) (ks : List Value) (ep : Nat) : Prop := ∃ (o : Obj) (es : Array DictEntry), h.get? d = some o ∧ o.ExactDict ∧ o.data = .dict es ep ∧ es.toList.map (·.key) = ks
theorem RawD.at {h h' : Heap} {d : Addr} {ks : List Value} {ep : Nat} (x : RawD h d ks ep) (e : ∀ o, h.get? d = some o → h'.get? d = some o) : RawD h' d ks ep := let ⟨o, es, ho, r⟩ := x; ⟨o, es, e _ ho, r⟩
theorem RawD.lt {h : Heap} {d : Addr} {ks : List Value} {ep : Nat} (x : RawD h d ks ep) : d < h.objs.size := let ⟨_, _, ho, _⟩ := x; Heap.lt_size ho
theorem RawD.ty {s : Shared} {d : Addr} {ks : List Value} {ep : Nat} (x : RawD s.heap d ks ep) : s.TypeIs (.ref d) "dict" := let ⟨o, _, ho, hc, _⟩ := x; ⟨o, ho, hc.1⟩
section
variable {prog : Program} {w : World} {A : Around} {E : Value → Shared → Prop} {s : Shared} {d it : Addr} {ks : List Value} {ep i : Nat}
end
end HT
namespace L2
open PySem PySem.Spec PyProof.Rows PySem.W
section
variable {X : Cx} {pins : List (Addr × Obj)} {σ : St} {H : Hp} {s : Shared}
end
section
variable {X : Cx} {pins : List (Addr × Obj)} {σ : St} {H : Hp} {s : Shared}
end
section
variable {X : Cx}
end
end L2
set_option Elab.async false
set_option linter.all false
set_option maxRecDepth 100000
namespace L2
open PySem PySem.Spec PyProof.Rows
section
variable {X : Cx} {tg : Expr}
end
end L2
set_option Elab.async false
set_option linter.all false
set_option maxRecDepth 100000
namespace L2
open PySem PySem.Spec PyProof.Rows PySem.SeqAt
section
variable {X : Cx}
end
end L2
set_option Elab.async false
set_option linter.all false
set_option maxRecDepth 100000
namespace L2
open PySem PySem.Spec PyProof.Rows PySem.SeqAt
section
variable {X : Cx}
end
end L2
set_option Elab.async false
set_option linter.all false
set_option maxRecDepth 100000
namespace L2
open PySem PySem.Spec PyProof.Rows
structure CScopeT (sc : Scope) (scope : Scope) (xs : List Str) (M : List Str) (ys : List Str) (js : List Nat) : Prop where
  kind : scope.kind = .function
  cell : ∀ y ∈ scope.names, y.2 ≠ .cell
  loc : ∀ y ∈ scope.names, y.2 = .local → scope.names.lookup y.1 = some .local
  var : ∀ x ∈ xs, scope.names.lookup x = some .local
  free : ∀ y ∈ scope.names, y.2 = .free → sc.names.lookup y.1 = some .cell ∨ sc.names.lookup y.1 = some .free
  caps : js.map (M[·]?) = ys.map some
  fr : ∀ y ∈ ys, scope.names.lookup y = some .free
  nd : (xs ++ ys).Nodup
theorem CScope.nofree {sc scope : Scope} {x : Str} {M : List Str} (kind : scope.kind = .function) (cell : ∀ y ∈ scope.names, y.2 ≠ .cell) (loc : ∀ y ∈ scope.names, y.2 = .local → scope.names.lookup y.1 = some .local) (var : scope.names.lookup x = some .local) (free : ∀ y ∈ scope.names, y.2 ≠ .free) : CScope sc scope x M [] [] :=
  ⟨kind, cell, loc, var, fun y hy e => absurd e (free y hy), rfl, by simp, by simp⟩
section
variable {X : Cx} {pins : List (Addr × Obj)} {σ : St} {H : Hp} {s : Shared}
end
section
variable {prog : Program} {w : World} {A : Around} {R : Result → Shared → Prop} {s : Shared}
end
section
variable {X : Cx} {elt iter : Expr} {ifs : List Expr} {tg : Expr} {xs : List Str} {pos : Pos} {g : TG} {scope : Scope} {ys : List Str} {js : List Nat} {wi : TI} {tt : TT} {te : TE}
end
end L2
set_option Elab.async false
set_option linter.all false
set_option maxRecDepth 100000
namespace L2
open PySem PySem.Spec PyProof.Rows
structure Mt (K : PySem.W.Frag) (C : Addr) (q x : Str) (st : Stmt) (ps : List Str) (f : Addr) (fd : FuncData) : Prop where
  fn : Fun K x q st f fd
  b : Binds K fd ps []
  m : Meth K C x f
structure Blt2 (mg : Str → Option Value) : Prop where
  n_sum : mg "sum" = none
  n_abs : mg "abs" = none
  n_zip : mg "zip" = none
  n_str : mg "str" = none
section
variable {X : Cx} {tg : Expr}
end
end L2
set_option Elab.async false
set_option linter.all false
set_option maxRecDepth 100000
namespace L2
open PySem PySem.Spec PyProof.Rows
theorem Inv.turned2 {X : Cx} {pins : List (Addr × Obj)} {σ : St} {H : Hp} {s : Shared} {h' : Heap} {e it T : Addr} {o : HO} {t' : Nat} (I : Inv X pins σ H s) (k : ∀ b o, b ≠ e → b ≠ it → s.heap.get? b = some o → h'.get? b = some o) (fe : FpOk X pins H e) (fi : FpOk X pins H it) (hT : s.heap.objs.size ≤ T)
    (new : ObjOk X.prog X.w (upd H T o) h' T o) : Inv X pins σ (upd H T o) { s with heap := h', toks := t' } := by
  have hn : H T = none := I.hok.fresh hT
  have na : ∀ b u, H b = some u → b ≠ T := fun b u e z => by rw [z, hn] at e; cases e
  have ne : ∀ b u, H b = some u → b ≠ e := fun b u q z => by rw [z, fe.1] at q; cases q
  have ni : ∀ b u, H b = some u → b ≠ it := fun b u q z => by rw [z, fi.1] at q; cases q
  have k' : ∀ b o, b ∉ [e, it] → s.heap.get? b = some o → h'.get? b = some o := fun b o hb q => k b o (fun z => hb (by simp [z])) (fun z => hb (by simp [z])) q
  refine I.step (g' := s.gens) (d' := s.drawn) (ch := [e, it]) (fun b hb => ?_) (fun b o _ _ hc q _ => k' b o hc q) (fun b o _ _ hc q _ => ⟨o.slots, k' b o hc q⟩) (fun b o hc q n => by rw [upd_ne (Nat.ne_of_lt (Nat.lt_of_lt_of_le (Heap.lt_size q) hT))]; exact n)
    (fun b o hc q => ⟨o, k' b o hc q⟩) (fun b xs q => by rw [upd_ne (na b _ q)]; exact q) (fun b o u q => by rw [upd_ne (na b _ q)]; exact q) (fun b ps q => ⟨#[], by rw [upd_ne (na b _ q), q]; simp⟩) (fun m hm => ?_) (fun b u q => ?_) I.bare
  · rcases List.mem_cons.mp hb with z | hb
    · subst z; exact ⟨fe.2.2.2.1, fe.2.1, fe.2.2.2.2.1, fe.2.2.2.2.2⟩
    · have z : b = it := by simpa using hb
      subst z; exact ⟨fi.2.2.2.1, fi.2.1, fi.2.2.2.2.1, fi.2.2.2.2.2⟩
  · obtain ⟨o, es, ep, ho, r⟩ := hm
    exact ⟨o, es, ep, k _ o (Ne.symm fe.2.1) (Ne.symm fi.2.1) ho, r⟩
  · by_cases hb : b = T
    · subst hb
      rw [upd_same] at q
      cases q
      exact new
    · rw [upd_ne hb] at q
      refine (I.hok b u q).stay (fun c v hc z => k c v ?_ ?_ z) (fun c z => by rw [upd_ne (na c _ z)]; exact z) fun c xs z => by rw [upd_ne (na c _ z)]; exact z
      · rcases hc with rfl | hc
        · exact ne _ _ q
        · exact ne _ _ hc
      · rcases hc with rfl | hc
        · exact ni _ _ q
        · exact ni _ _ hc
def Ite (K : PySem.W.Frag) (a : Addr) : It :=
  ⟨fun i H => ∃ xs x, SqL K H a xs ∧ xs[i]? = some x, fun i H v H' => ∃ T x, v = .ref T ∧ H T = none ∧ H' = upd H T (.tup [.int (i : Nat), x]) ∧ ∀ xs, SqL K H a xs → xs[i]? = some x, fun i H => ∃ xs, SqL K H a xs ∧ xs.length ≤ i⟩
theorem turn_enum {P : Program} {w : World} {K : PySem.W.Frag} {elts : List Expr} {k : Nat} {tp : Pos} (a e it : Addr) (hei : e ≠ it) : Turn P w K (.Tuple elts k tp) (Ite K a) [e, it] e (fun i h => (∃ old, IsEnum h e it i old) ∧ h.IsListIter it a i) where
  mem := by simp
  obj := fun i h st b hb => by
    obtain ⟨⟨old, he⟩, o, hi, c, d⟩ := st
    rcases List.mem_cons.mp hb with z | hb
    · subst z
      exact ⟨_, he, fun v z => by
        have z' : Data.fields _ = Data.cell v := z
        cases z'⟩
    · have z : b = it := by simpa using hb
      subst z
      exact ⟨o, hi, fun v z => by rw [d] at z; cases z⟩
  keep := fun i h h' st k => by
    obtain ⟨⟨old, he⟩, hi⟩ := st
    exact ⟨⟨old, k e (by simp) _ he⟩, hi.at fun o q => k it (by simp) o q⟩
  item := by
    intro X hP hw hK hc i pins s σ H E I hf st hg
    subst hP hw hK
    obtain ⟨xs, x, hq, hx⟩ := hg
    obtain ⟨its, rv, p, hz⟩ := I.list hq
    obtain ⟨u, hu, ru⟩ := rv.get hx
    obtain ⟨⟨old, he⟩, hi⟩ := st
    refine wpAny_pyNext_enum_item he hi p.isList (x := u) (by simpa using hu) hei fun h' ho hi' hT hsz hk => ?_
    refine ⟨_, rfl, ?_⟩
    refine wpAny_letOwnedTupleGo_enum (s := { s with heap := h', toks := s.toks + 1 }) ho fun h'' he' hs' => ?_
    have helt : e < s.heap.objs.size := Heap.lt_size he
    have hT2 : h''.get? s.heap.objs.size = some { cls := .type "tuple", data := .seq #[.int i s.toks, u] } := (hs'.2 _ (Nat.ne_of_gt helt)).trans hT
    have fe := hf e (by simp)
    have fi := hf it (by simp)
    have I1 : Inv X pins σ (upd H s.heap.objs.size (.tup [.int (i : Nat), x])) { s with heap := h'', toks := s.toks + 1 } := by
      refine I.turned2 (fun b o hb1 hb2 q => (hs'.2 b hb1).trans (hk b o hb1 hb2 q)) fe fi (Nat.le_refl _) ⟨by show 2 ≤ sizeLine; decide, [.int i s.toks, u], .cons ⟨_, rfl⟩ (.cons ru .nil), _, hT2, rfl, 0, rfl⟩
    refine ⟨.ref s.heap.objs.size, _, I1, rfl, ⟨s.heap.objs.size, x, rfl, I.hok.fresh (Nat.le_refl _), rfl, fun ys hy => by rw [I.list_inj hy hq]; exact hx⟩, ⟨⟨_, by simpa using he'⟩, hi'.at fun o q => (hs'.2 it (Ne.symm hei)).trans q⟩, fun b hb => ?_⟩
    have hbl : b < s.heap.objs.size := by
      rcases List.mem_cons.mp hb with z | hb
      · rw [z]; exact helt
      · have z : b = it := by simpa using hb
        obtain ⟨o, q, _⟩ := hi
        rw [z]; exact Heap.lt_size q
    rw [upd_ne (Nat.ne_of_lt hbl)]
    exact (hf b hb).1
  done := by
    intro X hP hw hK hc i pins s σ H E I hf st hg
    subst hP hw hK
    obtain ⟨xs, hq, hx⟩ := hg
    obtain ⟨its, rv, p, hz⟩ := I.list hq
    obtain ⟨⟨old, he⟩, hi⟩ := st
    obtain ⟨f0, f1, f2, f3, f4, f5⟩ := hf it (by simp)
    have hl := rv.length
    exact wpAny_pyNext_enum_end (I.ok.hd hc) he hi p.isList (by simp; omega) fun h' eb => ⟨rfl, I.turned (t' := s.toks) (fun b o hb q => eb b o hb q) f0 f1 f3 f4 f5⟩
  self := fun _ _ _ _ _ st h => by
    obtain ⟨⟨old, he⟩, _⟩ := st
    exact wpAny_pyIter_enum he h
section
variable {X : Cx}
def iEnum (K : PySem.W.Frag) (tl : TA) : TI := fun σ H R => tl σ H fun vs H1 => ∃ a, vs = [.ref a] ∧ (∃ xs, SqL K H1 a xs) ∧ R (Ite K a) H1
theorem pi_enum (K : PySem.W.Frag) {elts : List Expr} {k : Nat} {tp : Pos} {a : Expr} {ta : TA} {p pos : Pos} (hg : Gl X "enumerate") (hm : X.mg "enumerate" = none) (ha : PA X [a] ta) (hs : starEach [a] X.env = [(false, eval a X.env)] := by rfl) (ek : X.K = K := by rfl) :
    PI X (.Tuple elts k tp) (.Call (.Name "enumerate" p) [a] [] pos) (iEnum K ta) := by
  subst ek
  intro pins s σ H R I h
  refine Call_ (ld_blt I hg hm boot_enumerate (PyProof.Rows.callWith_type1 (thn (ha pos pins s σ H _ I h) fun us s1 ⟨vs, H1, I1, r1, q1⟩ => ?_) (by rw [hs]; rfl) (by rfl)))
  obtain ⟨l, e, ⟨xs, hq⟩, q⟩ := q1
  subst e
  cases r1 with
  | cons r rr =>
    cases rr
    cases r
    obtain ⟨its, rv, pl, hz⟩ := I1.list hq
    refine call_enumerate_list pl.isList fun h' he hi hsz hk => ?_
    refine wpAny_pyIter_enum (s := { s1 with heap := h' }) he ?_
    have I2 : Inv X pins σ H1 { s1 with heap := h' } := I1.kept (t' := s1.toks) fun b o q => hk b o q
    refine ⟨s1.heap.objs.size + 1, [s1.heap.objs.size + 1, s1.heap.objs.size], _, _, H1, rfl, I2, turn_enum l _ _ (Nat.succ_ne_self _), ⟨⟨_, he⟩, hi⟩, fun b hb => ?_, q⟩
    have hb2 : s1.heap.objs.size ≤ b := by
      rcases List.mem_cons.mp hb with z | hb
      · rw [z]; exact Nat.le_succ _
      · have z : b = s1.heap.objs.size := by simpa using hb
        rw [z]; exact Nat.le_refl _
    exact I1.fpOk hb2 (I1.hok.fresh hb2)
theorem for_enum {K : PySem.W.Frag} {a : Addr} {xs : List V} {g : TG} {tb : TS} {D : Ends} {σ : St} {H : Hp} (Pv : Nat → St → Hp → Prop) (h0 : Pv 0 σ H) (hl : ∀ i σ H, i ≤ xs.length → Pv i σ H → SqL K H a xs)
    (hs : ∀ i x σ H T, xs[i]? = some x → Pv i σ H → H T = none → g (.ref T) σ (upd H T (.tup [.int (i : Nat), x])) fun σ2 H2 => tb { D with nx := Pv (i + 1), ct := Pv (i + 1), bk := D.nx } σ2 H2) (hd : ∀ σ H, Pv xs.length σ H → D.nx σ H) :
    ∃ W : Nat → Nat → St → Hp → Prop, (∃ m, W 0 m σ H) ∧ ∀ i m σ H, W i m σ H →
      ((Ite K a).stop i H ∧ D.nx σ H) ∨ ((Ite K a).go i H ∧ ∃ N : St → Hp → Prop, (∀ σ' H', N σ' H' → ∃ m', m' < m ∧ W (i + 1) m' σ' H') ∧ ∀ x H', (Ite K a).yld i H x H' → g x σ H' fun σ2 H2 => tb { D with nx := N, ct := N, bk := D.nx } σ2 H2) := by
  refine ⟨fun i m σ H => m = xs.length - i ∧ i ≤ xs.length ∧ Pv i σ H, ⟨xs.length, by simp, Nat.zero_le _, h0⟩, ?_⟩
  rintro i m σ H ⟨rfl, hi, p⟩
  have q := hl i σ H hi p
  by_cases hlt : i < xs.length
  · have hx : xs[i]? = some xs[i] := List.getElem?_eq_getElem hlt
    refine .inr ⟨⟨xs, xs[i], q, hx⟩, Pv (i + 1), fun σ' H' p' => ⟨xs.length - (i + 1), by omega, rfl, hlt, p'⟩, fun v H' y => ?_⟩
    obtain ⟨T, x, rfl, hT, rfl, hy⟩ := y
    have e2 := hy xs q
    rw [hx] at e2
    cases e2
    exact hs i xs[i] σ H T hx p hT
  · have e : i = xs.length := by omega
    subst e
    exact .inl ⟨⟨xs, q, Nat.le_refl _⟩, hd σ H p⟩
end
end L2
set_option linter.all false
namespace Lw
def figs (b n : Nat) : List Int := if h : 2 ≤ b ∧ b ≤ n then figs b (n / b) ++ [((n % b : Nat) : Int)] else [(n : Int)]
termination_by n
decreasing_by exact Nat.div_lt_self (by omega) (by omega)
end Lw
set_option linter.all false
namespace Lw
structure GoodFs (b : Nat) (ns : List Int) : Prop where
  ne : ns ≠ []
  len : ns.length ≤ 200
  fig : ∀ f ∈ ns, 0 ≤ f ∧ f < b
  first : ns.head? ≠ some 0 ∨ ns.length = 1
end Lw
set_option linter.all false
namespace Lw
end Lw
set_option Elab.async false
set_option linter.all false
set_option maxRecDepth 100000
namespace L2
open Lw
end L2
set_option Elab.async false
set_option linter.all false
set_option maxRecDepth 100000
namespace Lw
open PySem L2 PyProof.Rows
def top (i : Nat) : Stmt := PySem.Challenge.pw_lackstretch_k03_what_is_a_rule.main.body.getD i (.Pass ⟨0, 0, 0, 0⟩)
abbrev s_is_whole : Stmt := top 5
abbrev s_is_base : Stmt := top 6
abbrev s_is_figure : Stmt := top 7
abbrev s_are_figures : Stmt := top 8
abbrev s_is_stretch : Stmt := top 9
abbrev s_is_rising : Stmt := top 10
abbrev s_is_bad_list : Stmt := top 11
abbrev s_is_rule : Stmt := top 12
abbrev s__law_deck : Stmt := top 14
abbrev s__law_draw : Stmt := top 15
abbrev s__law_some_rule : Stmt := top 16
abbrev s__law_own : Stmt := top 17
abbrev s__law_no_base : Stmt := top 18
abbrev s__law_odd_figure : Stmt := top 19
abbrev s__law_no_rule : Stmt := top 20
abbrev s__law_is_rule : Stmt := top 21
abbrev s__law_right : Stmt := top 22
abbrev s_law : Stmt := top 23
end Lw
namespace Lw
open PySem L2 PyProof.Rows
structure Deck (H : Hp) (d : Addr) (fp : List Addr) : Prop where
  ex : ∃ (pp : Addr) (qs : List Addr) (i : Int), fp = d :: pp :: qs ∧ H d = some (.lst [.ref pp, .int i]) ∧ H pp = some (.lst (qs.map V.ref)) ∧ qs ≠ [] ∧ qs.length ≤ 63 ∧ ∀ q ∈ qs, ∃ a b c : Int, H q = some (.lst [.int a, .int b, .int c])
theorem Deck.there {H : Hp} {d : Addr} {fp : List Addr} (D : Deck H d fp) : ∀ b ∈ fp, H b ≠ none := by
  obtain ⟨pp, qs, i, rfl, h1, h2, _, _, h3⟩ := D.ex
  intro b hb
  rcases List.mem_cons.mp hb with e | hb
  · rw [e, h1]; simp
  · rcases List.mem_cons.mp hb with e | hb
    · rw [e, h2]; simp
    · obtain ⟨x, y, z, e⟩ := h3 b hb
      rw [e]; simp
theorem Deck.fresh {H : Hp} {d b : Addr} {fp : List Addr} (D : Deck H d fp) (h : H b = none) : b ∉ fp := fun z => D.there b z h
theorem Deck.same {H H' : Hp} {d : Addr} {fp : List Addr} (D : Deck H d fp) (s : Same H H') : Deck H' d fp := by
  obtain ⟨pp, qs, i, rfl, h1, h2, h3, h4, h5⟩ := D.ex
  exact ⟨pp, qs, i, rfl, s _ _ h1, s _ _ h2, h3, h4, fun q hq => by obtain ⟨x, y, z, e⟩ := h5 q hq; exact ⟨x, y, z, s _ _ e⟩⟩
theorem Deck.upd {H : Hp} {d l : Addr} {o : HO} {fp : List Addr} (D : Deck H d fp) (h : l ∉ fp) : Deck (L2.upd H l o) d fp := by
  obtain ⟨pp, qs, i, rfl, h1, h2, h3, h4, h5⟩ := D.ex
  have ne : ∀ b ∈ d :: pp :: qs, b ≠ l := fun b hb z => h (z ▸ hb)
  refine ⟨pp, qs, i, rfl, ?_, ?_, h3, h4, fun q hq => ?_⟩
  · rw [upd_ne (ne d (by simp))]; exact h1
  · rw [upd_ne (ne pp (by simp))]; exact h2
  · obtain ⟨x, y, z, e⟩ := h5 q hq
    exact ⟨x, y, z, by rw [upd_ne (ne q (by simp [hq]))]; exact e⟩
section
variable {P : Program} {w : World} {K : PySem.W.Frag} {mg : Str → Option Value} {base : Heap}
def sp__law_deck (K : PySem.W.Frag) : Sp := fun vs H Q _ => ∃ (a : Addr) (ns : List Int), vs = [.ref a] ∧ SqL K H a (ns.map V.int) ∧ ns.length ≤ 63 ∧
  ∀ d fp H', Deck H' d fp → Same H H' → (∀ b ∈ fp, H b = none) → Q (.ref d) H'
theorem sc__law_deck : FnScope ["script", "pools", "k", "cell"] ["script"] (defScope s__law_deck) := ⟨rfl, rfl, rfl, by decide +kernel, rfl, by decide +kernel, by decide +kernel⟩
theorem ok__law_deck {f : Addr} {fd : FuncData} (D : Df K mg "_law_deck" s__law_deck ["script"] f fd) (T : Blt mg) : FnOk P w K mg base CX0 1 f fd ["script"] (sp__law_deck K) := by
  refine D.fn.ok sc__law_deck (fun vs H Q E h => ?_) (fun cdv A outer s H vs Q E hr h => ?_)
  · obtain ⟨a, ns, rfl, _⟩ := h; rfl
  · obtain ⟨a, ns, rfl, hS, hlen, k⟩ := h
    refine ⟨_, (pss_cons (ps_set (i := 1) sc__law_deck.nd rfl (Or.inl rfl) (pe_lst pa_nil))
      (pss_cons (ps_for PassesOwn.never rfl (pi_range1 rfl T.n_range (pa_cons (pe_callB (call_max2 rfl) (by rfl) T.n_max boot_max (pa_cons pe_int (pa_cons (pe_callB (call_min2 rfl) (by rfl) T.n_min boot_min (pa_cons pe_int (pa_cons (pe_callB call_len_seq (by rfl) T.n_len PySem.boot_len (pa_cons (pv 0) pa_nil)) pa_nil))) pa_nil))) pa_nil)) (pg_name (i := 2) sc__law_deck.nd rfl (Or.inl rfl))
        (pss_cons (ps_set (i := 3) sc__law_deck.nd rfl (Or.inl rfl) pe_int)
        (pss_cons (ps_if (pt_cmpR op_lt (pv 2) (pe_callB call_len_seq (by rfl) T.n_len PySem.boot_len (pa_cons (pv 0) pa_nil)) (nomark _))
          (pss_one (ps_set (i := 3) sc__law_deck.nd rfl (Or.inl rfl) (pe_ix ix_list (pv 0) (pv 2) (fun _ _ => rfl))))
          pss_nil)
        (pss_one (ps_expr (pe_bm PySem.F.plainAttrs_list PySem.F.slot_list_append PySem.F.type_list_append mt_append (pv 1) (pa_cons (pe_lst (pa_cons (pv 3) (pa_cons (pe_callTy call_int1 (by rfl) T.n_int boot_int (pa_cons (pe_cmpR op_ge (pv 3) (pe_op op_pow pe_int pe_int) (nomark _)) pa_nil)) (pa_cons (pe_op op_mul pe_int (pv 2)) pa_nil)))) pa_nil)))))))
      (pss_one (ps_ret (pe_lst (pa_cons (pv 1) (pa_cons pe_int pa_nil))))))), ?_⟩
    refine ⟨(by decide : 0 ≤ sizeLine), fun pp hpp => ?_⟩
    have s0 : Same H (upd H pp (.lst [])) := same_upd hpp
    refine ⟨_, rfl, a, _, rfl, .inl (s0.seq hS), 63, (ns.length : Int), by simp, 1, _, rfl, ?_⟩
    generalize hM : (if (if (ns.length : Int) < 63 then (ns.length : Int) else 63) > 1 then (if (ns.length : Int) < 63 then (ns.length : Int) else 63) else 1) = M
    have hM1 : 1 ≤ M ∧ M ≤ 63 := by
      rw [← hM]; split <;> split <;> omega
    refine ⟨M, rfl, by omega, by omega, for_range (lo := 0) (n := M.toNat) (fun i σ H2 => ∃ (qs : List Addr) (v1 v2 : Option V), σ = [some (.ref a), some (.ref pp), v1, v2] ∧ qs.length = i ∧ H2 pp = some (.lst (qs.map V.ref)) ∧ Same H H2 ∧
        (∀ q ∈ qs, H q = none ∧ ∃ a b c : Int, H2 q = some (.lst [.int a, .int b, .int c]))) ?_ ?_ ?_⟩
    · exact ⟨[], none, none, rfl, rfl, upd_same, s0, fun q hq => by cases hq⟩
    · rintro i σ H2 hi ⟨qs, v1, v2, rfl, hl, h1, sH, h2⟩
      have hS2 := sH.seq hS
      have put : ∀ (cell : Int) (p : Addr), H2 p = none → ∀ y z : Int, ∃ (qs' : List Addr) (v1 v2 : Option V), ([some (.ref a), some (.ref pp), some (.int (0 + (i : Int))), some (.int cell)] : L2.St) = [some (.ref a), some (.ref pp), v1, v2] ∧ qs'.length = i + 1 ∧ (upd (upd H2 p (.lst [.int cell, .int y, .int z])) pp (.lst (qs.map V.ref ++ [.ref p]))) pp = some (.lst (qs'.map V.ref)) ∧
          Same H (upd (upd H2 p (.lst [.int cell, .int y, .int z])) pp (.lst (qs.map V.ref ++ [.ref p]))) ∧ (∀ q ∈ qs', H q = none ∧ ∃ a b c : Int, (upd (upd H2 p (.lst [.int cell, .int y, .int z])) pp (.lst (qs.map V.ref ++ [.ref p]))) q = some (.lst [.int a, .int b, .int c])) := by
        intro cell p hp y z
        have npp : p ≠ pp := fun e => by rw [e, h1] at hp; cases hp
        refine ⟨qs ++ [p], _, _, rfl, by simp [hl], by rw [upd_same]; simp, fun b o e => ?_, fun q hq => ?_⟩
        · rw [upd_ne (ne_of_none e hpp), upd_ne (fun z => by have := sH b o e; rw [z, hp] at this; cases this)]; exact sH b o e
        · rcases List.mem_append.mp hq with hq | hq
          · obtain ⟨hn, a', b', c', e⟩ := h2 q hq
            have n1 : q ≠ pp := fun z => by
              rw [z, h1] at e
              have e' := Option.some.inj e
              injection e' with e'
              cases qs with
              | nil => cases hq
              | cons q0 qr => rw [List.map_cons] at e'; injection e' with e1 _; cases e1
            exact ⟨hn, a', b', c', by rw [upd_ne n1, upd_ne (ne_of_none e hp)]; exact e⟩
          · have e : q = p := by simpa using hq
            subst e
            exact ⟨sH.free hp, cell, y, z, by rw [upd_ne npp, upd_same]⟩
      have rest : ∀ cell : Int, ∀ D : Ends, (∀ (p : Addr), H2 p = none → ∀ y z : Int, D.nx [some (.ref a), some (.ref pp), some (.int (0 + (i : Int))), some (.int cell)] (upd (upd H2 p (.lst [.int cell, .int y, .int z])) pp (.lst (qs.map V.ref ++ [.ref p])))) → True := fun _ _ _ => trivial
      refine ⟨_, rfl, _, rfl, a, _, rfl, .inl hS2, _, _, rfl, rfl, _, rfl, ?_⟩
      have fin : ∀ (cell : Int) (p : Addr), H2 p = none → True := fun _ _ _ => trivial
      refine ite2 (fun hlt => ?_) (fun hge => ?_)
      · have hlt' : i < ns.length := by
          have := of_decide_eq_true hlt
          rw [List.length_map] at this
          omega
        refine ⟨_, rfl, _, rfl, a, _, _, .int (ns[i]), rfl, rfl, hS2, ?_, ?_⟩
        · rw [Int.zero_add]; exact atI_nat (by rw [List.getElem?_map, List.getElem?_eq_getElem hlt']; rfl)
        · refine ⟨_, rfl, .inl ⟨rfl, _, SqL.of h1⟩, _, rfl, _, rfl, _, _, rfl, rfl, ⟨by decide, by decide, by decide⟩, _, _, rfl, rfl, .inr ⟨_, rfl, _, rfl, _, _, rfl, rfl, .inl ⟨by decide, by decide⟩, (by decide : 3 ≤ sizeLine), fun p hp => ?_⟩⟩
          refine ⟨pp, _, _, rfl, rfl, ?_, ?_, put _ p hp _ _⟩
          · rw [upd_ne (fun z => by rw [← z, h1] at hp; cases hp)]; exact h1
          · rw [List.length_map, hl]; exact Nat.lt_of_lt_of_le (show i < 64 by omega) (by decide)
      · refine ⟨_, rfl, .inl ⟨rfl, _, SqL.of h1⟩, _, rfl, _, rfl, _, _, rfl, rfl, ⟨by decide, by decide, by decide⟩, _, _, rfl, rfl, .inr ⟨_, rfl, _, rfl, _, _, rfl, rfl, .inl ⟨by decide, by decide⟩, (by decide : 3 ≤ sizeLine), fun p hp => ?_⟩⟩
        refine ⟨pp, _, _, rfl, rfl, ?_, ?_, put _ p hp _ _⟩
        · rw [upd_ne (fun z => by rw [← z, h1] at hp; cases hp)]; exact h1
        · rw [List.length_map, hl]; exact Nat.lt_of_lt_of_le (show i < 64 by omega) (by decide)
    · rintro σ H2 ⟨qs, v1, v2, rfl, hl, h1, sH, h2⟩
      refine ⟨_, rfl, (by decide : 2 ≤ sizeLine), fun d hd => ?_⟩
      have nd : ∀ b o, H2 b = some o → b ≠ d := fun b o e => ne_of_none e hd
      refine k d (d :: pp :: qs) _ ⟨pp, qs, 0, rfl, upd_same, ?_, ?_, by omega, fun q hq => ?_⟩ (sH.trans (same_upd hd)) (fun b hb => ?_)
      · rw [upd_ne (nd _ _ h1)]; exact h1
      · intro z; rw [z] at hl; simp at hl; omega
      · obtain ⟨_, x, y, z, e⟩ := h2 q hq
        exact ⟨x, y, z, by rw [upd_ne (nd _ _ e)]; exact e⟩
      · rcases List.mem_cons.mp hb with e | hb
        · rw [e]; exact sH.free hd
        · rcases List.mem_cons.mp hb with e | hb
          · rw [e]; exact hpp
          · exact (h2 b hb).1
end
structure Stp (fp : List Addr) (d : Addr) (H H' : Hp) : Prop where
  dk : Deck H' d fp
  sm : Same (aw fp H) (aw fp H')
theorem Stp.refl {fp : List Addr} {d : Addr} {H : Hp} (D : Deck H d fp) : Stp fp d H H := ⟨D, Same.refl _⟩
theorem Stp.trans {fp : List Addr} {d : Addr} {H H1 H2 : Hp} (a : Stp fp d H H1) (b : Stp fp d H1 H2) : Stp fp d H H2 := ⟨b.dk, a.sm.trans b.sm⟩
theorem Stp.of {fp : List Addr} {d : Addr} {H H' : Hp} (D : Deck H d fp) (s : Same H H') : Stp fp d H H' := ⟨D.same s, s.aw fp⟩
theorem Stp.free {fp : List Addr} {d p : Addr} {H H' : Hp} (a : Stp fp d H H') (h : H' p = none) : H p = none := by
  cases e : H p with
  | none => rfl
  | some o =>
    by_cases hp : p ∈ fp
    · exact absurd h (a.dk.there p hp)
    · have z := a.sm p o (by rw [aw_out hp]; exact e)
      rw [aw_out hp, h] at z; cases z
theorem Stp.get {fp : List Addr} {d p : Addr} {H H' : Hp} {o : HO} (a : Stp fp d H H') (hp : p ∉ fp) (h : H p = some o) : H' p = some o := by
  have z := a.sm p o (by rw [aw_out hp]; exact h)
  rw [aw_out hp] at z; exact z
theorem Stp.new {fp : List Addr} {d p : Addr} {H H' : Hp} {o : HO} (a : Stp fp d H H') (h : H' p = none) : Stp fp d H (upd H' p o) := a.trans (.of a.dk (same_upd h))
section
variable {P : Program} {w : World} {K : PySem.W.Frag} {mg : Str → Option Value} {base : Heap}
def sp__law_draw : Sp := fun vs H Q _ => ∃ (d : Addr) (m : Int) (fp : List Addr), vs = [.ref d, .int m] ∧ Deck H d fp ∧ 0 < m ∧ m < 2 ^ 200 ∧
  ∀ (r : Nat) (H' : Hp), (r : Int) < m → Stp fp d H H' → Q (.int r) H'
theorem sc__law_draw : FnScope ["deck", "many", "pool", "found", "number"] ["deck", "many"] (defScope s__law_draw) := ⟨rfl, rfl, rfl, by decide +kernel, rfl, by decide +kernel, by decide +kernel⟩
theorem aw_upd_in {fp : List Addr} {H : Hp} {b : Addr} {o : HO} (h : b ∈ fp) : aw fp (upd H b o) = aw fp H := by
  funext c
  by_cases hc : c ∈ fp
  · rw [aw_in hc, aw_in hc]
  · rw [aw_out hc, aw_out hc, upd_ne (fun z : c = b => hc (by rw [z]; exact h))]
theorem ok__law_draw {f : Addr} {fd : FuncData} (D : Df K mg "_law_draw" s__law_draw ["deck", "many"] f fd) (T : Blt mg) : FnOk P w K mg base CX0 1 f fd ["deck", "many"] sp__law_draw := by
  refine D.fn.ok sc__law_draw (fun vs H Q E h => ?_) (fun cdv A outer s H vs Q E hr h => ?_)
  · obtain ⟨d, m, fp, rfl, _⟩ := h; rfl
  · obtain ⟨d, m, fp, rfl, DK, hm0, hm1, k⟩ := h
    obtain ⟨pp, qs, i, rfl, h1, h2, h3, h4, h5⟩ := DK.ex
    refine ⟨_, (pss_cons (ps_set (i := 2) sc__law_draw.nd rfl (Or.inl rfl) (pe_ix ix_list (pe_ix ix_list (pv 0) pe_int (fun _ _ => rfl)) (pe_op op_mod (pe_ix ix_list (pv 0) pe_int (fun _ _ => rfl)) (pe_callB call_len_seq (by rfl) T.n_len PySem.boot_len (pa_cons (pe_ix ix_list (pv 0) pe_int (fun _ _ => rfl)) pa_nil))) (fun _ _ => rfl)))
      (pss_cons (ps_asg (pe_op op_add (pe_ix ix_list (pv 0) pe_int (fun _ _ => rfl)) pe_int) (pg_sub (pv 0) pe_int set_list))
      (pss_cons (ps_if (PW.pt (pw_and (pt_cmpR op_eq (pe_ix ix_list (pv 2) pe_int (fun _ _ => rfl)) pe_int (nomark _)) (pw_and1 (pt_cmpR op_gt (pe_ix ix_list (pv 2) pe_int (fun _ _ => rfl)) pe_int (nomark _)))))
        (pss_cons (ps_set (i := 3) sc__law_draw.nd rfl (Or.inl rfl) (pe_op op_mod (pe_ix ix_list (pv 2) pe_int (fun _ _ => rfl)) (pv 1)))
        (pss_cons (ps_asg (pe_op op_fdivB (pe_ix ix_list (pv 2) pe_int (fun _ _ => rfl)) (pv 1)) (pg_sub (pv 2) pe_int set_list))
        (pss_one (ps_ret (pv 3)))))
        pss_nil)
      (pss_cons (ps_asg (pe_op op_add (pe_ix ix_list (pv 2) pe_int (fun _ _ => rfl)) pe_int) (pg_sub (pv 2) pe_int set_list))
      (pss_cons (ps_set (i := 4) sc__law_draw.nd rfl (Or.inl rfl) (pe_op op_mod (pe_op op_add (pe_op op_mod (pe_ix ix_list (pv 2) pe_int (fun _ _ => rfl)) pe_int) (pe_op op_mul pe_int (pe_ix ix_list (pv 2) pe_int (fun _ _ => rfl)))) pe_int))
      (pss_cons (ps_set (i := 4) sc__law_draw.nd rfl (Or.inl rfl) (pe_op op_mod (pe_op op_mul (pv 4) (pv 4)) pe_int))
      (pss_cons (ps_set (i := 4) sc__law_draw.nd rfl (Or.inl rfl) (pe_op op_mod (pe_op op_mul (pv 4) (pe_op op_add (pv 4) pe_int)) pe_int))
      (pss_one (ps_ret (pe_op op_mod (pe_op op_fdivB (pv 4) pe_int) (pv 1))))))))))), ?_⟩
    have hql : 0 < qs.length := by cases qs with | nil => exact absurd rfl h3 | cons _ _ => simp
    have hj0 : 0 ≤ i % (qs.length : Int) := Int.emod_nonneg _ (by omega)
    have hj1 : i % (qs.length : Int) < qs.length := Int.emod_lt_of_pos _ (by omega)
    obtain ⟨j, hj⟩ : ∃ j : Nat, i % (qs.length : Int) = (j : Int) := ⟨(i % (qs.length : Int)).toNat, by omega⟩
    have hjl : j < qs.length := by omega
    have hq : qs[j] ∈ qs := List.getElem_mem hjl
    generalize hqe : qs[j] = q at hq
    obtain ⟨a, b, c, hqv⟩ := h5 q hq
    have e0 : atI [V.ref pp, V.int i] 0 = some (V.ref pp) := rfl
    have e1 : atI [V.ref pp, V.int i] 1 = some (V.int i) := rfl
    refine ⟨_, rfl, d, _, _, _, rfl, rfl, SqL.of h1, e0, ?_⟩
    refine ⟨_, rfl, d, _, _, _, rfl, rfl, SqL.of h1, e1, ?_⟩
    refine ⟨_, rfl, d, _, _, _, rfl, rfl, SqL.of h1, e0, pp, _, rfl, .inl (SqL.of h2), _, _, rfl, rfl, (by rw [List.length_map]; omega), ?_⟩
    refine ⟨pp, _, _, V.ref q, rfl, rfl, SqL.of h2, ?_, ?_⟩
    · rw [List.length_map, hj]
      exact atI_nat (by rw [List.getElem?_map, List.getElem?_eq_getElem hjl, hqe]; rfl)
    refine ⟨_, rfl, d, _, _, _, rfl, rfl, SqL.of h1, e1, _, _, rfl, rfl, _, rfl, d, _, _, 1, rfl, rfl, h1, rfl, ?_⟩
    have nqd : q ≠ d := fun z => by rw [z, h1] at hqv; cases hqv
    have nqp : q ≠ pp := fun z => by
      rw [z, h2] at hqv
      injection hqv with hqv
      injection hqv with hqv
      cases qs with
      | nil => cases hq
      | cons x y => rw [List.map_cons] at hqv; injection hqv with z1 _; cases z1
    have npd : pp ≠ d := fun z => by
      rw [z, h1] at h2
      injection h2 with h2
      injection h2 with h2
      cases qs with
      | nil => cases hq
      | cons x y =>
        rw [List.map_cons] at h2
        injection h2 with _ z2
        cases y with
        | nil => cases z2
        | cons y z => rw [List.map_cons] at z2; injection z2 with z3 _; cases z3
    have hqv1 : (upd H d (.lst [V.ref pp, V.int (i + 1)])) q = some (.lst [.int a, .int b, .int c]) := by rw [upd_ne nqd]; exact hqv
    have back : ∀ a' b' c' : Int, Deck (upd (upd H d (.lst [V.ref pp, V.int (i + 1)])) q (.lst [.int a', .int b', .int c'])) d (d :: pp :: qs) := fun a' b' c' => by
      refine ⟨pp, qs, i + 1, rfl, ?_, ?_, h3, h4, fun q' hq' => ?_⟩
      · rw [upd_ne (Ne.symm nqd), upd_same]
      · rw [upd_ne (Ne.symm nqp), upd_ne npd]; exact h2
      · by_cases z : q' = q
        · subst z; exact ⟨a', b', c', upd_same⟩
        · obtain ⟨x, y, z', e⟩ := h5 q' hq'
          have n1 : q' ≠ d := fun w => by rw [w, h1] at e; cases e
          exact ⟨x, y, z', by rw [upd_ne z, upd_ne n1]; exact e⟩
    have kept : ∀ o, Same (aw (d :: pp :: qs) H) (aw (d :: pp :: qs) (upd (upd H d (.lst [V.ref pp, V.int (i + 1)])) q o)) := fun o => by
      rw [aw_upd_in (by simp [hq]), aw_upd_in (by simp)]; exact Same.refl _
    have fin : ∀ (x a' b' c' : Int), Q (.int (x % m)) (upd (upd H d (.lst [V.ref pp, V.int (i + 1)])) q (.lst [.int a', .int b', .int c'])) := fun x a' b' c' => by
      obtain ⟨r, hr⟩ := Int.eq_ofNat_of_zero_le (Int.emod_nonneg x (show m ≠ 0 by omega))
      rw [hr]
      exact k r _ (hr ▸ Int.emod_lt_of_pos x hm0) ⟨back _ _ _, kept _⟩
    refine ⟨_, rfl, q, _, _, V.int b, rfl, rfl, SqL.of hqv1, rfl, rfl, _, rfl, ?_⟩
    have rest : ∀ D : Ends, (∀ v H', D.rt v H' = Q v H') → tSeq (tAsg (tOp (rI0 fun i j => .int (i + j)) (tOp (rIxL K) (tVar 2) (tC (.int 2))) (tC (.int 1))) (gSub (tVar 2) (tC (.int 2)) rSetL))
        (tSeq (tAsg (tOp (rI (fun _ j => 0 < j) fun i j => .int (i % j)) (tOp (rI0 fun i j => .int (i + j)) (tOp (rI (fun _ j => 0 < j) fun i j => .int (i % j)) (tOp (rIxL K) (tVar 2) (tC (.int 0))) (tC (.int 99999999977))) (tOp (rI CMul fun i j => .int (i * j)) (tC (.int 700001)) (tOp (rIxL K) (tVar 2) (tC (.int 2))))) (tC (.int 99999999947))) (gName 4))
        (tSeq (tAsg (tOp (rI (fun _ j => 0 < j) fun i j => .int (i % j)) (tOp (rI CMul fun i j => .int (i * j)) (tVar 4) (tVar 4)) (tC (.int 99999999821))) (gName 4))
        (tSeq (tAsg (tOp (rI (fun _ j => 0 < j) fun i j => .int (i % j)) (tOp (rI CMul fun i j => .int (i * j)) (tVar 4) (tOp (rI0 fun i j => .int (i + j)) (tVar 4) (tC (.int 19)))) (tC (.int 9999999967))) (gName 4))
        (tRet (tOp (rI (fun _ j => 0 < j) fun i j => .int (i % j)) (tOp (rI CDivB fun i j => .int (i / j)) (tVar 4) (tC (.int 13))) (tVar 1)))))) D [some (.ref d), some (.int m), some (.ref q), none, none] (upd H d (.lst [V.ref pp, V.int (i + 1)])) := by
      intro D hD
      refine ⟨_, rfl, q, _, _, V.int c, rfl, rfl, SqL.of hqv1, rfl, _, _, rfl, rfl, _, rfl, q, _, _, 2, rfl, rfl, hqv1, rfl, ?_⟩
      have hqv2 : (upd (upd H d (.lst [V.ref pp, V.int (i + 1)])) q (.lst [.int a, .int b, .int (c + 1)])) q = some (.lst [.int a, .int b, .int (c + 1)]) := upd_same
      refine ⟨_, rfl, q, _, _, V.int a, rfl, rfl, SqL.of hqv2, rfl, _, _, rfl, rfl, (by decide : (0 : Int) < 99999999977), ?_⟩
      refine ⟨_, rfl, q, _, _, V.int (c + 1), rfl, rfl, SqL.of hqv2, rfl, _, _, rfl, rfl, .inl ⟨by decide, by decide⟩, _, _, rfl, rfl, _, _, rfl, rfl, (by decide : (0 : Int) < 99999999947), ?_⟩
      generalize hn1 : (a % 99999999977 + 700001 * (c + 1)) % 99999999947 = n1
      have n1b : 0 ≤ n1 ∧ n1 < 99999999947 := by rw [← hn1]; exact ⟨Int.emod_nonneg _ (by decide), Int.emod_lt_of_pos _ (by decide)⟩
      refine ⟨_, rfl, _, rfl, _, _, rfl, rfl, .inl ⟨by omega, by omega⟩, _, _, rfl, rfl, (by decide : (0 : Int) < 99999999821), ?_⟩
      generalize hn2 : n1 * n1 % 99999999821 = n2
      have n2b : 0 ≤ n2 ∧ n2 < 99999999821 := by rw [← hn2]; exact ⟨Int.emod_nonneg _ (by decide), Int.emod_lt_of_pos _ (by decide)⟩
      refine ⟨_, rfl, _, rfl, _, _, rfl, rfl, _, _, rfl, rfl, .inl ⟨by omega, by omega⟩, _, _, rfl, rfl, (by decide : (0 : Int) < 9999999967), ?_⟩
      generalize hn3 : n2 * (n2 + 19) % 9999999967 = n3
      refine ⟨_, rfl, _, _, rfl, rfl, ⟨by decide, by decide⟩, _, rfl, _, _, rfl, rfl, hm0, ?_⟩
      rw [hD]
      exact fin _ _ _ _
    refine ite2 (fun _ => ?_) (fun _ => ?_)
    · refine ⟨_, rfl, q, _, _, V.int a, rfl, rfl, SqL.of hqv1, rfl, _, _, rfl, rfl, _, rfl, ?_⟩
      refine ite2 (fun _ => ?_) (fun _ => ?_)
      · refine ⟨_, rfl, q, _, _, V.int a, rfl, rfl, SqL.of hqv1, rfl, _, rfl, _, _, rfl, rfl, hm0, ?_⟩
        refine ⟨_, rfl, q, _, _, V.int a, rfl, rfl, SqL.of hqv1, rfl, _, rfl, _, _, rfl, rfl, ⟨hm0, hm1⟩, _, rfl, q, _, _, 0, rfl, rfl, hqv1, rfl, ?_⟩
        refine ⟨_, rfl, ?_⟩
        exact fin _ _ _ _
      · exact rest _ (fun _ _ => rfl)
    · exact rest _ (fun _ _ => rfl)
end
end Lw
set_option Elab.async false
set_option linter.all false
set_option maxRecDepth 100000
namespace Lw
open PySem L2 PyProof.Rows
def wholeT : PyData → Bool
  | .int _ => true
  | _ => false
def intT : PyData → Int
  | .int i => i
  | _ => 0
def baseT : PyData → Bool
  | .int i => decide (2 ≤ i ∧ i ≤ 16)
  | _ => false
def figT (b : Int) : PyData → Bool
  | .int i => decide (0 ≤ i ∧ i < b)
  | _ => false
def figsT (b : Int) : PyData → Bool
  | .list xs => xs.all (figT b)
  | _ => false
def eltsT : PyData → List PyData
  | .list xs => xs
  | _ => []
def intsT (d : PyData) : List Int := (eltsT d).map intT
def stretchT (b : Int) (d : PyData) : Bool := figsT b d && decide (1 ≤ (eltsT d).length ∧ (eltsT d).length ≤ 4)
def risingL (ls : List (List Int)) : Bool := (List.range (ls.length - 1)).all fun k => HT.lexLt (ls.getD k []) (ls.getD (k + 1) [])
def badT (b : Int) : PyData → Bool
  | .list xs => decide (xs.length ≤ 4) && (xs.all (stretchT b) && risingL (xs.map intsT))
  | _ => false
def ruleT : PyData → Bool
  | .tuple [d, l] => baseT d && badT (intT d) l
  | _ => false
theorem wholeT_is (d : PyData) : wholeT d = (isT "int" d && !isT "bool" d) := by cases d <;> rfl
theorem wholeT_int {d : PyData} (h : wholeT d = true) : d = .int (intT d) := by cases d <;> first | rfl | cases h
section
variable {P : Program} {w : World} {K : PySem.W.Frag} {mg : Str → Option Value} {base : Heap}
def sp_is_whole : Sp := fun vs H Q _ => ∃ (v : V) (d : PyData), vs = [v] ∧ ThAt H d v ∧ Q (.bl (wholeT d)) H
theorem sc_is_whole : FnScope ["thing"] ["thing"] (defScope s_is_whole) := ⟨rfl, rfl, rfl, by decide +kernel, rfl, by decide +kernel, by decide +kernel⟩
theorem ok_is_whole {f : Addr} {fd : FuncData} (D : Df K mg "is_whole" s_is_whole ["thing"] f fd) (T : Blt mg) : FnOk P w K mg base CX0 1 f fd ["thing"] sp_is_whole := by
  refine D.fn.ok sc_is_whole (fun vs H Q E h => ?_) (fun cdv A outer s H vs Q E hr h => ?_)
  · obtain ⟨v, d, rfl, _⟩ := h; rfl
  · obtain ⟨v, d, rfl, hd, q⟩ := h
    refine ⟨_, (pss_one (ps_ret (pe_and (pe_callB (k_isi K) (by rfl) T.n_isinstance boot_isinstance (pa_cons (pv 0) (pa_cons (pe_bltn (v := .ty "int") rfl T.n_int boot_int rfl) pa_nil))) (pe_one (pe_not (pe_callB (k_isi K) (by rfl) T.n_isinstance boot_isinstance (pa_cons (pv 0) (pa_cons (pe_bltn (v := .ty "bool") rfl T.n_bool boot_bool rfl) pa_nil)))))))), ?_⟩
    rw [wholeT_is] at q
    refine ⟨_, rfl, _, _, _, _, rfl, hd.ty, kit_int d, _, rfl, ?_⟩
    cases h1 : isT "int" d with
    | false => rw [h1] at q; exact iteF q
    | true =>
      rw [h1, Bool.true_and] at q
      exact iteT ⟨_, rfl, _, _, _, _, rfl, hd.ty, kit_bool d, _, rfl, q⟩
def sp_is_base : Sp := fun vs H Q _ => ∃ (v : V) (d : PyData), vs = [v] ∧ ThAt H d v ∧ Q (.bl (baseT d)) H
theorem sc_is_base : FnScope ["thing"] ["thing"] (defScope s_is_base) := ⟨rfl, rfl, rfl, by decide +kernel, rfl, by decide +kernel, by decide +kernel⟩
theorem ok_is_base {f f1 : Addr} {fd fd1 : FuncData} {t1 t2 : Tok} (D : Df K mg "is_base" s_is_base ["thing"] f fd) (Dis_whole : Df K mg "is_whole" s_is_whole ["thing"] f1 fd1) (T : Blt mg) (c_LEAST_BASE : mg "LEAST_BASE" = some (.int 2 t1)) (c_GREATEST_BASE : mg "GREATEST_BASE" = some (.int 16 t2)) :
    FnOk P w K mg base CX0 2 f fd ["thing"] sp_is_base := by
  have Gis_whole : FnOk P w K mg base CX0 1 f1 fd1 ["thing"] sp_is_whole := ok_is_whole Dis_whole T
  refine D.fn.ok sc_is_base (fun vs H Q E h => ?_) (fun cdv A outer s H vs Q E hr h => ?_)
  · obtain ⟨v, d, rfl, _⟩ := h; rfl
  · obtain ⟨v, d, rfl, hd, q⟩ := h
    refine ⟨_, (pss_one (ps_ret (pe_and (pcall Dis_whole Gis_whole (hr.mono (by decide)) (pa_cons (pv 0) pa_nil)) (pe_one (pe_chain op_le op_le (pe_glob (v := .int 2) rfl c_LEAST_BASE ⟨_, rfl⟩) (pv 0) (pe_glob (v := .int 16) rfl c_GREATEST_BASE ⟨_, rfl⟩)))))), ?_⟩
    refine ⟨_, rfl, v, d, rfl, hd, _, rfl, ?_⟩
    cases hw : wholeT d with
    | false =>
      have : baseT d = false := by cases d <;> first | rfl | cases hw
      rw [this] at q
      exact iteF q
    | true =>
      have e := wholeT_int hw
      generalize intT d = i at e
      subst e
      rw [ThAt] at hd
      subst hd
      refine iteT ⟨_, rfl, _, _, rfl, rfl, _, rfl, ?_⟩
      replace q : Q (.bl (decide (2 ≤ i ∧ i ≤ 16))) H := q
      refine ite2 (fun h1 => ?_) (fun h1 => ?_)
      · have h1' : (2 : Int) ≤ i := of_decide_eq_true h1
        refine ⟨_, _, rfl, rfl, ?_⟩
        rw [show decide (2 ≤ i ∧ i ≤ 16) = decide (i ≤ 16) by simp [h1']] at q
        exact q
      · have h1' : ¬ (2 : Int) ≤ i := fun z => h1 (decide_eq_true z)
        rw [show decide (2 ≤ i ∧ i ≤ 16) = false by simp [h1']] at q
        exact q
def sp_is_figure : Sp := fun vs H Q _ => ∃ (b : Int) (v : V) (d : PyData), vs = [.int b, v] ∧ ThAt H d v ∧ Q (.bl (figT b d)) H
theorem sc_is_figure : FnScope ["base", "thing"] ["base", "thing"] (defScope s_is_figure) := ⟨rfl, rfl, rfl, by decide +kernel, rfl, by decide +kernel, by decide +kernel⟩
theorem ok_is_figure {f f1 : Addr} {fd fd1 : FuncData} (D : Df K mg "is_figure" s_is_figure ["base", "thing"] f fd) (Dis_whole : Df K mg "is_whole" s_is_whole ["thing"] f1 fd1) (T : Blt mg) : FnOk P w K mg base CX0 2 f fd ["base", "thing"] sp_is_figure := by
  have Gis_whole : FnOk P w K mg base CX0 1 f1 fd1 ["thing"] sp_is_whole := ok_is_whole Dis_whole T
  refine D.fn.ok sc_is_figure (fun vs H Q E h => ?_) (fun cdv A outer s H vs Q E hr h => ?_)
  · obtain ⟨b, v, d, rfl, _⟩ := h; rfl
  · obtain ⟨b, v, d, rfl, hd, q⟩ := h
    refine ⟨_, (pss_one (ps_ret (pe_and (pcall Dis_whole Gis_whole (hr.mono (by decide)) (pa_cons (pv 1) pa_nil)) (pe_one (pe_chain op_le op_lt pe_int (pv 1) (pv 0)))))), ?_⟩
    refine ⟨_, rfl, v, d, rfl, hd, _, rfl, ?_⟩
    cases hw : wholeT d with
    | false =>
      have : figT b d = false := by cases d <;> first | rfl | cases hw
      rw [this] at q
      exact iteF q
    | true =>
      have e := wholeT_int hw
      generalize intT d = i at e
      subst e
      rw [ThAt] at hd
      subst hd
      refine iteT ⟨_, rfl, _, _, rfl, rfl, _, rfl, ?_⟩
      replace q : Q (.bl (decide (0 ≤ i ∧ i < b))) H := q
      refine ite2 (fun h1 => ?_) (fun h1 => ?_)
      · have h1' : (0 : Int) ≤ i := of_decide_eq_true h1
        refine ⟨_, rfl, _, _, rfl, rfl, ?_⟩
        rw [show decide (0 ≤ i ∧ i < b) = decide (i < b) by simp [h1']] at q
        exact q
      · have h1' : ¬ (0 : Int) ≤ i := fun z => h1 (decide_eq_true z)
        rw [show decide (0 ≤ i ∧ i < b) = false by simp [h1']] at q
        exact q
end
end Lw
set_option Elab.async false
set_option linter.all false
set_option maxRecDepth 100000
namespace Lw
open PySem L2 PyProof.Rows
mutual
def sizT : PyData → Nat
  | .list xs => max xs.length (sizTs xs)
  | .tuple xs => max xs.length (sizTs xs)
  | _ => 0
def sizTs : List PyData → Nat
  | [] => 0
  | d :: ds => max (sizT d) (sizTs ds)
end
theorem sizTs_mem {d : PyData} : ∀ {ds : List PyData}, d ∈ ds → sizT d ≤ sizTs ds
  | e :: ds, h => by
    rw [sizTs]
    rcases List.mem_cons.mp h with rfl | h
    · omega
    · have := sizTs_mem h; omega
theorem figs_ints {H : Hp} {b : Int} : ∀ {xs : List PyData} {ys : List V}, ThsAt H xs ys → xs.all (figT b) = true → ys = (xs.map intT).map V.int
  | [], ys, h, _ => by rw [ThsAt] at h; rw [h]; rfl
  | d :: ds, ys, h, q => by
    rw [ThsAt] at h
    obtain ⟨y, zs, h1, h2, h3⟩ := h
    rw [List.all_cons, Bool.and_eq_true] at q
    have e : d = .int (intT d) := by cases d <;> first | rfl | cases q.1
    rw [e, ThAt] at h2
    rw [h1, h2, figs_ints h3 q.2]
    rfl
theorem ThAt.figs {H : Hp} {b : Int} {d : PyData} {v : V} (h : ThAt H d v) (q : figsT b d = true) : ∃ a, v = .ref a ∧ H a = some (.lst ((intsT d).map V.int)) := by
  cases d with
  | list xs =>
    rw [ThAt] at h
    obtain ⟨a, ys, h1, h2, h3⟩ := h
    exact ⟨a, h1, by rw [h2, figs_ints h3 q]; rfl⟩
  | _ => cases q
theorem isT_list {d : PyData} (h : isT "list" d = true) : ∃ xs, d = .list xs := by
  cases d <;> first | exact ⟨_, rfl⟩ | cases h
theorem isT_tuple {d : PyData} (h : isT "tuple" d = true) : ∃ xs, d = .tuple xs := by
  cases d <;> first | exact ⟨_, rfl⟩ | cases h
theorem all_mapid {α : Type} {p : α → Bool} {l : List α} : (l.map p).all id = l.all p := by rw [List.all_map]; rfl
section
variable {P : Program} {w : World} {K : PySem.W.Frag} {mg : Str → Option Value} {base : Heap}
def sp_are_figures : Sp := fun vs H Q _ => ∃ (b : Int) (v : V) (d : PyData), vs = [.int b, v] ∧ ThAt H d v ∧ sizT d ≤ 100000 ∧ ∀ H', Same H H' → Q (.bl (figsT b d)) H'
theorem sc_are_figures : FnScope ["base", "thing"] ["base", "thing"] (defScope s_are_figures) := ⟨rfl, rfl, rfl, by decide +kernel, rfl, by decide +kernel, by decide +kernel⟩
theorem ok_are_figures {f f1 : Addr} {fd fd1 : FuncData} (D : Df K mg "are_figures" s_are_figures ["base", "thing"] f fd) (Dis_figure : Df K mg "is_figure" s_is_figure ["base", "thing"] f1 fd1) (Gis_figure : FnOk P w K mg base CX0 2 f1 fd1 ["base", "thing"] sp_is_figure) (T : Blt mg) :
    FnOk P w K mg base CX0 3 f fd ["base", "thing"] sp_are_figures := by
  refine D.fn.ok sc_are_figures (fun vs H Q E h => ?_) (fun cdv A outer s H vs Q E hr h => ?_)
  · obtain ⟨b, v, d, rfl, _⟩ := h; rfl
  · obtain ⟨b, v, d, rfl, hd, hs, kk⟩ := h
    refine ⟨_, (pss_one (ps_ret (pe_and (pe_callB (k_isi K) (by rfl) T.n_isinstance boot_isinstance (pa_cons (pv 1) (pa_cons (pe_bltn (v := .ty "list") rfl T.n_list boot_list rfl) pa_nil))) (pe_one (pe_callB (k_all K rfl) (by rfl) T.n_all boot_all (pa_cons (pe_comp (show CScope (defScope s_are_figures) _ "each" ["base", "thing"] ["base"] [0] from ⟨rfl, by decide +kernel, by decide +kernel, rfl, by decide +kernel, rfl, by decide +kernel, by decide +kernel⟩) rfl (k_pi K (pv 1)) (fun _ _ _ _ => pts_nil) (fun _ _ _ _ => (pcall Dis_figure Gis_figure (hr.mono (by decide)) (pa_cons (pv 1) (pa_cons (pv 0) pa_nil))))) pa_nil)))))), ?_⟩
    refine ⟨_, rfl, _, _, _, _, rfl, hd.ty, kit_list d, _, rfl, ?_⟩
    cases hl : isT "list" d with
    | false =>
      have q := kk H (Same.refl _)
      rw [show figsT b d = false by cases d <;> first | rfl | cases hl] at q
      exact iteF q
    | true =>
      obtain ⟨xs, rfl⟩ := isT_list hl
      rw [ThAt] at hd
      obtain ⟨a, ys, rfl, ha, hx⟩ := hd
      rw [sizT] at hs
      refine iteT ⟨_, rfl, a, rfl, ⟨_, SqL.of ha⟩, comp_list (K := K) (a := a) (xs := ys) (fun i us H4 => us = ((xs.take i).map (figT b)).map V.bl ∧ H4 = H) ⟨by simp, rfl⟩ (fun i us H4 _ ⟨_, e⟩ => by rw [e]; exact SqL.of ha) ?_ ?_⟩
      · rintro j x us H4 hj ⟨rfl, rfl⟩
        obtain ⟨d, hdj, hd⟩ := hx.get hj
        refine ⟨?_, ?_⟩
        · rw [List.length_map, List.length_map, List.length_take]
          exact Nat.lt_of_le_of_lt (show min j xs.length ≤ 100000 by omega) (by decide)
        unfold tYes
        dsimp only
        rw [if_pos rfl]
        refine ⟨_, rfl, _, rfl, b, x, d, rfl, hd, ?_, rfl⟩
        rw [List.take_succ, hdj]; simp
      · rintro us H4 ⟨rfl, rfl⟩ Dd hD
        refine ⟨Dd, _, rfl, SqL.of upd_same, ?_⟩
        rw [hx.len, List.take_length, all_mapid]
        exact kk _ (same_upd hD)
def sp_is_stretch : Sp := fun vs H Q _ => ∃ (b : Int) (v : V) (d : PyData), vs = [.int b, v] ∧ ThAt H d v ∧ sizT d ≤ 100000 ∧ ∀ H', Same H H' → Q (.bl (stretchT b d)) H'
theorem sc_is_stretch : FnScope ["base", "thing"] ["base", "thing"] (defScope s_is_stretch) := ⟨rfl, rfl, rfl, by decide +kernel, rfl, by decide +kernel, by decide +kernel⟩
theorem ok_is_stretch {f f1 : Addr} {fd fd1 : FuncData} {t1 : Tok} (D : Df K mg "is_stretch" s_is_stretch ["base", "thing"] f fd) (Dare_figures : Df K mg "are_figures" s_are_figures ["base", "thing"] f1 fd1) (Gare_figures : FnOk P w K mg base CX0 3 f1 fd1 ["base", "thing"] sp_are_figures) (c_LONGEST_STRETCH : mg "LONGEST_STRETCH" = some (.int 4 t1)) (T : Blt mg) :
    FnOk P w K mg base CX0 4 f fd ["base", "thing"] sp_is_stretch := by
  refine D.fn.ok sc_is_stretch (fun vs H Q E h => ?_) (fun cdv A outer s H vs Q E hr h => ?_)
  · obtain ⟨b, v, d, rfl, _⟩ := h; rfl
  · obtain ⟨b, v, d, rfl, hd, hs, kk⟩ := h
    refine ⟨_, (pss_one (ps_ret (pe_and (pcall Dare_figures Gare_figures (hr.mono (by decide)) (pa_cons (pv 0) (pa_cons (pv 1) pa_nil))) (pe_one (pe_chain op_le op_le pe_int (pe_callB (k_len K) (by rfl) T.n_len PySem.boot_len (pa_cons (pv 1) pa_nil)) (pe_glob (v := .int 4) rfl c_LONGEST_STRETCH ⟨_, rfl⟩)))))), ?_⟩
    refine ⟨_, rfl, _, rfl, b, v, d, rfl, hd, hs, fun H1 m1 => ⟨_, rfl, ?_⟩⟩
    have q := kk H1 m1
    unfold stretchT at q
    cases hf : figsT b d with
    | false => rw [hf] at q; exact iteF q
    | true =>
      rw [hf, Bool.true_and] at q
      obtain ⟨a, rfl, ha⟩ := ThAt.figs hd hf
      refine iteT ⟨_, rfl, a, _, rfl, .inl (SqL.of (m1 _ _ ha)), _, _, rfl, rfl, _, rfl, ?_⟩
      have el : (intsT d).length = (eltsT d).length := List.length_map _
      rw [List.length_map, el]
      generalize (eltsT d).length = n at q
      by_cases h1 : 1 ≤ n
      · rw [decide_eq_true (show (1 : Int) ≤ (n : Int) by omega)]
        refine iteT ⟨_, _, rfl, rfl, ?_⟩
        rw [show decide (1 ≤ n ∧ n ≤ 4) = decide ((n : Int) ≤ 4) from decide_eq_decide.mpr ⟨fun z => by omega, fun z => ⟨h1, by omega⟩⟩] at q
        exact q
      · rw [decide_eq_false (show ¬ (1 : Int) ≤ (n : Int) by omega)]
        rw [decide_eq_false (show ¬ (1 ≤ n ∧ n ≤ 4) from fun z => h1 z.1)] at q
        exact iteF q
def sp_is_rising : Sp := fun vs H Q _ => ∃ (bl : Addr) (zs : List (Addr × List Int)), vs = [.ref bl] ∧ H bl = some (.lst (zs.map fun z => V.ref z.1)) ∧ (∀ z ∈ zs, H z.1 = some (.lst (z.2.map V.int))) ∧ zs.length ≤ 4 ∧ ∀ H', Same H H' → Q (.bl (risingL (zs.map (·.2)))) H'
theorem sc_is_rising : FnScope ["stretches"] ["stretches"] (defScope s_is_rising) := ⟨rfl, rfl, rfl, by decide +kernel, rfl, by decide +kernel, by decide +kernel⟩
theorem ok_is_rising {f : Addr} {fd : FuncData} (D : Df K mg "is_rising" s_is_rising ["stretches"] f fd) (T : Blt mg) : FnOk P w K mg base CX0 1 f fd ["stretches"] sp_is_rising := by
  refine D.fn.ok sc_is_rising (fun vs H Q E h => ?_) (fun cdv A outer s H vs Q E hr h => ?_)
  · obtain ⟨bl, zs, rfl, _⟩ := h; rfl
  · obtain ⟨bl, zs, rfl, hb, hz, h4, kk⟩ := h
    have HU := HUof hr
    refine ⟨_, (pss_one (ps_ret (pe_callB (k_all K rfl) (by rfl) T.n_all boot_all (pa_cons (pe_comp (show CScope (defScope s_is_rising) _ "k" ["stretches"] ["stretches"] [0] from ⟨rfl, by decide +kernel, by decide +kernel, rfl, by decide +kernel, rfl, by decide +kernel, by decide +kernel⟩) rfl (pi_range1 rfl T.n_range (pa_cons (pe_op op_sub (pe_callB (k_len K) (by rfl) T.n_len PySem.boot_len (pa_cons (pv 0) pa_nil)) pe_int) pa_nil)) (fun _ _ _ _ => pts_nil) (fun _ _ _ _ => (pe_cmpR (k_ltL K HU) (pe_ix (k_ixL K) (pv 1) (pv 0) (fun _ _ => rfl)) (pe_ix (k_ixL K) (pv 1) (pe_op op_add (pv 0) pe_int) (fun _ _ => rfl)) (nomark _)))) pa_nil)))), ?_⟩
    refine ⟨_, rfl, bl, _, rfl, .inl (SqL.of hb), _, _, rfl, rfl, _, rfl, ?_⟩
    rw [List.length_map]
    refine ⟨by omega, by omega, comp_range (lo := 0) (n := ((zs.length : Int) - 1).toNat) (fun i ys H4 => ys = ((List.range i).map fun k => HT.lexLt ((zs.map (·.2)).getD k []) ((zs.map (·.2)).getD (k + 1) [])).map V.bl ∧ H4 = H) ⟨by simp, rfl⟩ ?_ ?_⟩
    · rintro i ys H4 hi ⟨rfl, rfl⟩
      refine ⟨by rw [List.length_map, List.length_map, List.length_range]; exact Nat.lt_of_lt_of_le (show i < 5 by omega) (by decide), ?_⟩
      unfold tYes
      dsimp only
      rw [if_pos rfl]
      have hi0 : i < zs.length := by omega
      have hi1 : i + 1 < zs.length := by omega
      have g0 : atI (zs.map fun z => V.ref z.1) (0 + (i : Int)) = some (.ref (zs[i]).1) := by rw [Int.zero_add]; exact atI_nat (by rw [List.getElem?_map, List.getElem?_eq_getElem hi0]; rfl)
      have g1 : atI (zs.map fun z => V.ref z.1) (0 + (i : Int) + 1) = some (.ref (zs[i + 1]).1) := by rw [Int.zero_add]; exact atI_nat (j := i + 1) (by rw [List.getElem?_map, List.getElem?_eq_getElem hi1]; rfl)
      refine ⟨_, rfl, _, rfl, bl, _, _, _, rfl, rfl, SqL.of hb, g0, ?_⟩
      refine ⟨_, rfl, _, rfl, _, _, rfl, rfl, bl, _, _, _, rfl, rfl, SqL.of hb, g1, ?_⟩
      refine ⟨_, _, _, _, rfl, rfl, SqL.of (hz _ (List.getElem_mem hi0)), SqL.of (hz _ (List.getElem_mem hi1)), ?_, rfl⟩
      rw [List.range_succ]
      have e0 : (zs.map (·.2)).getD i [] = (zs[i]).2 := by simp [List.getD, List.getElem?_map, List.getElem?_eq_getElem hi0]
      have e1 : (zs.map (·.2)).getD (i + 1) [] = (zs[i + 1]).2 := by simp [List.getD, List.getElem?_map, List.getElem?_eq_getElem hi1]
      rw [List.map_append, List.map_append, List.map_singleton, List.map_singleton, e0, e1]
    · rintro ys H4 ⟨rfl, rfl⟩ Dd hD
      refine ⟨Dd, _, rfl, SqL.of upd_same, ?_⟩
      rw [all_mapid]
      have q := kk _ (same_upd hD (o := .lst (((List.range ((zs.length : Int) - 1).toNat).map fun k => HT.lexLt ((zs.map (·.2)).getD k []) ((zs.map (·.2)).getD (k + 1) [])).map V.bl)))
      unfold risingL at q
      rw [List.length_map, show zs.length - 1 = ((zs.length : Int) - 1).toNat by omega] at q
      exact q
end
end Lw
set_option Elab.async false
set_option linter.all false
set_option maxRecDepth 100000
namespace Lw
open PySem L2 PyProof.Rows
theorem stretches_at {H : Hp} {b : Int} : ∀ {xs : List PyData} {ys : List V}, ThsAt H xs ys → xs.all (stretchT b) = true → ∃ zs : List (Addr × List Int), ys = zs.map (fun z => V.ref z.1) ∧ zs.map (·.2) = xs.map intsT ∧ ∀ z ∈ zs, H z.1 = some (.lst (z.2.map V.int))
  | [], ys, h, _ => by rw [ThsAt] at h; exact ⟨[], h, rfl, by simp⟩
  | d :: ds, ys, h, q => by
    rw [ThsAt] at h
    obtain ⟨y, us, h1, h2, h3⟩ := h
    rw [List.all_cons, Bool.and_eq_true] at q
    obtain ⟨zs, e1, e2, e3⟩ := stretches_at h3 q.2
    have qf : figsT b d = true := by have := q.1; unfold stretchT at this; rw [Bool.and_eq_true] at this; exact this.1
    obtain ⟨a, ea, ha⟩ := ThAt.figs h2 qf
    refine ⟨(a, intsT d) :: zs, by rw [h1, ea, e1]; rfl, by rw [List.map_cons, List.map_cons, e2], fun z hz => ?_⟩
    rcases List.mem_cons.mp hz with rfl | hz
    · exact ha
    · exact e3 z hz
section
variable {P : Program} {w : World} {K : PySem.W.Frag} {mg : Str → Option Value} {base : Heap}
def sp_is_bad_list : Sp := fun vs H Q _ => ∃ (b : Int) (v : V) (d : PyData), vs = [.int b, v] ∧ ThAt H d v ∧ sizT d ≤ 100000 ∧ ∀ H', Same H H' → Q (.bl (badT b d)) H'
theorem sc_is_bad_list : FnScope ["base", "thing"] ["base", "thing"] (defScope s_is_bad_list) := ⟨rfl, rfl, rfl, by decide +kernel, rfl, by decide +kernel, by decide +kernel⟩
theorem ok_is_bad_list {f f1 f2 : Addr} {fd fd1 fd2 : FuncData} {t1 : Tok} (D : Df K mg "is_bad_list" s_is_bad_list ["base", "thing"] f fd) (Dis_stretch : Df K mg "is_stretch" s_is_stretch ["base", "thing"] f1 fd1) (Gis_stretch : FnOk P w K mg base CX0 4 f1 fd1 ["base", "thing"] sp_is_stretch) (Dis_rising : Df K mg "is_rising" s_is_rising ["stretches"] f2 fd2) (c_MOST_STRETCHES : mg "MOST_STRETCHES" = some (.int 4 t1)) (T : Blt mg) :
    FnOk P w K mg base CX0 5 f fd ["base", "thing"] sp_is_bad_list := by
  have Gis_rising : FnOk P w K mg base CX0 1 f2 fd2 ["stretches"] sp_is_rising := ok_is_rising Dis_rising T
  refine D.fn.ok sc_is_bad_list (fun vs H Q E h => ?_) (fun cdv A outer s H vs Q E hr h => ?_)
  · obtain ⟨b, v, d, rfl, _⟩ := h; rfl
  · obtain ⟨b, v, d, rfl, hd, hs, kk⟩ := h
    refine ⟨_, (pss_cons (ps_if (PW.pt (pw_or (pt_not (pt_val (pe_callB (k_isi K) (by rfl) T.n_isinstance boot_isinstance (pa_cons (pv 1) (pa_cons (pe_bltn (v := .ty "list") rfl T.n_list boot_list rfl) pa_nil))))) (pw_or1 (pt_cmpR op_gt (pe_callB (k_len K) (by rfl) T.n_len PySem.boot_len (pa_cons (pv 1) pa_nil)) (pe_glob (v := .int 4) rfl c_MOST_STRETCHES ⟨_, rfl⟩) (nomark _)))))
        (pss_one (ps_ret pe_bl))
        pss_nil)
      (pss_one (ps_ret (pe_and (pe_callB (k_all K rfl) (by rfl) T.n_all boot_all (pa_cons (pe_comp (show CScope (defScope s_is_bad_list) _ "each" ["base", "thing"] ["base"] [0] from ⟨rfl, by decide +kernel, by decide +kernel, rfl, by decide +kernel, rfl, by decide +kernel, by decide +kernel⟩) rfl (k_pi K (pv 1)) (fun _ _ _ _ => pts_nil) (fun _ _ _ _ => (pcall Dis_stretch Gis_stretch (hr.mono (by decide)) (pa_cons (pv 1) (pa_cons (pv 0) pa_nil))))) pa_nil)) (pe_one (pcall Dis_rising Gis_rising (hr.mono (by decide)) (pa_cons (pv 1) pa_nil))))))), ?_⟩
    refine ⟨_, rfl, _, _, _, _, rfl, hd.ty, kit_list d, _, rfl, ?_⟩
    cases hl : isT "list" d with
    | false =>
      have q := kk H (Same.refl _)
      rw [show badT b d = false by cases d <;> first | rfl | cases hl] at q
      exact iteT (iteT q)
    | true =>
      obtain ⟨xs, rfl⟩ := isT_list hl
      rw [ThAt] at hd
      obtain ⟨a, ys, rfl, ha, hx⟩ := hd
      rw [sizT] at hs
      refine iteF ⟨_, rfl, a, _, rfl, .inl (SqL.of ha), _, _, rfl, rfl, _, rfl, ?_⟩
      rw [hx.len]
      have kk' : ∀ H', Same H H' → Q (.bl (decide (xs.length ≤ 4) && (xs.all (stretchT b) && risingL (xs.map intsT)))) H' := kk
      by_cases h4 : xs.length ≤ 4
      case neg =>
        rw [decide_eq_true (show (4 : Int) < (xs.length : Int) by omega)]
        have q := kk' H (Same.refl _)
        rw [decide_eq_false h4, Bool.false_and] at q
        exact iteT q
      rw [decide_eq_false (show ¬ (4 : Int) < (xs.length : Int) by omega)]
      rw [decide_eq_true h4, Bool.true_and] at kk'
      refine iteF ⟨_, rfl, a, rfl, ⟨_, SqL.of ha⟩, comp_list (K := K) (a := a) (xs := ys) (fun i us H4 => us = ((xs.take i).map (stretchT b)).map V.bl ∧ Same H H4) ⟨by simp, Same.refl _⟩ (fun i us H4 _ ⟨_, e⟩ => SqL.of (e _ _ ha)) ?_ ?_⟩
      · rintro j x us H4 hj ⟨rfl, m4⟩
        obtain ⟨d, hdj, hd⟩ := hx.get hj
        refine ⟨?_, ?_⟩
        · rw [List.length_map, List.length_map, List.length_take]
          exact Nat.lt_of_le_of_lt (show min j xs.length ≤ 4 by omega) (by decide)
        unfold tYes
        dsimp only
        rw [if_pos rfl]
        have := sizTs_mem (List.mem_of_getElem? hdj)
        refine ⟨_, rfl, _, rfl, b, x, d, rfl, hd.same m4, by omega, fun H5 m5 => ⟨?_, m4.trans m5⟩⟩
        rw [List.take_succ, hdj]; simp
      · rintro us H4 ⟨rfl, m4⟩ Dd hD
        refine ⟨Dd, _, rfl, SqL.of upd_same, ?_⟩
        have m5 := m4.trans (same_upd hD (o := .lst (((xs.take ys.length).map (stretchT b)).map V.bl)))
        rw [hx.len, List.take_length, all_mapid] at *
        refine ⟨_, rfl, ?_⟩
        cases hst : xs.all (stretchT b) with
        | false =>
          have q := kk' _ m5
          rw [hst, Bool.false_and] at q
          exact iteF q
        | true =>
          rw [hst, Bool.true_and] at kk'
          obtain ⟨zs, e1, e2, e3⟩ := stretches_at hx hst
          refine iteT ⟨_, rfl, a, zs, rfl, by rw [← e1]; exact m5 _ _ ha, fun z hz => m5 _ _ (e3 z hz), ?_, fun H6 m6 => ?_⟩
          · have := congrArg List.length e2; rw [List.length_map, List.length_map] at this; omega
          · rw [e2]; exact kk' H6 (m5.trans m6)
def sp_is_rule : Sp := fun vs H Q _ => ∃ (v : V) (d : PyData), vs = [v] ∧ ThAt H d v ∧ sizT d ≤ 100000 ∧ ∀ H', Same H H' → Q (.bl (ruleT d)) H'
theorem sc_is_rule : FnScope ["thing"] ["thing"] (defScope s_is_rule) := ⟨rfl, rfl, rfl, by decide +kernel, rfl, by decide +kernel, by decide +kernel⟩
theorem ok_is_rule {f f1 f2 : Addr} {fd fd1 fd2 : FuncData} (D : Df K mg "is_rule" s_is_rule ["thing"] f fd) (Dis_base : Df K mg "is_base" s_is_base ["thing"] f1 fd1) (Gis_base : FnOk P w K mg base CX0 2 f1 fd1 ["thing"] sp_is_base) (Dis_bad_list : Df K mg "is_bad_list" s_is_bad_list ["base", "thing"] f2 fd2) (Gis_bad_list : FnOk P w K mg base CX0 5 f2 fd2 ["base", "thing"] sp_is_bad_list) (T : Blt mg) :
    FnOk P w K mg base CX0 6 f fd ["thing"] sp_is_rule := by
  refine D.fn.ok sc_is_rule (fun vs H Q E h => ?_) (fun cdv A outer s H vs Q E hr h => ?_)
  · obtain ⟨v, d, rfl, _⟩ := h; rfl
  · obtain ⟨v, d, rfl, hd, hs, kk⟩ := h
    refine ⟨_, (pss_cons (ps_if (PW.pt (pw_or (pt_not (pt_val (pe_callB (k_isi K) (by rfl) T.n_isinstance boot_isinstance (pa_cons (pv 0) (pa_cons (pe_bltn (v := .ty "tuple") rfl T.n_tuple boot_tuple rfl) pa_nil))))) (pw_or1 (pt_cmpR op_ne (pe_callB (k_len K) (by rfl) T.n_len PySem.boot_len (pa_cons (pv 0) pa_nil)) pe_int (nomark _)))))
        (pss_one (ps_ret pe_bl))
        pss_nil)
      (pss_one (ps_ret (pe_and (pcall Dis_base Gis_base (hr.mono (by decide)) (pa_cons (pe_ix (k_ixT K) (pv 0) pe_int (fun _ _ => rfl)) pa_nil)) (pe_one (pcall Dis_bad_list Gis_bad_list (hr.mono (by decide)) (pa_cons (pe_ix (k_ixT K) (pv 0) pe_int (fun _ _ => rfl)) (pa_cons (pe_ix (k_ixT K) (pv 0) pe_int (fun _ _ => rfl)) pa_nil)))))))), ?_⟩
    refine ⟨_, rfl, _, _, _, _, rfl, hd.ty, kit_tuple d, _, rfl, ?_⟩
    cases hl : isT "tuple" d with
    | false =>
      have q := kk H (Same.refl _)
      rw [show ruleT d = false by cases d <;> first | rfl | cases hl] at q
      exact iteT (iteT q)
    | true =>
      obtain ⟨xs, rfl⟩ := isT_tuple hl
      rw [ThAt] at hd
      obtain ⟨a, ys, rfl, ha, hx⟩ := hd
      rw [sizT] at hs
      refine iteF ⟨_, rfl, a, _, rfl, .inr (SqT.of ha), rfl, _, rfl, ?_⟩
      rw [hx.len]
      match xs, hx, hs, kk with
      | [], hx, hs, kk => exact iteT (kk H (Same.refl _))
      | [_], hx, hs, kk => exact iteT (kk H (Same.refl _))
      | _ :: _ :: _ :: t, hx, hs, kk =>
        have q : Q (.bl false) H := kk H (Same.refl _)
        rename_i d1 d2 d3
        rw [show (!decide (V.int ((d1 :: d2 :: d3 :: t).length : Nat) = V.int 2)) = true by
          rw [decide_eq_false (fun z => by injection z with z; rw [List.length_cons, List.length_cons, List.length_cons] at z; omega)]; rfl]
        exact iteT q
      | [d, e], hx, hs, kk =>
        rw [ThsAt] at hx
        obtain ⟨y, us, rfl, hd, hx⟩ := hx
        rw [ThsAt] at hx
        obtain ⟨z, ws, rfl, he, hx⟩ := hx
        rw [ThsAt] at hx
        subst hx
        rw [sizTs, sizTs, sizTs] at hs
        refine iteF ?_
        refine ⟨_, rfl, a, _, _, y, rfl, rfl, SqT.of ha, rfl, y, d, rfl, hd, _, rfl, ?_⟩
        have kk' : ∀ H', Same H H' → Q (.bl (baseT d && badT (intT d) e)) H' := kk
        cases hb : baseT d with
        | false =>
          have q := kk' H (Same.refl _)
          rw [hb, Bool.false_and] at q
          exact iteF q
        | true =>
          rw [hb, Bool.true_and] at kk'
          have ed : d = .int (intT d) := by cases d <;> first | rfl | cases hb
          have ey : y = .int (intT d) := by rw [ed, ThAt] at hd; exact hd
          subst ey
          exact iteT ⟨_, rfl, a, _, _, V.int (intT d), rfl, rfl, SqT.of ha, rfl, _, rfl, a, _, _, z, rfl, rfl, SqT.of ha, rfl, intT d, z, e, rfl, he, by omega, kk'⟩
end
end Lw
set_option Elab.async false
set_option linter.all false
set_option maxRecDepth 100000
namespace Lw
open PySem L2 PyProof.Rows
structure RuleAt (H : Hp) (r : Addr) (b : Nat) (bl : Addr) (zs : List (Addr × List Int)) : Prop where
  tu : H r = some (.tup [.int b, .ref bl])
  li : H bl = some (.lst (zs.map fun z => V.ref z.1))
  st : ∀ z ∈ zs, H z.1 = some (.lst (z.2.map V.int))
theorem RuleAt.same {H H' : Hp} {r bl : Addr} {b : Nat} {zs : List (Addr × List Int)} (R : RuleAt H r b bl zs) (s : Same H H') : RuleAt H' r b bl zs := ⟨s _ _ R.tu, s _ _ R.li, fun z hz => s _ _ (R.st z hz)⟩
structure GoodSt (b : Nat) (l : List Int) : Prop where
  ne : l ≠ []
  len : l.length ≤ 4
  fig : ∀ f ∈ l, 0 ≤ f ∧ f < b
structure GoodRule (b : Nat) (ls : List (List Int)) : Prop where
  b2 : 2 ≤ b
  b16 : b ≤ 16
  len : ls.length ≤ 4
  st : ∀ l ∈ ls, GoodSt b l
  up : ls.Pairwise fun x y => HT.lexLt x y = true
section
variable {P : Program} {w : World} {K : PySem.W.Frag} {mg : Str → Option Value} {base : Heap}
def sp__law_some_rule : Sp := fun vs H Q _ => ∃ (d : Addr) (fp : List Addr), vs = [.ref d] ∧ Deck H d fp ∧
  ∀ (r : Addr) (b : Nat) (bl : Addr) (zs : List (Addr × List Int)) (H' : Hp), Stp fp d H H' → RuleAt (aw fp H') r b bl zs → GoodRule b (zs.map (·.2)) → Q (.ref r) H'
theorem sc__law_some_rule : FnScope ["deck", "base", "few", "first", "most", "bad", "k", "one"] ["deck"] (defScope s__law_some_rule) := ⟨rfl, rfl, rfl, by decide +kernel, rfl, by decide +kernel, by decide +kernel⟩
theorem stp_aw {fp : List Addr} {d l : Addr} {H H' : Hp} (S : Stp fp d H H') : Same (aw (l :: fp) H) (aw (l :: fp) H') := fun c o e => by
  by_cases hc : c ∈ l :: fp
  · rw [aw_in hc] at e; cases e
  · rw [aw_out hc] at e ⊢
    exact S.get (fun z => hc (List.mem_cons_of_mem _ z)) e
theorem aw_upd_out {fp : List Addr} {l : Addr} {H : Hp} {o : HO} : Same (aw (l :: fp) H) (aw (l :: fp) (upd H l o)) := fun c u e => by
  by_cases hc : c ∈ l :: fp
  · rw [aw_in hc] at e; cases e
  · rw [aw_out hc] at e ⊢
    rw [upd_ne (fun z => hc (by rw [z]; simp))]; exact e
theorem notin_any {ls : List (List Int)} {x : List Int} : ((ls.map tInts).any fun t => teq t (tInts x)) = decide (x ∈ ls) := by
  rw [Bool.eq_iff_iff]
  simp only [List.any_eq_true, List.mem_map, decide_eq_true_eq]
  constructor
  · rintro ⟨t, ⟨l, hl, rfl⟩, e⟩
    rw [teq_ints] at e
    rw [← of_decide_eq_true e]; exact hl
  · intro h
    exact ⟨tInts x, ⟨x, h, rfl⟩, teq_refl _⟩
theorem tdeps_tInts : ∀ ls : List (List Int), tdeps (ls.map tInts) ≤ 1
  | [] => by simp [tdeps]
  | l :: ls => by rw [List.map_cons, tdeps, tdep_tInts]; have := tdeps_tInts ls; omega
theorem TrsAt.lists {K : PySem.W.Frag} {H : Hp} : ∀ {zs : List (Addr × List Int)}, (∀ z ∈ zs, H z.1 = some (.lst (z.2.map V.int))) → TrsAt K H ((zs.map (·.2)).map tInts) (zs.map fun z => V.ref z.1)
  | [], _ => by rw [List.map_nil, List.map_nil, TrsAt]; rfl
  | z :: zs, h => by
    rw [List.map_cons, List.map_cons, TrsAt]
    exact ⟨_, _, rfl, TrAt.ints (SqL.of (h z List.mem_cons_self)), TrsAt.lists fun z hz => h z (List.mem_cons_of_mem _ hz)⟩
theorem ok__law_some_rule {f f1 : Addr} {fd fd1 : FuncData} (D : Df K mg "_law_some_rule" s__law_some_rule ["deck"] f fd) (D_law_draw : Df K mg "_law_draw" s__law_draw ["deck", "many"] f1 fd1) (T : Blt mg) : FnOk P w K mg base CX0 2 f fd ["deck"] sp__law_some_rule := by
  have G_law_draw : FnOk P w K mg base CX0 1 f1 fd1 ["deck", "many"] sp__law_draw := ok__law_draw D_law_draw T
  refine D.fn.ok sc__law_some_rule (fun vs H Q E h => ?_) (fun cdv A outer s H vs Q E hr h => ?_)
  · obtain ⟨d, fp, rfl, _⟩ := h; rfl
  · obtain ⟨d, fp, rfl, DK, kk⟩ := h
    have HU := HUof hr
    refine ⟨_, (pss_cons (ps_set (i := 1) sc__law_some_rule.nd rfl (Or.inl rfl) (pe_ix (k_ixL K) (pe_lst (pa_cons (pe_op op_add pe_int (pcall D_law_draw G_law_draw (hr.mono (by decide)) (pa_cons (pv 0) (pa_cons pe_int pa_nil)))) (pa_cons pe_int (pa_cons pe_int (pa_cons pe_int (pa_cons pe_int (pa_cons (pe_op op_add pe_int (pcall D_law_draw G_law_draw (hr.mono (by decide)) (pa_cons (pv 0) (pa_cons pe_int pa_nil)))) pa_nil))))))) (pcall D_law_draw G_law_draw (hr.mono (by decide)) (pa_cons (pv 0) (pa_cons pe_int pa_nil))) (fun _ _ => rfl)))
      (pss_cons (ps_set (i := 2) sc__law_some_rule.nd rfl (Or.inr rfl) (pe_callB (call_min2 rfl) (by rfl) T.n_min boot_min (pa_cons (pv 1) (pa_cons (pe_ix (k_ixL K) (pe_lst (pa_cons pe_int (pa_cons pe_int (pa_cons pe_int pa_nil)))) (pcall D_law_draw G_law_draw (hr.mono (by decide)) (pa_cons (pv 0) (pa_cons pe_int pa_nil))) (fun _ _ => rfl)) pa_nil))))
      (pss_cons (ps_set (i := 3) sc__law_some_rule.nd rfl (Or.inr rfl) (pcall D_law_draw G_law_draw (hr.mono (by decide)) (pa_cons (pv 0) (pa_cons (pe_op op_add (pe_op op_sub (pv 1) (pv 2)) pe_int) pa_nil))))
      (pss_cons (ps_set (i := 4) sc__law_some_rule.nd rfl (Or.inl rfl) (pe_ix (k_ixL K) (pe_lst (pa_cons (pe_op op_add pe_int (pcall D_law_draw G_law_draw (hr.mono (by decide)) (pa_cons (pv 0) (pa_cons pe_int pa_nil)))) (pa_cons pe_int (pa_cons pe_int (pa_cons pe_int pa_nil))))) (pcall D_law_draw G_law_draw (hr.mono (by decide)) (pa_cons (pv 0) (pa_cons pe_int pa_nil))) (fun _ _ => rfl)))
      (pss_cons (ps_set (i := 5) sc__law_some_rule.nd rfl (Or.inl rfl) (pe_lst pa_nil))
      (pss_cons (ps_for PassesOwn.never rfl (pi_range1 rfl T.n_range (pa_cons (pe_ix (k_ixL K) (pe_lst (pa_cons (pcall D_law_draw G_law_draw (hr.mono (by decide)) (pa_cons (pv 0) (pa_cons pe_int pa_nil))) (pa_cons pe_int (pa_cons pe_int (pa_cons pe_int pa_nil))))) (pcall D_law_draw G_law_draw (hr.mono (by decide)) (pa_cons (pv 0) (pa_cons pe_int pa_nil))) (fun _ _ => rfl)) pa_nil)) (pg_name (i := 6) sc__law_some_rule.nd rfl (Or.inl rfl))
        (pss_cons (ps_setComp (i := 7) (show CScope (defScope s__law_some_rule) _ "at" ["deck", "base", "few", "first", "most", "bad", "k", "one"] ["first", "deck", "few"] [3, 0, 2] from ⟨rfl, by decide +kernel, by decide +kernel, rfl, by decide +kernel, rfl, by decide +kernel, by decide +kernel⟩) rfl sc__law_some_rule.nd rfl (Or.inl rfl) (pi_range1 rfl T.n_range (pa_cons (pe_op op_add pe_int (pcall D_law_draw G_law_draw (hr.mono (by decide)) (pa_cons (pv 0) (pa_cons (pv 4) pa_nil)))) pa_nil)) (fun _ _ _ _ => pts_nil) (fun _ _ _ _ => (pe_op op_add (pv 1) (pcall D_law_draw G_law_draw (hr.mono (by decide)) (pa_cons (pv 2) (pa_cons (pv 3) pa_nil))))))
        (pss_one (ps_if (pt_cmpR (k_notInT K HU) (pv 7) (pv 5) (by with_unfolding_all rfl))
          (pss_one (ps_expr (pe_bm PySem.F.plainAttrs_list PySem.F.slot_list_append PySem.F.type_list_append mt_append (pv 5) (pa_cons (pv 7) pa_nil))))
          pss_nil))))
      (pss_one (ps_ret (pe_tup (pa_cons (pv 1) (pa_cons (pe_callB (k_sortL K HU) (by rfl) T.n_sorted boot_sorted (pa_cons (pv 5) pa_nil)) pa_nil))))))))))), ?_⟩
    refine ⟨_, rfl, d, _, fp, rfl, DK, (by decide), (by decide), fun x1 H1 hx1 S1 => ⟨_, _, rfl, rfl, ?_⟩⟩
    refine ⟨_, rfl, d, _, fp, rfl, S1.dk, (by decide), (by decide), fun x2 H2 hx2 S2 => ⟨_, _, rfl, rfl, (by show 6 ≤ sizeLine; decide), fun l1 hl1 => ?_⟩⟩
    have S12 := S1.trans S2
    have f1 := S12.dk.fresh hl1
    have S3 := S12.new hl1 (o := .lst [.int (2 + (x1 : Int)), .int 2, .int 3, .int 10, .int 16, .int (2 + (x2 : Int))])
    refine ⟨_, rfl, d, _, fp, rfl, S3.dk, (by decide), (by decide), fun x3 H4 hx3 S4 => ?_⟩
    obtain ⟨b, hb, hb2, hb16⟩ : ∃ b : Nat, atI [V.int (2 + (x1 : Int)), V.int 2, V.int 3, V.int 10, V.int 16, V.int (2 + (x2 : Int))] (x3 : Int) = some (.int b) ∧ 2 ≤ b ∧ b ≤ 16 := by
      have h6 : x3 < 6 := by omega
      match x3, h6 with
      | 0, _ => exact ⟨2 + x1, rfl, by omega, by omega⟩
      | 1, _ => exact ⟨2, rfl, by omega, by omega⟩
      | 2, _ => exact ⟨3, rfl, by omega, by omega⟩
      | 3, _ => exact ⟨10, rfl, by omega, by omega⟩
      | 4, _ => exact ⟨16, rfl, by omega, by omega⟩
      | 5, _ => exact ⟨2 + x2, rfl, by omega, by omega⟩
    refine ⟨l1, _, _, _, rfl, rfl, SqL.of (S4.get f1 upd_same), hb, ?_⟩
    have S34 := S3.trans S4
    refine ⟨_, rfl, (by show 3 ≤ sizeLine; decide), fun l2 hl2 => ?_⟩
    have f2 := S34.dk.fresh hl2
    have S5 := S34.new hl2 (o := .lst [.int 2, .int 3, .int 16])
    refine ⟨_, rfl, d, _, fp, rfl, S5.dk, (by decide), (by decide), fun x4 H6 hx4 S6 => ?_⟩
    obtain ⟨m, hm, hm2⟩ : ∃ m : Nat, atI [V.int 2, V.int 3, V.int 16] (x4 : Int) = some (.int m) ∧ 2 ≤ m := by
      have h3 : x4 < 3 := by omega
      match x4, h3 with
      | 0, _ => exact ⟨2, rfl, by omega⟩
      | 1, _ => exact ⟨3, rfl, by omega⟩
      | 2, _ => exact ⟨16, rfl, by omega⟩
    refine ⟨l2, _, _, _, rfl, rfl, SqL.of (S6.get f2 upd_same), hm, _, _, rfl, ?_⟩
    obtain ⟨few, hfew, hfew1, hfew2⟩ : ∃ few : Nat, (if (m : Int) < (b : Int) then (m : Int) else (b : Int)) = (few : Int) ∧ 2 ≤ few ∧ few ≤ b := by
      by_cases z : m < b
      · exact ⟨m, by rw [if_pos (by omega)], by omega, by omega⟩
      · exact ⟨b, by rw [if_neg (by omega)], by omega, by omega⟩
    rw [hfew]
    have S56 := S5.trans S6
    refine ⟨_, rfl, _, rfl, _, rfl, _, _, rfl, rfl, _, _, rfl, rfl, d, _, fp, rfl, S56.dk, by omega, by omega, fun x5 H7 hx5 S7 => ?_⟩
    have S57 := S56.trans S7
    refine ⟨_, rfl, d, _, fp, rfl, S57.dk, (by decide), (by decide), fun x6 H8 hx6 S8 => ⟨_, _, rfl, rfl, (by show 4 ≤ sizeLine; decide), fun l3 hl3 => ?_⟩⟩
    have S58 := S57.trans S8
    have f3 := S58.dk.fresh hl3
    have S9 := S58.new hl3 (o := .lst [.int (1 + (x6 : Int)), .int 2, .int 3, .int 4])
    refine ⟨_, rfl, d, _, fp, rfl, S9.dk, (by decide), (by decide), fun x7 H10 hx7 S10 => ?_⟩
    obtain ⟨most, hmost, hmost1, hmost2⟩ : ∃ most : Nat, atI [V.int (1 + (x6 : Int)), V.int 2, V.int 3, V.int 4] (x7 : Int) = some (.int most) ∧ 1 ≤ most ∧ most ≤ 4 := by
      have h4 : x7 < 4 := by omega
      match x7, h4 with
      | 0, _ => exact ⟨1 + x6, rfl, by omega, by omega⟩
      | 1, _ => exact ⟨2, rfl, by omega, by omega⟩
      | 2, _ => exact ⟨3, rfl, by omega, by omega⟩
      | 3, _ => exact ⟨4, rfl, by omega, by omega⟩
    refine ⟨l3, _, _, _, rfl, rfl, SqL.of (S10.get f3 upd_same), hmost, ?_⟩
    have S910 := S9.trans S10
    refine ⟨(by decide : 0 ≤ sizeLine), fun bl hbl => ?_⟩
    have fbl := S910.dk.fresh hbl
    have S11 := S910.new hbl (o := .lst [])
    refine ⟨_, rfl, d, _, fp, rfl, S11.dk, (by decide), (by decide), fun x8 H12 hx8 S12' => ⟨(by show 4 ≤ sizeLine; decide), fun l4 hl4 => ?_⟩⟩
    have S112 := S11.trans S12'
    have f4 := S112.dk.fresh hl4
    have S13 := S112.new hl4 (o := .lst [.int x8, .int 4, .int 3, .int 1])
    refine ⟨_, rfl, d, _, fp, rfl, S13.dk, (by decide), (by decide), fun x9 H14 hx9 S14 => ?_⟩
    obtain ⟨N, hN, hN4⟩ : ∃ N : Nat, atI [V.int x8, V.int 4, V.int 3, V.int 1] (x9 : Int) = some (.int N) ∧ N ≤ 4 := by
      have h4 : x9 < 4 := by omega
      match x9, h4 with
      | 0, _ => exact ⟨x8, rfl, by omega⟩
      | 1, _ => exact ⟨4, rfl, by omega⟩
      | 2, _ => exact ⟨3, rfl, by omega⟩
      | 3, _ => exact ⟨1, rfl, by omega⟩
    have S1314 := S13.trans S14
    refine ⟨l4, _, _, _, rfl, rfl, SqL.of (S14.get f4 upd_same), hN, (N : Int), rfl, by omega, by omega, for_range (lo := 0) (n := (N : Int).toNat) (fun i σ H15 => ∃ (v1 v2 : Option V) (zs : List (Addr × List Int)),
      σ = [some (.ref d), some (.int b), some (.int few), some (.int x5), some (.int most), some (.ref bl), v1, v2] ∧ zs.length ≤ i ∧ Deck H15 d fp ∧ H15 bl = some (.lst (zs.map fun z => V.ref z.1)) ∧ (∀ z ∈ zs, H15 z.1 = some (.lst (z.2.map V.int)) ∧ z.1 ∉ fp ∧ z.1 ≠ bl) ∧ (∀ l ∈ zs.map (·.2), GoodSt b l) ∧ (zs.map (·.2)).Nodup ∧ Same (aw (bl :: fp) H) (aw (bl :: fp) H15)) ⟨none, none, [], rfl, Nat.le_refl _, S1314.dk, ?_, (by simp), (by simp), (by simp), ?_⟩ ?_ ?_⟩
    · exact S14.get fbl (same_upd hl4 _ _ (S12'.get fbl upd_same))
    · exact stp_aw S1314
    · rintro i σ H15 hi ⟨v1, v2, zs, rfl, hzl, D15, hB, hZ, hG, nd, sm⟩
      refine ⟨_, rfl, _, rfl, d, _, fp, rfl, D15, by omega, by omega, fun y1 H16 hy1 S16 => ⟨_, _, rfl, rfl, (1 + (y1 : Int)), rfl, by omega, by omega, comp_range (lo := 0) (n := (1 + (y1 : Int)).toNat) (fun j ys Hc => Stp fp d H15 Hc ∧ ∃ ms : List Int, ys = ms.map V.int ∧ ms.length = j ∧ ∀ f ∈ ms, 0 ≤ f ∧ f < (b : Int)) ⟨S16, [], rfl, rfl, by simp⟩ ?_ ?_⟩⟩
      · rintro j ys Hc hj ⟨Sc, ms, rfl, hml, hmf⟩
        refine ⟨by rw [List.length_map, hml]; exact Nat.lt_of_lt_of_le (show j < 5 by omega) (by decide), ?_⟩
        unfold tYes
        dsimp only
        rw [if_pos rfl]
        refine ⟨_, rfl, _, rfl, _, rfl, d, _, fp, rfl, Sc.dk, by omega, by omega, fun y2 H17 hy2 S17 => ⟨_, _, rfl, rfl, Sc.trans S17, ms ++ [(x5 : Int) + y2], by simp, by simp [hml], fun f hf => ?_⟩⟩
        rcases List.mem_append.mp hf with hf | hf
        · exact hmf f hf
        · have e : f = (x5 : Int) + y2 := by simpa using hf
          omega
      · rintro ys Hc ⟨Sc, ms, rfl, hml, hmf⟩ p hp
        have hBc := Sc.get fbl hB
        have nbp : bl ≠ p := ne_of_none hBc hp
        have hZc : ∀ z ∈ zs, Hc z.1 = some (.lst (z.2.map V.int)) := fun z hz => Sc.get (hZ z hz).2.1 (hZ z hz).1
        have fpp := Sc.dk.fresh hp
        refine ⟨_, rfl, _, rfl, bl, _, (zs.map (·.2)).map tInts, tInts ms, rfl, SqL.of (same_upd hp _ _ hBc), TrsAt.lists (fun z hz => same_upd hp _ _ (hZc z hz)), TrAt.ints (a := p) (SqL.of upd_same), Nat.le_trans (tdeps_tInts _) (by decide), _, rfl, ?_⟩
        have sm2 : Same (aw (bl :: fp) H) (aw (bl :: fp) (upd Hc p (.lst (ms.map V.int)))) := sm.trans ((stp_aw Sc).trans ((same_upd hp).aw _))
        have D18 := Sc.dk.upd fpp (o := .lst (ms.map V.int))
        rw [if_pos rfl, notin_any]
        by_cases hin : ms ∈ zs.map (·.2)
        · rw [decide_eq_true hin]
          refine iteF ?_
          exact ⟨_, _, zs, rfl, by omega, D18, same_upd hp _ _ hBc, fun z hz => ⟨same_upd hp _ _ (hZc z hz), (hZ z hz).2⟩, hG, nd, sm2⟩
        · rw [decide_eq_false hin]
          refine iteT ?_
          refine ⟨_, rfl, .inl ⟨rfl, _, SqL.of (same_upd hp _ _ hBc)⟩, _, rfl, bl, _, _, rfl, rfl, same_upd hp _ _ hBc, by rw [List.length_map]; exact Nat.lt_of_le_of_lt (show zs.length ≤ 4 by omega) (by decide), ?_⟩
          refine ⟨_, _, zs ++ [(p, ms)], rfl, by rw [List.length_append, List.length_singleton]; omega, D18.upd fbl, by rw [upd_same]; simp, fun z hz => ?_, fun l hl => ?_, ?_, sm2.trans aw_upd_out⟩
          · rcases List.mem_append.mp hz with hz | hz
            · rw [upd_ne (hZ z hz).2.2]
              exact ⟨same_upd hp _ _ (hZc z hz), (hZ z hz).2⟩
            · have e : z = (p, ms) := by simpa using hz
              subst e
              exact ⟨by rw [upd_ne (Ne.symm nbp), upd_same], fpp, Ne.symm nbp⟩
          · rw [List.map_append] at hl
            rcases List.mem_append.mp hl with hl | hl
            · exact hG l hl
            · have e : l = ms := by simpa using hl
              subst e
              exact ⟨fun z => by rw [z] at hml; simp at hml; omega, by omega, hmf⟩
          · rw [List.map_append]
            refine List.nodup_append.mpr ⟨nd, by simp, fun x hx y hy => ?_⟩
            have e : y = ms := by simpa using hy
            rw [e]
            exact fun z => hin (z ▸ hx)
    · rintro σ H15 ⟨v1, v2, zs, rfl, hzl, D15, hB, hZ, hG, nd, sm⟩
      refine ⟨_, rfl, _, rfl, bl, zs, rfl, SqL.of hB, by omega, fun z hz => SqL.of (hZ z hz).1, nd, fun p zs' hp pm pw => ⟨(by show 2 ≤ sizeLine; decide), fun r hr => ?_⟩⟩
      have D16 := D15.same (same_upd hp (o := .lst (zs'.map fun z => V.ref z.1)))
      have npr : p ≠ r := fun z => by rw [← z, upd_same] at hr; cases hr
      refine kk r b p zs' _ ⟨D16.same (same_upd hr), fun c o e => ?_⟩ ⟨?_, ?_, fun z hz => ?_⟩ ⟨hb2, hb16, by rw [List.length_map, pm.length_eq]; omega, fun l hl => ?_, by rw [List.pairwise_map]; exact pw⟩
      · have hc : c ∉ fp := fun hc => by rw [aw_in hc] at e; cases e
        have hcb : c ≠ bl := fun z => by
          rw [aw_out hc, z, S910.free hbl] at e; cases e
        have hc2 : c ∉ bl :: fp := fun z => by
          rcases List.mem_cons.mp z with z | z
          · exact hcb z
          · exact hc z
        rw [aw_out hc] at e ⊢
        have z := sm c o (by rw [aw_out hc2]; exact e)
        rw [aw_out hc2] at z
        exact same_upd hr _ _ (same_upd hp _ _ z)
      · rw [aw_out (D16.fresh hr), upd_same]
      · rw [aw_out (D15.fresh hp), upd_ne npr, upd_same]
      · have hzm := pm.mem_iff.mp hz
        rw [aw_out (hZ z hzm).2.1]
        exact same_upd hr _ _ (same_upd hp _ _ (hZ z hzm).1)
      · obtain ⟨z, hz, rfl⟩ := List.mem_map.mp hl
        exact hG _ (List.mem_map.mpr ⟨z, pm.mem_iff.mp hz, rfl⟩)
end
end Lw
set_option Elab.async false
set_option linter.all false
set_option maxRecDepth 100000
namespace L2
open PySem PySem.Spec PyProof.Rows
theorem pa_str {X : Cx} {x : Str} {j} {pos : Pos} {es : List Expr} {t : TA} (h : PA X es t) : PA X (.Constant (.str x) j pos :: es) (tCons (tC (.str x)) t) := pa_cons pe_str h rfl
theorem ps_setL {X : Cx} {i : Nat} {x : Str} {es : List Expr} {t : TA} {pos' lp pos : Pos} (hN : X.N.Nodup) (hi : X.N[i]? = some x) (hx : Loc X.env.scope x) (h : PA X es t) (hf : X.fn x = true ∨ X.env.scope.names.lookup x = some .local := by first | exact .inl rfl | exact .inr rfl | assumption) :
    PS X (.Assign [.Name x pos'] (.List es lp) pos) (tAsg (tLst t) (gName i)) := ps_set hN hi hx (pe_lst h) rfl hf
end L2
set_option Elab.async false
set_option linter.all false
set_option maxRecDepth 100000
namespace L2
open PySem PyProof.Rows
structure Fit (k n : Nat) (d : PyData) : Prop where
  ls : d.leavesShort 40 = true
  sh : d.showable = true
  dp : d.depth ≤ k
  wt : d.weight ≤ n
theorem Fit.shown {k n : Nat} {d : PyData} (f : Fit k n d) (hn : n ≤ 100000) : d.shown.length ≤ sizeLine := by
  have h := PyData.shown_le 40 (by decide) d f.ls
  have := f.wt
  rw [sizeLine_eq]
  omega
def Th (H : Hp) (k n : Nat) (v : V) : Prop := ∃ d, ThAt H d v ∧ Fit k n d
theorem Th.same {H H' : Hp} {k n : Nat} {v : V} (t : Th H k n v) (m : Same H H') : Th H' k n v := let ⟨d, h, f⟩ := t; ⟨d, h.same m, f⟩
theorem Th.le {H : Hp} {k n k' n' : Nat} {v : V} (t : Th H k n v) (hk : k ≤ k') (hn : n ≤ n') : Th H k' n' v := let ⟨d, h, f⟩ := t; ⟨d, h, f.ls, f.sh, Nat.le_trans f.dp hk, Nat.le_trans f.wt hn⟩
section
variable {H : Hp} {k n : Nat}
theorem Th.non : Th H k n .non := ⟨.none, by rw [ThAt], by rw [PyData.leavesShort], by rw [PyData.showable], by rw [PyData.depth]; exact Nat.zero_le _, by rw [PyData.weight]; exact Nat.zero_le _⟩
theorem Th.bl {b : Bool} : Th H k n (.bl b) := ⟨.bool b, by rw [ThAt], by rw [PyData.leavesShort], by rw [PyData.showable], by rw [PyData.depth]; exact Nat.zero_le _, by rw [PyData.weight]; exact Nat.zero_le _⟩
theorem log2_small {m : Nat} (h : m < 10 ^ 30) : m.log2 < 100 := by
  by_cases z : m = 0
  · subst z; decide
  · exact (Nat.log2_lt z).mpr (Nat.lt_trans h (by decide))
theorem Th.int {i : Int} (h : i.natAbs < 10 ^ 30) (hn : 100 ≤ n) : Th H k n (.int i) := by
  refine ⟨.int i, by rw [ThAt], ?_, ?_, by rw [PyData.depth]; exact Nat.zero_le _, ?_⟩
  · rw [PyData.leavesShort, PyData.shown]
    refine decide_eq_true ?_
    have := int_text_length_le10 (a := i) (k := 30) (by decide) h
    rw [PySem.ofString_length]
    omega
  · rw [PyData.showable]
    exact decide_eq_true (Nat.lt_trans (log2_small h) (by decide))
  · rw [PyData.weight]
    have := log2_small h
    split <;> omega
theorem Th.str {x : Str} (h : (x.cps.toList.all fun c => decide (c < 16 ^ 8)) = true) (hn : x.cps.size ≤ n) : Th H k n (.str x) := ⟨.str x, by rw [ThAt], by rw [PyData.leavesShort]; exact h, by rw [PyData.showable], by rw [PyData.depth]; exact Nat.zero_le _, by rw [PyData.weight]; exact hn⟩
theorem Th.emp {a : Addr} (h : H a = some (.dK [])) (hk : 1 ≤ k) : Th H k n (.ref a) := ⟨.dict [], by rw [ThAt]; exact ⟨rfl, a, rfl, h⟩, by rw [PyData.leavesShort, PyData.leavesShortKv], by rw [PyData.showable, PyData.showableKv], by rw [PyData.depth, PyData.depthKv]; exact hk, by rw [PyData.weight, PyData.weightKv]; exact Nat.zero_le _⟩
theorem Ths.of : ∀ {vs : List V}, (∀ v ∈ vs, Th H k n v) → ∃ ds, ThsAt H ds vs ∧ PyData.leavesShortAll 40 ds = true ∧ PyData.showableAll ds = true ∧ PyData.depthAll ds ≤ k ∧ PyData.weightAll ds ≤ (n + 1) * vs.length
  | [], _ => ⟨[], by rw [ThsAt], by rw [PyData.leavesShortAll], by rw [PyData.showableAll], by rw [PyData.depthAll]; exact Nat.zero_le _, by rw [PyData.weightAll]; exact Nat.zero_le _⟩
  | v :: vs, h => by
    obtain ⟨d, h1, f⟩ := h v (.head _)
    obtain ⟨ds, g1, g2, g3, g4, g5⟩ := Ths.of fun v hv => h v (.tail _ hv)
    refine ⟨d :: ds, by rw [ThsAt]; exact ⟨_, _, rfl, h1, g1⟩, by rw [PyData.leavesShortAll, f.ls, g2]; rfl, by rw [PyData.showableAll, f.sh, g3]; rfl, ?_, ?_⟩
    · rw [PyData.depthAll]; have := f.dp; omega
    · rw [PyData.weightAll, List.length_cons, Nat.mul_succ]; have := f.wt; omega
theorem Th.lst {a : Addr} {vs : List V} {n' : Nat} (h : H a = some (.lst vs)) (t : ∀ v ∈ vs, Th H k n v) (hn : (n + 1) * vs.length ≤ n') : Th H (k + 1) n' (.ref a) := by
  obtain ⟨ds, g1, g2, g3, g4, g5⟩ := Ths.of t
  exact ⟨.list ds, by rw [ThAt]; exact ⟨a, vs, rfl, h, g1⟩, by rw [PyData.leavesShort]; exact g2, by rw [PyData.showable]; exact g3, by rw [PyData.depth]; omega, by rw [PyData.weight]; omega⟩
theorem Th.tup {a : Addr} {vs : List V} {n' : Nat} (h : H a = some (.tup vs)) (t : ∀ v ∈ vs, Th H k n v) (hn : (n + 1) * vs.length ≤ n') : Th H (k + 1) n' (.ref a) := by
  obtain ⟨ds, g1, g2, g3, g4, g5⟩ := Ths.of t
  exact ⟨.tuple ds, by rw [ThAt]; exact ⟨a, vs, rfl, h, g1⟩, by rw [PyData.leavesShort]; exact g2, by rw [PyData.showable]; exact g3, by rw [PyData.depth]; omega, by rw [PyData.weight]; omega⟩
theorem Th.ints {a : Addr} {ns : List Int} {n' : Nat} (h : H a = some (.lst (ns.map V.int))) (t : ∀ i ∈ ns, i.natAbs < 10 ^ 30) (hn : 101 * ns.length ≤ n') : Th H (k + 1) n' (.ref a) :=
  Th.lst (n := 100) h (fun v hv => by
    obtain ⟨i, hi, rfl⟩ := List.mem_map.mp hv
    exact Th.int (t i hi) (Nat.le_refl _)) (by rw [List.length_map]; exact hn)
end
end L2
set_option Elab.async false
set_option linter.all false
set_option maxRecDepth 100000
namespace Lw
open PySem L2 PyProof.Rows
theorem aw_newD {fp : List Addr} {d p : Addr} {H : Hp} {o : HO} (D : Deck H d fp) (h : H p = none) : aw fp (upd H p o) p = some o := by rw [aw_out (D.fresh h), upd_same]
theorem Stp.newS {fp : List Addr} {d p : Addr} {H : Hp} {o : HO} (D : Deck H d fp) (h : H p = none) : Same (aw fp H) (aw fp (upd H p o)) := ((Stp.refl D).new h).sm
theorem mem_at {ys : List V} {x : Nat} (h : x < ys.length) : ∃ v, v ∈ ys ∧ atI ys (x : Int) = some v := ⟨ys[x], List.getElem_mem h, atI_nat (List.getElem?_eq_getElem h)⟩
section
variable {P : Program} {w : World} {K : PySem.W.Frag} {mg : Str → Option Value} {base : Heap}
def sp__law_no_base : Sp := fun vs H Q _ => ∃ (d : Addr) (fp : List Addr), vs = [.ref d] ∧ Deck H d fp ∧ ∀ (v : V) (H' : Hp), Stp fp d H H' → Th (aw fp H') 2 1000 v → Q v H'
theorem sc__law_no_base : FnScope ["deck", "some"] ["deck"] (defScope s__law_no_base) := ⟨rfl, rfl, rfl, by decide +kernel, rfl, by decide +kernel, by decide +kernel⟩
theorem ok__law_no_base {f f1 : Addr} {fd fd1 : FuncData} (D : Df K mg "_law_no_base" s__law_no_base ["deck"] f fd) (D_law_draw : Df K mg "_law_draw" s__law_draw ["deck", "many"] f1 fd1) (T : Blt mg) : FnOk P w K mg base CX0 2 f fd ["deck"] sp__law_no_base := by
  have G_law_draw : FnOk P w K mg base CX0 1 f1 fd1 ["deck", "many"] sp__law_draw := ok__law_draw D_law_draw T
  refine D.fn.ok sc__law_no_base (fun vs H Q E h => ?_) (fun cdv A outer s H vs Q E hr h => ?_)
  · obtain ⟨d, fp, rfl, _⟩ := h; rfl
  · obtain ⟨d, fp, rfl, Dk, kk⟩ := h
    have HU := HUof hr
    refine ⟨_, (pss_cons (ps_set (i := 1) sc__law_no_base.nd rfl (Or.inl rfl) (pe_lst (pa_cons pe_int (pa_cons pe_int (pa_cons (pe_un un_neg pe_int) (pa_cons pe_int (pa_cons (pe_op op_add pe_int (pcall D_law_draw G_law_draw (hr.mono (by decide)) (pa_cons (pv 0) (pa_cons pe_int pa_nil)))) (pa_cons (pe_op op_sub (pe_un un_neg pe_int) (pcall D_law_draw G_law_draw (hr.mono (by decide)) (pa_cons (pv 0) (pa_cons pe_int pa_nil)))) (pa_cons (pe_op op_pow pe_int pe_int) (pa_cons pe_bl (pa_cons pe_bl (pa_cons pe_non (pa_cons pe_str (pa_cons (pe_lst (pa_cons pe_int pa_nil)) pa_nil))))))))))))))
      (pss_one (ps_ret (pe_ix (k_ixL K) (pe_op op_cat (pv 1) (pe_lst (pa_cons (pe_tup (pa_cons pe_int pa_nil)) (pa_cons pe_dnewK (pa_cons pe_str (pa_cons (pe_lst pa_nil) pa_nil)))))) (pcall D_law_draw G_law_draw (hr.mono (by decide)) (pa_cons (pv 0) (pa_cons pe_int pa_nil))) (fun _ _ => rfl))))), ?_⟩
    refine ⟨_, rfl, _, rfl, d, _, fp, rfl, Dk, (by decide), (by decide), fun x1 H1 hx1 S1 => ⟨_, _, rfl, rfl, ?_⟩⟩
    refine ⟨_, rfl, _, rfl, d, _, fp, rfl, S1.dk, (by decide), (by decide), fun x2 H2 hx2 S2 => ⟨_, _, rfl, rfl, ?_⟩⟩
    refine ⟨_, _, rfl, rfl, ⟨by decide, by decide, by decide⟩, ?_⟩
    refine ⟨(by show 1 ≤ sizeLine; decide), fun a1 h1 => ?_⟩
    refine ⟨(by show 12 ≤ sizeLine; decide), fun sl hsl => ?_⟩
    have S12 := S1.trans S2
    have D3 := (S12.new h1 (o := .lst [.int 10])).dk
    have T1 : Th (aw fp (upd H2 a1 (.lst [.int 10]))) 1 200 (.ref a1) := Th.ints (ns := [10]) (aw_newD S12.dk h1) (by decide) (by decide)
    have tA : ∀ v ∈ [V.int 1, .int 0, .int (-2), .int 17, .int (17 + x1), .int (-1 - x2), .int (10 ^ 25), .bl true, .bl false, .non, .str "10", .ref a1], Th (aw fp (upd H2 a1 (.lst [.int 10]))) 1 200 v := by
      intro v hv
      simp only [List.mem_cons, List.not_mem_nil, or_false] at hv
      rcases hv with rfl | rfl | rfl | rfl | rfl | rfl | rfl | rfl | rfl | rfl | rfl | rfl
      · exact Th.int (by decide) (by decide)
      · exact Th.int (by decide) (by decide)
      · exact Th.int (by decide) (by decide)
      · exact Th.int (by decide) (by decide)
      · exact Th.int (by omega) (by decide)
      · exact Th.int (by omega) (by decide)
      · exact Th.int (by decide +kernel) (by decide)
      · exact Th.bl
      · exact Th.bl
      · exact Th.non
      · exact Th.str (by decide +kernel) (by decide +kernel)
      · exact T1
    generalize hA : [V.int 1, .int 0, .int (-2), .int 17, .int (17 + x1), .int (-1 - x2), .int (10 ^ 25), .bl true, .bl false, .non, .str "10", .ref a1] = LA at tA
    have hAl : LA.length = 12 := by rw [← hA]; rfl
    have eA : [V.int 1, V.int 0, (fun i => V.int (-i)) 2, V.int 17, (fun i j => V.int (i + j)) 17 (x1 : Int), (fun i j => V.int (i - j)) (-1) (x2 : Int), (fun (i j : Int) => V.int (i ^ j.toNat)) 10 25, V.bl true, V.bl false, V.non, V.str "10", V.ref a1] = LA := hA
    rw [eA]
    have S3 := (S12.new h1 (o := .lst [.int 10])).new hsl (o := .lst LA)
    have mA := Stp.newS (o := .lst LA) D3 hsl
    refine ⟨_, rfl, (by show 1 ≤ sizeLine; decide), fun t1 ht1 => ?_⟩
    intro e1 he1
    refine ⟨(by decide : 0 ≤ sizeLine), fun n1 hn1 => ?_⟩
    refine ⟨(by show 4 ≤ sizeLine; decide), fun l2 hl2 => ?_⟩
    have S4 := S3.new ht1 (o := .tup [.int 10])
    have S5 := S4.new he1 (o := .dK [])
    have S6 := S5.new hn1 (o := .lst [])
    have S7 := S6.new hl2 (o := .lst [.ref t1, .ref e1, .str "", .ref n1])
    have m4 := Stp.newS (o := .tup [.int 10]) S3.dk ht1
    have m5 := Stp.newS (o := .dK []) S4.dk he1
    have m6 := Stp.newS (o := .lst []) S5.dk hn1
    have m7 := Stp.newS (o := .lst [.ref t1, .ref e1, .str "", .ref n1]) S6.dk hl2
    have ut := aw_newD (o := .tup [.int 10]) S3.dk ht1
    have ue := aw_newD (o := .dK []) S4.dk he1
    have un := aw_newD (o := .lst []) S5.dk hn1
    have tt := Th.tup (k := 0) (n := 100) (n' := 200) ut (by intro v hv; rw [List.mem_singleton.mp hv]; exact Th.int (by decide) (by decide)) (by decide)
    have hs7 : S7.dk = S7.dk := rfl
    have hsl7 := (same_upd hl2 (o := .lst [.ref t1, .ref e1, .str "", .ref n1])) _ _ ((same_upd hn1 (o := .lst [])) _ _ ((same_upd he1 (o := .dK [])) _ _ ((same_upd ht1 (o := .tup [.int 10])) _ _ (upd_same (H := upd H2 a1 (.lst [.int 10])) (a := sl) (o := .lst LA)))))
    have tB : ∀ v ∈ LA ++ [V.ref t1, .ref e1, .str "", .ref n1], Th (aw fp (upd (upd (upd (upd (upd (upd H2 a1 (.lst [.int 10])) sl (.lst LA)) t1 (.tup [.int 10])) e1 (.dK [])) n1 (.lst [])) l2 (.lst [.ref t1, .ref e1, .str "", .ref n1]))) 1 200 v := by
      intro v hv
      rcases List.mem_append.mp hv with hv | hv
      · exact (tA v hv).same (mA.trans (m4.trans (m5.trans (m6.trans m7))))
      · simp only [List.mem_cons, List.not_mem_nil, or_false] at hv
        rcases hv with rfl | rfl | rfl | rfl
        · exact tt.same (m5.trans (m6.trans m7))
        · exact (Th.emp ue (by decide)).same (m6.trans m7)
        · exact Th.str (by decide +kernel) (by decide +kernel)
        · exact (Th.lst (k := 0) (n := 0) un (by simp) (by decide)).same m7
    generalize hH7 : upd (upd (upd (upd (upd (upd H2 a1 (.lst [.int 10])) sl (.lst LA)) t1 (.tup [.int 10])) e1 (.dK [])) n1 (.lst [])) l2 (.lst [.ref t1, .ref e1, .str "", .ref n1]) = H7 at S7 tB hsl7
    refine ⟨sl, l2, _, _, rfl, rfl, hsl7, by rw [← hH7, upd_same], by rw [hAl]; show 12 + 4 ≤ sizeLine; decide, fun p hp => ?_⟩
    have S8 := S7.new hp (o := .lst (LA ++ [.ref t1, .ref e1, .str "", .ref n1]))
    have m8 := Stp.newS (o := .lst (LA ++ [.ref t1, .ref e1, .str "", .ref n1])) S7.dk hp
    have up := aw_newD (o := .lst (LA ++ [.ref t1, .ref e1, .str "", .ref n1])) S7.dk hp
    refine ⟨_, rfl, d, _, fp, rfl, S8.dk, (by decide), (by decide), fun x3 H9 hx3 S9 => ?_⟩
    obtain ⟨v, hvm, hva⟩ := mem_at (ys := LA ++ [V.ref t1, .ref e1, .str "", .ref n1]) (x := x3) (by rw [List.length_append, hAl]; show x3 < 16; omega)
    exact ⟨p, _, _, v, rfl, rfl, SqL.of (aw_same _ _ _ _ (S9.sm _ _ up)), hva, kk v H9 (S8.trans S9) (((tB v hvm).same (m8.trans S9.sm)).le (by decide) (by decide))⟩
end
end Lw
set_option Elab.async false
set_option linter.all false
set_option maxRecDepth 100000
namespace L2
open PySem PySem.Spec PyProof.Rows
theorem FnOk.up {P : Program} {w : World} {K : PySem.W.Frag} {mg : Str → Option Value} {base : Heap} {CX : CXT} {k : Nat} {f : Addr} {fd : FuncData} {ps : List Str} {sp : Sp} (F : FnOk P w K mg base CX0 k f fd ps sp) : FnOk P w K mg base CX k f fd ps sp :=
  ⟨F.len, fun A outer s H args us vs Q E hr e0 hb hv hs => codeAny_mono (F.run A outer s H args us vs Q E hr e0 hb hv hs) fun r s' q => by
    cases r with
    | error e => exact False.elim q
    | ok fl => cases fl <;> exact q⟩
section
variable {X : Cx} {pins : List (Addr × Obj)} {σ : St} {H H' : Hp} {s s' : Shared} {h' B : Heap} {ea : Addr} {c a0 : Value}
end
end L2
set_option Elab.async false
set_option linter.all false
set_option maxRecDepth 100000
namespace L2
open PySem PySem.Spec PyProof.Rows
abbrev veT : List Value := [.type "ValueError", .type "Exception", .type "BaseException", .type "object"]
structure ExcC (K : PySem.W.Frag) (mg : Str → Option Value) (x : Str) (C : Addr) : Prop where
  g : mg x = some (.ref C)
  ok : PySem.W.excIn K C veT "ValueError.__new__" = true
end L2
set_option Elab.async false
set_option linter.all false
set_option maxRecDepth 100000
namespace L2
open PySem PySem.Spec PyProof.Rows Builtin Builtin.ObjectAttr Builtin.Getset_descriptor
structure ExcI (K : PySem.W.Frag) (C : Addr) : Prop where
  ga : PySem.W.findIn K (.ref C) "__getattribute__" = some (some (.builtin "BaseException.__getattribute__"))
  hk : PySem.W.findIn K (.ref C) "__getattr__" = some none
  at_ : PySem.W.findIn K (.ref C) "__class__" = some (some (.builtin "object.__class__"))
  sp : PySem.W.specialIn K (.builtin "object.__class__") "__get__" = some (some (.builtin "getset_descriptor.__get__"))
  tk : PySem.W.takesIn K (.builtin "object.__class__") = some true
  mo : PySem.W.mroIn K C (.type "object") = some true
  mb : PySem.W.mroIn K C (.type "BaseException") = some true
def ExcAt (e C : Addr) (h : Heap) : Prop := ∃ o, h.get? e = some o ∧ o.cls = .ref C
section
variable {prog : Program} {w : World} {A : Around} {K : PySem.W.Frag} {e C : Addr} {h : Heap}
theorem ExcAt.ty {M : Model} (x : ExcAt e C h) : PySem.W.Looks M h (typeOf (.ref e)) (.ref C) := by
  obtain ⟨o, h1, h2⟩ := x
  have L : PySem.W.Looks M h (typeOf (.ref e)) o.cls := (PySem.W.Looks.ld h1).andThen .now
  rw [h2] at L
  exact L
end
end L2
set_option Elab.async false
set_option linter.all false
set_option maxRecDepth 100000
namespace L2
open PySem PySem.Spec PyProof.Rows
structure CatchC (K : PySem.W.Frag) (mg : Str → Option Value) (y : Str) (Ch : Addr) : Prop where
  g : mg y = some (.ref Ch)
  mb : PySem.W.mroIn K Ch (.type "BaseException") = some true
section
variable {X : Cx} {pins : List (Addr × Obj)} {σ : St} {H H' : Hp} {s s' : Shared}
abbrev Cx.body (X : Cx) (E : Value → Shared → Prop) (pn : List (Addr × Obj)) : Cx := { X with xe := E, pn := pn }
end
section
variable {X : Cx} {y n : Str} {Ch : Addr} {i : Nat} {body suite : List Stmt} {b₀ : Stmt} {tb : (St → XK) → TS} {ts : TS} {np hpos pos : Pos}
end
end L2
set_option Elab.async false
set_option linter.all false
set_option maxRecDepth 100000
namespace L2
open PySem PyProof.Rows
@[irreducible] def PEI (X : Cx) (e : Expr) (t : TE) : Prop := PE X e t
@[irreducible] def PAI (X : Cx) (es : List Expr) (t : TA) : Prop := PA X es t
@[irreducible] def PSsI (X : Cx) (st : List Stmt) (t : TS) : Prop := PSs X st t
theorem PEI.o {X : Cx} {e : Expr} {t : TE} (h : PEI X e t) : PE X e t := by unfold PEI at h; exact h
theorem PAI.o {X : Cx} {es : List Expr} {t : TA} (h : PAI X es t) : PA X es t := by unfold PAI at h; exact h
theorem PSsI.o {X : Cx} {l : List Stmt} {t : TS} (h : PSsI X l t) : PSs X l t := by unfold PSsI at h; exact h
theorem pei {X : Cx} {e : Expr} {t : TE} (h : PE X e t) : PEI X e t := by unfold PEI; exact h
theorem pai {X : Cx} {es : List Expr} {t : TA} (h : PA X es t) : PAI X es t := by unfold PAI; exact h
theorem pssi {X : Cx} {l : List Stmt} {t : TS} (h : PSs X l t) : PSsI X l t := by unfold PSsI; exact h
theorem pei_int {X : Cx} {i j pos} : PEI X (.Constant (.int i) j pos) (tC (.int i)) := pei pe_int
theorem pei_lst {X : Cx} {es : List Expr} {t : TA} {pos : Pos} (h : PAI X es t) : PEI X (.List es pos) (tLst t) := pei (pe_lst h.o)
theorem pei_tup {X : Cx} {es : List Expr} {t : TA} {x1} {pos : Pos} (h : PAI X es t) : PEI X (.Tuple es x1 pos) (tTup t) := pei (pe_tup h.o)
theorem pai_nil {X : Cx} : PAI X [] tNil := pai pa_nil
theorem pai_str {X : Cx} {x : Str} {j} {pos : Pos} {es : List Expr} {t : TA} (h : PAI X es t) : PAI X (.Constant (.str x) j pos :: es) (tCons (tC (.str x)) t) := pai (pa_str h.o)
theorem pai_cons {X : Cx} {e : Expr} {es : List Expr} {te : TE} {t : TA} (ha : PEI X e te) (hr : PAI X es t) (hs : starEach (e :: es) X.env = (false, eval e X.env) :: starEach es X.env := by rfl) : PAI X (e :: es) (tCons te t) := pai (pa_cons ha.o hr.o hs)
theorem pa_consJ {X : Cx} {e : Expr} {es : List Expr} {te : TE} {t : TA} (ha : PE X e te) (hr : PAI X es t) (hs : starEach (e :: es) X.env = (false, eval e X.env) :: starEach es X.env := by rfl) : PA X (e :: es) (tCons te t) := pa_cons ha hr.o hs
theorem pss_consJ {X : Cx} {st : Stmt} {rest : List Stmt} {t u : TS} (h1 : PS X st t) (h2 : PSsI X rest u) : PSs X (st :: rest) (tSeq t u) := pss_cons h1 h2.o
theorem pssI_set {X : Cx} {i : Nat} {x : Str} {es : List Expr} {t : TA} {u : TS} {rest : List Stmt} {pos' lp pos : Pos} (hN : X.N.Nodup) (hi : X.N[i]? = some x) (hx : Loc X.env.scope x) (h : PAI X es t) (hr : PSs X rest u) (hf : X.fn x = true ∨ X.env.scope.names.lookup x = some .local := by first | exact .inl rfl | exact .inr rfl | assumption) :
    PSsI X (.Assign [.Name x pos'] (.List es lp) pos :: rest) (tSeq (tAsg (tLst t) (gName i)) u) := pssi (pss_cons (ps_setL hN hi hx h.o hf) hr)
theorem pe_opJ {X : Cx} {a b : Expr} {ta tb : TE} {pos : Pos} {op : Operator} {r : R2} (ho : OpR X (binaryOp op) r) (ha : PE X a ta) (hb : PEI X b tb) : PE X (.BinOp a op b pos) (tOp r ta tb) := pe_op ho ha hb.o
end L2
set_option Elab.async false
set_option linter.all false
set_option maxRecDepth 100000
namespace Lw
open PySem L2 PyProof.Rows
section
variable {P : Program} {w : World} {K : PySem.W.Frag} {mg : Str → Option Value} {base : Heap}
def sp__law_odd_figure : Sp := fun vs H Q _ => ∃ (d : Addr) (fp : List Addr) (b : Nat), vs = [.ref d, .int b] ∧ Deck H d fp ∧ b ≤ 16 ∧ ∀ (v : V) (H' : Hp), Stp fp d H H' → Th (aw fp H') 1 200 v → Q v H'
theorem sc__law_odd_figure : FnScope ["deck", "base", "some"] ["deck", "base"] (defScope s__law_odd_figure) := ⟨rfl, rfl, rfl, by decide +kernel, rfl, by decide +kernel, by decide +kernel⟩
theorem ok__law_odd_figure {f f1 : Addr} {fd fd1 : FuncData} (D : Df K mg "_law_odd_figure" s__law_odd_figure ["deck", "base"] f fd) (D_law_draw : Df K mg "_law_draw" s__law_draw ["deck", "many"] f1 fd1) (T : Blt mg) : FnOk P w K mg base CX0 2 f fd ["deck", "base"] sp__law_odd_figure := by
  have G_law_draw : FnOk P w K mg base CX0 1 f1 fd1 ["deck", "many"] sp__law_draw := ok__law_draw D_law_draw T
  refine D.fn.ok sc__law_odd_figure (fun vs H Q E h => ?_) (fun cdv A outer s H vs Q E hr h => ?_)
  · obtain ⟨d, fp, b, rfl, _⟩ := h; rfl
  · obtain ⟨d, fp, b, rfl, Dk, hb, kk⟩ := h
    have HU := HUof hr
    refine ⟨_, (pss_cons (ps_set (i := 2) sc__law_odd_figure.nd rfl (Or.inl rfl) (pe_lst (pa_cons (pv 1) (pa_cons (pe_op op_add (pv 1) (pcall D_law_draw G_law_draw (hr.mono (by decide)) (pa_cons (pv 0) (pa_cons pe_int pa_nil)))) (pa_cons (pe_un un_neg pe_int) (pa_consJ (pe_op op_sub (pe_un un_neg pe_int) (pcall D_law_draw G_law_draw (hr.mono (by decide)) (pa_cons (pv 0) (pa_cons pe_int pa_nil)))) (pai_cons (pei pe_bl) (pai_cons (pei pe_bl) (pai_cons (pei pe_non) (pai_str (pai_str (pai_cons (pei_lst (pai_cons pei_int pai_nil)) (pai_cons (pei_tup (pai_cons pei_int pai_nil)) (pai_cons (pei pe_dnewK) pai_nil))))))))))))))
      (pss_one (ps_ret (pe_ix (k_ixL K) (pe_op op_cat (pv 2) (pe_lst (pa_cons pe_str (pa_cons (pe_op op_pow pe_int pe_int) (pa_cons (pe_un un_neg (pe_op op_pow pe_int pe_int)) (pa_cons (pe_lst pa_nil) pa_nil)))))) (pcall D_law_draw G_law_draw (hr.mono (by decide)) (pa_cons (pv 0) (pa_cons pe_int pa_nil))) (fun _ _ => rfl))))), ?_⟩
    refine ⟨_, rfl, _, rfl, _, rfl, d, _, fp, rfl, Dk, (by decide), (by decide), fun x1 H1 hx1 S1 => ⟨_, _, rfl, rfl, ?_⟩⟩
    refine ⟨_, rfl, _, rfl, _, rfl, d, _, fp, rfl, S1.dk, (by decide), (by decide), fun x2 H2 hx2 S2 => ⟨_, _, rfl, rfl, ?_⟩⟩
    have S12 := S1.trans S2
    refine ⟨(by show 1 ≤ sizeLine; decide), fun a1 h1 => ?_⟩
    refine ⟨(by show 1 ≤ sizeLine; decide), fun a2 h2 => ?_⟩
    intro e1 he1
    refine ⟨(by show 12 ≤ sizeLine; decide), fun sl hsl => ?_⟩
    have S3 := S12.new h1 (o := .lst [.int 0])
    have S4 := S3.new h2 (o := .tup [.int 0])
    have S5 := S4.new he1 (o := .dK [])
    have m4 := Stp.newS (o := .tup [.int 0]) S3.dk h2
    have m5 := Stp.newS (o := .dK []) S4.dk he1
    have tA : ∀ v ∈ [V.int b, .int (b + x1), .int (-1), .int (-1 - x2), .bl true, .bl false, .non, .str "0", .str "a", .ref a1, .ref a2, .ref e1], Th (aw fp (upd (upd (upd H2 a1 (.lst [.int 0])) a2 (.tup [.int 0])) e1 (.dK []))) 1 200 v := by
      intro v hv
      simp only [List.mem_cons, List.not_mem_nil, or_false] at hv
      rcases hv with rfl | rfl | rfl | rfl | rfl | rfl | rfl | rfl | rfl | rfl | rfl | rfl
      · exact Th.int (by omega) (by decide)
      · exact Th.int (by omega) (by decide)
      · exact Th.int (by decide) (by decide)
      · exact Th.int (by omega) (by decide)
      · exact Th.bl
      · exact Th.bl
      · exact Th.non
      · exact Th.str (by decide +kernel) (by decide +kernel)
      · exact Th.str (by decide +kernel) (by decide +kernel)
      · exact (Th.ints (ns := [0]) (aw_newD S12.dk h1) (by decide) (by decide)).same (m4.trans m5)
      · exact (Th.tup (k := 0) (n := 100) (aw_newD S3.dk h2) (by intro v hv; rw [List.mem_singleton.mp hv]; exact Th.int (by decide) (by decide)) (by decide)).same m5
      · exact Th.emp (aw_newD S4.dk he1) (by decide)
    generalize hA : [V.int b, .int (b + x1), .int (-1), .int (-1 - x2), .bl true, .bl false, .non, .str "0", .str "a", .ref a1, .ref a2, .ref e1] = LA at tA
    have hAl : LA.length = 12 := by rw [← hA]; rfl
    generalize hH5 : upd (upd (upd H2 a1 (.lst [.int 0])) a2 (.tup [.int 0])) e1 (.dK []) = H5 at S5 tA hsl
    have S6 := S5.new hsl (o := .lst LA)
    have m6 := Stp.newS (o := .lst LA) S5.dk hsl
    refine ⟨_, rfl, _, _, rfl, rfl, ⟨by decide, by decide, by decide⟩, ?_⟩
    refine ⟨_, _, rfl, rfl, ⟨by decide, by decide, by decide⟩, _, rfl, ?_⟩
    refine ⟨(by decide : 0 ≤ sizeLine), fun n1 hn1 => ?_⟩
    refine ⟨(by show 4 ≤ sizeLine; decide), fun l2 hl2 => ?_⟩
    have S7 := S6.new hn1 (o := .lst [])
    have m7 := Stp.newS (o := .lst []) S6.dk hn1
    have un := aw_newD (o := .lst []) S6.dk hn1
    have tB : ∀ v ∈ LA ++ [V.str "", .int (10 ^ 25), .int (-(10 ^ 25)), .ref n1], Th (aw fp (upd (upd H5 sl (.lst LA)) n1 (.lst []))) 1 200 v := by
      intro v hv
      rcases List.mem_append.mp hv with hv | hv
      · exact (tA v hv).same (m6.trans m7)
      · simp only [List.mem_cons, List.not_mem_nil, or_false] at hv
        rcases hv with rfl | rfl | rfl | rfl
        · exact Th.str (by decide +kernel) (by decide +kernel)
        · exact Th.int (by decide +kernel) (by decide)
        · exact Th.int (by decide +kernel) (by decide)
        · exact Th.lst (k := 0) (n := 0) un (by simp) (by decide)
    generalize hB : [V.str "", .int (10 ^ 25), .int (-(10 ^ 25)), .ref n1] = LB at tB
    have hBl : LB.length = 4 := by rw [← hB]; rfl
    have hsl7 : upd (upd H5 sl (.lst LA)) n1 (.lst []) sl = some (.lst LA) := same_upd hn1 _ _ upd_same
    generalize hH7 : upd (upd H5 sl (.lst LA)) n1 (.lst []) = H7 at S7 tB hsl7 hl2
    have eB : [V.str "", (fun (i j : Int) => V.int (i ^ j.toNat)) 10 25, (fun i => V.int (-i)) (10 ^ Int.toNat 25), V.ref n1] = LB := hB
    rw [eB]
    have S8 := S7.new hl2 (o := .lst LB)
    have m8 := Stp.newS (o := .lst LB) S7.dk hl2
    refine ⟨sl, l2, _, _, rfl, rfl, same_upd hl2 _ _ hsl7, upd_same, by rw [hAl, hBl]; decide, fun p hp => ?_⟩
    have S9 := S8.new hp (o := .lst (LA ++ LB))
    have m9 := Stp.newS (o := .lst (LA ++ LB)) S8.dk hp
    have up := aw_newD (o := .lst (LA ++ LB)) S8.dk hp
    refine ⟨_, rfl, d, _, fp, rfl, S9.dk, (by decide), (by decide), fun x3 H10 hx3 S10 => ?_⟩
    obtain ⟨v, hvm, hva⟩ := mem_at (ys := LA ++ LB) (x := x3) (by rw [List.length_append, hAl, hBl]; omega)
    exact ⟨p, _, _, v, rfl, rfl, SqL.of (aw_same _ _ _ _ (S10.sm _ _ up)), hva, kk v H10 (S9.trans S10) ((tB v hvm).same (m8.trans (m9.trans S10.sm)))⟩
end
end Lw
set_option Elab.async false
set_option linter.all false
set_option maxRecDepth 100000
namespace Lw
open PySem L2 PyProof.Rows
theorem bad_st {b : Int} {xs : List PyData} {i : Nat} {d : PyData} (h : xs[i]? = some d) (q : stretchT b d = false) : badT b (.list xs) = false := by
  show (decide (xs.length ≤ 4) && (xs.all (stretchT b) && risingL (xs.map intsT))) = false
  have : xs.all (stretchT b) = false := by
    cases z : xs.all (stretchT b) with
    | false => rfl
    | true => rw [List.all_eq_true.mp z d (List.mem_of_getElem? h)] at q; cases q
  rw [this, Bool.false_and, Bool.and_false]
theorem bad_ri {b : Int} {xs : List PyData} {i : Nat} {d e : PyData} (h : xs[i]? = some d) (h2 : xs[i + 1]? = some e) (q : HT.lexLt (intsT d) (intsT e) = false) : badT b (.list xs) = false := by
  show (decide (xs.length ≤ 4) && (xs.all (stretchT b) && risingL (xs.map intsT))) = false
  have : risingL (xs.map intsT) = false := by
    cases z : risingL (xs.map intsT) with
    | false => rfl
    | true =>
      have hi := (List.getElem?_eq_some_iff.mp h2).1
      have := List.all_eq_true.mp z i (List.mem_range.mpr (by rw [List.length_map]; omega))
      have e1 : (xs.map intsT).getD i [] = intsT d := by simp [List.getD, List.getElem?_map, h]
      have e2 : (xs.map intsT).getD (i + 1) [] = intsT e := by simp [List.getD, List.getElem?_map, h2]
      rw [e1, e2, q] at this
      cases this
  rw [this, Bool.and_false, Bool.and_false]
theorem bad_ok {b : Int} {xs : List PyData} (h4 : xs.length ≤ 4) (h : ∀ d ∈ xs, stretchT b d = true) (hr : ∀ k d e, xs[k]? = some d → xs[k + 1]? = some e → HT.lexLt (intsT d) (intsT e) = true) : badT b (.list xs) = true := by
  show (decide (xs.length ≤ 4) && (xs.all (stretchT b) && risingL (xs.map intsT))) = true
  rw [decide_eq_true h4, List.all_eq_true.mpr h, Bool.true_and, Bool.true_and]
  refine List.all_eq_true.mpr fun k hk => ?_
  have hk' := List.mem_range.mp hk
  rw [List.length_map] at hk'
  have h1 : xs[k]? = some (xs[k]'(by omega)) := List.getElem?_eq_getElem (by omega)
  have h2 : xs[k + 1]? = some (xs[k + 1]'(by omega)) := List.getElem?_eq_getElem (by omega)
  have e1 : (xs.map intsT).getD k [] = intsT (xs[k]'(by omega)) := by simp [List.getD, List.getElem?_map, h1]
  have e2 : (xs.map intsT).getD (k + 1) [] = intsT (xs[k + 1]'(by omega)) := by simp [List.getD, List.getElem?_map, h2]
  rw [e1, e2]
  exact hr k _ _ h1 h2
theorem whole_ints {d : PyData} (h1 : isT "int" d = true) (h2 : isT "bool" d = false) : ∃ i, d = .int i := by
  cases d with
  | int i => exact ⟨i, rfl⟩
  | bool b => cases h2
  | _ => cases h1
section
variable {P : Program} {w : World} {K : PySem.W.Frag} {mg : Str → Option Value} {base : Heap}
def sp__law_is_rule : Sp := fun vs H Q _ => ∃ (v : V) (d : PyData), vs = [v] ∧ ThAt H d v ∧ sizT d ≤ 100000 ∧ ∀ H', Same H H' → Q (.bl (ruleT d)) H'
theorem sc__law_is_rule : FnScope ["thing", "base", "at", "one", "figure"] ["thing"] (defScope s__law_is_rule) := ⟨rfl, rfl, rfl, by decide +kernel, rfl, by decide +kernel, by decide +kernel⟩
theorem ok__law_is_rule {f : Addr} {fd : FuncData} (D : Df K mg "_law_is_rule" s__law_is_rule ["thing"] f fd) (T : Blt mg) : FnOk P w K mg base CX0 1 f fd ["thing"] sp__law_is_rule := by
  refine D.fn.ok sc__law_is_rule (fun vs H Q E h => ?_) (fun cdv A outer s H vs Q E hr h => ?_)
  · obtain ⟨v, d, rfl, _⟩ := h; rfl
  · obtain ⟨v, d, rfl, hd, hs, kk⟩ := h
    have HU := HUof hr
    refine ⟨_, (pss_cons (ps_if (PW.pt (pw_or (pt_not (pt_val (pe_callB (k_isi K) (by rfl) T.n_isinstance boot_isinstance (pa_cons (pv 0) (pa_cons (pe_bltn (v := .ty "tuple") rfl T.n_tuple boot_tuple rfl) pa_nil))))) (pw_or (pt_cmpR op_ne (pe_callB (k_len K) (by rfl) T.n_len PySem.boot_len (pa_cons (pv 0) pa_nil)) pe_int (nomark _)) (pw_or (pt_not (pt_val (pe_callB (k_isi K) (by rfl) T.n_isinstance boot_isinstance (pa_cons (pe_ix (k_ixT K) (pv 0) pe_int (fun _ _ => rfl)) (pa_cons (pe_bltn (v := .ty "list") rfl T.n_list boot_list rfl) pa_nil))))) (pw_or1 (pt_cmpR op_gt (pe_callB (k_len K) (by rfl) T.n_len PySem.boot_len (pa_cons (pe_ix (k_ixT K) (pv 0) pe_int (fun _ _ => rfl)) pa_nil)) pe_int (nomark _)))))))
        (pss_one (ps_ret pe_bl))
        pss_nil)
      (pss_cons (ps_set (i := 1) sc__law_is_rule.nd rfl (Or.inl rfl) (pe_ix (k_ixT K) (pv 0) pe_int (fun _ _ => rfl)))
      (pss_cons (ps_if (PW.pt (pw_or (pt_not (pt_val (pe_callB (k_isi K) (by rfl) T.n_isinstance boot_isinstance (pa_cons (pv 1) (pa_cons (pe_bltn (v := .ty "int") rfl T.n_int boot_int rfl) pa_nil))))) (pw_or (pt_val (pe_callB (k_isi K) (by rfl) T.n_isinstance boot_isinstance (pa_cons (pv 1) (pa_cons (pe_bltn (v := .ty "bool") rfl T.n_bool boot_bool rfl) pa_nil)))) (pw_or1 (pt_not (pt_chain op_le op_le pe_int (pv 1) pe_int))))))
        (pss_one (ps_ret pe_bl))
        pss_nil)
      (pss_cons (ps_for PassesOwn.never rfl (pi_enum K rfl T.n_enumerate (pa_cons (pe_ix (k_ixT K) (pv 0) pe_int (fun _ _ => rfl)) pa_nil)) (pg_tup rfl (pgs_cons (pg_name (i := 2) sc__law_is_rule.nd rfl (Or.inl rfl)) (pgs_cons (pg_name (i := 3) sc__law_is_rule.nd rfl (Or.inl rfl)) pgs_nil)))
        (pss_cons (ps_if (PW.pt (pw_or (pt_not (pt_val (pe_callB (k_isi K) (by rfl) T.n_isinstance boot_isinstance (pa_cons (pv 3) (pa_cons (pe_bltn (v := .ty "list") rfl T.n_list boot_list rfl) pa_nil))))) (pw_or1 (pt_not (pt_chain op_le op_le pe_int (pe_callB (k_len K) (by rfl) T.n_len PySem.boot_len (pa_cons (pv 3) pa_nil)) pe_int)))))
          (pss_one (ps_ret pe_bl))
          pss_nil)
        (pss_cons (ps_for PassesOwn.never rfl (k_pi K (pv 3)) (pg_name (i := 4) sc__law_is_rule.nd rfl (Or.inl rfl))
          (pss_one (ps_if (PW.pt (pw_or (pt_not (pt_val (pe_callB (k_isi K) (by rfl) T.n_isinstance boot_isinstance (pa_cons (pv 4) (pa_cons (pe_bltn (v := .ty "int") rfl T.n_int boot_int rfl) pa_nil))))) (pw_or (pt_val (pe_callB (k_isi K) (by rfl) T.n_isinstance boot_isinstance (pa_cons (pv 4) (pa_cons (pe_bltn (v := .ty "bool") rfl T.n_bool boot_bool rfl) pa_nil)))) (pw_or1 (pt_not (pt_chain op_le op_lt pe_int (pv 4) (pv 1)))))))
            (pss_one (ps_ret pe_bl))
            pss_nil)))
        (pss_one (ps_if (PW.pt (pw_and (pt_cmpR op_gt (pv 2) pe_int (nomark _)) (pw_and1 (pt_not (pt_cmpR (k_ltL K HU) (pe_ix (k_ixL K) (pe_ix (k_ixT K) (pv 0) pe_int (fun _ _ => rfl)) (pe_op op_sub (pv 2) pe_int) (fun _ _ => rfl)) (pv 3) (nomark _))))))
          (pss_one (ps_ret pe_bl))
          pss_nil)))))
      (pss_one (ps_ret pe_bl)))))), ?_⟩
    refine ⟨_, rfl, _, _, _, _, rfl, hd.ty, kit_tuple d, _, rfl, ?_⟩
    cases hl : isT "tuple" d with
    | false =>
      have q := kk H (Same.refl _)
      rw [show ruleT d = false by cases d <;> first | rfl | cases hl] at q
      exact iteT (iteT q)
    | true =>
      obtain ⟨xs, rfl⟩ := isT_tuple hl
      rw [ThAt] at hd
      obtain ⟨a, ys, rfl, ha, hx⟩ := hd
      rw [sizT] at hs
      refine iteF ⟨_, rfl, a, _, rfl, .inr (SqT.of ha), rfl, _, rfl, ?_⟩
      rw [hx.len]
      match xs, hx, hs, kk with
      | [], hx, hs, kk => exact iteT (iteT (kk H (Same.refl _)))
      | [_], hx, hs, kk => exact iteT (iteT (kk H (Same.refl _)))
      | _ :: _ :: _ :: t, hx, hs, kk =>
        have q : Q (.bl false) H := kk H (Same.refl _)
        rename_i d1 d2 d3
        rw [show (!decide (V.int ((d1 :: d2 :: d3 :: t).length : Nat) = V.int 2)) = true by
          rw [decide_eq_false (fun z => by injection z with z; rw [List.length_cons, List.length_cons, List.length_cons] at z; omega)]; rfl]
        exact iteT (iteT q)
      | [d, e], hx, hs, kk =>
        rw [ThsAt] at hx
        obtain ⟨y, us, rfl, hd, hx⟩ := hx
        rw [ThsAt] at hx
        obtain ⟨z, ws, rfl, he, hx⟩ := hx
        rw [ThsAt] at hx
        subst hx
        rw [sizTs, sizTs, sizTs] at hs
        refine iteF ?_
        have kk' : ∀ H', Same H H' → Q (.bl (baseT d && badT (intT d) e)) H' := kk
        refine ⟨_, rfl, a, _, _, z, rfl, rfl, SqT.of ha, rfl, _, _, _, _, rfl, he.ty, kit_list e, _, rfl, ?_⟩
        have no : (∀ b, badT b e = false) → ∀ H', Same H H' → Q (.bl false) H' := fun h H' m => by have q := kk' H' m; rw [h, Bool.and_false] at q; exact q
        have nb : baseT d = false → ∀ H', Same H H' → Q (.bl false) H' := fun h H' m => by have q := kk' H' m; rw [h, Bool.false_and] at q; exact q
        cases hl2 : isT "list" e with
        | false => exact iteT (iteT (no (fun b => by cases e <;> first | rfl | cases hl2) H (Same.refl _)))
        | true =>
        obtain ⟨rs, rfl⟩ := isT_list hl2
        rw [ThAt] at he
        obtain ⟨la, ws, rfl, hla, hxr⟩ := he
        rw [sizT] at hs
        refine iteF ⟨_, rfl, a, _, _, V.ref la, rfl, rfl, SqT.of ha, rfl, la, _, rfl, .inl (SqL.of hla), _, _, rfl, rfl, _, rfl, ?_⟩
        rw [hxr.len]
        by_cases h4 : rs.length ≤ 4
        case neg =>
          rw [decide_eq_true (show (4 : Int) < (rs.length : Int) by omega)]
          exact iteT (no (fun b => by show (decide (rs.length ≤ 4) && _) = false; rw [decide_eq_false h4, Bool.false_and]) H (Same.refl _))
        rw [decide_eq_false (show ¬ (4 : Int) < (rs.length : Int) by omega)]
        refine iteF ?_
        refine ⟨_, rfl, a, _, _, y, rfl, rfl, SqT.of ha, rfl, ?_⟩
        refine ⟨_, rfl, _, _, _, _, rfl, hd.ty, kit_int d, _, rfl, ?_⟩
        cases hi : isT "int" d with
        | false => exact iteT (iteT (nb (by cases d <;> first | rfl | cases hi) H (Same.refl _)))
        | true =>
        refine iteF ⟨_, rfl, _, _, _, _, rfl, hd.ty, kit_bool d, _, rfl, ?_⟩
        cases hbo : isT "bool" d with
        | true => exact iteT (iteT (nb (by cases d <;> first | rfl | cases hbo) H (Same.refl _)))
        | false =>
        obtain ⟨b, rfl⟩ := whole_ints hi hbo
        rw [ThAt] at hd
        subst hd
        refine iteF ⟨_, rfl, _, _, rfl, rfl, _, rfl, ?_⟩
        by_cases hb2 : (2 : Int) ≤ b
        case neg =>
          rw [decide_eq_false hb2]
          exact iteF ⟨_, rfl, iteT (nb (decide_eq_false fun z => hb2 z.1) H (Same.refl _))⟩
        rw [decide_eq_true hb2]
        refine iteT ⟨_, _, rfl, rfl, _, rfl, ?_⟩
        by_cases hb16 : b ≤ 16
        case neg =>
          rw [decide_eq_false hb16]
          exact iteT (nb (decide_eq_false fun z => hb16 z.2) H (Same.refl _))
        rw [decide_eq_true hb16]
        refine iteF ?_
        have kb : ∀ H', Same H H' → Q (.bl (badT b (.list rs))) H' := fun H' m => by
          have q := kk' H' m
          rw [show baseT (.int b) = true from decide_eq_true ⟨hb2, hb16⟩, Bool.true_and] at q
          exact q
        refine ⟨_, rfl, a, _, _, V.ref la, rfl, rfl, SqT.of ha, rfl, la, rfl, ⟨_, SqL.of hla⟩, for_enum (K := K) (a := la) (xs := ws) (fun i σ H2 => ∃ (v2 v3 v4 : Option V), σ = [some (.ref a), some (.int b), v2, v3, v4] ∧ Same H H2 ∧ (∀ d ∈ rs.take i, stretchT b d = true) ∧ ∀ k d e, k + 1 < i → rs[k]? = some d → rs[k + 1]? = some e → HT.lexLt (intsT d) (intsT e) = true)
          ⟨none, none, none, rfl, Same.refl _, by simp, fun k d e hk => absurd hk (by omega)⟩ (fun i σ H2 _ ⟨_, _, _, _, m, _⟩ => SqL.of (m _ _ hla)) ?_ ?_⟩
        case refine_2 =>
          rintro σ H2 ⟨v2, v3, v4, rfl, m2, hst, hri⟩
          rw [hxr.len] at hst hri
          rw [List.take_length] at hst
          have q := kb H2 m2
          rw [bad_ok h4 hst fun k d e h1 h2 => hri k d e (List.getElem?_eq_some_iff.mp h2).1 h1 h2] at q
          exact q
        rintro i x σ H2 tq hix ⟨v2, v3, v4, rfl, m2, hst, hri⟩ htq
        obtain ⟨c, hci, hc⟩ := hxr.get hix
        have hcs := sizTs_mem (List.mem_of_getElem? hci)
        have m3 := m2.trans (same_upd htq (o := .tup [.int (i : Nat), x]))
        have hc3 := hc.same m3
        have fs : stretchT b c = false → ∀ H', Same H H' → Q (.bl false) H' := fun z H' m => by have q := kb H' m; rw [bad_st hci z] at q; exact q
        refine ⟨tq, _, rfl, SqT.of upd_same, rfl, _, _, rfl, _, _, rfl, rfl, ?_⟩
        refine ⟨_, rfl, _, _, _, _, rfl, hc3.ty, kit_list c, _, rfl, ?_⟩
        cases hlc : isT "list" c with
        | false => exact iteT (iteT (fs (by cases c <;> first | rfl | cases hlc) _ m3))
        | true =>
        obtain ⟨gs, rfl⟩ := isT_list hlc
        rw [ThAt] at hc3
        obtain ⟨ca, cs, rfl, hca, hcx⟩ := hc3
        rw [sizT] at hcs
        refine iteF ⟨_, rfl, ca, _, rfl, .inl (SqL.of hca), _, _, rfl, rfl, _, rfl, ?_⟩
        rw [hcx.len]
        have eL : stretchT b (.list gs) = (gs.all (figT b) && decide (1 ≤ gs.length ∧ gs.length ≤ 4)) := rfl
        by_cases g1 : 1 ≤ gs.length
        case neg =>
          rw [decide_eq_false (show ¬ (1 : Int) ≤ (gs.length : Int) by omega)]
          exact iteF ⟨_, rfl, iteT (fs (by rw [eL, decide_eq_false (fun z => g1 z.1), Bool.and_false]) _ m3)⟩
        rw [decide_eq_true (show (1 : Int) ≤ (gs.length : Int) by omega)]
        refine iteT ⟨_, _, rfl, rfl, _, rfl, ?_⟩
        by_cases g4 : gs.length ≤ 4
        case neg =>
          rw [decide_eq_false (show ¬ (gs.length : Int) ≤ 4 by omega)]
          exact iteT (fs (by rw [eL, decide_eq_false (fun z => g4 z.2), Bool.and_false]) _ m3)
        rw [decide_eq_true (show (gs.length : Int) ≤ 4 by omega)]
        refine iteF ?_
        rw [decide_eq_true ⟨g1, g4⟩, Bool.and_true] at eL
        generalize hH3 : upd H2 tq (.tup [.int (i : Nat), .ref ca]) = H3 at m3 hca hcx
        refine ⟨_, rfl, ca, rfl, ⟨_, SqL.of hca⟩, for_list (K := K) (a := ca) (xs := cs) (fun j σ H4 => ∃ v4 : Option V, σ = [some (.ref a), some (.int b), some (.int (i : Nat)), some (.ref ca), v4] ∧ H4 = H3 ∧ ∀ d ∈ gs.take j, figT b d = true) ⟨_, rfl, rfl, by simp⟩ (fun j σ H4 _ ⟨_, _, e, _⟩ => by rw [e]; exact SqL.of hca) ?_ ?_⟩
        · rintro j z σ H4 hjz ⟨v4', rfl, rfl, hfg⟩
          obtain ⟨c2, hcj, hc2⟩ := hcx.get hjz
          have ff : figT b c2 = false → Q (.bl false) H4 := fun z => fs (by
            rw [eL]
            cases y : gs.all (figT b) with
            | false => rfl
            | true => rw [List.all_eq_true.mp y c2 (List.mem_of_getElem? hcj)] at z; cases z) H4 m3
          refine ⟨_, rfl, _, _, _, _, rfl, hc2.ty, kit_int c2, _, rfl, ?_⟩
          cases hi2 : isT "int" c2 with
          | false => exact iteT (iteT (ff (by cases c2 <;> first | rfl | cases hi2)))
          | true =>
          refine iteF ⟨_, rfl, _, _, _, _, rfl, hc2.ty, kit_bool c2, _, rfl, ?_⟩
          cases hb3 : isT "bool" c2 with
          | true => exact iteT (iteT (ff (by cases c2 <;> first | rfl | cases hb3)))
          | false =>
          obtain ⟨k, rfl⟩ := whole_ints hi2 hb3
          rw [ThAt] at hc2
          subst hc2
          refine iteF ⟨_, rfl, _, _, rfl, rfl, _, rfl, ?_⟩
          by_cases k0 : (0 : Int) ≤ k
          case neg =>
            rw [decide_eq_false k0]
            exact iteF ⟨_, rfl, iteT (ff (decide_eq_false fun z => k0 z.1))⟩
          rw [decide_eq_true k0]
          refine iteT ⟨_, rfl, _, _, rfl, rfl, _, rfl, ?_⟩
          by_cases kb2 : k < b
          case neg =>
            rw [decide_eq_false kb2]
            exact iteT (ff (decide_eq_false fun z => kb2 z.2))
          rw [decide_eq_true kb2]
          refine iteF ⟨_, rfl, rfl, fun d hd => ?_⟩
          rw [List.take_succ, hcj] at hd
          rcases List.mem_append.mp hd with hd | hd
          · exact hfg d hd
          · have : d = .int k := by simpa using hd
            rw [this]
            exact decide_eq_true ⟨k0, kb2⟩
        rintro σ H4 ⟨v4', rfl, rfl, hfg⟩
        rw [hcx.len, List.take_length] at hfg
        have hstc : stretchT b (.list gs) = true := by rw [eL]; exact List.all_eq_true.mpr hfg
        have hst' : ∀ d ∈ rs.take (i + 1), stretchT b d = true := fun d hd => by
          rw [List.take_succ, hci] at hd
          rcases List.mem_append.mp hd with hd | hd
          · exact hst d hd
          · have : d = .list gs := by simpa using hd
            rw [this]; exact hstc
        refine ⟨_, rfl, _, _, rfl, rfl, _, rfl, ?_⟩
        cases i with
        | zero => exact iteF (iteF ⟨_, _, _, rfl, m3, hst', fun k d e hk => absurd hk (by omega)⟩)
        | succ j =>
          rw [decide_eq_true (show (0 : Int) < ((j + 1 : Nat) : Int) by omega)]
          refine iteT ?_
          have hjl : j < ws.length := by have := (List.getElem?_eq_some_iff.mp hix).1; omega
          have hjw : ws[j]? = some (ws[j]) := List.getElem?_eq_getElem hjl
          obtain ⟨pd, hpj, hpt⟩ := hxr.get hjw
          have hps : stretchT b pd = true := hst pd (by
            have e : (rs.take (j + 1))[j]? = some pd := by rw [List.getElem?_take, if_pos (by omega)]; exact hpj
            exact List.mem_of_getElem? e)
          have hpf : figsT b pd = true := by unfold stretchT at hps; rw [Bool.and_eq_true] at hps; exact hps.1
          obtain ⟨pa, epa, hpa⟩ := ThAt.figs (hpt.same m3) hpf
          have hca' : H4 ca = some (.lst ((intsT (.list gs)).map V.int)) := by rw [hca, figs_ints hcx (List.all_eq_true.mpr hfg)]; rfl
          have hat : atI ws (((j + 1 : Nat) : Int) - 1) = some (.ref pa) := by
            rw [show (((j + 1 : Nat) : Int) - 1) = (j : Int) by omega]
            exact atI_nat (by rw [hjw, epa])
          refine ⟨_, rfl, a, _, _, V.ref la, rfl, rfl, SqT.of (m3 _ _ ha), rfl, _, rfl, _, _, rfl, rfl, la, _, _, V.ref pa, rfl, rfl, SqL.of (m3 _ _ hla), hat, ?_⟩
          refine ⟨_, rfl, _, _, _, _, rfl, rfl, SqL.of hpa, SqL.of hca', _, rfl, ?_⟩
          cases hlt : HT.lexLt (intsT pd) (intsT (.list gs)) with
          | false =>
            have q := kb H4 m3
            rw [bad_ri hpj hci hlt] at q
            exact iteT q
          | true =>
            refine iteF ⟨_, _, _, rfl, m3, hst', fun k d e hk h1 h2 => ?_⟩
            by_cases hkj : k + 1 < j + 1
            · exact hri k d e hkj h1 h2
            · have : k = j := by omega
              subst this
              rw [hpj] at h1
              rw [hci] at h2
              cases h1
              cases h2
              exact hlt
end
end Lw
set_option Elab.async false
set_option linter.all false
set_option maxRecDepth 100000
namespace Lw
open PySem L2 PyProof.Rows
theorem len_wt : ∀ ds : List PyData, ds.length ≤ PyData.weightAll ds
  | [] => Nat.zero_le _
  | d :: ds => by rw [PyData.weightAll, List.length_cons]; have := len_wt ds; omega
mutual
theorem siz_wt : ∀ d : PyData, sizT d ≤ d.weight
  | .none => by rw [sizT.eq_def]; exact Nat.zero_le _
  | .bool _ => by rw [sizT.eq_def]; exact Nat.zero_le _
  | .int _ => by rw [sizT.eq_def]; exact Nat.zero_le _
  | .str _ => by rw [sizT.eq_def]; exact Nat.zero_le _
  | .list xs => by rw [sizT, PyData.weight]; have := len_wt xs; have := sizs_wt xs; omega
  | .tuple xs => by rw [sizT, PyData.weight]; have := len_wt xs; have := sizs_wt xs; omega
  | .dict _ => by rw [sizT.eq_def]; exact Nat.zero_le _
theorem sizs_wt : ∀ ds : List PyData, sizTs ds ≤ PyData.weightAll ds
  | [] => by rw [sizTs]; exact Nat.zero_le _
  | d :: ds => by rw [sizTs, PyData.weightAll]; have := siz_wt d; have := sizs_wt ds; omega
end
section
variable {P : Program} {w : World} {K : PySem.W.Frag} {mg : Str → Option Value} {base : Heap}
def sp__law_right : Sp := fun vs H Q _ => ∃ v : V, vs = [v] ∧ Th H 20 100000 v ∧ ∀ H', Same H H' → Q (.bl true) H'
theorem sc__law_right : FnScope ["thing", "kept", "turn", "found"] ["thing"] (defScope s__law_right) := ⟨rfl, rfl, rfl, by decide +kernel, rfl, by decide +kernel, by decide +kernel⟩
theorem ok__law_right {f f1 f2 : Addr} {fd fd1 fd2 : FuncData} (D : Df K mg "_law_right" s__law_right ["thing"] f fd) (Dis_rule : Df K mg "is_rule" s_is_rule ["thing"] f1 fd1) (Gis_rule : FnOk P w K mg base CX0 6 f1 fd1 ["thing"] sp_is_rule) (D_law_is_rule : Df K mg "_law_is_rule" s__law_is_rule ["thing"] f2 fd2) (T : Blt mg) : FnOk P w K mg base CX0 7 f fd ["thing"] sp__law_right := by
  have G_law_is_rule : FnOk P w K mg base CX0 1 f2 fd2 ["thing"] sp__law_is_rule := ok__law_is_rule D_law_is_rule T
  refine D.fn.ok sc__law_right (fun vs H Q E h => ?_) (fun cdv A outer s H vs Q E hr h => ?_)
  · obtain ⟨v, rfl, _⟩ := h; rfl
  · obtain ⟨v, rfl, ⟨d, hd, f⟩, kk⟩ := h
    have HU := HUof hr
    refine ⟨_, (pss_cons (ps_set (i := 1) sc__law_right.nd rfl (Or.inl rfl) (pe_callB (call_reprT hr.gd HU) (by rfl) T.n_repr PyProof.Rows.boot_repr (pa_cons (pv 0) pa_nil)))
      (pss_cons (ps_for PassesOwn.never rfl (pi_range1 rfl T.n_range (pa_cons pe_int pa_nil)) (pg_name (i := 2) sc__law_right.nd rfl (Or.inl rfl))
        (pss_cons (ps_set (i := 3) sc__law_right.nd rfl (Or.inl rfl) (pcall Dis_rule Gis_rule (hr.mono (by decide)) (pa_cons (pv 0) pa_nil)))
        (pss_one (ps_if (PW.pt (pw_or (pt_not (pt_val (pe_callB (k_isi K) (by rfl) T.n_isinstance boot_isinstance (pa_cons (pv 3) (pa_cons (pe_bltn (v := .ty "bool") rfl T.n_bool boot_bool rfl) pa_nil))))) (pw_or (pt_cmpR op_ne (pv 3) (pcall D_law_is_rule G_law_is_rule (hr.mono (by decide)) (pa_cons (pv 0) pa_nil)) (nomark _)) (pw_or1 (pt_cmpR op_ne (pe_callB (call_reprT hr.gd HU) (by rfl) T.n_repr PyProof.Rows.boot_repr (pa_cons (pv 0) pa_nil)) (pv 1) (nomark _))))))
          (pss_one (ps_ret pe_bl))
          pss_nil))))
      (pss_one (ps_ret pe_bl)))), ?_⟩
    have hsz := f.shown (by decide)
    have hdp : d.depth ≤ 40 := Nat.le_trans f.dp (by decide)
    have hs : sizT d ≤ 100000 := Nat.le_trans (siz_wt d) f.wt
    refine ⟨_, rfl, v, d, rfl, hd, f.sh, hsz, hdp, ?_⟩
    refine ⟨_, rfl, by omega, by decide, for_range (lo := 0) (n := (2 : Int).toNat) (fun i σ H2 => ∃ v2 v3 : Option V, σ = [some v, some (.str d.shown), v2, v3] ∧ Same H H2) ⟨none, none, rfl, Same.refl _⟩ ?_ ?_⟩
    · rintro i σ H2 hi ⟨v2, v3, rfl, m2⟩
      refine ⟨_, rfl, v, d, rfl, hd.same m2, hs, fun H3 m3 => ?_⟩
      refine ⟨_, rfl, _, _, _, _, rfl, .bl _, kit_bool_bool, _, rfl, iteF ?_⟩
      refine ⟨_, rfl, _, rfl, v, d, rfl, hd.same (m2.trans m3), hs, fun H4 m4 => ⟨rfl, _, rfl, ?_⟩⟩
      rw [show (!decide (V.bl (ruleT d) = V.bl (ruleT d))) = false by rw [decide_eq_true rfl]; rfl]
      refine iteF ⟨_, rfl, v, d, rfl, hd.same ((m2.trans m3).trans m4), f.sh, hsz, hdp, _, rfl, rfl, _, rfl, ?_⟩
      rw [show (!decide (V.str d.shown = V.str d.shown)) = false by rw [decide_eq_true rfl]; rfl]
      exact iteF ⟨_, _, rfl, (m2.trans m3).trans m4⟩
    · rintro σ H2 ⟨v2, v3, rfl, m2⟩
      exact kk H2 m2
end
end Lw
set_option Elab.async false
set_option linter.all false
set_option maxRecDepth 100000
namespace L2
open PySem PyProof.Rows
structure Ty where
  p : Hp → V → Prop
  mo : ∀ {G G' : Hp} {v : V}, Same G G' → p G v → p G' v
structure View where
  v : Hp → Hp
  ok : Hp → Prop
  out : ∀ {H : Hp} {a : Addr} {o : HO}, v H a = some o → H a = some o
  new : ∀ {H : Hp} {p : Addr} (o : HO), ok H → H p = none → ok (upd H p o) ∧ Same (v H) (v (upd H p o)) ∧ v (upd H p o) p = some o
abbrev Cxt := List (Option Ty)
def Fits (Γ : Cxt) (G : Hp) (σ : St) : Prop := σ.length = Γ.length ∧ ∀ (i : Nat) (T : Ty), Γ[i]? = some (some T) → ∃ v : V, σ[i]? = some (some v) ∧ T.p G v
theorem Fits.same {Γ : Cxt} {G G' : Hp} {σ : St} (f : Fits Γ G σ) (s : Same G G') : Fits Γ G' σ := ⟨f.1, fun i T h => let ⟨v, e, q⟩ := f.2 i T h; ⟨v, e, T.mo s q⟩⟩
theorem Fits.set {Γ : Cxt} {G : Hp} {σ : St} {i : Nat} {T : Ty} {v : V} (f : Fits Γ G σ) (q : T.p G v) : Fits (Γ.set i (some T)) G (σ.set i (some v)) := by
  refine ⟨by rw [List.length_set, List.length_set, f.1], fun j T' h => ?_⟩
  rw [List.getElem?_set] at h ⊢
  by_cases e : i = j
  · rw [if_pos e] at h ⊢
    by_cases l : i < Γ.length
    · rw [if_pos l] at h
      rw [if_pos (by rw [f.1]; exact l)]
      cases h
      exact ⟨v, rfl, q⟩
    · rw [if_neg l] at h; cases h
  · rw [if_neg e] at h ⊢
    exact f.2 j T' h
theorem Fits.nil {G : Hp} : Fits [] G [] := ⟨rfl, fun i T h => by simp at h⟩
theorem Fits.cons {Γ : Cxt} {G : Hp} {σ : St} {T : Ty} {v : V} (q : T.p G v) (f : Fits Γ G σ) : Fits (some T :: Γ) G (some v :: σ) := by
  refine ⟨by rw [List.length_cons, List.length_cons, f.1], fun i T' h => ?_⟩
  cases i with
  | zero => cases h; exact ⟨v, rfl, q⟩
  | succ i => exact f.2 i T' h
theorem Fits.skip {Γ : Cxt} {G : Hp} {σ : St} {v : Option V} (f : Fits Γ G σ) : Fits (none :: Γ) G (v :: σ) := by
  refine ⟨by rw [List.length_cons, List.length_cons, f.1], fun i T' h => ?_⟩
  cases i with
  | zero => cases h
  | succ i => exact f.2 i T' h
def Tp (w : View) (Γ : Cxt) (te : TE) (T : Ty) : Prop := ∀ (σ : St) (H : Hp) (Q : VK), w.ok H → Fits Γ (w.v H) σ → (∀ v H', w.ok H' → Same (w.v H) (w.v H') → T.p (w.v H') v → Q v H') → te σ H Q
def tyTh (k n : Nat) : Ty := ⟨fun G v => Th G k n v, fun s h => h.same s⟩
def tyI (lo hi : Int) : Ty := ⟨fun _ v => ∃ i, v = .int i ∧ lo ≤ i ∧ i ≤ hi, fun _ h => h⟩
def tyLof (T : Ty) (lo hi : Nat) : Ty := ⟨fun G v => ∃ a vs, v = .ref a ∧ G a = some (.lst vs) ∧ lo ≤ vs.length ∧ vs.length ≤ hi ∧ ∀ u ∈ vs, T.p G u, fun s ⟨a, vs, h1, h2, h3, h4, h5⟩ => ⟨a, vs, h1, s _ _ h2, h3, h4, fun u hu => T.mo s (h5 u hu)⟩⟩
abbrev tyL (k n lo hi : Nat) : Ty := tyLof (tyTh k n) lo hi
def tyEq (v : V) : Ty := ⟨fun _ u => u = v, fun _ h => h⟩
def TpA (w : View) (Γ : Cxt) (ta : TA) (k n m : Nat) : Prop := ∀ (σ : St) (H : Hp) (Q : List V → Hp → Prop), w.ok H → Fits Γ (w.v H) σ → (∀ vs H', w.ok H' → Same (w.v H) (w.v H') → vs.length = m → (∀ u ∈ vs, Th (w.v H') k n u) → Q vs H') → ta σ H Q
def TpB (w : View) (Γ : Cxt) (ta : TA) (T : Ty) (m : Nat) : Prop := ∀ (σ : St) (H : Hp) (Q : List V → Hp → Prop), w.ok H → Fits Γ (w.v H) σ → (∀ vs H', w.ok H' → Same (w.v H) (w.v H') → vs.length = m → (∀ u ∈ vs, T.p (w.v H') u) → Q vs H') → ta σ H Q
def TpO (w : View) (Γ : Cxt) (to : TO) : Prop := ∀ (σ : St) (H : Hp) (Q : Option Int → Hp → Prop), w.ok H → Fits Γ (w.v H) σ → (∀ o H', w.ok H' → Same (w.v H) (w.v H') → Q o H') → to σ H Q
section
variable {w : View} {Γ : Cxt} {te ta tb : TE} {K : PySem.W.Frag} {k n m k' n' m' lo hi lo' hi' : Nat} {i j i' j' : Int}
theorem Tp.sub {T T' : Ty} (h : Tp w Γ te T) (s : ∀ G v, T.p G v → T'.p G v) : Tp w Γ te T' := fun σ H Q o f q => h σ H Q o f fun v H' o' s' t => q v H' o' s' (s _ _ t)
theorem Tp.var {x : Nat} {T : Ty} (h : Γ[x]? = some (some T)) : Tp w Γ (tVar x) T := fun σ H Q o f q => let ⟨v, e, t⟩ := f.2 x T h; ⟨v, e, q v H o (Same.refl _) t⟩
theorem Tp.non : Tp w Γ (tC .non) (tyTh 0 0) := fun σ H Q o f q => q _ H o (Same.refl _) Th.non
theorem Tp.bl {b : Bool} : Tp w Γ (tC (.bl b)) (tyTh 0 0) := fun σ H Q o f q => q _ H o (Same.refl _) Th.bl
theorem Tp.str {x : Str} (h : (x.cps.toList.all fun c => decide (c < 16 ^ 8)) = true) (hn : x.cps.size ≤ 100) : Tp w Γ (tC (.str x)) (tyTh 0 100) := fun σ H Q o f q => q _ H o (Same.refl _) (Th.str h hn)
theorem Tp.int : Tp w Γ (tC (.int i)) (tyI i i) := fun σ H Q o f q => q _ H o (Same.refl _) ⟨i, rfl, Int.le_refl _, Int.le_refl _⟩
theorem Tp.add (ha : Tp w Γ ta (tyI i j)) (hb : Tp w Γ tb (tyI i' j')) : Tp w Γ (tOp (rI0 fun x y => .int (x + y)) ta tb) (tyI (i + i') (j + j')) := fun σ H Q o f q => ha σ H _ o f fun v H1 o1 s1 ⟨x, e1, a1, b1⟩ => hb σ H1 _ o1 (f.same s1) fun u H2 o2 s2 ⟨y, e2, a2, b2⟩ => ⟨x, y, e1, e2, q _ H2 o2 (s1.trans s2) ⟨_, rfl, by omega, by omega⟩⟩
theorem Tp.subI (ha : Tp w Γ ta (tyI i j)) (hb : Tp w Γ tb (tyI i' j')) : Tp w Γ (tOp (rI0 fun x y => .int (x - y)) ta tb) (tyI (i - j') (j - i')) := fun σ H Q o f q => ha σ H _ o f fun v H1 o1 s1 ⟨x, e1, a1, b1⟩ => hb σ H1 _ o1 (f.same s1) fun u H2 o2 s2 ⟨y, e2, a2, b2⟩ => ⟨x, y, e1, e2, q _ H2 o2 (s1.trans s2) ⟨_, rfl, by omega, by omega⟩⟩
theorem Tp.neg (ha : Tp w Γ ta (tyI i j)) : Tp w Γ (tUn (rU fun x => .int (-x)) ta) (tyI (-j) (-i)) := fun σ H Q o f q => ha σ H _ o f fun v H1 o1 s1 ⟨x, e1, a1, b1⟩ => ⟨x, e1, q _ H1 o1 s1 ⟨_, rfl, by omega, by omega⟩⟩
theorem Tp.ofI (h : Tp w Γ te (tyI i j)) (h1 : -(10 ^ 29) ≤ i := by decide) (h2 : j ≤ 10 ^ 29 := by decide) : Tp w Γ te (tyTh 0 100) := h.sub fun G v ⟨x, e, a, b⟩ => by
  rw [e]; exact Th.int (by omega) (Nat.le_refl _)
theorem Tp.ofL (h : Tp w Γ te (tyL k n lo hi)) : Tp w Γ te (tyTh (k + 1) ((n + 1) * hi)) := h.sub fun G v ⟨a, vs, e, h1, _, h2, h3⟩ => by
  rw [e]; exact Th.lst h1 h3 (Nat.mul_le_mul_left _ h2)
theorem Tp.le (h : Tp w Γ te (tyTh k n)) (hk : k ≤ k') (hn : n ≤ n') : Tp w Γ te (tyTh k' n') := h.sub fun G v t => t.le hk hn
theorem TpA.nil : TpA w Γ tNil 0 0 0 := fun σ H Q o f q => q [] H o (Same.refl _) rfl (by simp)
theorem TpA.cons {t : TA} (h : Tp w Γ te (tyTh k n)) (ht : TpA w Γ t k' n' m) : TpA w Γ (tCons te t) (max k k') (max n n') (m + 1) := fun σ H Q o f q => h σ H _ o f fun v H1 o1 s1 t1 => ht σ H1 _ o1 (f.same s1) fun vs H2 o2 s2 e2 t2 => q (v :: vs) H2 o2 (s1.trans s2) (by rw [List.length_cons, e2]) fun u hu => by
  rcases List.mem_cons.mp hu with rfl | hu
  · exact (t1.same s2).le (Nat.le_max_left _ _) (Nat.le_max_left _ _)
  · exact (t2 u hu).le (Nat.le_max_right _ _) (Nat.le_max_right _ _)
theorem small_line {x : Nat} (h : x ≤ 10000) : x ≤ sizeLine := Nat.le_trans h (by decide)
theorem Tp.lst {t : TA} (h : TpA w Γ t k n m) (hm : m ≤ 10000 := by decide) : Tp w Γ (tLst t) (tyL k n m m) := fun σ H Q o f q => h σ H _ o f fun vs H1 o1 s1 e1 t1 => ⟨small_line (by rw [e1]; exact hm), fun p hp => by
  obtain ⟨o2, s2, e2⟩ := w.new (.lst vs) o1 hp
  exact q (.ref p) _ o2 (s1.trans s2) ⟨p, vs, rfl, e2, Nat.le_of_eq e1.symm, Nat.le_of_eq e1, fun u hu => (t1 u hu).same s2⟩⟩
theorem Tp.tup {t : TA} (h : TpA w Γ t k n m) (hm : m ≤ 10000 := by decide) : Tp w Γ (tTup t) (tyTh (k + 1) ((n + 1) * m)) := fun σ H Q o f q => h σ H _ o f fun vs H1 o1 s1 e1 t1 => ⟨small_line (by rw [e1]; exact hm), fun p hp => by
  obtain ⟨o2, s2, e2⟩ := w.new (.tup vs) o1 hp
  exact q (.ref p) _ o2 (s1.trans s2) (Th.tup e2 (fun u hu => (t1 u hu).same s2) (by rw [e1]; exact Nat.le_refl _))⟩
theorem Tp.emp : Tp w Γ tDNewK (tyTh 1 0) := fun σ H Q o f q p hp => by
  obtain ⟨o2, s2, e2⟩ := w.new (.dK []) o hp
  exact q (.ref p) _ o2 s2 (Th.emp e2 (Nat.le_refl _))
theorem Tp.cat (ha : Tp w Γ ta (tyL k n lo hi)) (hb : Tp w Γ tb (tyL k' n' lo' hi')) (hm : hi + hi' ≤ 10000 := by decide) : Tp w Γ (tOp rCat ta tb) (tyL (max k k') (max n n') (lo + lo') (hi + hi')) := fun σ H Q o f q => ha σ H _ o f fun v H1 o1 s1 t1 => hb σ H1 _ o1 (f.same s1) fun u H2 o2 s2 t2 => by
  obtain ⟨a, vs, e1, g1, l1, m1, r1⟩ := (tyL k n lo hi).mo s2 t1
  obtain ⟨b, us, e2, g2, l2, m2, r2⟩ := t2
  refine ⟨a, b, vs, us, e1, e2, w.out g1, w.out g2, small_line (Nat.le_trans (Nat.add_le_add m1 m2) hm), fun p hp => ?_⟩
  obtain ⟨o3, s3, e3⟩ := w.new (.lst (vs ++ us)) o2 hp
  refine q (.ref p) _ o3 (s1.trans (s2.trans s3)) ⟨p, _, rfl, e3, by rw [List.length_append]; omega, by rw [List.length_append]; omega, fun x hx => ?_⟩
  rcases List.mem_append.mp hx with hx | hx
  · exact ((r1 x hx).same s3).le (Nat.le_max_left _ _) (Nat.le_max_left _ _)
  · exact ((r2 x hx).same s3).le (Nat.le_max_right _ _) (Nat.le_max_right _ _)
theorem mem_rep {xs : List V} {c : Nat} {x : V} (h : x ∈ (List.replicate c xs).flatten) : x ∈ xs := by
  obtain ⟨l, hl, hx⟩ := List.mem_flatten.mp h
  rw [(List.mem_replicate.mp hl).2] at hx; exact hx
theorem Tp.rep {c c' : Nat} (ha : Tp w Γ ta (tyL k n lo hi)) (hb : Tp w Γ tb (tyI c c')) (hm : hi * c' ≤ 10000 := by decide) (hc : c' ≤ 10000 := by decide) : Tp w Γ (tOp rRep ta tb) (tyL k n (lo * c) (hi * c')) := fun σ H Q o f q => ha σ H _ o f fun v H1 o1 s1 t1 => hb σ H1 _ o1 (f.same s1) fun u H2 o2 s2 ⟨y, e2, a2, b2⟩ => by
  obtain ⟨a, vs, e1, g1, l1, m1, r1⟩ := (tyL k n lo hi).mo s2 t1
  have hy : y.toNat ≤ c' := by omega
  have hz : c ≤ y.toNat := by omega
  refine ⟨a, y, vs, e1, e2, w.out g1, by omega, by omega, small_line (Nat.le_trans (Nat.mul_le_mul m1 hy) hm), fun p hp => ?_⟩
  obtain ⟨o3, s3, e3⟩ := w.new (.lst (List.replicate y.toNat vs).flatten) o2 hp
  refine q (.ref p) _ o3 (s1.trans (s2.trans s3)) ⟨p, _, rfl, e3, by rw [len_rep, Nat.mul_comm lo]; exact Nat.mul_le_mul hz l1, by rw [len_rep, Nat.mul_comm hi]; exact Nat.mul_le_mul hy m1, fun x hx => (r1 x (mem_rep hx)).same s3⟩
theorem TpO.none : TpO w Γ tNoPart := fun σ H Q o f q => q _ H o (Same.refl _)
theorem TpO.some (h : Tp w Γ te (tyI i j)) : TpO w Γ (tPart te) := fun σ H Q o f q => h σ H _ o f fun v H1 o1 s1 ⟨x, e, _⟩ => ⟨x, e, q _ H1 o1 s1⟩
theorem cutV_sub (vs : List V) (lo hi : Option Int) : (∀ v ∈ cutV vs lo hi, v ∈ vs) ∧ (cutV vs lo hi).length ≤ vs.length := by
  unfold cutV
  refine ⟨fun v hv => List.mem_of_mem_drop (List.mem_of_mem_take hv), ?_⟩
  rw [List.length_take, List.length_drop]
  omega
theorem Tp.sl {tl tu : TO} {T : Ty} (h : Tp w Γ te (tyLof T lo hi)) (hl : TpO w Γ tl) (hu : TpO w Γ tu) : Tp w Γ (tSl (rSlL K) te tl tu) (tyLof T 0 hi) := fun σ H Q o f q => h σ H _ o f fun v H1 o1 s1 t1 => hl σ H1 _ o1 (f.same s1) fun x H2 o2 s2 => hu σ H2 _ o2 ((f.same s1).same s2) fun y H3 o3 s3 => by
  obtain ⟨a, vs, e1, g1, l1, m1, r1⟩ := (tyLof T lo hi).mo (s2.trans s3) t1
  refine ⟨a, vs, e1, SqL.of (w.out g1), fun p hp => ?_⟩
  obtain ⟨o4, s4, e4⟩ := w.new (.lst (cutV vs x y)) o3 hp
  exact q (.ref p) _ o4 (s1.trans (s2.trans (s3.trans s4))) ⟨p, _, rfl, e4, Nat.zero_le _, Nat.le_trans (cutV_sub vs x y).2 m1, fun u hu => T.mo s4 (r1 u ((cutV_sub vs x y).1 u hu))⟩
theorem Tp.rev {T : Ty} (h : Tp w Γ te (tyLof T lo hi)) : Tp w Γ (rRevS K te) (tyLof T lo hi) := fun σ H Q o f q => h σ H _ o f fun v H1 o1 s1 ⟨a, vs, e1, g1, l1, m1, r1⟩ => ⟨a, vs, e1, SqL.of (w.out g1), fun p hp => by
  obtain ⟨o4, s4, e4⟩ := w.new (.lst vs.reverse) o1 hp
  exact q (.ref p) _ o4 (s1.trans s4) ⟨p, _, rfl, e4, by rw [List.length_reverse]; exact l1, by rw [List.length_reverse]; exact m1, fun u hu => T.mo s4 (r1 u (List.mem_reverse.mp hu))⟩⟩
theorem Tp.ix {T : Ty} (ha : Tp w Γ ta (tyLof T lo hi)) (hb : Tp w Γ tb (tyI 0 j)) (hj : j < lo := by decide) : Tp w Γ (tOp (rIxL K) ta tb) T := fun σ H Q o f q => ha σ H _ o f fun v H1 o1 s1 t1 => hb σ H1 _ o1 (f.same s1) fun u H2 o2 s2 ⟨y, e2, a2, b2⟩ => by
  obtain ⟨a, vs, e1, g1, l1, m1, r1⟩ := (tyLof T lo hi).mo s2 t1
  have hy : y.toNat < vs.length := by omega
  refine ⟨a, vs, y, vs[y.toNat], e1, e2, SqL.of (w.out g1), ?_, q _ H2 o2 (s1.trans s2) (r1 _ (List.getElem_mem hy))⟩
  have := atI_nat (List.getElem?_eq_getElem hy)
  rwa [show ((y.toNat : Nat) : Int) = y by omega] at this
theorem Tp.len {T : Ty} (h : Tp w Γ te (tyLof T lo hi)) : Tp w Γ (tCB (fun xs H Q => ∃ p ys, xs = [.ref p] ∧ (SqL K H p ys ∨ SqT K H p ys) ∧ Q (.int ys.length) H) (tCons te tNil)) (tyI lo hi) := fun σ H Q o f q => h σ H _ o f fun v H1 o1 s1 ⟨a, vs, e1, g1, l1, m1, r1⟩ => ⟨a, vs, by rw [e1], .inl (SqL.of (w.out g1)), q _ H1 o1 s1 ⟨_, rfl, by omega, by omega⟩⟩
theorem Tp.catT {T : Ty} (ha : Tp w Γ ta (tyLof T lo hi)) (hb : Tp w Γ tb (tyLof T lo' hi')) (hm : hi + hi' ≤ 10000 := by first | decide | omega) : Tp w Γ (tOp rCat ta tb) (tyLof T (lo + lo') (hi + hi')) := fun σ H Q o f q => ha σ H _ o f fun v H1 o1 s1 t1 => hb σ H1 _ o1 (f.same s1) fun u H2 o2 s2 t2 => by
  obtain ⟨a, vs, e1, g1, l1, m1, r1⟩ := (tyLof T lo hi).mo s2 t1
  obtain ⟨b, us, e2, g2, l2, m2, r2⟩ := t2
  refine ⟨a, b, vs, us, e1, e2, w.out g1, w.out g2, small_line (Nat.le_trans (Nat.add_le_add m1 m2) hm), fun p hp => ?_⟩
  obtain ⟨o3, s3, e3⟩ := w.new (.lst (vs ++ us)) o2 hp
  refine q (.ref p) _ o3 (s1.trans (s2.trans s3)) ⟨p, _, rfl, e3, by rw [List.length_append]; omega, by rw [List.length_append]; omega, fun x hx => ?_⟩
  rcases List.mem_append.mp hx with hx | hx
  · exact T.mo s3 (r1 x hx)
  · exact T.mo s3 (r2 x hx)
theorem TpB.nil {T : Ty} : TpB w Γ tNil T 0 := fun σ H Q o f q => q [] H o (Same.refl _) rfl (by simp)
theorem TpB.cons {T : Ty} {t : TA} (h : Tp w Γ te T) (ht : TpB w Γ t T m) : TpB w Γ (tCons te t) T (m + 1) := fun σ H Q o f q => h σ H _ o f fun v H1 o1 s1 t1 => ht σ H1 _ o1 (f.same s1) fun vs H2 o2 s2 e2 t2 => q (v :: vs) H2 o2 (s1.trans s2) (by rw [List.length_cons, e2]) fun u hu => by
  rcases List.mem_cons.mp hu with rfl | hu
  · exact T.mo s2 t1
  · exact t2 u hu
theorem Tp.lstT {T : Ty} {t : TA} (h : TpB w Γ t T m) (hm : m ≤ 10000 := by decide) : Tp w Γ (tLst t) (tyLof T m m) := fun σ H Q o f q => h σ H _ o f fun vs H1 o1 s1 e1 t1 => ⟨small_line (by rw [e1]; exact hm), fun p hp => by
  obtain ⟨o2, s2, e2⟩ := w.new (.lst vs) o1 hp
  exact q (.ref p) _ o2 (s1.trans s2) ⟨p, vs, rfl, e2, Nat.le_of_eq e1.symm, Nat.le_of_eq e1, fun u hu => T.mo s2 (t1 u hu)⟩⟩
theorem Tp.wideL {T T' : Ty} (h : Tp w Γ te (tyLof T lo hi)) (s : ∀ G v, T.p G v → T'.p G v) (h1 : lo' ≤ lo) (h2 : hi ≤ hi') : Tp w Γ te (tyLof T' lo' hi') := h.sub fun G v ⟨a, vs, e, g, l, m, r⟩ => ⟨a, vs, e, g, Nat.le_trans h1 l, Nat.le_trans m h2, fun u hu => s G u (r u hu)⟩
theorem Tp.ofLL (h : Tp w Γ te (tyLof (tyL k n lo hi) lo' hi')) : Tp w Γ te (tyL (k + 1) ((n + 1) * hi) lo' hi') := h.wideL (fun G v ⟨a, vs, e, h1, _, h2, h3⟩ => by
  rw [e]; exact Th.lst h1 h3 (Nat.mul_le_mul_left _ h2)) (Nat.le_refl _) (Nat.le_refl _)
theorem Tp.tupOf (h : Tp w Γ te (tyL k n lo hi)) : Tp w Γ (tCB (fun xs H Q => ∃ p ys, xs = [.ref p] ∧ ((SqL K H p ys ∧ ∀ l, H l = none → Q (.ref l) (upd H l (.tup ys))) ∨ (SqT K H p ys ∧ Q (.ref p) H))) (tCons te tNil)) (tyTh (k + 1) ((n + 1) * hi)) := fun σ H Q o f q => h σ H _ o f fun v H1 o1 s1 ⟨a, vs, e1, g1, l1, m1, r1⟩ => ⟨a, vs, by rw [e1], .inl ⟨SqL.of (w.out g1), fun p hp => by
  obtain ⟨o4, s4, e4⟩ := w.new (.tup vs) o1 hp
  exact q (.ref p) _ o4 (s1.trans s4) (Th.tup e4 (fun u hu => (r1 u hu).same s4) (Nat.mul_le_mul_left _ m1))⟩⟩
theorem Tp.compR {c : Nat} (h : Tp w [some (tyI 0 (c - 1))] te (tyTh k n)) (hc : c ≤ 10000 := by decide) : Tp w Γ (tComp (iRng1 (tCons (tC (.int c)) tNil)) [] tYes te) (tyL k n c c) := fun σ H Q o f q => ⟨c, rfl, by omega, by omega, by
  rw [Int.toNat_natCast]
  refine comp_range (lo := 0) (n := c) (fun i ys H2 => ys.length = i ∧ w.ok H2 ∧ Same (w.v H) (w.v H2) ∧ ∀ u ∈ ys, Th (w.v H2) k n u) ⟨rfl, o, Same.refl _, by simp⟩ ?_ ?_
  · rintro i ys H2 hi ⟨l2, o2, s2, r2⟩
    refine ⟨by rw [l2]; exact Nat.lt_of_lt_of_le hi (small_line hc), ?_⟩
    show te [some (.int (0 + (i : Int)))] H2 _
    refine h _ H2 _ o2 (Fits.cons ⟨_, rfl, by omega, by omega⟩ Fits.nil) fun v H3 o3 s3 t3 => ⟨by rw [List.length_append, l2]; rfl, o3, s2.trans s3, fun u hu => ?_⟩
    rcases List.mem_append.mp hu with hu | hu
    · exact (r2 u hu).same s3
    · rw [List.mem_singleton.mp hu]; exact t3
  · rintro ys H2 ⟨l2, o2, s2, r2⟩ D hD
    obtain ⟨o4, s4, e4⟩ := w.new (.lst ys) o2 hD
    exact q (.ref D) _ o4 (s2.trans s4) ⟨D, ys, rfl, e4, Nat.le_of_eq l2.symm, Nat.le_of_eq l2, fun u hu => (r2 u hu).same s4⟩⟩
end
def TpS (w : View) (Γ : Cxt) (ts : TS) (Γ' : Cxt) (T : Ty) : Prop := ∀ (D : Ends) (σ : St) (H : Hp), w.ok H → Fits Γ (w.v H) σ → (∀ σ' H', w.ok H' → Same (w.v H) (w.v H') → Fits Γ' (w.v H') σ' → D.nx σ' H') → (∀ v H', w.ok H' → Same (w.v H) (w.v H') → T.p (w.v H') v → D.rt v H') → ts D σ H
section
variable {w : View} {Γ Γ1 Γ2 : Cxt} {te : TE} {t u : TS} {T T1 : Ty}
theorem TpS.seq (h1 : TpS w Γ t Γ1 T) (h2 : TpS w Γ1 u Γ2 T) : TpS w Γ (tSeq t u) Γ2 T := fun D σ H o f qn qr => h1 _ σ H o f (fun σ1 H1 o1 s1 f1 => h2 D σ1 H1 o1 f1 (fun σ2 H2 o2 s2 f2 => qn σ2 H2 o2 (s1.trans s2) f2) (fun v H2 o2 s2 r2 => qr v H2 o2 (s1.trans s2) r2)) qr
theorem TpS.asg {i : Nat} (h : Tp w Γ te T1) : TpS w Γ (tAsg te (gName i)) (Γ.set i (some T1)) T := fun D σ H o f qn qr => h σ H _ o f fun v H1 o1 s1 t1 => qn _ H1 o1 s1 ((f.same s1).set t1)
theorem TpS.weak {Γ' : Cxt} (f : ∀ G σ, Fits Γ G σ → Fits Γ' G σ) (h : TpS w Γ' t Γ2 T) : TpS w Γ t Γ2 T := fun D σ H o g qn qr => h D σ H o (f _ _ g) qn qr
theorem TpS.sub {T' : Ty} (h : TpS w Γ t Γ2 T) (s : ∀ G v, T.p G v → T'.p G v) : TpS w Γ t Γ2 T' := fun D σ H o g qn qr => h D σ H o g qn fun v H1 o1 s1 t1 => qr v H1 o1 s1 (s _ _ t1)
theorem TpS.ret (h : Tp w Γ te T) : TpS w Γ (tRet te) Γ2 T := fun D σ H o f qn qr => h σ H _ o f qr
end
theorem TpS.go {w : View} {Γ Γ' : Cxt} {ts : TS} {T : Ty} {D : Ends} {σ : St} {H : Hp} (h : TpS w Γ ts Γ' T) (o : w.ok H) (f : Fits Γ (w.v H) σ) (qn : ∀ σ' H', w.ok H' → Same (w.v H) (w.v H') → Fits Γ' (w.v H') σ' → D.nx σ' H') (qr : ∀ v H', w.ok H' → Same (w.v H) (w.v H') → T.p (w.v H') v → D.rt v H') : ts D σ H := h D σ H o f qn qr
theorem Tp.asg2 {w : View} {Γ : Cxt} {te : TE} {T1 : Ty} {u : TS} {i : Nat} {D : Ends} {σ : St} {H : Hp} (h : Tp w Γ te T1) (o : w.ok H) (f : Fits Γ (w.v H) σ) (q : ∀ v H', w.ok H' → Same (w.v H) (w.v H') → T1.p (w.v H') v → u D (σ.set i (some v)) H') : tSeq (tAsg te (gName i)) u D σ H := h σ H _ o f q
theorem Tp.op2 {w : View} {Γ : Cxt} {r : R2} {ta tb : TE} {T1 : Ty} {Q : VK} {σ : St} {H : Hp} (h : Tp w Γ (tOp r ta tb) T1) (o : w.ok H) (f : Fits Γ (w.v H) σ) (q : ∀ v H', w.ok H' → Same (w.v H) (w.v H') → T1.p (w.v H') v → Q v H') : tOp r ta tb σ H Q := h σ H _ o f q
theorem Fits.any : ∀ {G : Hp} (σ : St), Fits (σ.map fun _ => none) G σ := fun {G} σ => ⟨by rw [List.length_map], fun i T h => by rw [List.getElem?_map] at h; cases e : σ[i]? with | none => rw [e] at h; cases h | some x => rw [e] at h; cases h⟩
def tyNo : Ty := ⟨fun _ _ => False, fun _ h => h⟩
theorem Fits.no {G : Hp} {σ : St} (f : Fits [some tyNo] G σ) : False := let ⟨_, _, h⟩ := f.2 0 tyNo rfl; h
def CSub : Cxt → Cxt → Prop
  | [], [] => True
  | _ :: Γ, none :: Γ' => CSub Γ Γ'
  | some T :: Γ, some T' :: Γ' => (∀ G v, T.p G v → T'.p G v) ∧ CSub Γ Γ'
  | _, _ => False
theorem CSub.fits : ∀ {Γ Γ' : Cxt} {G : Hp} {σ : St}, CSub Γ Γ' → Fits Γ G σ → Fits Γ' G σ
  | [], [], _, _, _, f => f
  | [], _ :: _, _, _, h, _ => by simp [CSub] at h
  | _ :: _, [], _, _, h, _ => by simp [CSub] at h
  | a :: Γ, none :: Γ', G, [], h, f => by have := f.1; simp at this
  | a :: Γ, none :: Γ', G, v :: σ, h, f => Fits.skip (CSub.fits (Γ := Γ) (by rw [CSub] at h; exact h) ⟨by simpa using f.1, fun i T e => f.2 (i + 1) T e⟩)
  | none :: Γ, some T' :: Γ', G, σ, h, f => by simp [CSub] at h
  | some T :: Γ, some T' :: Γ', G, [], h, f => by have := f.1; simp at this
  | some T :: Γ, some T' :: Γ', G, v :: σ, h, f => by
    obtain ⟨u, e, q⟩ := f.2 0 T rfl
    have e : v = some u := by simpa using e
    subst e
    exact Fits.cons (h.1 _ _ q) (CSub.fits (Γ := Γ) h.2 ⟨by simpa using f.1, fun i T e => f.2 (i + 1) T e⟩)
end L2
set_option Elab.async false
set_option linter.all false
set_option maxRecDepth 100000
namespace Lw
open PySem L2 PyProof.Rows
def dkV (d : Addr) (fp : List Addr) : View := ⟨aw fp, fun H => Deck H d fp, fun h => aw_same _ _ _ _ h, fun o D h => ⟨((Stp.refl D).new h).dk, Stp.newS D h, aw_newD D h⟩⟩
section
variable {K : PySem.W.Frag} {d : Addr} {fp : List Addr} {Γ : Cxt} {te : TE} {lo hi : Int} {x : Nat}
theorem tp_draw (hd : Γ[x]? = some (some (tyEq (.ref d)))) (h : Tp (dkV d fp) Γ te (tyI lo hi)) (h1 : 1 ≤ lo := by first | decide | omega) (h2 : hi < 2 ^ 200 := by first | decide | omega) : Tp (dkV d fp) Γ (tCall sp__law_draw [] E0 (tCons (tVar x) (tCons te tNil))) (tyI 0 (hi - 1)) := fun σ H Q o f q => by
  obtain ⟨v, e, t⟩ := f.2 x _ hd
  refine ⟨v, e, h σ H _ o f fun u H1 o1 s1 ⟨m, e1, a1, b1⟩ => ⟨d, m, fp, by rw [show v = V.ref d from t, e1]; rfl, o1, by omega, Int.lt_of_le_of_lt b1 h2, fun r H' hr S => q _ H' S.dk (s1.trans S.sm) ⟨r, rfl, by omega, by omega⟩⟩⟩
def tyRl (b m : Nat) : Ty := ⟨fun G v => ∃ r bl, v = .ref r ∧ G r = some (.tup [.int b, .ref bl]) ∧ (tyLof (tyL 0 100 1 4) m m).p G (.ref bl), fun s ⟨r, bl, h1, h2, h3⟩ => ⟨r, bl, h1, s _ _ h2, (tyLof (tyL 0 100 1 4) _ _).mo s h3⟩⟩
theorem tyRl.of {G : Hp} {r bl : Addr} {b : Nat} {zs : List (Addr × List Int)} (R : RuleAt G r b bl zs) (g : GoodRule b (zs.map (·.2))) : (tyRl b zs.length).p G (.ref r) := by
  refine ⟨r, bl, rfl, R.tu, bl, _, rfl, R.li, by rw [List.length_map]; exact Nat.le_refl _, by rw [List.length_map]; exact Nat.le_refl _, fun u hu => ?_⟩
  obtain ⟨z, hz, rfl⟩ := List.mem_map.mp hu
  have s := g.st _ (List.mem_map.mpr ⟨z, hz, rfl⟩)
  have b16 := g.b16
  refine ⟨z.1, _, rfl, R.st z hz, by rw [List.length_map]; exact List.length_pos_iff.mpr s.ne, by rw [List.length_map]; exact s.len, fun y hy => ?_⟩
  obtain ⟨i, hi, rfl⟩ := List.mem_map.mp hy
  have := s.fig i hi
  exact Th.int (by omega) (Nat.le_refl _)
theorem tp_unp {w : View} {b m i j : Nat} {T : Ty} (h : Γ[x]? = some (some (tyRl b m))) : TpS w Γ (tAsg (tVar x) (gTup K 2 (gCons (gName i) (gCons (gName j) gNil)))) ((Γ.set i (some (tyI b b))).set j (some (tyLof (tyL 0 100 1 4) m m))) T := fun D σ H o f qn qr => by
  obtain ⟨v, e, r, bl, e1, h1, h2⟩ := f.2 x _ h
  refine ⟨v, e, r, _, e1, SqT.of (w.out h1), rfl, _, _, rfl, _, _, rfl, rfl, qn _ H o (Same.refl _) ?_⟩
  exact (f.set (T := tyI b b) ⟨b, rfl, Int.le_refl _, Int.le_refl _⟩).set h2
end
end Lw
set_option Elab.async false
set_option linter.all false
set_option maxRecDepth 100000
namespace Lw
open PySem L2 PyProof.Rows
section
variable {P : Program} {w : World} {K : PySem.W.Frag} {mg : Str → Option Value} {base : Heap}
section
variable {d : Addr} {fp : List Addr} {Γ : Cxt} {te : TE} {x : Nat}
theorem tp_odd (hd : Γ[x]? = some (some (tyEq (.ref d)))) (h : Tp (dkV d fp) Γ te (tyI 2 16)) : Tp (dkV d fp) Γ (tCall sp__law_odd_figure [] E0 (tCons (tVar x) (tCons te tNil))) (tyTh 1 200) := fun σ H Q o f q => by
  obtain ⟨v, e, t⟩ := f.2 x _ hd
  refine ⟨v, e, h σ H _ o f fun u H1 o1 s1 ⟨m, e1, a1, b1⟩ => ⟨d, fp, m.toNat, by rw [show v = V.ref d from t, e1, show ((m.toNat : Nat) : Int) = m by omega]; rfl, o1, by omega, fun r H' S t => q _ H' S.dk (s1.trans S.sm) t⟩⟩
theorem tp_nob (hd : Γ[x]? = some (some (tyEq (.ref d)))) : Tp (dkV d fp) Γ (tCall sp__law_no_base [] E0 (tCons (tVar x) tNil)) (tyTh 2 1000) := fun σ H Q o f q => by
  obtain ⟨v, e, t⟩ := f.2 x _ hd
  exact ⟨v, e, d, fp, by rw [show v = V.ref d from t]; rfl, o, fun r H' S t => q _ H' S.dk S.sm t⟩
end
def sp__law_no_rule : Sp := fun vs H Q _ => ∃ (d : Addr) (fp : List Addr) (r : Addr) (b : Nat) (bl : Addr) (zs : List (Addr × List Int)), vs = [.ref d, .ref r] ∧ Deck H d fp ∧ RuleAt (aw fp H) r b bl zs ∧ GoodRule b (zs.map (·.2)) ∧ ∀ (v : V) (H' : Hp), Stp fp d H H' → Th (aw fp H') 20 100000 v → Q v H'
theorem sc__law_no_rule : FnScope ["deck", "rule", "base", "bad", "at", "here", "to", "odd", "one", "bent", "turned", "rows", "some"] ["deck", "rule"] (defScope s__law_no_rule) := ⟨rfl, rfl, rfl, by decide +kernel, rfl, by decide +kernel, by decide +kernel⟩
theorem hW {d : Addr} {b m : Nat} (h : 2 ≤ b ∧ b ≤ 16 ∧ m ≤ 4) : CSub [some (tyEq (.ref d)), some (tyRl b m), some (tyI b b), some (tyLof (tyL 0 100 1 4) m m), some (tyI 0 ((m : Int) + 1 - 1)), some (tyL 0 100 1 4), none, none, none, none, none, none, none]
    [some (tyEq (.ref d)), none, some (tyI 2 16), some (tyLof (tyL 0 100 1 4) 0 4), some (tyI 0 4), some (tyL 0 100 1 4), none, none, none, none, none, none, none] :=
  ⟨fun _ _ h => h, fun _ _ ⟨i, e, a, b⟩ => ⟨i, e, by omega, by omega⟩, fun _ _ ⟨a, vs, e, g, l, m, r⟩ => ⟨a, vs, e, g, by omega, by omega, r⟩, fun _ _ ⟨i, e, a, b⟩ => ⟨i, e, by omega, by omega⟩, fun _ _ h => h, trivial⟩
set_option maxHeartbeats 4000000 in
theorem ok__law_no_rule {f f1 f2 f3 : Addr} {fd fd1 fd2 fd3 : FuncData} (D : Df K mg "_law_no_rule" s__law_no_rule ["deck", "rule"] f fd) (D_law_draw : Df K mg "_law_draw" s__law_draw ["deck", "many"] f1 fd1) (D_law_odd_figure : Df K mg "_law_odd_figure" s__law_odd_figure ["deck", "base"] f2 fd2) (D_law_no_base : Df K mg "_law_no_base" s__law_no_base ["deck"] f3 fd3) (T : Blt mg) : FnOk P w K mg base CX0 3 f fd ["deck", "rule"] sp__law_no_rule := by
  have G_law_draw : FnOk P w K mg base CX0 1 f1 fd1 ["deck", "many"] sp__law_draw := ok__law_draw D_law_draw T
  have G_law_odd_figure : FnOk P w K mg base CX0 2 f2 fd2 ["deck", "base"] sp__law_odd_figure := ok__law_odd_figure D_law_odd_figure D_law_draw T
  have G_law_no_base : FnOk P w K mg base CX0 2 f3 fd3 ["deck"] sp__law_no_base := ok__law_no_base D_law_no_base D_law_draw T
  refine D.fn.ok sc__law_no_rule (fun vs H Q E h => ?_) (fun cdv A outer s H vs Q E hr h => ?_)
  · obtain ⟨d, fp, r, b, bl, zs, rfl, _⟩ := h; rfl
  · obtain ⟨d, fp, r, b, bl, zs, rfl, Dk, R, g, kk⟩ := h
    have HU := HUof hr
    refine ⟨_, (pss_cons (ps_asg (pv 1) (pg_tup rfl (pgs_cons (pg_name (i := 2) sc__law_no_rule.nd rfl (Or.inl rfl)) (pgs_cons (pg_name (i := 3) sc__law_no_rule.nd rfl (Or.inl rfl)) pgs_nil))))
      (pss_cons (ps_set (i := 4) sc__law_no_rule.nd rfl (Or.inl rfl) (pcall D_law_draw G_law_draw (hr.mono (by decide)) (pa_cons (pv 0) (pa_cons (pe_op op_add (pe_callB (k_len K) (by rfl) T.n_len PySem.boot_len (pa_cons (pv 3) pa_nil)) pe_int) pa_nil))))
      (pss_cons (ps_set (i := 5) sc__law_no_rule.nd rfl (Or.inl rfl) (pe_ix (k_ixL K) (pe_op op_cat (pv 3) (pe_lst (pa_cons (pe_lst (pa_cons pe_int (pa_cons pe_int pa_nil))) pa_nil))) (pv 4) (fun _ _ => rfl)))
      (pss_cons (ps_set (i := 6) sc__law_no_rule.nd rfl (Or.inl rfl) (pcall D_law_draw G_law_draw (hr.mono (by decide)) (pa_cons (pv 0) (pa_cons (pe_op op_add (pe_callB (k_len K) (by rfl) T.n_len PySem.boot_len (pa_cons (pv 5) pa_nil)) pe_int) pa_nil))))
      (pss_cons (ps_set (i := 7) sc__law_no_rule.nd rfl (Or.inl rfl) (pcall D_law_odd_figure G_law_odd_figure (hr.mono (by decide)) (pa_cons (pv 0) (pa_cons (pv 2) pa_nil))))
      (pss_cons (ps_set (i := 8) sc__law_no_rule.nd rfl (Or.inl rfl) (pe_lst (pa_cons (pe_op op_cat (pe_op op_cat (pe_slice (k_slL K) (pv 5) po_none (po_some (pv 6))) (pe_lst (pa_cons (pv 7) pa_nil))) (pe_slice (k_slL K) (pv 5) (po_some (pv 6)) po_none)) (pa_cons (pe_op op_cat (pe_op op_cat (pe_slice (k_slL K) (pv 5) po_none (po_some (pv 6))) (pe_lst (pa_cons (pv 7) pa_nil))) (pe_slice (k_slL K) (pv 5) (po_some (pe_op op_add (pv 6) pe_int)) po_none)) (pa_cons (pe_op op_cat (pv 5) (pe_op op_rep (pe_lst (pa_cons pe_int pa_nil)) pe_int)) (pa_cons (pe_lst pa_nil) (pa_cons (pe_callTy call_tuple_of (by rfl) T.n_tuple boot_tuple (pa_cons (pv 5) pa_nil)) (pa_cons (pe_lst (pa_cons (pv 5) pa_nil)) pa_nil))))))))
      (pss_cons (ps_set (i := 8) sc__law_no_rule.nd rfl (Or.inl rfl) (pe_ix (k_ixL K) (pe_op op_cat (pv 8) (pe_lst (pa_cons pe_non (pa_cons pe_int (pa_cons pe_str (pa_cons pe_dnewK (pa_cons (pe_op op_cat (pe_slice (k_slL K) (pv 5) po_none (po_some (pv 6))) (pe_slice (k_slL K) (pv 5) (po_some (pe_op op_add (pv 6) pe_int)) po_none)) (pa_cons (pe_op op_cat (pv 5) (pe_lst (pa_cons pe_int pa_nil))) pa_nil)))))))) (pcall D_law_draw G_law_draw (hr.mono (by decide)) (pa_cons (pv 0) (pa_cons pe_int pa_nil))) (fun _ _ => rfl)))
      (pss_cons (ps_set (i := 9) sc__law_no_rule.nd rfl (Or.inl rfl) (pe_op op_cat (pe_op op_cat (pe_slice (k_slL K) (pv 3) po_none (po_some (pv 4))) (pe_lst (pa_cons (pv 8) pa_nil))) (pe_slice (k_slL K) (pv 3) (po_some (pe_op op_add (pv 4) pe_int)) po_none)))
      (pss_cons (ps_set (i := 10) sc__law_no_rule.nd rfl (Or.inl rfl) (pe_op op_cat (pe_op op_cat (pe_slice (k_slL K) (pv 3) po_none (po_some (pv 4))) (pe_revSlice (pe_slice (k_slL K) (pv 3) (po_some (pv 4)) (po_some (pe_op op_add (pv 4) pe_int))))) (pe_slice (k_slL K) (pv 3) (po_some (pe_op op_add (pv 4) pe_int)) po_none)))
      (pss_cons (ps_set (i := 11) sc__law_no_rule.nd rfl (Or.inl rfl) (pe_lst (pa_cons (pv 9) (pa_cons (pv 9) (pa_cons (pv 9) (pa_cons (pe_op op_cat (pe_op op_cat (pe_slice (k_slL K) (pv 3) po_none (po_some (pv 4))) (pe_lst (pa_cons (pv 8) pa_nil))) (pe_slice (k_slL K) (pv 3) (po_some (pv 4)) po_none)) (pa_cons (pv 10) (pa_cons (pe_revSlice (pv 3)) (pa_cons (pe_op op_cat (pe_op op_cat (pe_slice (k_slL K) (pv 3) po_none (po_some (pv 4))) (pe_slice (k_slL K) (pv 3) (po_some (pv 4)) (po_some (pe_op op_add (pv 4) pe_int)))) (pe_slice (k_slL K) (pv 3) (po_some (pv 4)) po_none)) pa_nil)))))))))
      (pss_cons (ps_set (i := 11) sc__law_no_rule.nd rfl (Or.inl rfl) (pe_op op_cat (pv 11) (pe_lst (pa_cons (pe_op op_cat (pe_slice (k_slL K) (pv 3) po_none (po_some (pv 4))) (pe_slice (k_slL K) (pv 3) (po_some (pe_op op_add (pv 4) pe_int)) po_none)) (pa_cons (pe_callTy call_tuple_of (by rfl) T.n_tuple boot_tuple (pa_cons (pv 3) pa_nil)) (pa_cons pe_non (pa_cons pe_dnewK (pa_cons pe_str (pa_cons pe_int (pa_cons (pe_comp (show CScope (defScope s__law_no_rule) _ "k" ["deck", "rule", "base", "bad", "at", "here", "to", "odd", "one", "bent", "turned", "rows", "some"] [] [] from ⟨rfl, by decide +kernel, by decide +kernel, rfl, by decide +kernel, rfl, by decide +kernel, by decide +kernel⟩) rfl (pi_range1 rfl T.n_range (pa_cons pe_int pa_nil)) (fun _ _ _ _ => pts_nil) (fun _ _ _ _ => (pe_lst (pa_cons (pv 0) pa_nil)))) (pa_cons (pe_lst (pa_cons (pv 3) pa_nil)) (pa_cons (pe_tup (pa_cons (pv 3) (pa_cons (pv 3) pa_nil))) pa_nil))))))))))))
      (pss_cons (ps_set (i := 12) sc__law_no_rule.nd rfl (Or.inl rfl) (pe_op op_cat (pe_op op_rep (pe_lst (pa_cons (pe_tup (pa_cons (pv 2) (pa_cons (pe_ix (k_ixL K) (pv 11) (pcall D_law_draw G_law_draw (hr.mono (by decide)) (pa_cons (pv 0) (pa_cons pe_int pa_nil))) (fun _ _ => rfl)) pa_nil))) pa_nil)) pe_int) (pe_lst (pa_cons (pe_tup (pa_cons (pcall D_law_no_base G_law_no_base (hr.mono (by decide)) (pa_cons (pv 0) pa_nil)) (pa_cons (pv 3) pa_nil))) (pa_cons (pe_tup (pa_cons pe_int (pa_cons (pv 3) pa_nil))) (pa_cons (pe_tup (pa_cons (pe_op op_sub (pv 2) pe_int) (pa_cons (pv 3) pa_nil))) (pa_cons (pe_lst (pa_cons (pv 2) (pa_cons (pv 3) pa_nil))) pa_nil)))))))
      (pss_cons (ps_set (i := 12) sc__law_no_rule.nd rfl (Or.inl rfl) (pe_op op_cat (pv 12) (pe_lst (pa_cons (pe_tup (pa_cons (pv 2) pa_nil)) (pa_cons (pe_tup (pa_cons (pv 2) (pa_cons (pv 3) (pa_cons (pe_lst pa_nil) pa_nil)))) (pa_cons (pe_tup (pa_cons (pv 3) (pa_cons (pv 2) pa_nil))) (pa_cons (pv 3) (pa_cons (pv 2) (pa_cons pe_non (pa_cons (pe_tup pa_nil) (pa_cons pe_str (pa_cons pe_dnewK (pa_cons (pe_tup (pa_cons (pe_lst (pa_cons (pv 2) pa_nil)) (pa_cons (pv 3) pa_nil))) pa_nil)))))))))))))
      (pss_one (ps_ret (pe_ix (k_ixL K) (pv 12) (pcall D_law_draw G_law_draw (hr.mono (by decide)) (pa_cons (pv 0) (pa_cons pe_int pa_nil))) (fun _ _ => rfl))))))))))))))))), ?_⟩
    have hm : 2 ≤ b ∧ b ≤ 16 ∧ zs.length ≤ 4 := ⟨g.b2, g.b16, by have := g.len; rwa [List.length_map] at this⟩
    refine TpS.go (w := dkV d fp) (Γ := [some (tyEq (.ref d)), some (tyRl b zs.length), none, none, none, none, none, none, none, none, none, none, none]) (Γ' := [some tyNo]) (T := tyTh 20 100000) ?ty Dk (Fits.cons rfl (Fits.cons (tyRl.of R g) ⟨rfl, fun i T h => by rcases i with _ | _ | _ | _ | _ | _ | _ | _ | _ | _ | _ | i <;> cases h⟩)) (fun _ _ _ _ h => h.no.elim) ?qr
    case ty => exact
      (TpS.seq (tp_unp rfl)
      (TpS.seq (TpS.asg (tp_draw rfl (Tp.add (Tp.len (Tp.var rfl)) Tp.int)))
      (TpS.seq (TpS.asg (Tp.ix (Tp.catT (Tp.var rfl) (Tp.lstT (TpB.cons (Tp.wideL (Tp.lst (TpA.cons (Tp.ofI Tp.int) (TpA.cons (Tp.ofI Tp.int) TpA.nil))) (fun _ _ h => h.le (by decide) (by decide)) (by decide) (by decide)) TpB.nil))) (Tp.var rfl) (by omega)))
      (TpS.weak (fun _ _ f => CSub.fits (hW hm) f) (TpS.seq (TpS.asg (tp_draw rfl (Tp.add (Tp.len (Tp.var rfl)) Tp.int)))
      (TpS.seq (TpS.asg (tp_odd rfl (Tp.var rfl)))
      (TpS.seq (TpS.asg (Tp.lst (TpA.cons (Tp.ofL (Tp.cat (Tp.cat (Tp.sl (Tp.var rfl) TpO.none (TpO.some (Tp.var rfl))) (Tp.lst (TpA.cons (Tp.var rfl) TpA.nil))) (Tp.sl (Tp.var rfl) (TpO.some (Tp.var rfl)) TpO.none))) (TpA.cons (Tp.ofL (Tp.cat (Tp.cat (Tp.sl (Tp.var rfl) TpO.none (TpO.some (Tp.var rfl))) (Tp.lst (TpA.cons (Tp.var rfl) TpA.nil))) (Tp.sl (Tp.var rfl) (TpO.some (Tp.add (Tp.var rfl) Tp.int)) TpO.none))) (TpA.cons (Tp.ofL (Tp.cat (Tp.var rfl) (Tp.rep (Tp.lst (TpA.cons (Tp.ofI Tp.int) TpA.nil)) Tp.int))) (TpA.cons (Tp.ofL (Tp.lst TpA.nil)) (TpA.cons (Tp.tupOf (Tp.var rfl)) (TpA.cons (Tp.ofL (Tp.lst (TpA.cons (Tp.ofL (Tp.var rfl)) TpA.nil))) TpA.nil))))))))
      (TpS.seq (TpS.asg (Tp.ix (Tp.cat (Tp.var rfl) (Tp.lst (TpA.cons Tp.non (TpA.cons (Tp.ofI Tp.int) (TpA.cons (Tp.str (by decide +kernel) (by decide +kernel)) (TpA.cons Tp.emp (TpA.cons (Tp.ofL (Tp.cat (Tp.sl (Tp.var rfl) TpO.none (TpO.some (Tp.var rfl))) (Tp.sl (Tp.var rfl) (TpO.some (Tp.add (Tp.var rfl) Tp.int)) TpO.none))) (TpA.cons (Tp.ofL (Tp.cat (Tp.var rfl) (Tp.lst (TpA.cons (Tp.ofI Tp.int) TpA.nil)))) TpA.nil)))))))) (tp_draw rfl Tp.int) (by decide)))
      (TpS.seq (TpS.asg (Tp.cat (Tp.cat (Tp.ofLL (Tp.sl (Tp.var rfl) TpO.none (TpO.some (Tp.var rfl)))) (Tp.lst (TpA.cons (Tp.var rfl) TpA.nil))) (Tp.ofLL (Tp.sl (Tp.var rfl) (TpO.some (Tp.add (Tp.var rfl) Tp.int)) TpO.none))))
      (TpS.seq (TpS.asg (Tp.catT (Tp.catT (Tp.sl (Tp.var rfl) TpO.none (TpO.some (Tp.var rfl))) (Tp.rev (Tp.sl (Tp.var rfl) (TpO.some (Tp.var rfl)) (TpO.some (Tp.add (Tp.var rfl) Tp.int))))) (Tp.sl (Tp.var rfl) (TpO.some (Tp.add (Tp.var rfl) Tp.int)) TpO.none)))
      (TpS.seq (TpS.asg (Tp.lst (TpA.cons (Tp.ofL (Tp.var rfl)) (TpA.cons (Tp.ofL (Tp.var rfl)) (TpA.cons (Tp.ofL (Tp.var rfl)) (TpA.cons (Tp.ofL (Tp.cat (Tp.cat (Tp.ofLL (Tp.sl (Tp.var rfl) TpO.none (TpO.some (Tp.var rfl)))) (Tp.lst (TpA.cons (Tp.var rfl) TpA.nil))) (Tp.ofLL (Tp.sl (Tp.var rfl) (TpO.some (Tp.var rfl)) TpO.none)))) (TpA.cons (Tp.ofL (Tp.ofLL (Tp.var rfl))) (TpA.cons (Tp.ofL (Tp.ofLL (Tp.rev (Tp.var rfl)))) (TpA.cons (Tp.ofL (Tp.ofLL (Tp.catT (Tp.catT (Tp.sl (Tp.var rfl) TpO.none (TpO.some (Tp.var rfl))) (Tp.sl (Tp.var rfl) (TpO.some (Tp.var rfl)) (TpO.some (Tp.add (Tp.var rfl) Tp.int)))) (Tp.sl (Tp.var rfl) (TpO.some (Tp.var rfl)) TpO.none)))) TpA.nil)))))))))
      (TpS.seq (TpS.asg (Tp.cat (Tp.var rfl) (Tp.lst (TpA.cons (Tp.ofL (Tp.ofLL (Tp.catT (Tp.sl (Tp.var rfl) TpO.none (TpO.some (Tp.var rfl))) (Tp.sl (Tp.var rfl) (TpO.some (Tp.add (Tp.var rfl) Tp.int)) TpO.none)))) (TpA.cons (Tp.tupOf (Tp.ofLL (Tp.var rfl))) (TpA.cons Tp.non (TpA.cons Tp.emp (TpA.cons (Tp.str (by decide +kernel) (by decide +kernel)) (TpA.cons (Tp.ofI Tp.int) (TpA.cons (Tp.ofL (Tp.compR (c := 5) (Tp.ofL (Tp.lst (TpA.cons (Tp.ofI (Tp.var rfl)) TpA.nil))))) (TpA.cons (Tp.ofL (Tp.lst (TpA.cons (Tp.ofL (Tp.ofLL (Tp.var rfl))) TpA.nil))) (TpA.cons (Tp.tup (TpA.cons (Tp.ofL (Tp.ofLL (Tp.var rfl))) (TpA.cons (Tp.ofL (Tp.ofLL (Tp.var rfl))) TpA.nil))) TpA.nil))))))))))))
      (TpS.seq (TpS.asg (Tp.cat (Tp.rep (Tp.lst (TpA.cons (Tp.tup (TpA.cons (Tp.ofI (Tp.var rfl)) (TpA.cons (Tp.ix (Tp.var rfl) (tp_draw rfl Tp.int) (by decide)) TpA.nil))) TpA.nil)) Tp.int) (Tp.lst (TpA.cons (Tp.tup (TpA.cons (tp_nob rfl) (TpA.cons (Tp.ofL (Tp.ofLL (Tp.var rfl))) TpA.nil))) (TpA.cons (Tp.tup (TpA.cons (Tp.ofI Tp.int) (TpA.cons (Tp.ofL (Tp.ofLL (Tp.var rfl))) TpA.nil))) (TpA.cons (Tp.tup (TpA.cons (Tp.ofI (Tp.subI (Tp.var rfl) Tp.int)) (TpA.cons (Tp.ofL (Tp.ofLL (Tp.var rfl))) TpA.nil))) (TpA.cons (Tp.ofL (Tp.lst (TpA.cons (Tp.ofI (Tp.var rfl)) (TpA.cons (Tp.ofL (Tp.ofLL (Tp.var rfl))) TpA.nil)))) TpA.nil)))))))
      (TpS.seq (TpS.asg (Tp.cat (Tp.var rfl) (Tp.lst (TpA.cons (Tp.tup (TpA.cons (Tp.ofI (Tp.var rfl)) TpA.nil)) (TpA.cons (Tp.tup (TpA.cons (Tp.ofI (Tp.var rfl)) (TpA.cons (Tp.ofL (Tp.ofLL (Tp.var rfl))) (TpA.cons (Tp.ofL (Tp.lst TpA.nil)) TpA.nil)))) (TpA.cons (Tp.tup (TpA.cons (Tp.ofL (Tp.ofLL (Tp.var rfl))) (TpA.cons (Tp.ofI (Tp.var rfl)) TpA.nil))) (TpA.cons (Tp.ofL (Tp.ofLL (Tp.var rfl))) (TpA.cons (Tp.ofI (Tp.var rfl)) (TpA.cons Tp.non (TpA.cons (Tp.tup TpA.nil) (TpA.cons (Tp.str (by decide +kernel) (by decide +kernel)) (TpA.cons Tp.emp (TpA.cons (Tp.tup (TpA.cons (Tp.ofL (Tp.lst (TpA.cons (Tp.ofI (Tp.var rfl)) TpA.nil))) (TpA.cons (Tp.ofL (Tp.ofLL (Tp.var rfl))) TpA.nil))) TpA.nil)))))))))))))
      (TpS.ret (Tp.le (Tp.ix (Tp.var rfl) (tp_draw rfl Tp.int) (by decide)) (by decide) (by decide)))))))))))))))))
    case qr => exact fun v H' o s t => kk v H' ⟨o, s⟩ t
end
end Lw
set_option Elab.async false
set_option linter.all false
set_option maxRecDepth 100000
namespace L2
open PySem PyProof.Rows
mutual
theorem ThAt.uniq {H : Hp} : ∀ {d e : PyData} {v : V}, ThAt H d v → ThAt H e v → d = e
  | .none, e, v, h, g => by rw [ThAt] at h; subst h; cases e <;> rw [ThAt] at g <;> first | (obtain ⟨a, ys, z, _⟩ := g; cases z; done) | (obtain ⟨_, a, z, _⟩ := g; cases z; done) | rfl | (cases g; done)
  | .bool b, e, v, h, g => by rw [ThAt] at h; subst h; cases e <;> rw [ThAt] at g <;> first | (obtain ⟨a, ys, z, _⟩ := g; cases z; done) | (obtain ⟨_, a, z, _⟩ := g; cases z; done) | (cases g; rfl) | (cases g; done)
  | .int i, e, v, h, g => by rw [ThAt] at h; subst h; cases e <;> rw [ThAt] at g <;> first | (obtain ⟨a, ys, z, _⟩ := g; cases z; done) | (obtain ⟨_, a, z, _⟩ := g; cases z; done) | (cases g; rfl) | (cases g; done)
  | .str x, e, v, h, g => by rw [ThAt] at h; subst h; cases e <;> rw [ThAt] at g <;> first | (obtain ⟨a, ys, z, _⟩ := g; cases z; done) | (obtain ⟨_, a, z, _⟩ := g; cases z; done) | (cases g; rfl) | (cases g; done)
  | .list xs, e, v, h, g => by
    rw [ThAt] at h
    obtain ⟨a, ys, rfl, h2, h3⟩ := h
    cases e with
    | list xs' =>
      rw [ThAt] at g
      obtain ⟨b, zs, z, g2, g3⟩ := g
      cases z
      rw [h2] at g2; cases g2
      rw [ThsAt.uniq h3 g3]
    | tuple xs' => rw [ThAt] at g; obtain ⟨b, zs, z, g2, g3⟩ := g; cases z; rw [h2] at g2; cases g2
    | dict kvs => rw [ThAt] at g; obtain ⟨_, b, z, g2⟩ := g; cases z; rw [h2] at g2; cases g2
    | none => rw [ThAt] at g; cases g
    | bool _ => rw [ThAt] at g; cases g
    | int _ => rw [ThAt] at g; cases g
    | str _ => rw [ThAt] at g; cases g
  | .tuple xs, e, v, h, g => by
    rw [ThAt] at h
    obtain ⟨a, ys, rfl, h2, h3⟩ := h
    cases e with
    | tuple xs' =>
      rw [ThAt] at g
      obtain ⟨b, zs, z, g2, g3⟩ := g
      cases z
      rw [h2] at g2; cases g2
      rw [ThsAt.uniq h3 g3]
    | list xs' => rw [ThAt] at g; obtain ⟨b, zs, z, g2, g3⟩ := g; cases z; rw [h2] at g2; cases g2
    | dict kvs => rw [ThAt] at g; obtain ⟨_, b, z, g2⟩ := g; cases z; rw [h2] at g2; cases g2
    | none => rw [ThAt] at g; cases g
    | bool _ => rw [ThAt] at g; cases g
    | int _ => rw [ThAt] at g; cases g
    | str _ => rw [ThAt] at g; cases g
  | .dict kvs, e, v, h, g => by
    rw [ThAt] at h
    obtain ⟨rfl, a, rfl, h2⟩ := h
    cases e with
    | dict kvs' => rw [ThAt] at g; obtain ⟨rfl, b, z, g2⟩ := g; rfl
    | list xs' => rw [ThAt] at g; obtain ⟨b, zs, z, g2, g3⟩ := g; cases z; rw [h2] at g2; cases g2
    | tuple xs' => rw [ThAt] at g; obtain ⟨b, zs, z, g2, g3⟩ := g; cases z; rw [h2] at g2; cases g2
    | none => rw [ThAt] at g; cases g
    | bool _ => rw [ThAt] at g; cases g
    | int _ => rw [ThAt] at g; cases g
    | str _ => rw [ThAt] at g; cases g
theorem ThsAt.uniq {H : Hp} : ∀ {ds es : List PyData} {ys : List V}, ThsAt H ds ys → ThsAt H es ys → ds = es
  | [], es, ys, h, g => by
    rw [ThsAt] at h; subst h
    cases es with
    | nil => rfl
    | cons e es => rw [ThsAt] at g; obtain ⟨y, zs, z, _⟩ := g; cases z
  | d :: ds, es, ys, h, g => by
    rw [ThsAt] at h
    obtain ⟨y, zs, rfl, h2, h3⟩ := h
    cases es with
    | nil => rw [ThsAt] at g; cases g
    | cons e es =>
      rw [ThsAt] at g
      obtain ⟨y', zs', z, g2, g3⟩ := g
      cases z
      rw [ThAt.uniq h2 g2, ThsAt.uniq h3 g3]
end
theorem Th.fit {H : Hp} {k n : Nat} {v : V} {d : PyData} (t : Th H k n v) (h : ThAt H d v) : Fit k n d := by
  obtain ⟨e, g, f⟩ := t
  rw [h.uniq g]; exact f
theorem ThsAt.map {α : Type} {H : Hp} {f : α → PyData} {g : α → V} : ∀ {xs : List α}, (∀ x ∈ xs, ThAt H (f x) (g x)) → ThsAt H (xs.map f) (xs.map g)
  | [], _ => by rw [List.map_nil, List.map_nil, ThsAt]
  | x :: xs, h => by
    rw [List.map_cons, List.map_cons, ThsAt]
    exact ⟨_, _, rfl, h x (.head _), ThsAt.map fun y hy => h y (.tail _ hy)⟩
theorem ThAt.ints {H : Hp} {a : Addr} {ns : List Int} (h : H a = some (.lst (ns.map V.int))) : ThAt H (.list (ns.map .int)) (.ref a) := by
  rw [ThAt]
  exact ⟨a, _, rfl, h, ThsAt.map fun i _ => by rw [ThAt]⟩
end L2
set_option Elab.async false
set_option linter.all false
set_option maxRecDepth 100000
namespace Lw
open PySem L2 PyProof.Rows
theorem ruleT_good {b : Nat} {ls : List (List Int)} (g : GoodRule b ls) : ruleT (.tuple [.int b, .list (ls.map fun l => .list (l.map .int))]) = true := by
  have hb : baseT (.int b) = true := decide_eq_true (by have := g.b2; have := g.b16; omega)
  have hs : ∀ l ∈ ls, stretchT b (.list (l.map .int)) = true := fun l hl => by
    have s := g.st l hl
    have h1 : figsT b (.list (l.map .int)) = true := by
      show (l.map PyData.int).all (figT b) = true
      rw [List.all_eq_true]
      intro x hx
      obtain ⟨i, hi, rfl⟩ := List.mem_map.mp hx
      exact decide_eq_true (s.fig i hi)
    have h2 : (eltsT (.list (l.map .int))).length = l.length := List.length_map ..
    unfold stretchT
    rw [h1, h2, Bool.true_and]
    exact decide_eq_true ⟨List.length_pos_iff.mpr s.ne, s.len⟩
  have hi : (ls.map fun l => PyData.list (l.map .int)).map intsT = ls := by
    rw [List.map_map]
    conv => rhs; rw [← List.map_id ls]
    refine List.map_congr_left fun l _ => ?_
    show (l.map PyData.int).map intT = l
    rw [List.map_map]
    conv => rhs; rw [← List.map_id l]
    rfl
  show (baseT (.int b) && badT b (.list (ls.map fun l => .list (l.map .int)))) = true
  rw [hb, Bool.true_and]
  show (decide ((ls.map fun l => PyData.list (l.map .int)).length ≤ 4) && ((ls.map fun l => PyData.list (l.map .int)).all (stretchT b) && risingL ((ls.map fun l => PyData.list (l.map .int)).map intsT))) = true
  rw [hi, List.length_map, decide_eq_true g.len, Bool.true_and, Bool.and_eq_true]
  refine ⟨?_, ?_⟩
  · rw [List.all_eq_true]
    intro x hx
    obtain ⟨l, hl, rfl⟩ := List.mem_map.mp hx
    exact hs l hl
  · unfold risingL
    rw [List.all_eq_true]
    intro k hk
    have hk := List.mem_range.mp hk
    rw [List.getD_eq_getElem?_getD, List.getD_eq_getElem?_getD, List.getElem?_eq_getElem (show k < ls.length by omega), List.getElem?_eq_getElem (show k + 1 < ls.length by omega)]
    exact List.pairwise_iff_getElem.mp g.up k (k + 1) (by omega) (by omega) (by omega)
theorem RuleAt.thing {H : Hp} {r bl : Addr} {b : Nat} {zs : List (Addr × List Int)} (R : RuleAt H r b bl zs) (g : GoodRule b (zs.map (·.2))) : ∃ d, ThAt H d (.ref r) ∧ ruleT d = true ∧ Fit 3 5000 d := by
  have h : ThAt H (.tuple [.int b, .list ((zs.map (·.2)).map fun l => .list (l.map .int))]) (.ref r) := by
    rw [ThAt]
    refine ⟨r, _, rfl, R.tu, ?_⟩
    rw [ThsAt]
    refine ⟨_, _, rfl, by rw [ThAt], ?_⟩
    rw [ThsAt]
    refine ⟨_, _, rfl, ?_, by rw [ThsAt]⟩
    rw [ThAt]
    refine ⟨bl, _, rfl, R.li, ?_⟩
    rw [List.map_map]
    exact ThsAt.map fun z hz => ThAt.ints (R.st z hz)
  refine ⟨_, h, ruleT_good g, Th.fit ?_ h⟩
  have hl := g.len
  rw [List.length_map] at hl
  have b16 := g.b16
  have hz : ∀ z ∈ zs, Th H 1 404 (.ref z.1) := fun z hz => by
    have s := g.st _ (List.mem_map.mpr ⟨z, hz, rfl⟩)
    refine Th.ints (R.st z hz) (fun i hi => by have := s.fig i hi; omega) (by have := s.len; omega)
  have hb : Th H 2 1620 (.ref bl) := Th.lst R.li (fun v hv => by
    obtain ⟨z, hz', rfl⟩ := List.mem_map.mp hv
    exact hz z hz') (by rw [List.length_map]; omega)
  refine Th.tup (k := 2) (n := 1620) R.tu (fun v hv => ?_) (by show 1621 * 2 ≤ 5000; decide)
  simp only [List.mem_cons, List.not_mem_nil, or_false] at hv
  rcases hv with rfl | rfl
  · exact Th.int (by omega) (by decide)
  · exact hb
end Lw
set_option Elab.async false
set_option linter.all false
set_option maxRecDepth 100000
namespace Lw
open PySem L2 PyProof.Rows
theorem op_notB {X : Cx} : OpR X (compareOp .IsNot) (rIsB true) := by
  intro pins s σ H x y v u Q I rx ry h
  obtain ⟨a, b, rfl, rfl, q⟩ := h
  cases rx
  cases ry
  exact isnot_bool (fin_bl I q (by show (!decide (a = b)) = (a != b); cases a <;> cases b <;> rfl))
section
variable {P : Program} {w : World} {K : PySem.W.Frag} {mg : Str → Option Value} {base : Heap}
def sp__law_own : Sp := fun vs H Q _ => ∃ (r : Addr) (b : Nat) (bl : Addr) (zs : List (Addr × List Int)), vs = [.ref r] ∧ RuleAt H r b bl zs ∧ zs.length ≤ 100 ∧
  ∀ (r' bl' : Addr) (zs' : List (Addr × List Int)) (H' : Hp), Same H H' → RuleAt H' r' b bl' zs' → zs'.map (·.2) = zs.map (·.2) → H bl' = none → H r' = none → (∀ z ∈ zs', H z.1 = none ∧ z.1 ≠ bl') → Q (.ref r') H'
theorem sc__law_own : FnScope ["rule"] ["rule"] (defScope s__law_own) := ⟨rfl, rfl, rfl, by decide +kernel, rfl, by decide +kernel, by decide +kernel⟩
theorem ok__law_own {f : Addr} {fd : FuncData} (D : Df K mg "_law_own" s__law_own ["rule"] f fd) (T : Blt mg) : FnOk P w K mg base CX0 1 f fd ["rule"] sp__law_own := by
  refine D.fn.ok sc__law_own (fun vs H Q E h => ?_) (fun cdv A outer s H vs Q E hr h => ?_)
  · obtain ⟨r, b, bl, zs, rfl, _⟩ := h; rfl
  · obtain ⟨r, b, bl, zs, rfl, R, hl, kk⟩ := h
    refine ⟨_, (pss_one (ps_ret (pe_tup (pa_cons (pe_ix (k_ixT K) (pv 0) pe_int (fun _ _ => rfl)) (pa_cons (pe_comp (show CScope (defScope s__law_own) _ "one" ["rule"] [] [] from ⟨rfl, by decide +kernel, by decide +kernel, rfl, by decide +kernel, rfl, by decide +kernel, by decide +kernel⟩) rfl (k_pi K (pe_ix (k_ixT K) (pv 0) pe_int (fun _ _ => rfl))) (fun _ _ _ _ => pts_nil) (fun _ _ _ _ => (pe_callTy (k_listOf K) (by rfl) T.n_list boot_list (pa_cons (pv 0) pa_nil)))) pa_nil))))), ?_⟩
    refine ⟨_, rfl, r, _, _, V.int b, rfl, rfl, SqT.of R.tu, rfl, ?_⟩
    refine ⟨_, rfl, r, _, _, V.ref bl, rfl, rfl, SqT.of R.tu, rfl, bl, rfl, ⟨_, SqL.of R.li⟩, comp_list (K := K) (a := bl) (xs := zs.map fun z => V.ref z.1) (fun i ys H4 => Same H H4 ∧ ∃ ws : List (Addr × List Int), ys = ws.map (fun z => V.ref z.1) ∧ ws.length = i ∧ ws.map (·.2) = (zs.take i).map (·.2) ∧ ∀ z ∈ ws, H z.1 = none ∧ H4 z.1 = some (.lst (z.2.map V.int))) ⟨Same.refl _, [], rfl, rfl, rfl, by simp⟩ (fun i ys H4 _ ⟨e, _⟩ => SqL.of (e _ _ R.li)) ?_ ?_⟩
    · rintro j x ys H4 hx ⟨s4, ws, rfl, hwl, hw2, hws⟩
      rw [List.getElem?_map] at hx
      obtain ⟨z, hzj, e⟩ := Option.map_eq_some_iff.mp hx
      subst e
      have hzm := List.mem_of_getElem? hzj
      have hj : j < zs.length := (List.getElem?_eq_some_iff.mp hzj).1
      refine ⟨by rw [List.length_map, hwl]; exact Nat.lt_of_lt_of_le (show j < 101 by omega) (by decide), ?_⟩
      unfold tYes
      dsimp only
      rw [if_pos rfl]
      refine ⟨_, rfl, z.1, _, rfl, .inl (SqL.of (s4 _ _ (R.st z hzm))), fun p hp => ⟨s4.trans (same_upd hp), ws ++ [(p, z.2)], by simp, by simp [hwl], ?_, fun y hy => ?_⟩⟩
      · rw [List.map_append, hw2, List.take_succ, hzj]; simp
      · rcases List.mem_append.mp hy with hy | hy
        · exact ⟨(hws y hy).1, same_upd hp _ _ (hws y hy).2⟩
        · have e : y = (p, z.2) := by simpa using hy
          subst e
          exact ⟨s4.free hp, upd_same⟩
    · rintro ys H4 ⟨s4, ws, rfl, hwl, hw2, hws⟩ bl' hbl'
      refine ⟨(by show 2 ≤ sizeLine; decide), fun r' hr' => ?_⟩
      have s5 := same_upd hbl' (o := .lst (ws.map fun z => V.ref z.1))
      have s6 := same_upd hr' (o := .tup [.int b, .ref bl'])
      refine kk r' bl' ws _ (s4.trans (s5.trans s6)) ⟨upd_same, s6 _ _ upd_same, fun z hz => s6 _ _ (s5 _ _ (hws z hz).2)⟩ ?_ (s4.free hbl') (s4.free (s5.free hr')) fun z hz => ⟨(hws z hz).1, ne_of_none (hws z hz).2 hbl'⟩
      rw [hw2, List.length_map, List.take_length]
def sp_law (K : PySem.W.Frag) : Sp := fun vs H Q _ => ∃ (a : Addr) (ns : List Int), vs = [.ref a] ∧ SqL K H a (ns.map V.int) ∧ ns.length ≤ 63 ∧ ∀ H', Q (.bl true) H'
theorem sc_law : FnScope ["script", "deck", "k", "rule", "turn", "things", "thing"] ["script"] (defScope s_law) := ⟨rfl, rfl, rfl, by decide +kernel, rfl, by decide +kernel, by decide +kernel⟩
set_option maxHeartbeats 4000000 in
theorem ok_law {f f1 f2 f3 f4 f5 f6 : Addr} {fd fd1 fd2 fd3 fd4 fd5 fd6 : FuncData} (D : Df K mg "law" s_law ["script"] f fd) (D_law_deck : Df K mg "_law_deck" s__law_deck ["script"] f1 fd1) (D_law_some_rule : Df K mg "_law_some_rule" s__law_some_rule ["deck"] f2 fd2) (G_law_some_rule : FnOk P w K mg base CX0 2 f2 fd2 ["deck"] sp__law_some_rule) (D_law_own : Df K mg "_law_own" s__law_own ["rule"] f3 fd3) (Dis_rule : Df K mg "is_rule" s_is_rule ["thing"] f4 fd4) (Gis_rule : FnOk P w K mg base CX0 6 f4 fd4 ["thing"] sp_is_rule)
    (D_law_right : Df K mg "_law_right" s__law_right ["thing"] f5 fd5) (G_law_right : FnOk P w K mg base CX0 7 f5 fd5 ["thing"] sp__law_right) (D_law_no_rule : Df K mg "_law_no_rule" s__law_no_rule ["deck", "rule"] f6 fd6) (G_law_no_rule : FnOk P w K mg base CX0 3 f6 fd6 ["deck", "rule"] sp__law_no_rule) (T : Blt mg) : FnOk P w K mg base CX0 8 f fd ["script"] (sp_law K) := by
  have G_law_deck : FnOk P w K mg base CX0 1 f1 fd1 ["script"] (sp__law_deck K) := ok__law_deck D_law_deck T
  have G_law_own : FnOk P w K mg base CX0 1 f3 fd3 ["rule"] sp__law_own := ok__law_own D_law_own T
  refine D.fn.ok sc_law (fun vs H Q E h => ?_) (fun cdv A outer s H vs Q E hr h => ?_)
  · obtain ⟨a, ns, rfl, _⟩ := h; rfl
  · obtain ⟨a, ns, rfl, hS, hlen, kk⟩ := h
    refine ⟨_, (pss_cons (ps_set (i := 1) sc_law.nd rfl (Or.inl rfl) (pcall D_law_deck G_law_deck (hr.mono (by decide)) (pa_cons (pv 0) pa_nil)))
      (pss_consJ (ps_for PassesOwn.never rfl (pi_range1 rfl T.n_range (pa_cons pe_int pa_nil)) (pg_name (i := 2) sc_law.nd rfl (Or.inl rfl))
        (pss_cons (ps_set (i := 3) sc_law.nd rfl (Or.inl rfl) (pcall D_law_some_rule G_law_some_rule (hr.mono (by decide)) (pa_cons (pv 1) pa_nil)))
        (pss_cons (ps_if (pt_cmpR op_notB (pcall Dis_rule Gis_rule (hr.mono (by decide)) (pa_cons (pcall D_law_own G_law_own (hr.mono (by decide)) (pa_cons (pv 3) pa_nil)) pa_nil)) pe_bl (nomark _))
          (pss_one (ps_ret pe_bl))
          pss_nil)
        (pss_one (ps_for PassesOwn.never rfl (pi_range1 rfl T.n_range (pa_cons pe_int pa_nil)) (pg_name (i := 4) sc_law.nd rfl (Or.inl rfl))
          (pss_one (ps_if (pt_not (pt_val (pcall D_law_right G_law_right (hr.mono (by decide)) (pa_cons (pcall D_law_no_rule G_law_no_rule (hr.mono (by decide)) (pa_cons (pv 1) (pa_cons (pv 3) pa_nil))) pa_nil))))
            (pss_one (ps_ret pe_bl))
            pss_nil)))))))
      (pssI_set (i := 5) sc_law.nd rfl (Or.inl rfl) (pai_cons (pei pe_non) (pai_cons pei_int (pai_cons (pei pe_bl) (pai_str (pai_str (pai_cons (pei_lst pai_nil) (pai_cons (pei_tup pai_nil) (pai_cons (pei pe_dnewK) (pai_cons (pei_tup (pai_cons pei_int (pai_cons (pei_lst pai_nil) pai_nil))) (pai_cons (pei_tup (pai_cons pei_int (pai_cons (pei_lst (pai_cons (pei_lst (pai_cons pei_int pai_nil)) pai_nil)) pai_nil))) (pai_cons (pei_tup (pai_cons pei_int (pai_cons (pei_lst (pai_cons (pei_lst (pai_cons pei_int pai_nil)) pai_nil)) pai_nil))) (pai_cons (pei_tup (pai_cons pei_int (pai_cons (pei_lst pai_nil) pai_nil))) (pai_cons (pei_tup (pai_cons pei_int (pai_cons (pei_lst pai_nil) pai_nil))) pai_nil)))))))))))))
      (pss_cons (ps_for PassesOwn.never rfl (k_pi K (pe_opJ op_cat (pv 5) (pei_lst (pai_cons (pei_tup (pai_cons pei_int (pai_cons (pei_lst (pai_cons (pei_lst (pai_cons pei_int pai_nil)) (pai_cons (pei_lst (pai_cons pei_int (pai_cons pei_int pai_nil))) (pai_cons (pei_lst (pai_cons pei_int (pai_cons pei_int pai_nil))) (pai_cons (pei_lst (pai_cons pei_int pai_nil)) pai_nil))))) pai_nil))) (pai_cons (pei_tup (pai_cons pei_int (pai_cons (pei_lst (pai_cons (pei_lst (pai_cons pei_int pai_nil)) (pai_cons (pei_lst (pai_cons pei_int (pai_cons pei_int pai_nil))) (pai_cons (pei_lst (pai_cons pei_int (pai_cons pei_int pai_nil))) (pai_cons (pei_lst (pai_cons pei_int pai_nil)) (pai_cons (pei_lst (pai_cons pei_int (pai_cons pei_int pai_nil))) pai_nil)))))) pai_nil))) (pai_cons (pei_tup (pai_cons pei_int (pai_cons (pei_lst (pai_cons (pei_lst (pai_cons pei_int pai_nil)) (pai_cons (pei_lst (pai_cons pei_int pai_nil)) pai_nil))) pai_nil))) pai_nil)))))) (pg_name (i := 6) sc_law.nd rfl (Or.inl rfl))
        (pss_one (ps_if (pt_not (pt_val (pcall D_law_right G_law_right (hr.mono (by decide)) (pa_cons (pv 6) pa_nil))))
          (pss_one (ps_ret pe_bl))
          pss_nil)))
      (pss_one (ps_ret pe_bl)))))), ?_⟩
    refine ⟨_, rfl, a, ns, rfl, hS, hlen, fun d fp H0 D0 s0 _ => ?_⟩
    refine ⟨12, rfl, by decide, by decide, for_range (lo := 0) (n := 12) (fun i σ H2 => ∃ v2 v3 v4 : Option V, σ = [some (.ref a), some (.ref d), v2, v3, v4, none, none] ∧ Deck H2 d fp) ⟨none, none, none, rfl, D0⟩ ?_ ?_⟩
    · rintro i σ H2 hi ⟨v2, v3, v4, rfl, D2⟩
      refine ⟨_, rfl, d, fp, rfl, D2, fun r b bl zs H3 S3 R g => ?_⟩
      refine ⟨_, rfl, r, b, bl, zs, rfl, R.same (aw_same _ _), by have := g.len; rw [List.length_map] at this; omega, fun r' bl' zs' H4 s4 R4 e4 _ _ _ => ?_⟩
      obtain ⟨dd, t1, t2, t3⟩ := R4.thing (by rw [e4]; exact g)
      refine ⟨_, dd, rfl, t1, Nat.le_trans (siz_wt dd) (Nat.le_trans t3.wt (by decide)), fun H5 s5 => ⟨_, _, rfl, rfl, _, rfl, ?_⟩⟩
      rw [t2]
      refine iteF ?_
      have S5 : Stp fp d H3 H5 := Stp.of S3.dk (s4.trans s5)
      refine ⟨12, rfl, by decide, by decide, for_range (lo := 0) (n := 12) (fun j σ H6 => ∃ v4 : Option V, σ = [some (.ref a), some (.ref d), some (.int (0 + (i : Int))), some (.ref r), v4, none, none] ∧ Stp fp d H3 H6) ⟨_, rfl, S5⟩ ?_ ?_⟩
      · rintro j σ H6 hj ⟨v4, rfl, S6⟩
        refine ⟨_, rfl, _, rfl, d, fp, r, b, bl, zs, rfl, S6.dk, R.same S6.sm, g, fun v H7 S7 t7 => ?_⟩
        exact ⟨v, rfl, t7.same (aw_same _ _), fun H8 s8 => ⟨_, rfl, iteF ⟨_, rfl, S6.trans (S7.trans (Stp.of S7.dk s8))⟩⟩⟩
      · rintro σ H6 ⟨v4, rfl, S6⟩
        exact ⟨_, _, _, rfl, S6.dk⟩
    · rintro σ H2 ⟨v2, v3, v4', rfl, D2⟩
      show tSeq _ _ _ _ _
      refine Tp.asg2 (w := dkV d fp) (Γ := [none, none, none, none, none, none, none]) (T1 := tyL 10 10000 13 13) (Tp.wideL
        (Tp.lst (TpA.cons Tp.non (TpA.cons (Tp.ofI Tp.int) (TpA.cons Tp.bl (TpA.cons (Tp.str (by decide +kernel) (by decide +kernel)) (TpA.cons (Tp.str (by decide +kernel) (by decide +kernel)) (TpA.cons (Tp.ofL (Tp.lst TpA.nil)) (TpA.cons (Tp.tup TpA.nil) (TpA.cons Tp.emp (TpA.cons (Tp.tup (TpA.cons (Tp.ofI Tp.int) (TpA.cons (Tp.ofL (Tp.lst TpA.nil)) TpA.nil))) (TpA.cons (Tp.tup (TpA.cons (Tp.ofI Tp.int) (TpA.cons (Tp.ofL (Tp.lst (TpA.cons (Tp.ofL (Tp.lst (TpA.cons (Tp.ofI Tp.int) TpA.nil))) TpA.nil))) TpA.nil))) (TpA.cons (Tp.tup (TpA.cons (Tp.ofI Tp.int) (TpA.cons (Tp.ofL (Tp.lst (TpA.cons (Tp.ofL (Tp.lst (TpA.cons (Tp.ofI Tp.int) TpA.nil))) TpA.nil))) TpA.nil))) (TpA.cons (Tp.tup (TpA.cons (Tp.ofI Tp.int) (TpA.cons (Tp.ofL (Tp.lst TpA.nil)) TpA.nil))) (TpA.cons (Tp.tup (TpA.cons (Tp.ofI Tp.int) (TpA.cons (Tp.ofL (Tp.lst TpA.nil)) TpA.nil))) TpA.nil)))))))))))))) (fun _ _ h => h.le (by decide) (by decide)) (by decide) (by decide)) D2 (Fits.any _) fun v1 H3 o3 s3 t3 => ?_
      refine Tp.op2 (w := dkV d fp) (Γ := [none, none, none, none, none, some (tyL 10 10000 13 13), none]) (T1 := tyL 10 10000 16 16) (Tp.wideL
        (Tp.cat (Tp.var rfl) (Tp.lst (TpA.cons (Tp.tup (TpA.cons (Tp.ofI Tp.int) (TpA.cons (Tp.ofL (Tp.lst (TpA.cons (Tp.ofL (Tp.lst (TpA.cons (Tp.ofI Tp.int) TpA.nil))) (TpA.cons (Tp.ofL (Tp.lst (TpA.cons (Tp.ofI Tp.int) (TpA.cons (Tp.ofI Tp.int) TpA.nil)))) (TpA.cons (Tp.ofL (Tp.lst (TpA.cons (Tp.ofI Tp.int) (TpA.cons (Tp.ofI Tp.int) TpA.nil)))) (TpA.cons (Tp.ofL (Tp.lst (TpA.cons (Tp.ofI Tp.int) TpA.nil))) TpA.nil)))))) TpA.nil))) (TpA.cons (Tp.tup (TpA.cons (Tp.ofI Tp.int) (TpA.cons (Tp.ofL (Tp.lst (TpA.cons (Tp.ofL (Tp.lst (TpA.cons (Tp.ofI Tp.int) TpA.nil))) (TpA.cons (Tp.ofL (Tp.lst (TpA.cons (Tp.ofI Tp.int) (TpA.cons (Tp.ofI Tp.int) TpA.nil)))) (TpA.cons (Tp.ofL (Tp.lst (TpA.cons (Tp.ofI Tp.int) (TpA.cons (Tp.ofI Tp.int) TpA.nil)))) (TpA.cons (Tp.ofL (Tp.lst (TpA.cons (Tp.ofI Tp.int) TpA.nil))) (TpA.cons (Tp.ofL (Tp.lst (TpA.cons (Tp.ofI Tp.int) (TpA.cons (Tp.ofI Tp.int) TpA.nil)))) TpA.nil))))))) TpA.nil))) (TpA.cons (Tp.tup (TpA.cons (Tp.ofI Tp.int) (TpA.cons (Tp.ofL (Tp.lst (TpA.cons (Tp.ofL (Tp.lst (TpA.cons (Tp.ofI Tp.int) TpA.nil))) (TpA.cons (Tp.ofL (Tp.lst (TpA.cons (Tp.ofI Tp.int) TpA.nil))) TpA.nil)))) TpA.nil))) TpA.nil))))) (fun _ _ h => h.le (by decide) (by decide)) (by decide) (by decide)) o3 (Fits.skip (Fits.skip (Fits.skip (Fits.skip (Fits.skip (Fits.cons t3 (Fits.skip Fits.nil))))))) fun v4 H4 o4 s4 ⟨l, vs, e4, h4, _, _, t4⟩ => ?_
      subst e4
      have h4 := aw_same _ _ _ _ h4
      refine ⟨l, rfl, ⟨_, SqL.of h4⟩, for_list (K := K) (a := l) (xs := vs) (fun j σ H5 => ∃ v6 : Option V, σ = [some (.ref a), some (.ref d), v2, v3, v4', some v1, v6] ∧ Same H4 H5) ⟨_, rfl, Same.refl _⟩ (fun j σ H5 _ ⟨_, _, e⟩ => SqL.of (e _ _ h4)) ?_ ?_⟩
      · rintro j x σ H5 hx ⟨v6, rfl, s5⟩
        have tx : Th H4 10 10000 x := (t4 x (List.mem_of_getElem? hx)).same (aw_same _ _)
        exact ⟨_, rfl, x, rfl, (tx.same s5).le (by decide) (by decide), fun H6 s6 => ⟨_, rfl, iteF ⟨_, rfl, s5.trans s6⟩⟩⟩
      · rintro σ H5 ⟨v6, rfl, s5⟩
        exact kk _
end
end Lw
set_option Elab.async false
set_option linter.all false
set_option maxRecDepth 100000
namespace Lw
open PySem L2
def FF (K : PySem.W.Frag) (n q : Str) (st : Stmt) (f : Addr) (cd : Value) : Prop := ∃ (od an : Option Addr) (sl : Array (Option Value)) (oc kV dc pm ct : Value), K.lookup f = some ⟨oc, od, .func (PySem.W.fnOf n q (defArgs st) (defBody st) (defScope st) .none kV dc pm an cd ct), sl⟩ ∧ PySem.W.codeIn K cd q = true ∧ PySem.W.keepIn K (.ref f) = true
def FD (K : PySem.W.Frag) (n : Str) (st : Stmt) : Prop := ∃ (f : Addr) (cd : Value), PySem.W.nsIn K mainGlobals n = some (some (.ref f)) ∧ FF K n n st f cd
section
variable {K : PySem.W.Frag} {n q : Str} {st : Stmt} {f C : Addr} {cd : Value} {od an : Option Addr} {sl : Array (Option Value)} {oc kV dc pm ct : Value}
theorem fdm (a : PySem.W.nsIn K mainGlobals n = some (some (.ref f))) (l : K.lookup f = some ⟨oc, od, .func (PySem.W.fnOf n n (defArgs st) (defBody st) (defScope st) .none kV dc pm an cd ct), sl⟩) (e : PySem.W.codeIn K cd n = true) (k : PySem.W.keepIn K (.ref f) = true) : FD K n st := ⟨f, cd, a, od, an, sl, oc, kV, dc, pm, ct, l, e, k⟩
def FB (n q : Str) (st : Stmt) (ps : List Str) : Prop := ∀ (kV doc pm : Value) (an : Option Addr) (cdv ct : Value) (us : List Value), us.length = ps.length → bindArgs (PySem.W.fnOf n q (defArgs st) (defBody st) (defScope st) .none kV doc pm an cdv ct) ⟨us, []⟩ = pure (ps.zip us)
theorem FD.df {h : Heap} {mg : Str → Option Value} {ps : List Str} (x : FD K n st) (X : K.In h) (G : h.Ns mainGlobals mg) (b : FB n n st ps) : ∃ f fd, Df K mg n st ps f fd := by
  obtain ⟨f, cd, a, od, an, sl, oc, kV, dc, pm, ct, l, e, k⟩ := x
  exact ⟨_, _, df_mk X G a l e k b⟩
end
set_option maxHeartbeats 0 in
theorem all_mk {l : PySem.W.OpenLaw} {w : World} {K : PySem.W.Frag} {h : Heap} {mg : Str → Option Value} {fa : Addr} (X : K.In h) (G : h.Ns mainGlobals mg) (hfa : mg "law" = some (.ref fa))
    (x0 : FD K "is_whole" s_is_whole)
    (x1 : FD K "is_base" s_is_base)
    (x2 : FD K "is_figure" s_is_figure)
    (x3 : FD K "are_figures" s_are_figures)
    (x4 : FD K "is_stretch" s_is_stretch)
    (x5 : FD K "is_rising" s_is_rising)
    (x6 : FD K "is_bad_list" s_is_bad_list)
    (x7 : FD K "is_rule" s_is_rule)
    (x8 : FD K "_law_deck" s__law_deck)
    (x9 : FD K "_law_draw" s__law_draw)
    (x10 : FD K "_law_some_rule" s__law_some_rule)
    (x11 : FD K "_law_own" s__law_own)
    (x12 : FD K "_law_no_base" s__law_no_base)
    (x13 : FD K "_law_odd_figure" s__law_odd_figure)
    (x14 : FD K "_law_no_rule" s__law_no_rule)
    (x15 : FD K "_law_is_rule" s__law_is_rule)
    (x16 : FD K "_law_right" s__law_right)
    (x17 : FD K "law" s_law)
    {t0 : Tok} (g0 : PySem.W.nsIn K mainGlobals "LEAST_BASE" = some (some (.int 2 t0)))
    {t1 : Tok} (g1 : PySem.W.nsIn K mainGlobals "GREATEST_BASE" = some (some (.int 16 t1)))
    {t2 : Tok} (g2 : PySem.W.nsIn K mainGlobals "MOST_STRETCHES" = some (some (.int 4 t2)))
    {t3 : Tok} (g3 : PySem.W.nsIn K mainGlobals "LONGEST_STRETCH" = some (some (.int 4 t3)))
    (z0 : PySem.W.nsIn K mainGlobals "isinstance" = some none)
    (z1 : PySem.W.nsIn K mainGlobals "int" = some none)
    (z2 : PySem.W.nsIn K mainGlobals "bool" = some none)
    (z3 : PySem.W.nsIn K mainGlobals "list" = some none)
    (z4 : PySem.W.nsIn K mainGlobals "tuple" = some none)
    (z5 : PySem.W.nsIn K mainGlobals "reversed" = some none)
    (z6 : PySem.W.nsIn K mainGlobals "len" = some none)
    (z7 : PySem.W.nsIn K mainGlobals "max" = some none)
    (z8 : PySem.W.nsIn K mainGlobals "min" = some none)
    (z9 : PySem.W.nsIn K mainGlobals "range" = some none)
    (z10 : PySem.W.nsIn K mainGlobals "all" = some none)
    (z11 : PySem.W.nsIn K mainGlobals "any" = some none)
    (z12 : PySem.W.nsIn K mainGlobals "sorted" = some none)
    (z13 : PySem.W.nsIn K mainGlobals "enumerate" = some none)
    (z14 : PySem.W.nsIn K mainGlobals "repr" = some none)
    (z15 : PySem.W.nsIn K mainGlobals "sum" = some none)
    (z16 : PySem.W.nsIn K mainGlobals "abs" = some none)
    (z17 : PySem.W.nsIn K mainGlobals "zip" = some none)
    (z18 : PySem.W.nsIn K mainGlobals "str" = some none)
    : ∃ fd : FuncData, (∀ (s : Shared) (v : Value), BindsTo s fd ⟨[v], []⟩ [("script", v)]) ∧ ∀ base : Heap, K.In base → base.Ns mainGlobals mg → FnOk l.prog w K mg base CX0 8 fa fd ["script"] (sp_law K) := by
  obtain ⟨fL, cd17, aL, od17, an17, sl17, oc17, kV17, dc17, pm17, ct17, lL, eL, kL⟩ := x17
  have e := hfa.symm.trans (PySem.W.mg_of X G aL)
  cases e
  have T : Blt mg := ⟨PySem.W.mg_none_of X G z0, PySem.W.mg_none_of X G z1, PySem.W.mg_none_of X G z2, PySem.W.mg_none_of X G z3, PySem.W.mg_none_of X G z4, PySem.W.mg_none_of X G z5, PySem.W.mg_none_of X G z6, PySem.W.mg_none_of X G z7, PySem.W.mg_none_of X G z8, PySem.W.mg_none_of X G z9, PySem.W.mg_none_of X G z10, PySem.W.mg_none_of X G z11, PySem.W.mg_none_of X G z12, PySem.W.mg_none_of X G z13, PySem.W.mg_none_of X G z14⟩
  have U : Blt2 mg := ⟨PySem.W.mg_none_of X G z15, PySem.W.mg_none_of X G z16, PySem.W.mg_none_of X G z17, PySem.W.mg_none_of X G z18⟩
  have c_LEAST_BASE := PySem.W.mg_of X G g0
  have c_GREATEST_BASE := PySem.W.mg_of X G g1
  have c_MOST_STRETCHES := PySem.W.mg_of X G g2
  have c_LONGEST_STRETCH := PySem.W.mg_of X G g3
  obtain ⟨_, _, Dis_whole⟩ := x0.df (ps := ["thing"]) X G fun _ _ _ _ _ _ us hl => match us, hl with | [_], _ => rfl
  obtain ⟨_, _, Dis_base⟩ := x1.df (ps := ["thing"]) X G fun _ _ _ _ _ _ us hl => match us, hl with | [_], _ => rfl
  obtain ⟨_, _, Dis_figure⟩ := x2.df (ps := ["base", "thing"]) X G fun _ _ _ _ _ _ us hl => match us, hl with | [_, _], _ => rfl
  obtain ⟨_, _, Dare_figures⟩ := x3.df (ps := ["base", "thing"]) X G fun _ _ _ _ _ _ us hl => match us, hl with | [_, _], _ => rfl
  obtain ⟨_, _, Dis_stretch⟩ := x4.df (ps := ["base", "thing"]) X G fun _ _ _ _ _ _ us hl => match us, hl with | [_, _], _ => rfl
  obtain ⟨_, _, Dis_rising⟩ := x5.df (ps := ["stretches"]) X G fun _ _ _ _ _ _ us hl => match us, hl with | [_], _ => rfl
  obtain ⟨_, _, Dis_bad_list⟩ := x6.df (ps := ["base", "thing"]) X G fun _ _ _ _ _ _ us hl => match us, hl with | [_, _], _ => rfl
  obtain ⟨_, _, Dis_rule⟩ := x7.df (ps := ["thing"]) X G fun _ _ _ _ _ _ us hl => match us, hl with | [_], _ => rfl
  obtain ⟨_, _, D_law_deck⟩ := x8.df (ps := ["script"]) X G fun _ _ _ _ _ _ us hl => match us, hl with | [_], _ => rfl
  obtain ⟨_, _, D_law_draw⟩ := x9.df (ps := ["deck", "many"]) X G fun _ _ _ _ _ _ us hl => match us, hl with | [_, _], _ => rfl
  obtain ⟨_, _, D_law_some_rule⟩ := x10.df (ps := ["deck"]) X G fun _ _ _ _ _ _ us hl => match us, hl with | [_], _ => rfl
  obtain ⟨_, _, D_law_own⟩ := x11.df (ps := ["rule"]) X G fun _ _ _ _ _ _ us hl => match us, hl with | [_], _ => rfl
  obtain ⟨_, _, D_law_no_base⟩ := x12.df (ps := ["deck"]) X G fun _ _ _ _ _ _ us hl => match us, hl with | [_], _ => rfl
  obtain ⟨_, _, D_law_odd_figure⟩ := x13.df (ps := ["deck", "base"]) X G fun _ _ _ _ _ _ us hl => match us, hl with | [_, _], _ => rfl
  obtain ⟨_, _, D_law_no_rule⟩ := x14.df (ps := ["deck", "rule"]) X G fun _ _ _ _ _ _ us hl => match us, hl with | [_, _], _ => rfl
  obtain ⟨_, _, D_law_is_rule⟩ := x15.df (ps := ["thing"]) X G fun _ _ _ _ _ _ us hl => match us, hl with | [_], _ => rfl
  obtain ⟨_, _, D_law_right⟩ := x16.df (ps := ["thing"]) X G fun _ _ _ _ _ _ us hl => match us, hl with | [_], _ => rfl
  have Dlaw : Df K mg "law" s_law ["script"] _ _ := df_mk X G aL lL eL kL fun _ _ _ _ _ _ us hl => match us, hl with | [_], _ => rfl
  refine ⟨PySem.W.fnOf "law" "law" (defArgs s_law) (defBody s_law) (defScope s_law) .none kV17 dc17 pm17 an17 cd17 ct17, fun s v => .of_eq rfl, fun base _ _ => ?_⟩
  have G_law_deck : FnOk l.prog w K mg base CX0 1 _ _ ["script"] (sp__law_deck K) := ok__law_deck D_law_deck T
  have G_law_draw : FnOk l.prog w K mg base CX0 1 _ _ ["deck", "many"] sp__law_draw := ok__law_draw D_law_draw T
  have Gis_whole : FnOk l.prog w K mg base CX0 1 _ _ ["thing"] sp_is_whole := ok_is_whole Dis_whole T
  have Gis_base : FnOk l.prog w K mg base CX0 2 _ _ ["thing"] sp_is_base := ok_is_base Dis_base Dis_whole T c_LEAST_BASE c_GREATEST_BASE
  have Gis_figure : FnOk l.prog w K mg base CX0 2 _ _ ["base", "thing"] sp_is_figure := ok_is_figure Dis_figure Dis_whole T
  have Gare_figures : FnOk l.prog w K mg base CX0 3 _ _ ["base", "thing"] sp_are_figures := ok_are_figures Dare_figures Dis_figure Gis_figure T
  have Gis_stretch : FnOk l.prog w K mg base CX0 4 _ _ ["base", "thing"] sp_is_stretch := ok_is_stretch Dis_stretch Dare_figures Gare_figures c_LONGEST_STRETCH T
  have Gis_rising : FnOk l.prog w K mg base CX0 1 _ _ ["stretches"] sp_is_rising := ok_is_rising Dis_rising T
  have Gis_bad_list : FnOk l.prog w K mg base CX0 5 _ _ ["base", "thing"] sp_is_bad_list := ok_is_bad_list Dis_bad_list Dis_stretch Gis_stretch Dis_rising c_MOST_STRETCHES T
  have Gis_rule : FnOk l.prog w K mg base CX0 6 _ _ ["thing"] sp_is_rule := ok_is_rule Dis_rule Dis_base Gis_base Dis_bad_list Gis_bad_list T
  have G_law_some_rule : FnOk l.prog w K mg base CX0 2 _ _ ["deck"] sp__law_some_rule := ok__law_some_rule D_law_some_rule D_law_draw T
  have G_law_no_base : FnOk l.prog w K mg base CX0 2 _ _ ["deck"] sp__law_no_base := ok__law_no_base D_law_no_base D_law_draw T
  have G_law_odd_figure : FnOk l.prog w K mg base CX0 2 _ _ ["deck", "base"] sp__law_odd_figure := ok__law_odd_figure D_law_odd_figure D_law_draw T
  have G_law_is_rule : FnOk l.prog w K mg base CX0 1 _ _ ["thing"] sp__law_is_rule := ok__law_is_rule D_law_is_rule T
  have G_law_right : FnOk l.prog w K mg base CX0 7 _ _ ["thing"] sp__law_right := ok__law_right D_law_right Dis_rule Gis_rule D_law_is_rule T
  have G_law_no_rule : FnOk l.prog w K mg base CX0 3 _ _ ["deck", "rule"] sp__law_no_rule := ok__law_no_rule D_law_no_rule D_law_draw D_law_odd_figure D_law_no_base T
  have G_law_own : FnOk l.prog w K mg base CX0 1 _ _ ["rule"] sp__law_own := ok__law_own D_law_own T
  exact ok_law Dlaw D_law_deck D_law_some_rule G_law_some_rule D_law_own Dis_rule Gis_rule D_law_right G_law_right D_law_no_rule G_law_no_rule T
theorem walk {l : PySem.W.OpenLaw} {q : Program} {loose : List Str} {XP : (Str → Option Value) → Heap → Prop} {YP : World → Heap → Prop} {d : DefRec} {K : Params → PySem.W.Frag} (hn : l.most = some 63) (hdf : d.params.defaults = [])
    (hY : ∀ (w : World) (h : Heap), YP w h → (K w.params).In h)
    (F : ∀ (w : World) (mg : Str → Option Value) (fa : Addr) (h : Heap), (K w.params).In h → h.Ns mainGlobals mg → mg d.name = some (.ref fa) →
      ∃ fd : FuncData, (∀ (s : Shared) (u : Value), BindsTo s fd ⟨[u], []⟩ [("script", u)]) ∧ ∀ base : Heap, (K w.params).In base → base.Ns mainGlobals mg → FnOk l.prog w (K w.params) mg base CX0 8 fa fd ["script"] (sp_law (K w.params))) :
    PySem.W.WalkO q loose XP YP l.row.toRowW d [] (fun f vs => PySem.call f vs) :=
  L2.walk_of (n := 63) (k := 8) (x := "script") (CX := fun _ => CX0) (sp := fun w => sp_law (K w.params)) hn (by decide) hdf ⟨rfl, by decide, by decide, rfl⟩ hY F (fun _ _ a ns hl _ hS => ⟨a, ns, rfl, hS, hl, fun _ => rfl⟩) fun _ _ _ _ _ z => z
end Lw
open PySem PySem.W PyProof.Rows
set_option maxRecDepth 100000 in
set_option maxHeartbeats 0 in
theorem PySem.Challenge.cw_lackstretch_k03_what_is_a_rule_holds : PySem.Challenge.rw_lackstretch_k03_what_is_a_rule.Holds := by
  w_on; o_law; k_head; (case hw => w_witness2)
  k_fill
  refine Lw.walk (l := PySem.Challenge.rw_lackstretch_k03_what_is_a_rule) rfl rfl (fun w h Y => PySem.W.kIn_of Y) ?F
  case F =>
    intro w mg fa h KX G hmg
    refine' Lw.all_mk KX G hmg ?yyx0 ?yyx1 ?yyx2 ?yyx3 ?yyx4 ?yyx5 ?yyx6 ?yyx7 ?yyx8 ?yyx9 ?yyx10 ?yyx11 ?yyx12 ?yyx13 ?yyx14 ?yyx15 ?yyx16 ?yyx17 ?yyg0 ?yyg1 ?yyg2 ?yyg3 ?yyz0 ?yyz1 ?yyz2 ?yyz3 ?yyz4 ?yyz5 ?yyz6 ?yyz7 ?yyz8 ?yyz9 ?yyz10 ?yyz11 ?yyz12 ?yyz13 ?yyz14 ?yyz15 ?yyz16 ?yyz17 ?yyz18
    (case yyx0 => refine' Lw.fdm ?_ ?_ ?_ ?_ <;> try k_is)
    (case yyx1 => refine' Lw.fdm ?_ ?_ ?_ ?_ <;> try k_is)
    (case yyx2 => refine' Lw.fdm ?_ ?_ ?_ ?_ <;> try k_is)
    (case yyx3 => refine' Lw.fdm ?_ ?_ ?_ ?_ <;> try k_is)
    (case yyx4 => refine' Lw.fdm ?_ ?_ ?_ ?_ <;> try k_is)
    (case yyx5 => refine' Lw.fdm ?_ ?_ ?_ ?_ <;> try k_is)
    (case yyx6 => refine' Lw.fdm ?_ ?_ ?_ ?_ <;> try k_is)
    (case yyx7 => refine' Lw.fdm ?_ ?_ ?_ ?_ <;> try k_is)
    (case yyx8 => refine' Lw.fdm ?_ ?_ ?_ ?_ <;> try k_is)
    (case yyx9 => refine' Lw.fdm ?_ ?_ ?_ ?_ <;> try k_is)
    (case yyx10 => refine' Lw.fdm ?_ ?_ ?_ ?_ <;> try k_is)
    (case yyx11 => refine' Lw.fdm ?_ ?_ ?_ ?_ <;> try k_is)
    (case yyx12 => refine' Lw.fdm ?_ ?_ ?_ ?_ <;> try k_is)
    (case yyx13 => refine' Lw.fdm ?_ ?_ ?_ ?_ <;> try k_is)
    (case yyx14 => refine' Lw.fdm ?_ ?_ ?_ ?_ <;> try k_is)
    (case yyx15 => refine' Lw.fdm ?_ ?_ ?_ ?_ <;> try k_is)
    (case yyx16 => refine' Lw.fdm ?_ ?_ ?_ ?_ <;> try k_is)
    (case yyx17 => refine' Lw.fdm ?_ ?_ ?_ ?_ <;> try k_is)
    (case yyg0 => k_is)
    (case yyg1 => k_is)
    (case yyg2 => k_is)
    (case yyg3 => k_is)
    (case yyz0 => k_is)
    (case yyz1 => k_is)
    (case yyz2 => k_is)
    (case yyz3 => k_is)
    (case yyz4 => k_is)
    (case yyz5 => k_is)
    (case yyz6 => k_is)
    (case yyz7 => k_is)
    (case yyz8 => k_is)
    (case yyz9 => k_is)
    (case yyz10 => k_is)
    (case yyz11 => k_is)
    (case yyz12 => k_is)
    (case yyz13 => k_is)
    (case yyz14 => k_is)
    (case yyz15 => k_is)
    (case yyz16 => k_is)
    (case yyz17 => k_is)
    (case yyz18 => k_is)
