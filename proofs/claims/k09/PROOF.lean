import PyProof.Rows.All
import Wide.All
import OpenK.AllK
import Wide.FinOn
import Lean
import PyProof.EqAt
import PyProof.EqKinds
import PyProof.TupleCall
import PyProof.NeKinds
import KE.KRevSl
import KE.KRevIter
import PyProof.ConsumeWalk
import PyProof.ReprRoads
import PyProof.CallFns
import KE.KSortAsk
import KE.KSortTup
import KE.KDictSum
import PyProof.Rows.SumAny
import PyProof.EnumStmt
import PyProof.EnumMake
import PyProof.Rows.EnumRows
import PyProof.Rows.FactsN_abs
import KE.KLam
import PyProof.ReprLen
import PyProof.AttrMissSeq
import PyProof.Rows.SetFrom
import KE.KDictOf
import PySem.Challenge.RW_lackstretch_k09_no_rules_no_stands_no_fi
set_option Elab.async false
set_option linter.all false
set_option maxRecDepth 100000
namespace L2
open PySem PySem.Spec PyProof.Rows
abbrev Key := Sum Int Str
def keyIs : Key → Value → Bool
  | .inl k, v => Value.isInt k v
  | .inr x, v => Value.isStrOf x v
def keyH (w : World) : Key → Int
  | .inl k => hashInt k
  | .inr x => hashStr w x
theorem keyIs_shape : ∀ {k : Key} {v : Value}, keyIs k v = true → (∃ i t, k = Sum.inl i ∧ v = Value.int i t) ∨ (∃ x t, k = Sum.inr x ∧ v = Value.str x t)
  | .inl i, v, h => by
    obtain ⟨t, e⟩ := Value.isInt_shape (k := i) (v := v) h
    exact .inl ⟨i, t, rfl, e⟩
  | .inr x, v, h => by
    obtain ⟨t, e⟩ := Value.isStrOf_shape (x := x) (v := v) h
    exact .inr ⟨x, t, rfl, e⟩
theorem keyIs_int (i : Int) (t : Tok) : keyIs (.inl i) (.int i t) = true := by simp [keyIs, Value.isInt]
theorem keyIs_str (x : Str) (t : Tok) : keyIs (.inr x) (.str x t) = true := by simp [keyIs, Value.isStrOf]
theorem key_ll (a b : Int) : decide ((Sum.inl a : Key) = Sum.inl b) = (a == b) := by
  by_cases e : a = b
  · subst e; simp
  · have h : ¬ (Sum.inl a : Key) = Sum.inl b := fun q => e (Sum.inl.inj q)
    rw [decide_eq_false h]
    exact (beq_eq_false_iff_ne.mpr e).symm
theorem key_rr (a b : Str) : decide ((Sum.inr a : Key) = Sum.inr b) = decide (a = b) := by
  by_cases e : a = b
  · subst e; simp
  · have h : ¬ (Sum.inr a : Key) = Sum.inr b := fun q => e (Sum.inr.inj q)
    rw [decide_eq_false h, decide_eq_false e]
theorem key_lr (a : Int) (b : Str) : decide ((Sum.inl a : Key) = Sum.inr b) = false := decide_eq_false (fun q => nomatch q)
theorem key_rl (a : Str) (b : Int) : decide ((Sum.inr a : Key) = Sum.inl b) = false := decide_eq_false (fun q => nomatch q)
def mixKind (prog : Program) (w : World) : PySem.KeyKind prog w Key where
  is := keyIs
  hash := keyH w
  inj := fun v a b ha hb => by
    rcases keyIs_shape ha with ⟨i, t, rfl, rfl⟩ | ⟨x, t, rfl, rfl⟩
    · rcases keyIs_shape hb with ⟨j, u, rfl, e⟩ | ⟨y, u, rfl, e⟩
      · injection e with e1 _; rw [e1]
      · exact nomatch e
    · rcases keyIs_shape hb with ⟨j, u, rfl, e⟩ | ⟨y, u, rfl, e⟩
      · exact nomatch e
      · injection e with e1 _; rw [e1]
  byValue := fun k v h => by
    rcases keyIs_shape h with ⟨i, t, rfl, rfl⟩ | ⟨x, t, rfl, rfl⟩ <;> rfl
  pyHash := fun hv h => by
    rcases keyIs_shape hv with ⟨i, t, rfl, rfl⟩ | ⟨x, t, rfl, rfl⟩
    · exact wpAny_pyHash_int h
    · exact wpAny_pyHash_str h
  eqBool := fun hu hv h => by
    rcases keyIs_shape hu with ⟨i, t, rfl, rfl⟩ | ⟨x, t, rfl, rfl⟩
    · rcases keyIs_shape hv with ⟨j, u, rfl, rfl⟩ | ⟨y, u, rfl, rfl⟩
      · rw [key_ll] at h; exact wpAny_eqBool_int h
      · rw [key_lr] at h; exact SeqAt.EqAt.int_str i t y u _ _ _ _ h
    · rcases keyIs_shape hv with ⟨j, u, rfl, rfl⟩ | ⟨y, u, rfl, rfl⟩
      · rw [key_rl] at h; exact SeqAt.EqAt.str_int x t j u _ _ _ _ h
      · rw [key_rr] at h; exact wpAny_eqBool_str h
  «strs» := fun k x t v h => by
    rcases keyIs_shape h with ⟨i, u, rfl, e⟩ | ⟨y, u, rfl, e⟩
    · exact nomatch e
    · injection e with e1 _
      subst e1
      cases v <;> rfl
theorem mixKind_int (prog : Program) (w : World) (i : Int) (t : Tok) : (mixKind prog w).is (.inl i) (.int i t) = true := keyIs_int i t
theorem mixKind_str (prog : Program) (w : World) (x : Str) (t : Tok) : (mixKind prog w).is (.inr x) (.str x t) = true := keyIs_str x t
end L2
namespace L2
open PySem PySem.Spec PyProof.Rows
inductive V where
  | non | bl (b : Bool) | int (i : Int) | str (x : Str) | byt (b : Array UInt8) | flt (b : UInt64) | ref (a : Addr) | ty (n : String)
  deriving DecidableEq
def RelV : V → Value → Prop
  | .non, u => u = Value.none
  | .bl b, u => u = Value.bool b
  | .int i, u => ∃ t, u = Value.int i t
  | .str x, u => ∃ t, u = Value.str x t
  | .byt b, u => ∃ t, u = Value.bytes b t
  | .flt b, u => ∃ t, u = Value.float b t
  | .ref a, u => u = Value.ref a
  | .ty n, u => u = Value.type n
abbrev Vals : List V → List Value → Prop := Paired RelV
theorem Vals.length {xs : List V} {us : List Value} (r : Vals xs us) : xs.length = us.length := Paired.length r
theorem Vals.get : ∀ {xs : List V} {us : List Value} {i : Nat} {x : V}, Vals xs us → xs[i]? = some x → ∃ u, us[i]? = some u ∧ RelV x u
  | _, _, _, _, .nil, e => by simp at e
  | _, _, 0, _, .cons r _, e => by simp at e; subst e; exact ⟨_, rfl, r⟩
  | _, _, i + 1, x, .cons _ t, e => by
    obtain ⟨u, h1, h2⟩ := Vals.get (i := i) (x := x) t (by simpa using e)
    exact ⟨u, by simpa using h1, h2⟩
theorem Vals.set {x : V} {u : Value} (r : RelV x u) : ∀ {xs : List V} {us : List Value} (i : Nat), Vals xs us → Vals (xs.set i x) (us.set i u)
  | _, _, _, .nil => .nil
  | _, _, 0, .cons _ t => .cons r t
  | _, _, i + 1, .cons q t => .cons q (Vals.set r i t)
theorem Vals.append : ∀ {xs ys : List V} {us ws : List Value}, Vals xs us → Vals ys ws → Vals (xs ++ ys) (us ++ ws)
  | _, _, _, _, .nil, s => s
  | _, _, _, _, .cons r t, s => .cons r (Vals.append t s)
theorem Vals.take : ∀ {xs : List V} {us : List Value} (n : Nat), Vals xs us → Vals (xs.take n) (us.take n)
  | _, _, 0, _ => .nil
  | _, _, _ + 1, .nil => .nil
  | _, _, n + 1, .cons r t => .cons r (Vals.take n t)
theorem Vals.drop : ∀ {xs : List V} {us : List Value} (n : Nat), Vals xs us → Vals (xs.drop n) (us.drop n)
  | _, _, 0, r => r
  | _, _, _ + 1, .nil => .nil
  | _, _, n + 1, .cons _ t => Vals.drop n t
def RelO : Option V → Option Value → Prop
  | some v, some u => RelV v u
  | none, none => True
  | _, _ => False
def KV {κ : Type} : List (κ × V) → List (κ × Value) → Prop := Paired fun (p : κ × V) (q : κ × Value) => p.1 = q.1 ∧ RelV p.2 q.2
def kV : Key → V
  | .inl i => .int i
  | .inr x => .str x
inductive HO where
  | lst (xs : List V)
  | tup (xs : List V)
  | dK (kvs : List (Key × V)) | dT (kvs : List (List Key × V))
  | set (S : Int → Bool) (n : Nat)
  | ins (C dx : Addr) (fs : List (Str × V))
  | own (x : Addr)
  | xd (fs : List (Str × V))
  | met (f x : Addr)
  | rng (lo hi : Int)
  | frz (o : Obj) (u : HO)
  | tbl (ps : Array Value)
  | ext (φ : Heap → Prop)
abbrev Hp := Addr → Option HO
def upd (H : Hp) (a : Addr) (o : HO) : Hp := fun b => if b = a then some o else H b
theorem upd_same {H : Hp} {a : Addr} {o : HO} : upd H a o a = some o := by unfold upd; rw [if_pos rfl]
theorem upd_ne {H : Hp} {a b : Addr} {o : HO} (h : b ≠ a) : upd H a o b = H b := by unfold upd; rw [if_neg h]
theorem ne_of_none {H : Hp} {a b : Addr} {o : HO} (h : H a = some o) (h' : H b = none) : a ≠ b := by
  intro e; subst e; rw [h] at h'; cases h'
section
variable (P : Program) (w : World)
def ObjOk (H : Hp) (h : Heap) (a : Addr) : HO → Prop
  | .lst xs => xs.length ≤ sizeLine ∧ ∃ (its : List Value) (n : Nat), Vals xs its ∧ h.get? a = some { cls := .type "list", data := .seq its.toArray n }
  | .tup xs => xs.length ≤ sizeLine ∧ ∃ its : List Value, Vals xs its ∧ IsTup h a its.toArray
  | .dK kvs => kvs.length ≤ sizeLine ∧ (a == sysModules) = false ∧ ∃ vs, KV kvs vs ∧ h.DictOf (mixKind P w) a vs
  | .dT kvs => kvs.length ≤ sizeLine ∧ (a == sysModules) = false ∧ ∃ xs : List (List Key × Addr × Value),
      Paired (fun (p : List Key × V) (q : List Key × Addr × Value) => p.1 = q.1 ∧ H q.2.1 = some (.tup (p.1.map kV)) ∧ RelV p.2 q.2.2) kvs xs ∧
      ∃ o es ep, h.get? a = some o ∧ o.ExactDict ∧ o.data = .dict es ep ∧ es.toList = xs.map (entryOfKey (tupleKind (mixKind P w))) ∧ (xs.map (·.1)).Nodup
  | .set S n => h.SetOf (intKind P w) a S n
  | .ins C dx fs => H dx = some (.own a) ∧ fs.length ≤ 1000 ∧ dx ≠ a ∧ h.get? a = some (PySem.W.instObj C dx) ∧
      ∃ mA, h.Ns1 dx mA ∧ (∀ f, RelO (fs.lookup f) (mA f)) ∧ PySem.Within mA (fs.map (·.1))
  | .own _ => ∃ o, h.get? a = some o
  | .xd fs => ∃ mA, h.Ns1 a mA ∧ ∀ f, RelO (fs.lookup f) (mA f)
  | .rng lo hi => ∃ t u v, h.get? a = some { cls := .type "range", data := .fields #[.int lo t, .int hi u, .int 1 v] }
  | .frz o u => h.get? a = some o ∧ ObjOk H h a u
  | .tbl ps => h.get? a = some { cls := .none, data := .fields ps }
  | .met f x => h.get? a = some (PySem.W.methodObj (.ref f) (.ref x))
  | .ext φ => φ h ∧ (∃ o, h.get? a = some o) ∧ ∀ h1 h2 : Heap, φ h1 → (∀ o, h1.get? a = some o → h2.get? a = some o) → φ h2
def HOk (H : Hp) (h : Heap) : Prop := ∀ a o, H a = some o → ObjOk P w H h a o
end
section
variable {P : Program} {w : World} {H H' : Hp} {h h' : Heap} {a : Addr} {o : HO}
theorem ObjOk.lt (x : ObjOk P w H h a o) : a < h.objs.size := by
  cases o with
  | lst xs => obtain ⟨_, _, _, _, e⟩ := x; exact Heap.lt_size e
  | tup xs => obtain ⟨_, _, _, p⟩ := x; exact p.lt
  | dK kvs => obtain ⟨_, _, _, _, o, _, _, e, _⟩ := x; exact Heap.lt_size e
  | dT kvs => obtain ⟨_, _, _, _, o, _, _, e, _⟩ := x; exact Heap.lt_size e
  | set S n => obtain ⟨o, _, _, _, e, _⟩ := x; exact Heap.lt_size e
  | ins C dx fs => obtain ⟨_, _, _, e, _⟩ := x; exact Heap.lt_size e
  | own y => obtain ⟨_, e⟩ := x; exact Heap.lt_size e
  | xd fs => obtain ⟨_, ⟨_, _, _, e, _⟩, _⟩ := x; exact Heap.lt_size e
  | rng lo hi => obtain ⟨_, _, _, e⟩ := x; exact Heap.lt_size e
  | frz ob u => obtain ⟨e, _⟩ := x; exact Heap.lt_size e
  | tbl ps => exact Heap.lt_size (show h.get? a = some _ from x)
  | met f y => exact Heap.lt_size (show h.get? a = some _ from x)
  | ext φ => obtain ⟨_, ⟨_, e⟩, _⟩ := x; exact Heap.lt_size e
theorem Paired.mapP {α β : Type} {F G : α → β → Prop} : ∀ {l₁ : List α} {l₂ : List β}, Paired F l₁ l₂ → (∀ a b, F a b → G a b) → Paired G l₁ l₂
  | _, _, .nil, _ => .nil
  | _, _, .cons r t, f => .cons (f _ _ r) (Paired.mapP t f)
theorem ObjOk.stay (x : ObjOk P w H h a o) (k : ∀ b u, (b = a ∨ H b = some (.own a)) → h.get? b = some u → h'.get? b = some u)
    (ho : ∀ b, H b = some (.own a) → H' b = some (.own a)) (ht : ∀ b xs, H b = some (.tup xs) → H' b = some (.tup xs)) : ObjOk P w H' h' a o := by
  induction o with
  | lst xs => obtain ⟨z, its, n, r, e⟩ := x; exact ⟨z, its, n, r, k _ _ (.inl rfl) e⟩
  | tup xs => obtain ⟨z, its, r, ob, e, c⟩ := x; exact ⟨z, its, r, ob, k _ _ (.inl rfl) e, c⟩
  | dK kvs => obtain ⟨z, y, vs, r, ob, es, ep, e, c⟩ := x; exact ⟨z, y, vs, r, ob, es, ep, k _ _ (.inl rfl) e, c⟩
  | dT kvs =>
    obtain ⟨z, y, xs, r, ob, es, ep, e, c⟩ := x
    exact ⟨z, y, xs, Paired.mapP r fun p q z => ⟨z.1, ht _ _ z.2.1, z.2.2⟩, ob, es, ep, k _ _ (.inl rfl) e, c⟩
  | set S n => obtain ⟨ob, es, ep, t, e, c⟩ := x; exact ⟨ob, es, ep, t, k _ _ (.inl rfl) e, c⟩
  | ins C dx fs =>
    obtain ⟨d, z, ne, e, mA, ⟨od, es, ep, e2, c⟩, r⟩ := x
    exact ⟨ho _ d, z, ne, k _ _ (.inl rfl) e, mA, ⟨od, es, ep, k _ _ (.inr d) e2, c⟩, r⟩
  | own y => obtain ⟨ob, e⟩ := x; exact ⟨ob, k _ _ (.inl rfl) e⟩
  | xd fs => obtain ⟨mA, ⟨od, es, ep, e, c⟩, r⟩ := x; exact ⟨mA, ⟨od, es, ep, k _ _ (.inl rfl) e, c⟩, r⟩
  | rng lo hi => obtain ⟨t, u, v, e⟩ := x; exact ⟨t, u, v, k _ _ (.inl rfl) e⟩
  | frz ob u ih => obtain ⟨e, q⟩ := x; exact ⟨k _ _ (.inl rfl) e, ih q⟩
  | tbl ps =>
    have e : h.get? a = some { cls := .none, data := .fields ps } := x
    show h'.get? a = some { cls := .none, data := .fields ps }
    exact k a _ (.inl rfl) e
  | met f y =>
    have e : h.get? a = some (PySem.W.methodObj (.ref f) (.ref y)) := x
    show h'.get? a = some (PySem.W.methodObj (.ref f) (.ref y))
    exact k a _ (.inl rfl) e
  | ext φ => obtain ⟨p, ⟨o, e⟩, st⟩ := x; exact ⟨st _ _ p fun o q => k _ _ (.inl rfl) q, ⟨o, k _ _ (.inl rfl) e⟩, st⟩
theorem HOk.lt (x : HOk P w H h) (e : H a = some o) : a < h.objs.size := (x a o e).lt
theorem HOk.fresh (x : HOk P w H h) (e : h.objs.size ≤ a) : H a = none := by
  cases q : H a with
  | none => rfl
  | some u => exact absurd (Nat.lt_of_lt_of_le (x.lt q) e) (Nat.lt_irrefl _)
theorem HOk.kept (x : HOk P w H h) (k : ∀ b u, h.get? b = some u → h'.get? b = some u) : HOk P w H h' := fun a o e =>
  (x a o e).stay (fun b u _ q => k b u q) (fun _ q => q) fun _ _ q => q
theorem HOk.laid (x : HOk P w H h) (k : ∀ b u, h.get? b = some u → h'.get? b = some u) (hp : h.objs.size ≤ a) (new : ObjOk P w (upd H a o) h' a o) : HOk P w (upd H a o) h' := fun b u e => by
  have hn := x.fresh hp
  by_cases hb : b = a
  · subst hb; rw [upd_same] at e; cases e; exact new
  · rw [upd_ne hb] at e
    exact (x b u e).stay (fun c v _ q => k c v q) (fun c q => by rw [upd_ne (ne_of_none q hn)]; exact q) fun c xs q => by rw [upd_ne (ne_of_none q hn)]; exact q
end
def Rd (H : Hp) (a : Addr) (u : HO) : Prop := H a = some u ∨ ∃ o, H a = some (.frz o u)
theorem Rd.of {H : Hp} {a : Addr} {u : HO} (h : H a = some u) : Rd H a u := .inl h
theorem Rd.ok {P : Program} {w : World} {H : Hp} {h : Heap} {a : Addr} {u : HO} (r : Rd H a u) (x : HOk P w H h) : ObjOk P w H h a u := by
  rcases r with r | ⟨o, r⟩
  · exact x a u r
  · obtain ⟨_, q⟩ := x a _ r
    exact q
def Mut : Option HO → Prop
  | some (.lst _) => True
  | some (.dK _) => True
  | some (.dT _) => True
  | some (.set _ _) => True
  | some (.ins _ _ _) => True
  | some (.ext _) => True
  | _ => False
section
variable {P : Program} {w : World} {H : Hp} {h h' : Heap} {x e : Addr} {o' : HO}
theorem HOk.write (ok : HOk P w H h) (mu : Mut (H x)) (he : e = x ∨ H e = some (.own x)) (k : ∀ b u, b ≠ e → h.get? b = some u → h'.get? b = some u) (heo : ∃ u, h'.get? e = some u)
    (new : ObjOk P w (upd H x o') h' x o') : HOk P w (upd H x o') h' := fun b u q => by
  have nown : ∀ c y, H c = some (.own y) → c ≠ x := fun c y r z => by subst z; rw [r] at mu; exact mu
  have ntup : ∀ c xs, H c = some (.tup xs) → c ≠ x := fun c xs r z => by subst z; rw [r] at mu; exact mu
  by_cases hb : b = x
  · subst hb; rw [upd_same] at q; cases q; exact new
  · rw [upd_ne hb] at q
    by_cases hbe : b = e
    · have q' : H b = some (.own x) := by
        rcases he with z | z
        · exact absurd (hbe.trans z) hb
        · rw [hbe]; exact z
      rw [q] at q'; cases q'
      obtain ⟨v, hv⟩ := heo
      exact ⟨v, by rw [hbe]; exact hv⟩
    · refine (ok b u q).stay (fun c v hc r => k c v ?_ r) (fun c r => by rw [upd_ne (nown c b r)]; exact r) fun c xs r => by rw [upd_ne (ntup c xs r)]; exact r
      rcases hc with rfl | hc
      · exact hbe
      · rintro rfl
        rcases he with z | z
        · exact nown c b hc z
        · rw [hc] at z; cases z; exact hb rfl
end
structure Un (fs ex : List Addr) (H H' : Hp) (h h' : Heap) : Prop where
  keep : ∀ b o, h.get? b = some o → H b = none → b ∉ fs → b ∉ ex → h'.get? b = some o
  slot : ∀ b o, h.get? b = some o → H b = none → b ∈ fs → b ∉ ex → ∃ sl, h'.get? b = some { o with slots := sl }
  free : ∀ b o, h.get? b = some o → H b = none → b ∉ ex → H' b = none
  there : ∀ b o, h.get? b = some o → b ∉ ex → ∃ o', h'.get? b = some o'
  tups : ∀ b xs, H b = some (.tup xs) → H' b = some (.tup xs)
  frzs : ∀ b o u, H b = some (.frz o u) → H' b = some (.frz o u)
  tbls : ∀ b ps, H b = some (.tbl ps) → ∃ more, H' b = some (.tbl (ps ++ more))
section
variable {fs fs' ex ex' : List Addr} {H H1 H2 : Hp} {h h1 h2 h' : Heap} {a x e : Addr} {o : HO}
theorem Un.any (u : Un fs ex H H1 h h1) {b : Addr} {ob : Obj} (q : h.get? b = some ob) (n : H b = none) (hx : b ∉ ex) : ∃ sl, h1.get? b = some { ob with slots := sl } := by
  by_cases hb : b ∈ fs
  · exact u.slot b ob q n hb hx
  · exact ⟨ob.slots, u.keep b ob q n hb hx⟩
theorem Un.trans (a : Un fs ex H H1 h h1) (b : Un fs ex H1 H2 h1 h2) : Un fs ex H H2 h h2 where
  keep := fun c ob q n hc hx => b.keep c ob (a.keep c ob q n hc hx) (a.free c ob q n hx) hc hx
  slot := fun c ob q n hc hx => by
    obtain ⟨sl, e1⟩ := a.slot c ob q n hc hx
    obtain ⟨sl', e2⟩ := b.slot c _ e1 (a.free c ob q n hx) hc hx
    exact ⟨sl', e2⟩
  free := fun c ob q n hx => by
    obtain ⟨o', e1⟩ := a.there c ob q hx
    exact b.free c o' e1 (a.free c ob q n hx) hx
  there := fun c ob q hx => by
    obtain ⟨o', e1⟩ := a.there c ob q hx
    exact b.there c o' e1 hx
  tups := fun c xs q => b.tups c xs (a.tups c xs q)
  frzs := fun c ob xs q => b.frzs c ob xs (a.frzs c ob xs q)
  tbls := fun c ps q => by
    obtain ⟨m1, e1⟩ := a.tbls c ps q
    obtain ⟨m2, e2⟩ := b.tbls c _ e1
    exact ⟨m1 ++ m2, by rw [e2, Array.append_assoc]⟩
theorem Un.kept (k : ∀ b u, h.get? b = some u → h'.get? b = some u) : Un fs ex H H h h' :=
  ⟨fun b ob q _ _ _ => k b ob q, fun b ob q _ _ _ => ⟨ob.slots, k b ob q⟩, fun _ _ _ n _ => n, fun b ob q _ => ⟨ob, k b ob q⟩, fun _ _ q => q, fun _ _ _ q => q, fun _ ps q => ⟨#[], by rw [q]; simp⟩⟩
theorem Un.refl : Un fs ex H H h h := Un.kept fun _ _ q => q
theorem Un.laid (k : ∀ b u, h.get? b = some u → h'.get? b = some u) (hp : h.objs.size ≤ a) (hn : H a = none) : Un fs ex H (upd H a o) h h' where
  keep := fun b u q _ _ _ => k b u q
  slot := fun b u q _ _ _ => ⟨u.slots, k b u q⟩
  free := fun b u q n _ => by rw [upd_ne (Nat.ne_of_lt (Nat.lt_of_lt_of_le (Heap.lt_size q) hp))]; exact n
  there := fun b u q _ => ⟨u, k b u q⟩
  tups := fun b xs q => by rw [upd_ne (ne_of_none q hn)]; exact q
  frzs := fun b u xs q => by rw [upd_ne (ne_of_none q hn)]; exact q
  tbls := fun b ps q => ⟨#[], by rw [upd_ne (ne_of_none q hn), q]; simp⟩
theorem Un.write (mu : Mut (H x)) (he : e = x ∨ H e = some (.own x)) (k : ∀ b u, b ≠ e → h.get? b = some u → h'.get? b = some u) (heo : ∃ u, h'.get? e = some u) : Un fs ex H (upd H x o) h h' := by
  have hx : ∀ b, H b = none → b ≠ x := fun b n z => by subst z; rw [n] at mu; exact mu
  have hb : ∀ b, H b = none → b ≠ e := fun b n z => by
    subst z
    rcases he with r | r
    · exact hx b n r
    · rw [n] at r; cases r
  have hm : ∀ b u, H b = some u → ¬ Mut (some u) → b ≠ x := fun b u q nm z => by subst z; rw [q] at mu; exact nm mu
  refine ⟨fun b u q n _ _ => k b u (hb b n) q, fun b u q n _ _ => ⟨u.slots, k b u (hb b n) q⟩, fun b u q n _ => by rw [upd_ne (hx b n)]; exact n, fun b u q _ => ?_,
    fun b xs q => by rw [upd_ne (hm b _ q fun z => z)]; exact q, fun b u xs q => by rw [upd_ne (hm b _ q fun z => z)]; exact q, fun b ps q => ⟨#[], by rw [upd_ne (hm b _ q fun z => z), q]; simp⟩⟩
  by_cases hbe : b = e
  · subst hbe; exact heo
  · exact ⟨u, k b u hbe q⟩
theorem Un.mono (u : Un fs ex H H1 h h1) (hs : ∀ b ∈ fs, b ∈ fs') (hx : ∀ b ∈ ex, b ∈ ex') : Un fs' ex' H H1 h h1 :=
  ⟨fun b ob q n hb he => u.keep b ob q n (fun z => hb (hs b z)) fun z => he (hx b z), fun _ _ q n _ he => u.any q n fun z => he (hx _ z), fun b ob q n he => u.free b ob q n fun z => he (hx b z), fun b ob q he => u.there b ob q fun z => he (hx b z), u.tups, u.frzs, u.tbls⟩
end
def trk (h : Heap) (H : Hp) : List Addr := (List.range h.objs.size).filter fun a => (H a).isSome
def hidT (h : Heap) (H : Hp) : Heap := PySem.W.hideAll h (trk h H)
theorem hidT_size (h : Heap) (H : Hp) : (hidT h H).objs.size = h.objs.size := PySem.W.hideAll_size _ _
theorem hidT_get {h : Heap} {H : Hp} {b : Addr} {o : Obj} (e : h.get? b = some o) (n : H b = none) : (hidT h H).get? b = some o :=
  PySem.W.hideAll_get _ e fun hm => by
    have q : (H b).isSome = true := (List.mem_filter.mp hm).2
    rw [n] at q; simp at q
theorem of_hidT {h : Heap} {H : Hp} {b : Addr} {o : Obj} (e : (hidT h H).get? b = some o) : h.get? b = some o ∧ H b = none := by
  have e' : h.get? b = some o := PySem.W.of_hideAll (trk h H) e
  refine ⟨e', ?_⟩
  cases q : H b with
  | none => rfl
  | some x =>
    have hm : b ∈ trk h H := List.mem_filter.mpr ⟨List.mem_range.mpr (Heap.lt_size e'), by simp [q]⟩
    have z : (hidT h H).get? b = none := PySem.W.hideAll_none (trk h H) hm
    rw [z] at e; cases e
def allNews (g h : Heap) (L : Addr) : List (Addr × Obj) := (List.range h.objs.size).filterMap fun a => if a = L ∨ (g.get? a).isSome = true then none else (h.get? a).map fun o => (a, o)
def rest (g h : Heap) (L d : Addr) : List (Addr × Obj) := (allNews g h L).filter fun p => decide (p.1 ≠ d)
end L2
namespace L2
open PySem PySem.Spec PyProof.Rows
structure Mod (K : PySem.W.Frag) (mg : Str → Option Value) (base : Heap) : Prop where
  kin : K.In base
  glob : base.Ns mainGlobals mg
  blt : ∃ mb, base.Ns builtinsNs mb ∧ ∀ x : Str, x ≠ "__name__" → mb x = bootBuiltins x
  nolimit : base.NoLimit
structure Cx where
  prog : Program
  w : World
  K : PySem.W.Frag
  mg : Str → Option Value
  base : Heap
  A : Around
  N : List Str
  s₀ : Shared
  H₀ : Hp
  env : Env
  outer : List Env
  stack : List Env
  ex : List Addr
  fn : Str → Bool
  calm : Bool
  pn : List (Addr × Obj)
  xe : Value → Shared → Prop
def frs (l : List Env) : List Addr := l.filterMap (·.frame)
abbrev Cx.fs (X : Cx) : List Addr := frs X.outer
def Vis (sc : Scope) (x : Str) : Prop := sc.names.lookup x = some .local ∨ sc.names.lookup x = some .cell ∨ sc.names.lookup x = some .free
def Loc (sc : Scope) (x : Str) : Prop := sc.names.lookup x = some .local ∨ sc.names.lookup x = some .cell
def Look (env : Env) (h : Heap) (m : Str → Option Value) (x : Str) (u : Value) : Prop :=
  (env.kindOf x = some .local ∧ m x = some u) ∨ ((env.kindOf x = some .cell ∨ env.kindOf x = some .free) ∧ ∃ c, env.cells.lookup x = some c ∧ h.IsCell c (some u))
structure Cx.Ok (X : Cx) : Prop where
  mod : Mod X.K X.mg X.base
  kind : X.env.scope.kind = .function
  glob : X.env.globals = mainGlobals
  blt : X.env.builtins = builtinsNs
  above : X.s₀.heap.objs.size ≤ X.env.locals
  inj : ∀ x y c, X.env.cells.lookup x = some c → X.env.cells.lookup y = some c → x = y
  has : ∀ x, (X.env.kindOf x = some .cell ∨ X.env.kindOf x = some .free) → ∃ c, X.env.cells.lookup x = some c
  cab : ∀ x c, X.fn x = true → X.env.cells.lookup x = some c → X.s₀.heap.objs.size ≤ c
  hd : X.calm = true → X.A.handled = none
  frames : X.A.frames = some X.stack
  stk : X.stack = X.outer ∨ (X.stack = X.env :: X.outer ∧ X.env.frame = some X.env.locals)
  exf : ∀ b ∈ X.ex, b ≠ X.env.locals ∧ ∀ x c, X.env.cells.lookup x = some c → c ≠ b
  bs : ∀ b o, X.base.get? b = some o → X.s₀.heap.get? b = some o ∧ X.H₀ b = none
  bsz : X.base.objs.size ≤ X.s₀.heap.objs.size
  noex : ∀ b o, X.base.get? b = some o → b ∉ X.ex
  exfs : ∀ b ∈ X.ex, b ∉ X.fs
  funs : X.s₀.heap.FunFrames X.base X.outer
  frf : ∀ b ∈ X.fs, X.H₀ b = none
structure Inv (X : Cx) (pins : List (Addr × Obj)) (σ : List (Option V)) (H : Hp) (s : Shared) : Prop where
  ok : X.Ok
  os : s.os = X.s₀.os
  bare : AllBare s.gens
  base : Un X.fs X.ex X.H₀ H X.s₀.heap s.heap
  loc : ∃ m, s.heap.Ns X.env.locals m ∧ ∀ (i : Nat) (x : Str) (v : V), X.N[i]? = some x → σ[i]? = some (some v) → Vis X.env.scope x → ∃ u, RelV v u ∧ Look X.env s.heap m x u
  cell : ∀ x c, X.env.cells.lookup x = some c → ∃ v, s.heap.IsCell c v
  free : H X.env.locals = none
  freeC : ∀ x c, X.env.cells.lookup x = some c → H c = none
  pin : ∀ p ∈ X.pn ++ pins, s.heap.get? p.1 = some p.2 ∧ H p.1 = none ∧ p.1 ≠ X.env.locals ∧ p.1 ∉ X.fs ∧ ∀ v, p.2.data ≠ .cell v
  hok : HOk X.prog X.w H s.heap
  len : σ.length = X.N.length
section
variable {X : Cx} {pins : List (Addr × Obj)} {σ : List (Option V)} {H H' : Hp} {s : Shared} {h' : Heap}
theorem Cx.Ok.nofr (ok : X.Ok) {b : Addr} {o : Obj} (e : X.base.get? b = some o) : b ∉ X.fs := fun hb => by
  have := (ok.funs.mem hb).1
  rw [e] at this; cases this
theorem Inv.bs (I : Inv X pins σ H s) : ∀ b o, X.base.get? b = some o → s.heap.get? b = some o ∧ H b = none := fun b o e =>
  ⟨I.base.keep b o (I.ok.bs b o e).1 (I.ok.bs b o e).2 (I.ok.nofr e) (I.ok.noex b o e), I.base.free b o (I.ok.bs b o e).1 (I.ok.bs b o e).2 (I.ok.noex b o e)⟩
theorem Inv.bk (I : Inv X pins σ H s) : ∀ b o, X.base.get? b = some o → s.heap.get? b = some o := fun b o e => (I.bs b o e).1
theorem Inv.mod (I : Inv X pins σ H s) : Mod X.K X.mg X.base := I.ok.mod
theorem Inv.kIn (I : Inv X pins σ H s) : X.K.In s.heap := I.ok.mod.kin.keeps I.bk
theorem Inv.nolimit (I : Inv X pins σ H s) : s.heap.NoLimit := I.ok.mod.nolimit.keeps I.bk
theorem Inv.fr (I : Inv X pins σ H s) : ∃ m, Fr X.base X.env.locals s.heap m :=
  let ⟨m, hn, _⟩ := I.loc
  ⟨m, hn, I.bk, Nat.le_trans I.ok.bsz I.ok.above⟩
theorem Inv.lt (I : Inv X pins σ H s) : X.env.locals < s.heap.objs.size := let ⟨_, hn, _⟩ := I.loc; hn.lt
theorem Inv.sz (I : Inv X pins σ H s) : X.s₀.heap.objs.size ≤ s.heap.objs.size := Nat.le_trans I.ok.above (Nat.le_of_lt I.lt)
theorem Inv.nofs (I : Inv X pins σ H s) {a : Addr} (h : s.heap.objs.size ≤ a) : a ∉ X.fs := fun hb => by
  obtain ⟨_, o, ho, _⟩ := I.ok.funs.mem hb
  exact absurd (Nat.lt_of_lt_of_le (Heap.lt_size ho) (Nat.le_trans I.sz h)) (Nat.lt_irrefl _)
theorem Inv.cne (I : Inv X pins σ H s) : ∀ x c, X.env.cells.lookup x = some c → c ≠ X.env.locals := fun x c e z => by
  obtain ⟨v, o, ho, hd⟩ := I.cell x c e
  obtain ⟨m, ⟨o', es, ep, ho', hd', _⟩, _⟩ := I.loc
  rw [z, ho'] at ho; cases ho; rw [hd'] at hd; cases hd
theorem Inv.funs (I : Inv X pins σ H s) : s.heap.FunFrames X.base X.outer := by
  have all : ∀ (l : List Env), (∀ b ∈ frs l, b ∈ X.fs) → X.s₀.heap.FunFrames X.base l → s.heap.FunFrames X.base l := by
    intro l
    induction l with
    | nil => intro _ _; trivial
    | cons env r ih =>
      intro hs hl
      obtain ⟨hk, ⟨L, o, hf, hn, ho, hd⟩, hr⟩ := hl
      have hL : L ∈ X.fs := hs L (by unfold frs; rw [List.filterMap_cons, hf]; exact List.mem_cons_self)
      obtain ⟨sl, e⟩ := I.base.slot L o ho (I.ok.frf L hL) hL fun z => I.ok.exfs L z hL
      exact ⟨hk, ⟨L, _, hf, hn, e, hd⟩, ih (fun b hb => hs b (by unfold frs; rw [List.filterMap_cons, hf]; exact List.mem_cons_of_mem _ hb)) hr⟩
  exact all X.outer (fun _ hb => hb) I.ok.funs
theorem Inv.stack (I : Inv X pins σ H s) : s.heap.FunFrames X.base X.stack := by
  rcases I.ok.stk with e | ⟨e, hf⟩
  · rw [e]; exact I.funs
  · rw [e]
    obtain ⟨m, hn, _⟩ := I.loc
    refine .cons (by rw [I.ok.kind]; decide) hf hn ?_ I.funs
    exact Heap.get?_none_of_le (Nat.le_trans I.ok.bsz I.ok.above)
theorem Inv.stkSub (I : Inv X pins σ H s) : ∀ b ∈ frs X.stack, b ∈ X.env.locals :: X.fs := fun b hb => by
  rcases I.ok.stk with e | ⟨e, hf⟩
  · rw [e] at hb; exact List.mem_cons_of_mem _ hb
  · rw [e] at hb
    unfold frs at hb
    rw [List.filterMap_cons, hf] at hb
    exact hb
theorem Inv.stkFree (I : Inv X pins σ H s) : ∀ b ∈ frs X.stack, H b = none := fun b hb => by
  rcases List.mem_cons.mp (I.stkSub b hb) with e | hb
  · rw [e]; exact I.free
  · obtain ⟨_, o, ho, _⟩ := I.ok.funs.mem hb
    exact I.base.free b o ho (I.ok.frf b hb) fun z => I.ok.exfs b z hb
theorem Inv.step {g' : Array GenState} {t' : Nat} {d' : Drawn} {ch : List Addr} (I : Inv X pins σ H s)
    (hch : ∀ b ∈ ch, (b ∈ X.ex ∨ X.s₀.heap.objs.size ≤ b) ∧ b ≠ X.env.locals ∧ (∀ x c, X.env.cells.lookup x = some c → c ≠ b) ∧ ∀ p ∈ X.pn ++ pins, p.1 ≠ b)
    (keep : ∀ b o, b ≠ X.env.locals → b ∉ X.fs → b ∉ ch → s.heap.get? b = some o → H b = none → h'.get? b = some o)
    (slot : ∀ b o, b ≠ X.env.locals → b ∈ X.fs → b ∉ ch → s.heap.get? b = some o → H b = none → ∃ sl, h'.get? b = some { o with slots := sl }) (free : ∀ b o, b ∉ ch → s.heap.get? b = some o → H b = none → H' b = none)
    (there : ∀ b o, b ∉ ch → s.heap.get? b = some o → ∃ o', h'.get? b = some o')
    (tups : ∀ b xs, H b = some (.tup xs) → H' b = some (.tup xs)) (frzs : ∀ b o u, H b = some (.frz o u) → H' b = some (.frz o u)) (tbls : ∀ b ps, H b = some (.tbl ps) → ∃ more, H' b = some (.tbl (ps ++ more)))
    (ns : ∀ m, s.heap.Ns X.env.locals m → h'.Ns X.env.locals m) (hok : HOk X.prog X.w H' h') (hg : AllBare g') :
    Inv X pins σ H' { s with heap := h', gens := g', drawn := d', toks := t' } := by
  have neL : ∀ b o, X.s₀.heap.get? b = some o → b ≠ X.env.locals := fun b o e => Nat.ne_of_lt (Nat.lt_of_lt_of_le (Heap.lt_size e) I.ok.above)
  have neC : ∀ b o, X.s₀.heap.get? b = some o → b ∉ X.ex → b ∉ ch := fun b o e hx hb => by
    rcases (hch b hb).1 with z | z
    · exact hx z
    · exact absurd (Nat.lt_of_lt_of_le (Heap.lt_size e) z) (Nat.lt_irrefl _)
  have cellK : ∀ x c, X.env.cells.lookup x = some c → ∀ v, s.heap.IsCell c v → h'.IsCell c v := fun x c e v ⟨o, ho, hd⟩ => by
    have nch : c ∉ ch := fun z => (hch c z).2.2.1 x c e rfl
    by_cases hc : c ∈ X.fs
    · obtain ⟨sl, q⟩ := slot c o (I.cne x c e) hc nch ho (I.freeC x c e)
      exact ⟨_, q, hd⟩
    · exact ⟨o, keep c o (I.cne x c e) hc nch ho (I.freeC x c e), hd⟩
  refine ⟨I.ok, I.os, hg, ⟨fun b o e n hb hx => ?_, fun b o e n hb hx => ?_, fun b o e n hx => ?_, fun b o e hx => ?_, fun b xs e => tups b xs (I.base.tups b xs e), fun b o xs e => frzs b o xs (I.base.frzs b o xs e), fun b ps e => ?_⟩, ?_, fun x c e => ?_, ?_, fun x c e => ?_, fun p hp => ?_, hok, I.len⟩
  · exact keep b o (neL b o e) hb (neC b o e hx) (I.base.keep b o e n hb hx) (I.base.free b o e n hx)
  · obtain ⟨sl, e1⟩ := I.base.slot b o e n hb hx
    obtain ⟨sl', e2⟩ := slot b _ (neL b o e) hb (neC b o e hx) e1 (I.base.free b o e n hx)
    exact ⟨sl', e2⟩
  · obtain ⟨o', e1⟩ := I.base.there b o e hx
    exact free b o' (neC b o e hx) e1 (I.base.free b o e n hx)
  · obtain ⟨o', e1⟩ := I.base.there b o e hx
    exact there b o' (neC b o e hx) e1
  · obtain ⟨m1, e1⟩ := I.base.tbls b ps e
    obtain ⟨m2, e2⟩ := tbls b _ e1
    exact ⟨m1 ++ m2, by rw [e2, Array.append_assoc]⟩
  · obtain ⟨m, hn, hl⟩ := I.loc
    refine ⟨m, ns m hn, fun i x v e1 e2 e3 => ?_⟩
    obtain ⟨u, r, l⟩ := hl i x v e1 e2 e3
    refine ⟨u, r, ?_⟩
    rcases l with l | ⟨k, c, e, z⟩
    · exact .inl l
    · exact .inr ⟨k, c, e, cellK x c e _ z⟩
  · obtain ⟨v, z⟩ := I.cell x c e
    exact ⟨v, cellK x c e v z⟩
  · obtain ⟨m, ⟨o, _, _, ho, _⟩, _⟩ := I.loc
    exact free _ o (fun z => (hch _ z).2.1 rfl) ho I.free
  · obtain ⟨v, o, ho, hd⟩ := I.cell x c e
    exact free c o (fun z => (hch c z).2.2.1 x c e rfl) ho (I.freeC x c e)
  · obtain ⟨e, n, ne, nf, d⟩ := I.pin p hp
    have nch : p.1 ∉ ch := fun z => (hch p.1 z).2.2.2 p hp rfl
    exact ⟨keep p.1 p.2 ne nf nch e n, free p.1 p.2 nch e n, ne, nf, d⟩
theorem Inv.un {t' : Nat} (I : Inv X pins σ H s) (u : Un X.fs [] H H' s.heap h') (hok : HOk X.prog X.w H' h') : Inv X pins σ H' { s with heap := h', toks := t' } := by
  obtain ⟨m, ⟨o, es, ep, ho, r⟩, _⟩ := id I.loc
  obtain ⟨sl, hL⟩ := u.any ho I.free (by simp)
  exact I.step (g' := s.gens) (d' := s.drawn) (ch := []) (fun _ z => nomatch z) (fun b o _ hb _ e n => u.keep b o e n hb (by simp)) (fun b o _ hb _ e n => u.slot b o e n hb (by simp)) (fun b o _ e n => u.free b o e n (by simp)) (fun b o _ e => u.there b o e (by simp)) u.tups u.frzs u.tbls (fun m' hm => by
    obtain ⟨o', es', ep', ho', r'⟩ := hm
    rw [ho] at ho'; cases ho'
    exact ⟨_, es', ep', hL, r'⟩) hok I.bare
theorem Inv.call {g' : Array GenState} {t' : Nat} {d' : Drawn} {ch : List Addr} (I : Inv X pins σ H s) (u : Un (frs X.stack) ch H H' s.heap h') (hok : HOk X.prog X.w H' h') (hg : AllBare g')
    (hch : ∀ b ∈ ch, (b ∈ X.ex ∨ X.s₀.heap.objs.size ≤ b) ∧ b ≠ X.env.locals ∧ (∀ x c, X.env.cells.lookup x = some c → c ≠ b) ∧ ∀ p ∈ X.pn ++ pins, p.1 ≠ b) :
    Inv X pins σ H' { s with heap := h', gens := g', drawn := d', toks := t' } := by
  obtain ⟨m, ⟨o, es, ep, ho, r⟩, _⟩ := id I.loc
  obtain ⟨sl, hL⟩ := u.any ho I.free fun z => (hch _ z).2.1 rfl
  exact I.step (ch := ch) hch (fun b o hL hb hc e n => u.keep b o e n (fun z => (List.mem_cons.mp (I.stkSub b z)).elim hL hb) hc) (fun b o _ _ hc e n => u.any e n hc) (fun b o hc e n => u.free b o e n hc) (fun b o hc e => u.there b o e hc) u.tups u.frzs u.tbls (fun m' hm => by
    obtain ⟨o', es', ep', ho', r'⟩ := hm
    rw [ho] at ho'; cases ho'
    exact ⟨_, es', ep', hL, r'⟩) hok hg
theorem Inv.turned {t' : Nat} {it : Addr} (I : Inv X pins σ H s) (k : ∀ b o, b ≠ it → s.heap.get? b = some o → h'.get? b = some o) (hn : H it = none) (hL : it ≠ X.env.locals)
    (h1 : it ∈ X.ex ∨ X.s₀.heap.objs.size ≤ it) (h2 : ∀ x c, X.env.cells.lookup x = some c → c ≠ it) (h3 : ∀ p ∈ X.pn ++ pins, p.1 ≠ it) : Inv X pins σ H { s with heap := h', toks := t' } := by
  have nit : ∀ b u, H b = some u → b ≠ it := fun b u e z => by rw [z, hn] at e; cases e
  refine I.step (g' := s.gens) (d' := s.drawn) (ch := [it]) (fun b hb => ?_) (fun b o _ _ hc e _ => k b o (fun z => hc (by simp [z])) e) (fun b o _ _ hc e _ => ⟨o.slots, k b o (fun z => hc (by simp [z])) e⟩) (fun _ _ _ _ n => n)
    (fun b o hc e => ⟨o, k b o (fun z => hc (by simp [z])) e⟩) (fun _ _ e => e) (fun _ _ _ e => e) (fun b ps e => ⟨#[], by rw [e]; simp⟩) (fun m hm => ?_) (fun b u e => ?_) I.bare
  · have e : b = it := by simpa using hb
    subst e
    exact ⟨h1, hL, h2, h3⟩
  · obtain ⟨o, es, ep, ho, r⟩ := hm
    exact ⟨o, es, ep, k _ o (Ne.symm hL) ho, r⟩
  · refine (I.hok b u e).stay (fun c v hc q => k c v ?_ q) (fun _ q => q) fun _ _ q => q
    rcases hc with z | z
    · rw [z]; exact nit b u e
    · exact nit c _ z
theorem Inv.tok (I : Inv X pins σ H s) (t : Nat) : Inv X pins σ H { s with toks := t } := I.un (h' := s.heap) (t' := t) Un.refl I.hok
theorem Inv.kept {t' : Nat} (I : Inv X pins σ H s) (k : ∀ b u, s.heap.get? b = some u → h'.get? b = some u) : Inv X pins σ H { s with heap := h', toks := t' } := I.un (Un.kept k) (I.hok.kept k)
theorem Inv.laid {a : Addr} {o : HO} {t' : Nat} (I : Inv X pins σ H s) (k : ∀ b u, s.heap.get? b = some u → h'.get? b = some u) (hp : s.heap.objs.size ≤ a) (new : ObjOk X.prog X.w (upd H a o) h' a o) :
    Inv X pins σ (upd H a o) { s with heap := h', toks := t' } := I.un (Un.laid k hp (I.hok.fresh hp)) (I.hok.laid k hp new)
theorem Inv.write {x e : Addr} {o : HO} {t' : Nat} (I : Inv X pins σ H s) (mu : Mut (H x)) (he : e = x ∨ H e = some (.own x)) (k : ∀ b u, b ≠ e → s.heap.get? b = some u → h'.get? b = some u) (heo : ∃ u, h'.get? e = some u)
    (new : ObjOk X.prog X.w (upd H x o) h' x o) : Inv X pins σ (upd H x o) { s with heap := h', toks := t' } := I.un (Un.write mu he k heo) (I.hok.write mu he k heo new)
theorem Inv.weak {σ' : List (Option V)} (I : Inv X pins σ H s) (hl : σ'.length = σ.length) (w : ∀ (i : Nat) v, σ'[i]? = some (some v) → σ[i]? = some (some v)) : Inv X pins σ' H s :=
  ⟨I.ok, I.os, I.bare, I.base, let ⟨m, hn, hl'⟩ := I.loc; ⟨m, hn, fun i x v e1 e2 e3 => hl' i x v e1 (w i v e2) e3⟩, I.cell, I.free, I.freeC, I.pin, I.hok, hl.trans I.len⟩
theorem Inv.pins_of {pins' : List (Addr × Obj)} (I : Inv X pins σ H s) (h : ∀ p ∈ pins', s.heap.get? p.1 = some p.2 ∧ H p.1 = none ∧ p.1 ≠ X.env.locals ∧ p.1 ∉ X.fs ∧ ∀ v, p.2.data ≠ .cell v) : Inv X pins' σ H s :=
  ⟨I.ok, I.os, I.bare, I.base, I.loc, I.cell, I.free, I.freeC, fun p hp => (List.mem_append.mp hp).elim (fun z => I.pin p (List.mem_append_left _ z)) (h p), I.hok, I.len⟩
theorem nodup_ix {N : List Str} (hN : N.Nodup) {i j : Nat} {x : Str} (a : N[i]? = some x) (b : N[j]? = some x) : i = j := by
  obtain ⟨h1, e1⟩ := List.getElem?_eq_some_iff.mp a
  obtain ⟨h2, e2⟩ := List.getElem?_eq_some_iff.mp b
  exact (List.getElem_inj hN).mp (e1.trans e2.symm)
theorem store_ok2 {M : Model} {A : Around} {E : Value → Shared → Prop} {i : Nat} {x : Str} {v : V} {u : Value} {Q : Unit → Shared → Prop} (I : Inv X pins σ H s) (hN : X.N.Nodup) (hi : X.N[i]? = some x) (hx : Loc X.env.scope x) (r : RelV v u)
    (h : ∀ s', Inv X pins (σ.set i (some v)) H s' → (∃ a, Heap.SameBut a s.heap s'.heap ∧ (a = X.env.locals ∨ X.env.cells.lookup x = some a)) → Q () s') (hf : X.fn x = true ∨ X.env.scope.names.lookup x = some .local := by first | exact .inl rfl | exact .inr rfl | assumption) : wpAny M A (storeName X.env x u) Q E s := by
  obtain ⟨m, hn, hl⟩ := id I.loc
  have hcls : (X.env.scope.kind == .class || (X.env.scope.kind == .module && X.env.locals != X.env.globals)) = false := by rw [I.ok.kind]; rfl
  have hiσ : i < σ.length := by rw [I.len]; exact (List.getElem?_eq_some_iff.mp hi).1
  have cne := I.cne
  have tracked : ∀ {a : Addr} {h' : Heap}, (∃ o, s.heap.get? a = some o ∧ H a = none) → Heap.SameBut a s.heap h' → HOk X.prog X.w H h' := fun {a h'} ha hs b ob e => by
    obtain ⟨_, _, hfree⟩ := ha
    refine (I.hok b ob e).stay (fun c w' hc q => (hs.2 c ?_).trans q) (fun _ q => q) fun _ _ q => q
    rintro rfl
    rcases hc with rfl | hc
    · rw [hfree] at e; cases e
    · rw [hfree] at hc; cases hc
  rcases hx with hk | hk
  · refine wpAny_storeName_local hk hn (fun h' hn' hs => ?_) hcls
    obtain ⟨oL, _, _, hoL, _⟩ := id hn
    refine h _ ⟨I.ok, I.os, I.bare, ⟨fun b o e n hb hx => ?_, fun b o e n hb hx => ?_, I.base.free, fun b o e hx => ?_, I.base.tups, I.base.frzs, I.base.tbls⟩, ⟨_, hn', fun j y v' e1 e2 e3 => ?_⟩, fun y c e => ?_, I.free, I.freeC, fun p hp => ?_, tracked ⟨oL, hoL, I.free⟩ hs, by simpa using I.len⟩ ⟨_, hs, .inl rfl⟩
    · exact (hs.2 b (Nat.ne_of_lt (Nat.lt_of_lt_of_le (Heap.lt_size e) I.ok.above))).trans (I.base.keep b o e n hb hx)
    · obtain ⟨sl, e1⟩ := I.base.slot b o e n hb hx
      exact ⟨sl, (hs.2 b (Nat.ne_of_lt (Nat.lt_of_lt_of_le (Heap.lt_size e) I.ok.above))).trans e1⟩
    · obtain ⟨o', e1⟩ := I.base.there b o e hx
      exact ⟨o', (hs.2 b (Nat.ne_of_lt (Nat.lt_of_lt_of_le (Heap.lt_size e) I.ok.above))).trans e1⟩
    · by_cases hj : j = i
      · subst hj
        rw [hi] at e1; cases e1
        rw [List.getElem?_set_self hiσ] at e2
        cases e2
        exact ⟨u, r, .inl ⟨hk, by simp⟩⟩
      · rw [List.getElem?_set_ne (Ne.symm hj)] at e2
        obtain ⟨u', r', q⟩ := hl j y v' e1 e2 e3
        refine ⟨u', r', ?_⟩
        rcases q with ⟨k, e⟩ | ⟨k, c, e, z⟩
        · refine .inl ⟨k, ?_⟩
          have : y ≠ x := fun e => hj (nodup_ix hN e1 (e ▸ hi))
          simp [this, e]
        · exact .inr ⟨k, c, e, z.sameBut hs (cne y c e)⟩
    · obtain ⟨w', z⟩ := I.cell y c e
      exact ⟨w', z.sameBut hs (cne y c e)⟩
    · obtain ⟨e, n, ne, nf, d⟩ := I.pin p hp
      exact ⟨(hs.2 p.1 ne).trans e, n, ne, nf, d⟩
  · have hfn : X.fn x = true := by
      rcases hf with z | z
      · exact z
      · rw [z] at hk; cases hk
    obtain ⟨c, hc⟩ := I.ok.has x (.inl hk)
    obtain ⟨w', z⟩ := I.cell x c hc
    refine wpAny_storeName_cell I.ok.kind hk hc z (fun h' hc' hs => ?_)
    obtain ⟨oc, hoc, hocd⟩ := id z
    refine h { s with heap := h' } ⟨I.ok, I.os, I.bare, ⟨fun b o e n hb hx => ?_, fun b o e n hb hx => ?_, I.base.free, fun b o e hx => ?_, I.base.tups, I.base.frzs, I.base.tbls⟩, ⟨m, hn.sameBut hs (Ne.symm (cne x c hc)), fun j y v' e1 e2 e3 => ?_⟩, fun y c' e => ?_, I.free, I.freeC, fun p hp => ?_, tracked ⟨oc, hoc, I.freeC x c hc⟩ hs, by simpa using I.len⟩ ⟨c, hs, .inr hc⟩
    · exact (hs.2 b (Nat.ne_of_lt (Nat.lt_of_lt_of_le (Heap.lt_size e) (I.ok.cab x c hfn hc)))).trans (I.base.keep b o e n hb hx)
    · obtain ⟨sl, e1⟩ := I.base.slot b o e n hb hx
      exact ⟨sl, (hs.2 b (Nat.ne_of_lt (Nat.lt_of_lt_of_le (Heap.lt_size e) (I.ok.cab x c hfn hc)))).trans e1⟩
    · obtain ⟨o', e1⟩ := I.base.there b o e hx
      exact ⟨o', (hs.2 b (Nat.ne_of_lt (Nat.lt_of_lt_of_le (Heap.lt_size e) (I.ok.cab x c hfn hc)))).trans e1⟩
    · by_cases hj : j = i
      · subst hj
        rw [hi] at e1; cases e1
        rw [List.getElem?_set_self hiσ] at e2
        cases e2
        exact ⟨u, r, .inr ⟨.inl hk, c, hc, hc'⟩⟩
      · rw [List.getElem?_set_ne (Ne.symm hj)] at e2
        obtain ⟨u', r', q⟩ := hl j y v' e1 e2 e3
        refine ⟨u', r', ?_⟩
        rcases q with q | ⟨k, c', e, z'⟩
        · exact .inl q
        · refine .inr ⟨k, c', e, z'.sameBut hs ?_⟩
          rintro rfl
          exact hj (nodup_ix hN e1 (I.ok.inj _ _ _ e hc ▸ hi))
    · by_cases hcc : c' = c
      · subst hcc; exact ⟨_, hc'⟩
      · obtain ⟨w2, z2⟩ := I.cell y c' e
        exact ⟨w2, z2.sameBut hs hcc⟩
    · obtain ⟨e, n, ne, nf, d⟩ := I.pin p hp
      refine ⟨(hs.2 p.1 ?_).trans e, n, ne, nf, d⟩
      intro q
      rw [q, hoc] at e
      have q' : oc = p.2 := Option.some.inj e
      exact d w' (by rw [← q']; exact hocd)
theorem store_ok {M : Model} {A : Around} {E : Value → Shared → Prop} {i : Nat} {x : Str} {v : V} {u : Value} {Q : Unit → Shared → Prop} (I : Inv X pins σ H s) (hN : X.N.Nodup) (hi : X.N[i]? = some x) (hx : Loc X.env.scope x) (r : RelV v u)
    (h : ∀ s', Inv X pins (σ.set i (some v)) H s' → Q () s') (hf : X.fn x = true ∨ X.env.scope.names.lookup x = some .local := by first | exact .inl rfl | exact .inr rfl | assumption) : wpAny M A (storeName X.env x u) Q E s :=
  store_ok2 I hN hi hx r (fun s' I' _ => h s' I') hf
theorem Inv.call' {s' : Shared} {ch : List Addr} (I : Inv X pins σ H s) (ho : s'.os = s.os) (u : Un (frs X.stack) ch H H' s.heap s'.heap) (hok : HOk X.prog X.w H' s'.heap) (hg : AllBare s'.gens)
    (hch : ∀ b ∈ ch, (b ∈ X.ex ∨ X.s₀.heap.objs.size ≤ b) ∧ b ≠ X.env.locals ∧ (∀ x c, X.env.cells.lookup x = some c → c ≠ b) ∧ ∀ p ∈ X.pn ++ pins, p.1 ≠ b) : Inv X pins σ H' s' := by
  obtain ⟨h', g', d', t', o'⟩ := s'
  have e : o' = s.os := ho
  subst e
  exact I.call (g' := g') (t' := t') (d' := d') u hok hg hch
end
abbrev XK := Value → Option Addr → Hp → Prop
abbrev St := List (Option V)
abbrev VK := V → Hp → Prop
abbrev TE := St → Hp → VK → Prop
abbrev TT := St → Hp → (Bool → Hp → Prop) → Prop
abbrev TA := St → Hp → (List V → Hp → Prop) → Prop
structure Ends where
  nx : St → Hp → Prop
  rt : VK
  bk : St → Hp → Prop := fun _ _ => False
  ct : St → Hp → Prop := fun _ _ => False
abbrev TS := Ends → St → Hp → Prop
def EP (X : Cx) (pins : List (Addr × Obj)) (σ : St) (Q : VK) (u : Value) (s' : Shared) : Prop := ∃ v H', Inv X pins σ H' s' ∧ RelV v u ∧ Q v H'
def TP (X : Cx) (pins : List (Addr × Obj)) (σ : St) (Q : Bool → Hp → Prop) (b : Bool) (s' : Shared) : Prop := ∃ H', Inv X pins σ H' s' ∧ Q b H'
def AP (X : Cx) (pins : List (Addr × Obj)) (σ : St) (Q : List V → Hp → Prop) (us : List Value) (s' : Shared) : Prop := ∃ vs H', Inv X pins σ H' s' ∧ Vals vs us ∧ Q vs H'
def SP (X : Cx) (pins : List (Addr × Obj)) (D : Ends) (f : Flow) (s' : Shared) : Prop :=
  match f with
  | .next => ∃ σ' H', Inv X pins σ' H' s' ∧ D.nx σ' H'
  | .brk => ∃ σ' H', Inv X pins σ' H' s' ∧ D.bk σ' H'
  | .cont => ∃ σ' H', Inv X pins σ' H' s' ∧ D.ct σ' H'
  | .ret u => ∃ v σ' H', Inv X pins σ' H' s' ∧ RelV v u ∧ D.rt v H'
def PE (X : Cx) (e : Expr) (t : TE) : Prop :=
  ∀ (pins : List (Addr × Obj)) (s : Shared) (σ : St) (H : Hp) (Q : VK), Inv X pins σ H s → t σ H Q → wpAny (model X.prog X.w) X.A (eval e X.env) (EP X pins σ Q) X.xe s
def PT (X : Cx) (e : Expr) (t : TT) : Prop :=
  ∀ (pins : List (Addr × Obj)) (s : Shared) (σ : St) (H : Hp) (Q : Bool → Hp → Prop), Inv X pins σ H s → t σ H Q → wpAny (model X.prog X.w) X.A (isTrue e X.env (eval e X.env)) (TP X pins σ Q) X.xe s
def PW (X : Cx) (e : Expr) (t : TT) : Prop :=
  ∀ (whole : Sem Value) (pins : List (Addr × Obj)) (s : Shared) (σ : St) (H : Hp) (Q : Bool → Hp → Prop), Inv X pins σ H s → t σ H Q → wpAny (model X.prog X.w) X.A (isTrue e X.env whole) (TP X pins σ Q) X.xe s
theorem PW.pt {X : Cx} {e : Expr} {t : TT} (h : PW X e t) : PT X e t := h _
def PA (X : Cx) (es : List Expr) (t : TA) : Prop :=
  ∀ (pos : Pos) (pins : List (Addr × Obj)) (s : Shared) (σ : St) (H : Hp) (Q : List V → Hp → Prop), Inv X pins σ H s → t σ H Q → wpAny (model X.prog X.w) X.A (spliced (backTo pos (starEach es X.env))) (AP X pins σ Q) X.xe s
def PS (X : Cx) (st : Stmt) (t : TS) : Prop :=
  ∀ (pins : List (Addr × Obj)) (s : Shared) (σ : St) (H : Hp) (D : Ends), Inv X pins σ H s → t D σ H → wpAny (model X.prog X.w) X.A (exec st X.env) (SP X pins D) X.xe s
def PSs (X : Cx) (st : List Stmt) (t : TS) : Prop :=
  ∀ (pins : List (Addr × Obj)) (s : Shared) (σ : St) (H : Hp) (D : Ends), Inv X pins σ H s → t D σ H → wpAny (model X.prog X.w) X.A (execs st X.env) (SP X pins D) X.xe s
theorem thn {α : Type} {t : Sem α} {Q Q' : α → Shared → Prop} {M : Model} {A : Around} {E : Value → Shared → Prop} {s : Shared} (h : wpAny M A t Q E s) (hQ : ∀ a s, Q a s → Q' a s) : wpAny M A t Q' E s := wpAny_mono h hQ fun _ _ x => x
end L2
namespace L2
open PySem PySem.Spec PyProof.Rows
section
variable {X : Cx}
def tVar (i : Nat) : TE := fun σ H Q => ∃ v, σ[i]? = some (some v) ∧ Q v H
def tC (v : V) : TE := fun _ H Q => Q v H
theorem pe_var {i : Nat} {x : Str} {pos : Pos} (hN : X.N[i]? = some x) (hv : Vis X.env.scope x) (hd : (x == ("__debug__" : Str)) = false := by decide) (hcd : (x == ("__classdict__" : Str)) = false := by decide) : PE X (.Name x pos) (tVar i) := by
  intro pins s σ H Q I h
  obtain ⟨v, e, h⟩ := h
  obtain ⟨m, hn, hl⟩ := I.loc
  obtain ⟨u, r, l⟩ := hl i x v hN e hv
  have fin : EP X pins σ Q u s := ⟨v, H, I, r, h⟩
  rcases l with ⟨hk, hm⟩ | ⟨hk, c, hc, hcell⟩
  · exact wpAny_Name (wpAny_loadName_local I.ok.kind hk hn hm fin) hd
  · rcases hk with hk | hk
    · exact wpAny_Name (wpAny_loadName_cell I.ok.kind hk hc hcell fin) hd
    · exact wpAny_Name (wpAny_loadName_free I.ok.kind hk hc hcell fin hcd) hd
theorem pe_int {i j pos} : PE X (.Constant (.int i) j pos) (tC (.int i)) := fun _ _ _ H _ I h => wpAny_Constant_int ⟨.int i, H, I.tok _, ⟨_, rfl⟩, h⟩
theorem pe_bl {b j pos} : PE X (.Constant (.bool b) j pos) (tC (.bl b)) := fun _ _ _ H _ I h => Constant_bool ⟨.bl b, H, I, rfl, h⟩
theorem pe_non {j pos} : PE X (.Constant .none j pos) (tC .non) := fun _ _ _ H _ I h => Constant_none ⟨.non, H, I, rfl, h⟩
theorem pe_str {x j pos} : PE X (.Constant (.str x) j pos) (tC (.str x)) := fun _ _ _ H _ I h => Calls.Constant_str ⟨.str x, H, I.tok _, ⟨_, rfl⟩, h⟩
def Gl (X : Cx) (x : Str) : Prop := X.env.kindOf x = some .globalImplicit
theorem ld_glob {E : Value → Shared → Prop} {pins : List (Addr × Obj)} {s : Shared} {σ : St} {H : Hp} {x : Str} {u : Value} {pos : Pos} {Q : Value → Shared → Prop} (I : Inv X pins σ H s) (hg : Gl X x) (hm : X.mg x = some u) (h : Q u s)
    (hd : (x == ("__debug__" : Str)) = false := by decide) : wpAny (model X.prog X.w) X.A (eval (.Name x pos) X.env) Q E s :=
  Calls.Name_function_global I.ok.kind hg (Calls.loadGlobal_global (by rw [I.ok.glob]; exact I.mod.glob.keeps I.bk) hm h) hd
theorem ld_blt {E : Value → Shared → Prop} {pins : List (Addr × Obj)} {s : Shared} {σ : St} {H : Hp} {x : Str} {u : Value} {pos : Pos} {Q : Value → Shared → Prop} (I : Inv X pins σ H s) (hg : Gl X x) (hm : X.mg x = none) (hv : bootBuiltins x = some u) (h : Q u s)
    (hn : x ≠ "__name__" := by decide) (hd : (x == ("__debug__" : Str)) = false := by decide) : wpAny (model X.prog X.w) X.A (eval (.Name x pos) X.env) Q E s := by
  obtain ⟨mb, h1, h2⟩ := I.mod.blt
  exact Calls.Name_function_global I.ok.kind hg (Calls.loadGlobal_builtin (by rw [I.ok.glob]; exact I.mod.glob.keeps I.bk) hm (by rw [I.ok.blt]; exact h1.keeps I.bk) ((h2 x hn).trans hv) h) hd
theorem pe_glob {x : Str} {v : V} {u : Value} {pos : Pos} (hg : Gl X x) (hm : X.mg x = some u) (r : RelV v u) (hd : (x == ("__debug__" : Str)) = false := by decide) : PE X (.Name x pos) (tC v) :=
  fun _ _ _ H _ I h => ld_glob I hg hm ⟨v, H, I, r, h⟩ hd
theorem pe_bltn {x : Str} {v : V} {u : Value} {pos : Pos} (hg : Gl X x) (hm : X.mg x = none) (hv : bootBuiltins x = some u) (r : RelV v u) (hn : x ≠ "__name__" := by decide) (hd : (x == ("__debug__" : Str)) = false := by decide) : PE X (.Name x pos) (tC v) :=
  fun _ _ _ H _ I h => ld_blt I hg hm hv ⟨v, H, I, r, h⟩ hn hd
variable {a b : Expr} {ta tb : TE} {pos : Pos}
def tB (t : TE) : TT := fun σ H Q => t σ H fun x H1 => ∃ c, x = .bl c ∧ Q c H1
theorem pt_val {e : Expr} {t : TE} (h : PE X e t) (he : ∀ whole, isTrue e X.env whole = (do let v ← whole; standAt e.pos; holding [v] (truthy v)) := by intro _; rfl) : PT X e (tB t) := by
  intro pins s σ H Q I hw
  refine isTrue_plain (thn (h pins s σ H _ I hw) fun v s1 ⟨x, H1, I1, r1, q1⟩ => ?_) (he _)
  obtain ⟨d, rfl, q⟩ := q1
  cases r1
  exact wpAny_truthy_bool ⟨H1, I1, q⟩
variable {tA tB' : TT} {rest : List Expr}
def tAnd (t u : TT) : TT := fun σ H Q => t σ H fun c H1 => if c = true then u σ H1 Q else Q false H1
def tOr (t u : TT) : TT := fun σ H Q => t σ H fun c H1 => if c = true then Q true H1 else u σ H1 Q
def tNot (t : TT) : TT := fun σ H Q => t σ H fun c H1 => Q (!c) H1
theorem pw_and1 (ha : PT X a tA) : PW X (.BoolOp .And [a] pos) tA := by
  intro wh pins s σ H Q I h
  refine isTrue_and (thn (ha pins s σ H Q I h) fun c s1 e => ?_)
  cases c with
  | true => exact isTrue_and_nil e
  | false => exact e
theorem pw_or1 (ha : PT X a tA) : PW X (.BoolOp .Or [a] pos) tA := by
  intro wh pins s σ H Q I h
  refine isTrue_or (thn (ha pins s σ H Q I h) fun c s1 e => ?_)
  cases c with
  | false => exact isTrue_or_nil e
  | true => exact e
theorem pw_and (ha : PT X a tA) (hb : PW X (.BoolOp .And (b :: rest) pos) tB') : PW X (.BoolOp .And (a :: b :: rest) pos) (tAnd tA tB') := by
  intro wh pins s σ H Q I h
  refine isTrue_and (thn (ha pins s σ H _ I h) fun c s1 ⟨H1, I1, q1⟩ => ?_)
  cases c with
  | true => exact hb wh pins s1 σ H1 Q I1 q1
  | false => exact ⟨H1, I1, q1⟩
theorem pw_or (ha : PT X a tA) (hb : PW X (.BoolOp .Or (b :: rest) pos) tB') : PW X (.BoolOp .Or (a :: b :: rest) pos) (tOr tA tB') := by
  intro wh pins s σ H Q I h
  refine isTrue_or (thn (ha pins s σ H _ I h) fun c s1 ⟨H1, I1, q1⟩ => ?_)
  cases c with
  | true => exact ⟨H1, I1, q1⟩
  | false => exact hb wh pins s1 σ H1 Q I1 q1
theorem pt_not (ha : PT X a tA) : PT X (.UnaryOp .Not a pos) (tNot tA) := by
  intro pins s σ H Q I h
  exact isTrue_not (ha pins s σ H (fun c H1 => Q (!c) H1) I h)
def tAndV (ta tb : TE) : TE := fun σ H Q => ta σ H fun x H1 => ∃ c, x = .bl c ∧ if c = true then tb σ H1 Q else Q (.bl false) H1
def tNotV (ta : TE) : TE := fun σ H Q => ta σ H fun x H1 => ∃ c, x = .bl c ∧ Q (.bl (!c)) H1
theorem pe_one {op} {t : TE} (h : PE X a t) : PE X (.BoolOp op [a] pos) t := fun pins s σ H Q I hw => BoolOp_one (h pins s σ H Q I hw)
theorem pe_and (ha : PE X a ta) (hb : PE X (.BoolOp .And (b :: rest) pos) tb) : PE X (.BoolOp .And (a :: b :: rest) pos) (tAndV ta tb) := by
  intro pins s σ H Q I h
  refine BoolOp_and (thn (ha pins s σ H _ I h) fun v s1 ⟨x, H1, I1, r1, q1⟩ => ?_)
  obtain ⟨c, rfl, q1⟩ := q1
  cases r1
  refine wpAny_truthy_bool ?_
  cases c with
  | true => exact hb pins s1 σ H1 Q I1 q1
  | false => exact ⟨.bl false, H1, I1, rfl, q1⟩
theorem pe_not (ha : PE X a ta) : PE X (.UnaryOp .Not a pos) (tNotV ta) := by
  intro pins s σ H Q I h
  refine UnaryOp_ (thn (ha pins s σ H _ I h) fun v s1 ⟨x, H1, I1, r1, q1⟩ => ?_)
  obtain ⟨c, rfl, q1⟩ := q1
  cases r1
  exact not_of (wpAny_truthy_bool ⟨.bl (!c), H1, I1, rfl, q1⟩)
end
end L2
namespace L2
open PySem PySem.Spec PyProof.Rows
def SqL (K : PySem.W.Frag) (H : Hp) (a : Addr) (xs : List V) : Prop :=
  Rd H a (.lst xs) ∨
    ∃ (o : Obj) (its : Array Value) (n : Nat), K.lookup a = some o ∧ o.cls = .type "list" ∧ o.dict = none ∧ o.data = .seq its n ∧ its.size ≤ sizeLine ∧ Vals xs its.toList
def SqT (K : PySem.W.Frag) (H : Hp) (a : Addr) (xs : List V) : Prop :=
  Rd H a (.tup xs) ∨
    ∃ (o : Obj) (its : Array Value) (n : Nat), K.lookup a = some o ∧ o.cls = .type "tuple" ∧ o.data = .seq its n ∧ its.size ≤ sizeLine ∧ Vals xs its.toList
def absV : Value → Option V
  | .none => some .non
  | .bool b => some (.bl b)
  | .int i _ => some (.int i)
  | .str x _ => some (.str x)
  | .bytes b _ => some (.byt b)
  | .float b _ => some (.flt b)
  | .ref a => some (.ref a)
  | .type n => some (.ty n)
  | _ => none
theorem RelV.abs {x : V} {u : Value} (r : RelV x u) : absV u = some x := by
  cases x with
  | non => cases r; rfl
  | bl _ => cases r; rfl
  | int _ => obtain ⟨t, rfl⟩ := r; rfl
  | str _ => obtain ⟨t, rfl⟩ := r; rfl
  | byt _ => obtain ⟨t, rfl⟩ := r; rfl
  | flt _ => obtain ⟨t, rfl⟩ := r; rfl
  | ref _ => cases r; rfl
  | ty _ => cases r; rfl
theorem RelV.inj {x y : V} {u : Value} (r : RelV x u) (q : RelV y u) : x = y := Option.some.inj (r.abs.symm.trans q.abs)
theorem Vals.inj : ∀ {xs ys : List V} {us : List Value}, Vals xs us → Vals ys us → xs = ys
  | _, _, _, .nil, .nil => rfl
  | _, _, _, .cons r t, .cons r' t' => by rw [r.inj r', Vals.inj t t']
section
variable {X : Cx} {pins : List (Addr × Obj)} {σ : St} {H : Hp} {s : Shared} {a : Addr} {xs ys : List V}
theorem SqL.of {K : PySem.W.Frag} (h : H a = some (.lst xs)) : SqL K H a xs := .inl (.inl h)
theorem SqT.of {K : PySem.W.Frag} (h : H a = some (.tup xs)) : SqT K H a xs := .inl (.inl h)
theorem Inv.list (I : Inv X pins σ H s) (h : SqL X.K H a xs) : ∃ its : List Value, Vals xs its ∧ PlainL s.heap a its.toArray ∧ xs.length ≤ sizeLine := by
  rcases h with h | ⟨o, its, n, hk, hc, hd, hs, hz, r⟩
  · obtain ⟨z, its, n, r, e⟩ := h.ok I.hok
    exact ⟨its, r, ⟨_, n, e, rfl, rfl, rfl⟩, z⟩
  · refine ⟨its.toList, r, ⟨o, n, I.kIn a o hk, hc, hd, by simpa using hs⟩, ?_⟩
    have e := r.length
    simp only [Array.length_toList] at e
    omega
theorem Inv.tuple (I : Inv X pins σ H s) (h : SqT X.K H a xs) : ∃ its : List Value, Vals xs its ∧ IsTup s.heap a its.toArray ∧ xs.length ≤ sizeLine := by
  rcases h with h | ⟨o, its, n, hk, hc, hs, hz, r⟩
  · obtain ⟨z, its, r, p⟩ := h.ok I.hok
    exact ⟨its, r, p, z⟩
  · refine ⟨its.toList, r, ⟨o, I.kIn a o hk, hc, n, by simpa using hs⟩, ?_⟩
    have e := r.length
    simp only [Array.length_toList] at e
    omega
theorem Inv.list_inj (I : Inv X pins σ H s) (h : SqL X.K H a xs) (h' : SqL X.K H a ys) : xs = ys := by
  obtain ⟨its, r, ⟨o, n, e, _, _, d⟩, _⟩ := I.list h
  obtain ⟨its', r', ⟨o', n', e', _, _, d'⟩, _⟩ := I.list h'
  rw [e] at e'; cases e'
  rw [d] at d'
  injection d' with d1 _
  have : its = its' := by simpa using congrArg Array.toList d1
  subst this
  exact r.inj r'
theorem Inv.tuple_inj (I : Inv X pins σ H s) (h : SqT X.K H a xs) (h' : SqT X.K H a ys) : xs = ys := by
  obtain ⟨its, r, ⟨o, e, _, n, d⟩, _⟩ := I.tuple h
  obtain ⟨its', r', ⟨o', e', _, n', d'⟩, _⟩ := I.tuple h'
  rw [e] at e'; cases e'
  rw [d] at d'
  injection d' with d1 _
  have : its = its' := by simpa using congrArg Array.toList d1
  subst this
  exact r.inj r'
end
abbrev Cx.wish (X : Cx) (E : Value → Shared → Prop) : Cx := { X with xe := E }
abbrev Cx.nox (X : Cx) : Cx := X.wish fun _ _ => False
theorem Cx.Ok.wish {X : Cx} (ok : X.Ok) (E : Value → Shared → Prop) : (X.wish E).Ok :=
  ⟨ok.mod, ok.kind, ok.glob, ok.blt, ok.above, ok.inj, ok.has, ok.cab, ok.hd, ok.frames, ok.stk, ok.exf, ok.bs, ok.bsz, ok.noex, ok.exfs, ok.funs, ok.frf⟩
theorem Cx.Ok.unwish {X : Cx} {E : Value → Shared → Prop} (ok : (X.wish E).Ok) : X.Ok :=
  ⟨ok.mod, ok.kind, ok.glob, ok.blt, ok.above, ok.inj, ok.has, ok.cab, ok.hd, ok.frames, ok.stk, ok.exf, ok.bs, ok.bsz, ok.noex, ok.exfs, ok.funs, ok.frf⟩
section
variable {X : Cx} {pins : List (Addr × Obj)} {σ : St} {H : Hp} {s : Shared} {E : Value → Shared → Prop}
theorem Inv.wish (I : Inv X pins σ H s) (E : Value → Shared → Prop) : Inv (X.wish E) pins σ H s := ⟨I.ok.wish E, I.os, I.bare, I.base, I.loc, I.cell, I.free, I.freeC, I.pin, I.hok, I.len⟩
theorem Inv.unwish (I : Inv (X.wish E) pins σ H s) : Inv X pins σ H s := ⟨I.ok.unwish, I.os, I.bare, I.base, I.loc, I.cell, I.free, I.freeC, I.pin, I.hok, I.len⟩
theorem SP.unwish {D : Ends} {f : Flow} {s' : Shared} (h : SP (X.wish E) pins D f s') : SP X pins D f s' := by
  cases f with
  | next => obtain ⟨σ', H', I, q⟩ := h; exact ⟨σ', H', I.unwish, q⟩
  | brk => obtain ⟨σ', H', I, q⟩ := h; exact ⟨σ', H', I.unwish, q⟩
  | cont => obtain ⟨σ', H', I, q⟩ := h; exact ⟨σ', H', I.unwish, q⟩
  | ret u => obtain ⟨v, σ', H', I, r, q⟩ := h; exact ⟨v, σ', H', I.unwish, r, q⟩
theorem PE.nox {e : Expr} {t : TE} (h : PE X.nox e t) : PE X e t := fun pins s σ H Q I hw =>
  wpAny_mono (h pins s σ H Q (I.wish _) hw) (fun _ _ ⟨v, H', I', r, q⟩ => ⟨v, H', I'.unwish, r, q⟩) fun _ _ z => False.elim z
theorem PT.nox {e : Expr} {t : TT} (h : PT X.nox e t) : PT X e t := fun pins s σ H Q I hw =>
  wpAny_mono (h pins s σ H Q (I.wish _) hw) (fun _ _ ⟨H', I', q⟩ => ⟨H', I'.unwish, q⟩) fun _ _ z => False.elim z
theorem PSs.nox {st : List Stmt} {t : TS} (h : PSs X.nox st t) : PSs X st t := fun pins s σ H D I hw =>
  wpAny_mono (h pins s σ H D (I.wish _) hw) (fun _ _ q => q.unwish) fun _ _ z => False.elim z
end
section
variable {X : Cx} {st : Stmt} {rest : List Stmt} {t u : TS} {e : Expr} {te : TE} {pos : Pos}
def tNext : TS := fun D σ H => D.nx σ H
def tSeq (t u : TS) : TS := fun D σ H => t { D with nx := u D } σ H
theorem pss_nil : PSs X [] tNext := fun _ _ σ H _ I h => wpAny_execs_nil ⟨σ, H, I, h⟩
theorem pss_cons (h1 : PS X st t) (h2 : PSs X rest u) : PSs X (st :: rest) (tSeq t u) := by
  intro pins s σ H D I h
  refine wpAny_execs_cons (thn (h1 pins s σ H { D with nx := u D } I h) fun f s1 q => ?_)
  cases f with
  | next =>
    obtain ⟨σ', H', I', q⟩ := q
    exact h2 pins s1 σ' H' D I' q
  | ret v => exact q
  | brk => exact q
  | cont => exact q
theorem pss_one (h1 : PS X st t) : PSs X [st] t := by
  intro pins s σ H D I h
  refine wpAny_execs_cons (thn (h1 pins s σ H D I h) fun f s1 q => ?_)
  cases f with
  | next => exact wpAny_execs_nil q
  | ret v => exact q
  | brk => exact q
  | cont => exact q
theorem Inv.quiet {pins : List (Addr × Obj)} {σ : St} {H : Hp} {s : Shared} (I : Inv X pins σ H s) : interactive X.env = false := by simp [interactive, I.ok.kind]
def tDrop (te : TE) : TS := fun D σ H => te σ H fun _ H1 => D.nx σ H1
theorem ps_expr (he : PE X e te) (hs : swapsWith e none pos.line X.env = pure false := by rfl) : PS X (.Expr e pos) (tDrop te) := by
  intro pins s σ H D I h
  exact wpAny_Expr_any (thn (he pins s σ H _ I h) fun v s1 ⟨x, H1, I1, r1, q1⟩ => ⟨σ, H1, I1, q1⟩) I.quiet hs
def tRet (te : TE) : TS := fun D σ H => te σ H D.rt
theorem ps_ret (he : PE X e te) : PS X (.Return (some e) pos) (tRet te) := by
  intro pins s σ H D I h
  exact wpAny_Return_some (thn (he pins s σ H _ I h) fun v s1 ⟨x, H1, I1, r1, q1⟩ => ⟨x, σ, H1, I1, r1, q1⟩)
def tIfS (c : TT) (t u : TS) : TS := fun D σ H => c σ H fun b H1 => if b = true then t D σ H1 else u D σ H1
theorem ps_if {c : Expr} {a b : List Stmt} {tc : TT} (hc : PT X c tc) (ha : PSs X a t) (hb : PSs X b u) : PS X (.If c a b pos) (tIfS tc t u) := by
  intro pins s σ H D I h
  refine wpAny_If (thn (hc pins s σ H _ I h) fun d s1 ⟨H1, I1, q1⟩ => ?_)
  cases d with
  | true => exact ha pins s1 σ H1 D I1 q1
  | false => exact hb pins s1 σ H1 D I1 q1
end
abbrev TG := V → St → Hp → (St → Hp → Prop) → Prop
abbrev TGs := List V → St → Hp → (St → Hp → Prop) → Prop
def PG (X : Cx) (target : Expr) (t : TG) : Prop :=
  ∀ (pins : List (Addr × Obj)) (s : Shared) (σ : St) (H : Hp) (v : V) (u : Value) (Q : St → Hp → Prop), Inv X pins σ H s → RelV v u → t v σ H Q →
    wpAny (model X.prog X.w) X.A (assign target X.env u) (fun _ s' => ∃ σ' H', Inv X pins σ' H' s' ∧ Q σ' H') X.xe s
def PGs (X : Cx) (ts : List Expr) (t : TGs) : Prop :=
  ∀ (pins : List (Addr × Obj)) (s : Shared) (σ : St) (H : Hp) (vs : List V) (us : List Value) (Q : St → Hp → Prop), Inv X pins σ H s → Vals vs us → t vs σ H Q →
    wpAny (model X.prog X.w) X.A (assignInOrder ((assignEach ts X.env).map (·.2)) us) (fun _ s' => ∃ σ' H', Inv X pins σ' H' s' ∧ Q σ' H') X.xe s
abbrev TSet := V → V → V → Hp → (Hp → Prop) → Prop
def PSet (X : Cx) (t : TSet) : Prop :=
  ∀ (pins : List (Addr × Obj)) (s : Shared) (σ : St) (H : Hp) (o i v : V) (ov iv u : Value) (Q : Hp → Prop), Inv X pins σ H s → RelV o ov → RelV i iv → RelV v u → t o i v H Q →
    wpAny (model X.prog X.w) X.A (setItem ov iv u) (fun _ s' => ∃ H', Inv X pins σ H' s' ∧ Q H') X.xe s
section
variable {X : Cx} {pos : Pos}
def gName (i : Nat) : TG := fun v σ H Q => Q (σ.set i (some v)) H
theorem pg_name {i : Nat} {x : Str} (hN : X.N.Nodup) (hi : X.N[i]? = some x) (hx : Loc X.env.scope x) (hf : X.fn x = true ∨ X.env.scope.names.lookup x = some .local := by first | exact .inl rfl | exact .inr rfl | assumption) : PG X (.Name x pos) (gName i) := by
  intro pins s σ H v u Q I r h
  exact wpAny_assign_Name (store_ok I hN hi hx r (fun s' I' => ⟨_, H, I', h⟩) hf)
def gNil : TGs := fun vs σ H Q => vs = [] ∧ Q σ H
def gCons (t : TG) (u : TGs) : TGs := fun vs σ H Q => ∃ v r, vs = v :: r ∧ t v σ H fun σ' H' => u r σ' H' Q
theorem pgs_nil : PGs X [] gNil := by
  intro pins s σ H vs us Q I r h
  obtain ⟨e, h⟩ := h
  subst e
  cases r
  exact assignInOrder_nil ⟨σ, H, I, h⟩
theorem pgs_cons {e : Expr} {es : List Expr} {t : TG} {u : TGs} (h1 : PG X e t) (h2 : PGs X es u)
    (hs : (assignEach (e :: es) X.env).map (·.2) = assign e X.env :: (assignEach es X.env).map (·.2) := by rfl) : PGs X (e :: es) (gCons t u) := by
  intro pins s σ H vs us Q I r h
  obtain ⟨v, vr, e1, h⟩ := h
  subst e1
  cases r with
  | cons r rr =>
    rw [hs]
    refine assignInOrder_cons (thn (h1 pins s σ H _ _ _ I r h) fun _ s1 ⟨σ1, H1, I1, q1⟩ => ?_)
    exact h2 pins s1 σ1 H1 _ _ Q I1 rr q1
def gTup (K : PySem.W.Frag) (n : Nat) (t : TGs) : TG := fun v σ H Q => ∃ a xs, v = .ref a ∧ SqT K H a xs ∧ xs.length = n ∧ t xs σ H Q
theorem pg_tup {es : List Expr} {k : Nat} {t : TGs} {n : Nat} (hc : X.calm = true) (h : PGs X es t)
    (hn : (assignEach es X.env).length = n := by rfl) (hst : (assignEach es X.env).findIdx? (·.1) = none := by rfl) : PG X (.Tuple es k pos) (gTup X.K n t) := by
  intro pins s σ H v u Q I r hw
  obtain ⟨a, xs, e1, hq, hl, hw⟩ := hw
  subst e1
  cases r
  obtain ⟨its, rv, ht, hz⟩ := I.tuple hq
  refine assign_Tuple_tuple (I.ok.hd hc) ht (by simp [hn, ← hl, rv.length]) hst fun h' hx => ?_
  have I1 : Inv X pins σ H { s with heap := h' } := I.kept (t' := s.toks) fun b o e => hx b o (Nat.ne_of_lt (Heap.lt_size e)) e
  exact h pins _ σ H xs _ Q I1 (by simpa using rv) hw
def gSub (to ti : TE) (t : TSet) : TG := fun v σ H Q => to σ H fun o H1 => ti σ H1 fun i H2 => t o i v H2 fun H3 => Q σ H3
theorem pg_sub {o i : Expr} {to ti : TE} {t : TSet} (ho : PE X o to) (hi : PE X i ti) (hs : PSet X t)
    (ha : ∀ v, assign (.Subscript o i pos) X.env v = (do
      let ov ← holding [v] (eval o X.env)
      let iv ← holding [v, ov] (eval i X.env)
      standAt pos
      holding [v, ov, iv] (setItem ov iv v)
      release [v, ov, iv] []) := by intro _; rfl) : PG X (.Subscript o i pos) (gSub to ti t) := by
  intro pins s σ H v u Q I r h
  rw [ha]
  refine wpAny_bind (wpAny_holding (thn (ho pins s σ H _ I h) fun ov s1 ⟨x, H1, I1, r1, q1⟩ => ?_))
  refine wpAny_bind (wpAny_holding (thn (hi pins s1 σ H1 _ I1 q1) fun iv s2 ⟨y, H2, I2, r2, q2⟩ => ?_))
  refine wpAny_bind (wpAny_standAt (wpAny_bind (wpAny_holding (thn (hs pins s2 σ H2 x y v ov iv u _ I2 r1 r2 r q2) fun _ s3 ⟨H3, I3, q3⟩ => ?_))))
  exact wpAny_release ⟨σ, H3, I3, q3⟩
def tAsg (te : TE) (g : TG) : TS := fun D σ H => te σ H fun x H1 => g x σ H1 D.nx
theorem ps_asg {tg e : Expr} {te : TE} {g : TG} (he : PE X e te) (hg : PG X tg g) (hs : swapsWithSole [tg] e pos.line X.env = pure false := by rfl) (hw : swappedStores [tg] e X.env = pure none := by rfl)
    (h1 : (assignEach [tg] X.env).map (·.2) = [assign tg X.env] := by rfl) : PS X (.Assign [tg] e pos) (tAsg te g) := by
  intro pins s σ H D I h
  refine wpAny_Assign_stores (thn (he pins s σ H _ I h) fun v s1 ⟨x, H1, I1, r1, q1⟩ => ?_) hs hw
  rw [h1]
  exact thn (hg pins s1 σ H1 x v _ I1 r1 q1) fun _ s2 q => q
theorem ps_set {i : Nat} {x : Str} {e : Expr} {te : TE} {pos' : Pos} (hN : X.N.Nodup) (hi : X.N[i]? = some x) (hx : Loc X.env.scope x) (he : PE X e te) (hs : swapsWith e (some (.Name x pos')) pos.line X.env = pure false := by rfl) (hf : X.fn x = true ∨ X.env.scope.names.lookup x = some .local := by first | exact .inl rfl | exact .inr rfl | assumption) :
    PS X (.Assign [.Name x pos'] e pos) (tAsg te (gName i)) := by
  intro pins s σ H D I h
  refine wpAny_Assign_Name (thn (he pins s σ H _ I h) fun v s1 ⟨y, H1, I1, r1, q1⟩ => ?_) hs
  exact store_ok I1 hN hi hx r1 (fun s2 I2 => ⟨_, H1, I2, q1⟩) hf
end
section
variable {X : Cx} {pos : Pos}
end
structure It where
  go : Nat → Hp → Prop
  yld : Nat → Hp → V → Hp → Prop
  stop : Nat → Hp → Prop
def FpOk (X : Cx) (pins : List (Addr × Obj)) (H : Hp) (b : Addr) : Prop :=
  H b = none ∧ b ≠ X.env.locals ∧ b ∉ X.fs ∧ (b ∈ X.ex ∨ X.s₀.heap.objs.size ≤ b) ∧ (∀ x c, X.env.cells.lookup x = some c → c ≠ b) ∧ ∀ p ∈ X.pn ++ pins, p.1 ≠ b
theorem Inv.fpOk {X : Cx} {pins : List (Addr × Obj)} {σ : St} {H H' : Hp} {s : Shared} {b : Addr} (I : Inv X pins σ H s) (hb : s.heap.objs.size ≤ b) (hn : H' b = none) : FpOk X pins H' b := by
  refine ⟨hn, Nat.ne_of_gt (Nat.lt_of_lt_of_le I.lt hb), I.nofs hb, .inr (Nat.le_trans I.sz hb), fun x c e z => ?_, fun p hp z => ?_⟩
  · obtain ⟨v, q⟩ := I.cell x c e
    exact absurd (Nat.lt_of_lt_of_le q.lt (by rw [z]; exact hb)) (Nat.lt_irrefl _)
  · exact absurd (Nat.lt_of_lt_of_le (Heap.lt_size (I.pin p hp).1) (by rw [z]; exact hb)) (Nat.lt_irrefl _)
structure Turn (P : Program) (w : World) (K : PySem.W.Frag) (tg : Expr) (J : It) (fp : List Addr) (it : Addr) (tn : Nat → Heap → Prop) : Prop where
  mem : it ∈ fp
  obj : ∀ i h, tn i h → ∀ b ∈ fp, ∃ o, h.get? b = some o ∧ ∀ v, o.data ≠ .cell v
  keep : ∀ i h h', tn i h → (∀ b ∈ fp, ∀ o, h.get? b = some o → h'.get? b = some o) → tn i h'
  item : ∀ (X : Cx), X.prog = P → X.w = w → X.K = K → X.calm = true → ∀ (i : Nat) (pins : List (Addr × Obj)) (s : Shared) (σ : St) (H : Hp) (E : Value → Shared → Prop), Inv X pins σ H s → (∀ b ∈ fp, FpOk X pins H b) → tn i s.heap → J.go i H →
    wpAny (model P w) X.A (pyNext (.ref it)) (fun r s1 => ∃ u, r = some u ∧
      wpAny (model P w) X.A (letOwnedTupleGo tg (.ref it) u) (fun _ s2 => ∃ x H', Inv X pins σ H' s2 ∧ RelV x u ∧ J.yld i H x H' ∧ tn (i + 1) s2.heap ∧ ∀ b ∈ fp, H' b = none) E s1) E s
  done : ∀ (X : Cx), X.prog = P → X.w = w → X.K = K → X.calm = true → ∀ (i : Nat) (pins : List (Addr × Obj)) (s : Shared) (σ : St) (H : Hp) (E : Value → Shared → Prop), Inv X pins σ H s → (∀ b ∈ fp, FpOk X pins H b) → tn i s.heap → J.stop i H →
    wpAny (model P w) X.A (pyNext (.ref it)) (fun r s1 => r = none ∧ Inv X pins σ H s1) E s
  self : ∀ (A : Around) (i : Nat) (s : Shared) (Q : Value → Shared → Prop) (E : Value → Shared → Prop), tn i s.heap → Q (.ref it) s → wpAny (model P w) A (pyIter (.ref it)) Q E s
abbrev TI := St → Hp → (It → Hp → Prop) → Prop
def PIE (X : Cx) (pins : List (Addr × Obj)) (σ : St) (tg : Expr) (R : It → Hp → Prop) (itv : Value) (s2 : Shared) : Prop :=
  ∃ (it : Addr) (fp : List Addr) (tn : Nat → Heap → Prop) (J : It) (H' : Hp), itv = .ref it ∧ Inv X pins σ H' s2 ∧ Turn X.prog X.w X.K tg J fp it tn ∧ tn 0 s2.heap ∧ (∀ b ∈ fp, FpOk X pins H' b) ∧ R J H'
def PI (X : Cx) (tg iter : Expr) (wi : TI) : Prop :=
  ∀ (pins : List (Addr × Obj)) (s : Shared) (σ : St) (H : Hp) (R : It → Hp → Prop), Inv X pins σ H s → wi σ H R →
    wpAny (model X.prog X.w) X.A (eval iter X.env) (fun v s1 => wpAny (model X.prog X.w) X.A (pyIter v) (PIE X pins σ tg R) X.xe s1) X.xe s
theorem go_of {M : Model} {A : Around} {E : Value → Shared → Prop} {s : Shared} {tg : Expr} {it : Addr} {u : Value} {o : Obj} {n : String} {vs : Array Value} {Q : Unit → Shared → Prop} (ho : s.heap.get? it = some o) (hc : o.cls = .type n) (hd : o.data = .fields vs)
    (hn : ["enumerate", "zip", "dict_itemiterator", "dict_reverseitemiterator", "odict_iterator", "itertools.zip_longest", "itertools.pairwise"].contains n = false) (hQ : Q () s) : wpAny M A (letOwnedTupleGo tg (.ref it) u) Q E s := by
  unfold letOwnedTupleGo
  cases tg <;> first
    | exact wpAny_pure hQ
    | (cases u <;> first
        | exact wpAny_pure hQ
        | (refine wpAny_bind (wpAny_load ho ?_)
           rw [hc, hd]
           show wpAny M A (if (["enumerate", "zip", "dict_itemiterator", "dict_reverseitemiterator", "odict_iterator", "itertools.zip_longest", "itertools.pairwise"].contains n && vs[0]? == some (rawInt _)) = true then _ else _) Q E s
           rw [if_neg (by intro h; rw [hn, Bool.false_and] at h; cases h)]
           exact wpAny_pure hQ))
def Itl (K : PySem.W.Frag) (a : Addr) : It :=
  ⟨fun i H => ∃ xs x, SqL K H a xs ∧ xs[i]? = some x, fun i H x H' => H' = H ∧ ∀ xs, SqL K H a xs → xs[i]? = some x, fun i H => ∃ xs, SqL K H a xs ∧ xs.length ≤ i⟩
def Itr (lo : Int) (n : Nat) : It := ⟨fun i _ => i < n, fun i H x H' => H' = H ∧ x = .int (lo + i), fun i _ => n ≤ i⟩
theorem turn_list {P : Program} {w : World} {K : PySem.W.Frag} {tg : Expr} (a it : Addr) : Turn P w K tg (Itl K a) [it] it (fun i h => h.IsListIter it a i) where
  mem := by simp
  obj := fun i h st b hb => by
    have e : b = it := by simpa using hb
    subst e
    obtain ⟨o, e, c, d⟩ := st
    exact ⟨o, e, fun v z => by rw [d] at z; cases z⟩
  keep := fun i h h' st k => st.at fun o e => k it (by simp) o e
  item := by
    intro X hP hw hK hc i pins s σ H E I hf st hg
    subst hP hw hK
    obtain ⟨xs, x, hq, hx⟩ := hg
    obtain ⟨its, rv, p, hz⟩ := I.list hq
    obtain ⟨u, hu, ru⟩ := rv.get hx
    obtain ⟨f0, f1, f2, f3, f4, f5⟩ := hf it (by simp)
    refine wpAny_pyNext_list_item st p.isList (x := u) (by simpa using hu) fun h' st' sb => ?_
    have I1 : Inv X pins σ H { s with heap := h' } := I.turned (t' := s.toks) (fun b o hb e => (sb.2 b hb).trans e) f0 f1 f3 f4 f5
    obtain ⟨o, e, c, d⟩ := id st'
    exact ⟨u, rfl, go_of (s := { s with heap := h' }) e c d (by decide) ⟨x, H, I1, ru, ⟨rfl, fun ys hy => by rw [I.list_inj hy hq]; exact hx⟩, st', fun b hb => (hf b hb).1⟩⟩
  done := by
    intro X hP hw hK hc i pins s σ H E I hf st hg
    subst hP hw hK
    obtain ⟨xs, hq, hx⟩ := hg
    obtain ⟨its, rv, p, hz⟩ := I.list hq
    obtain ⟨f0, f1, f2, f3, f4, f5⟩ := hf it (by simp)
    have hl := rv.length
    exact wpAny_pyNext_list_end (I.ok.hd hc) st p.isList (by simp; omega) fun h' eb => ⟨rfl, I.turned (t' := s.toks) (fun b o hb e => eb b o hb e) f0 f1 f3 f4 f5⟩
  self := fun _ _ _ _ _ st h => wpAny_pyIter_listiter st h
theorem turn_range {P : Program} {w : World} {K : PySem.W.Frag} {tg : Expr} (it : Addr) (lo : Int) (n : Nat) : Turn P w K tg (Itr lo n) [it] it (fun i h => IsRangeIter h it (lo + (i : Nat) * 1) ((n : Int) - (i : Nat)) 1) where
  mem := by simp
  obj := fun i h st b hb => by
    have e : b = it := by simpa using hb
    subst e
    exact ⟨_, st, fun v z => by
      have z' : Data.fields _ = Data.cell v := z
      cases z'⟩
  keep := fun i h h' st k => k it (by simp) _ st
  item := by
    intro X hP hw hK hc i pins s σ H E I hf st hg
    subst hP hw hK
    obtain ⟨f0, f1, f2, f3, f4, f5⟩ := hf it (by simp)
    have W := Walks.range (prog := X.prog) (w := X.w) (I.ok.hd hc) it lo 1 n
    refine W.item i s _ _ hg st fun v h' tk hv st' kk => ?_
    obtain ⟨t, rfl⟩ := hv
    have I1 : Inv X pins σ H { s with heap := h', toks := tk } := I.turned (fun b o hb e => kk b o (by simpa using hb) e) f0 f1 f3 f4 f5
    refine ⟨_, rfl, go_of (s := { s with heap := h', toks := tk }) (n := "range_iterator") st' rfl rfl (by decide) ⟨.int (lo + i), H, I1, ⟨t, ?_⟩, ⟨rfl, rfl⟩, st', fun b hb => (hf b hb).1⟩⟩
    rw [Int.mul_one]
  done := by
    intro X hP hw hK hc i pins s σ H E I hf st hg
    subst hP hw hK
    obtain ⟨f0, f1, f2, f3, f4, f5⟩ := hf it (by simp)
    exact wpAny_pyNext_range_end (I.ok.hd hc) st (by have : n ≤ i := hg; omega) fun h' eb => ⟨rfl, I.turned (t' := s.toks) (fun b o hb e => eb b o hb e) f0 f1 f3 f4 f5⟩
  self := fun _ _ _ _ _ st h => wpAny_pyIter_rangeiter st h
end L2
namespace L2
open PySem PySem.Spec PyProof.Rows
section
variable {X : Cx} {tg : Expr}
def iList (K : PySem.W.Frag) (tl : TE) : TI := fun σ H R => tl σ H fun x H1 => ∃ a, x = .ref a ∧ (∃ xs, SqL K H1 a xs) ∧ R (Itl K a) H1
theorem pi_list {l : Expr} {tl : TE} (hl : PE X l tl) : PI X tg l (iList X.K tl) := by
  intro pins s σ H R I h
  refine thn (hl pins s σ H _ I h) fun v s1 ⟨x, H1, I1, r1, q1⟩ => ?_
  obtain ⟨a, e, ⟨xs, hq⟩, q⟩ := q1
  subst e
  cases r1
  obtain ⟨its, rv, p, hz⟩ := I1.list hq
  refine wpAny_pyIter_list p.isList ?_
  refine ⟨s1.heap.objs.size, [s1.heap.objs.size], _, _, H1, rfl, I1.kept (t' := s1.toks) fun b o e => Heap.get?_push_of_some _ e, turn_list a _, ⟨_, Heap.get?_push_size _ rfl, rfl, rfl⟩, fun b hb => ?_, q⟩
  have e : b = s1.heap.objs.size := by simpa using hb
  subst e
  exact I1.fpOk (Nat.le_refl _) (I1.hok.fresh (Nat.le_refl _))
theorem range_it {pins : List (Addr × Obj)} {σ : St} {H : Hp} {s : Shared} {R : It → Hp → Prop} {E : Value → Shared → Prop} {lo hi : Int} {t u v : Tok} {tk : Nat} (I : Inv X pins σ H s) (h1 : -(2 ^ 62) ≤ lo) (h2 : lo < 2 ^ 62) (h3 : -(2 ^ 62) ≤ hi) (h4 : hi < 2 ^ 62)
    (q : R (Itr lo (hi - lo).toNat) H) : wpAny (model X.prog X.w) X.A (pyIter (.ref s.heap.objs.size)) (PIE X pins σ tg R) E { s with heap := s.heap.push { cls := .type "range", data := .fields #[.int lo t, .int hi u, .int 1 v] }, toks := tk } := by
  refine wpAny_pyIter_range (IsRange.new ..) (small_one h1 h2 h3 h4) ?_
  have I1 : Inv X pins σ H { s with heap := s.heap.push { cls := .type "range", data := .fields #[.int lo t, .int hi u, .int 1 v] }, toks := tk } := I.kept fun b o e => Heap.get?_push_of_some _ e
  refine ⟨(s.heap.push { cls := .type "range", data := .fields #[.int lo t, .int hi u, .int 1 v] }).objs.size, [(s.heap.push { cls := .type "range", data := .fields #[.int lo t, .int hi u, .int 1 v] }).objs.size], _, _, H, rfl,
    I1.kept (t' := tk) fun b o e => Heap.get?_push_of_some _ e, turn_range _ lo (hi - lo).toNat, ?_, fun b hb => ?_, q⟩
  · have e1 : lo + ((0 : Nat) : Int) * 1 = lo := by simp
    have e2 : (((hi - lo).toNat : Nat) : Int) - ((0 : Nat) : Int) = Builtin.Range.rangeSize lo hi 1 := by rw [rangeSize_one]; split <;> omega
    show IsRangeIter _ _ (lo + ((0 : Nat) : Int) * 1) ((((hi - lo).toNat : Nat) : Int) - ((0 : Nat) : Int)) 1
    rw [e1, e2]
    exact Heap.get?_push_size _ rfl
  · have e : b = (s.heap.push { cls := .type "range", data := .fields #[.int lo t, .int hi u, .int 1 v] }).objs.size := by simpa using hb
    subst e
    exact I1.fpOk (Nat.le_refl _) (I1.hok.fresh (Nat.le_refl _))
def iRng1 (ta : TA) : TI := fun σ H R => ta σ H fun vs H1 => ∃ j : Int, vs = [.int j] ∧ -(2 ^ 62) ≤ j ∧ j < 2 ^ 62 ∧ R (Itr 0 j.toNat) H1
def iRng2 (ta : TA) : TI := fun σ H R => ta σ H fun vs H1 => ∃ i j : Int, vs = [.int i, .int j] ∧ (-(2 ^ 62) ≤ i ∧ i < 2 ^ 62 ∧ -(2 ^ 62) ≤ j ∧ j < 2 ^ 62) ∧ R (Itr i (j - i).toNat) H1
theorem pi_range1 {a : Expr} {ta : TA} {p pos : Pos} (hg : Gl X "range") (hm : X.mg "range" = none) (ha : PA X [a] ta) (hs : starEach [a] X.env = [(false, eval a X.env)] := by rfl) : PI X tg (.Call (.Name "range" p) [a] [] pos) (iRng1 ta) := by
  intro pins s σ H R I h
  refine Call_ (ld_blt I hg hm boot_range (PyProof.Rows.callWith_type1 (thn (ha pos pins s σ H _ I h) fun us s1 ⟨vs, H1, I1, r1, q1⟩ => ?_) hs rfl))
  obtain ⟨j, e, q1, q2, q⟩ := q1
  subst e
  cases r1 with
  | cons r rr =>
    cases rr
    obtain ⟨t, rfl⟩ := r
    exact call_range_1 (range_it I1 (by omega) (by omega) q1 q2 (by simpa using q))
theorem pi_range2 {a b : Expr} {ta : TA} {p pos : Pos} (hg : Gl X "range") (hm : X.mg "range" = none) (ha : PA X [a, b] ta) (hs : starEach [a, b] X.env = [(false, eval a X.env), (false, eval b X.env)] := by rfl) (hs2 : starEach [b] X.env = [(false, eval b X.env)] := by rfl) :
    PI X tg (.Call (.Name "range" p) [a, b] [] pos) (iRng2 ta) := by
  intro pins s σ H R I h
  refine Call_ (ld_blt I hg hm boot_range (PyProof.Rows.callWith_type1 (thn (ha pos pins s σ H _ I h) fun us s1 ⟨vs, H1, I1, r1, q1⟩ => ?_) (by rw [hs, hs2]) (by rw [hs2]; rfl)))
  obtain ⟨i, j, e, ⟨q1, q2, q3, q4⟩, q⟩ := q1
  subst e
  cases r1 with
  | cons r rr =>
    cases rr with
    | cons r' rr =>
      cases rr
      obtain ⟨t, rfl⟩ := r
      obtain ⟨t', rfl⟩ := r'
      exact call_range_2 (range_it I1 q1 q2 q3 q4 q)
def tFor (wi : TI) (g : TG) (tb : TS) : TS := fun D σ H => wi σ H fun J H1 => ∃ W : Nat → Nat → St → Hp → Prop, (∃ m, W 0 m σ H1) ∧ ∀ i m σ H, W i m σ H →
  (J.stop i H ∧ D.nx σ H) ∨ (J.go i H ∧ ∃ N : St → Hp → Prop, (∀ σ' H', N σ' H' → ∃ m', m' < m ∧ W (i + 1) m' σ' H') ∧ ∀ x H', J.yld i H x H' → g x σ H' fun σ2 H2 => tb { D with nx := N, ct := N, bk := D.nx } σ2 H2)
def pinsAt (fp : List Addr) (h : Heap) : List (Addr × Obj) := fp.filterMap fun b => (h.get? b).map fun o => (b, o)
theorem mem_pinsAt {fp : List Addr} {h : Heap} {b : Addr} {o : Obj} (hb : b ∈ fp) (e : h.get? b = some o) : (b, o) ∈ pinsAt fp h := List.mem_filterMap.mpr ⟨b, hb, by rw [e]; rfl⟩
theorem of_pinsAt {fp : List Addr} {h : Heap} {p : Addr × Obj} (hp : p ∈ pinsAt fp h) : p.1 ∈ fp ∧ h.get? p.1 = some p.2 := by
  obtain ⟨b, hb, e⟩ := List.mem_filterMap.mp hp
  cases q : h.get? b with
  | none => rw [q] at e; cases e
  | some o =>
    rw [q] at e
    have e' : (b, o) = p := Option.some.inj e
    subst e'
    exact ⟨hb, q⟩
theorem Inv.pinned {pins : List (Addr × Obj)} {σ : St} {H : Hp} {s : Shared} {fp : List Addr} (I : Inv X pins σ H s) (hf : ∀ b ∈ fp, FpOk X pins H b) (ho : ∀ b ∈ fp, ∃ o, s.heap.get? b = some o ∧ ∀ v, o.data ≠ .cell v) : Inv X (pins ++ pinsAt fp s.heap) σ H s :=
  I.pins_of fun p hp => (List.mem_append.mp hp).elim (fun z => I.pin p (List.mem_append_right _ z)) fun z => by
    obtain ⟨hb, e⟩ := of_pinsAt z
    obtain ⟨f0, f1, f2, _⟩ := hf p.1 hb
    obtain ⟨o, e', d⟩ := ho p.1 hb
    rw [e] at e'; cases e'
    exact ⟨e, f0, f1, f2, d⟩
theorem Inv.unpinned {pins pl : List (Addr × Obj)} {σ : St} {H : Hp} {s : Shared} (I : Inv X (pins ++ pl) σ H s) : Inv X pins σ H s := I.pins_of fun p hp => I.pin p (List.mem_append_right _ (List.mem_append_left _ hp))
theorem ps_for {iter : Expr} {body : List Stmt} {wi : TI} {g : TG} {tb : TS} {pos : Pos} (hp : PassesOwn (model X.prog X.w) X.A X.env X.xe) (hc : X.calm = true) (hi : PI X tg iter wi) (hg : PG X tg g) (hb : PSs X body tb)
    (hs : ∀ x, foldedSetIterable iter X.env x = pure x := by intro _; rfl) : PS X (.For tg iter body [] pos) (tFor wi g tb) := by
  intro pins s σ H D I h
  refine wpAny_For (thn (hi pins s σ H _ I h) fun v s1 h1 => thn h1 fun itv s2 h2 => ?_) hs
  obtain ⟨it, fp, tn, J, H2, e, I2, T, st2, f2, W, ⟨m0, w0⟩, turn⟩ := h2
  subst e
  have stat : ∀ {H' : Hp}, (∀ b ∈ fp, H' b = none) → ∀ b ∈ fp, FpOk X pins H' b := fun hn b hb => ⟨hn b hb, (f2 b hb).2⟩
  refine codeAny_forLoop_any (fun n s' => ∃ i σ' H', Inv X pins σ' H' s' ∧ tn i s'.heap ∧ (∀ b ∈ fp, H' b = none) ∧ W i n σ' H') ?_ m0 ⟨0, σ, H2, I2, st2, fun b hb => (f2 b hb).1, w0⟩
  rintro n s3 ⟨i, σ3, H3, I3, st3, fr3, w3⟩
  rcases turn i n σ3 H3 w3 with ⟨stop, qn⟩ | ⟨go, N, hN, step⟩
  · refine wpAny_passesOwn hp (thn (T.done X rfl rfl rfl hc i pins s3 σ3 H3 X.xe I3 (stat fr3) st3 stop) fun r s4 ⟨hr, I4⟩ => ?_)
    subst hr
    exact wpAny_execs_nil ⟨σ3, H3, I4, qn⟩
  · refine wpAny_passesOwn hp (thn (T.item X rfl rfl rfl hc i pins s3 σ3 H3 X.xe I3 (stat fr3) st3 go) fun r s4 ⟨u, hr, h4⟩ => ?_)
    subst hr
    refine wpAny_passesOwn hp (thn h4 fun _ s5 ⟨x, H5, I5, r5, y5, st5, fr5⟩ => ?_)
    have I5' := I5.pinned (stat fr5) (T.obj _ _ st5)
    refine wpAny_passesOwn hp (thn (hg _ s5 σ3 H5 x u _ I5' r5 (step x H5 y5)) fun _ s6 ⟨σ6, H6, I6, q6⟩ => ?_)
    refine wpAny_passesOwn hp (thn (hb _ s6 σ6 H6 _ I6 q6) fun f s7 q7 => ?_)
    have again : ∀ {σ7 : St} {H7 : Hp}, Inv X (pins ++ pinsAt fp s5.heap) σ7 H7 s7 → N σ7 H7 → ∃ m, m < n ∧ ∃ i σ' H', Inv X pins σ' H' s7 ∧ tn i s7.heap ∧ (∀ b ∈ fp, H' b = none) ∧ W i m σ' H' := fun {σ7 H7} I7 n7 => by
      obtain ⟨m', hm, w7⟩ := hN σ7 H7 n7
      refine ⟨m', hm, i + 1, σ7, H7, I7.unpinned, T.keep _ _ _ st5 fun b hb o e => (I7.pin (b, o) (List.mem_append_right _ (List.mem_append_right _ (mem_pinsAt hb e)))).1, fun b hb => ?_, w7⟩
      obtain ⟨o, e, d⟩ := T.obj _ _ st5 b hb
      exact (I7.pin (b, o) (List.mem_append_right _ (List.mem_append_right _ (mem_pinsAt hb e)))).2.1
    cases f with
    | next => obtain ⟨σ7, H7, I7, n7⟩ := q7; exact again I7 n7
    | cont => obtain ⟨σ7, H7, I7, n7⟩ := q7; exact again I7 n7
    | brk => obtain ⟨σ7, H7, I7, q7⟩ := q7; exact ⟨σ7, H7, I7.unpinned, q7⟩
    | ret v => obtain ⟨x7, σ7, H7, I7, r7, q7⟩ := q7; exact ⟨x7, σ7, H7, I7.unpinned, r7, q7⟩
end
theorem for_list {K : PySem.W.Frag} {a : Addr} {xs : List V} {g : TG} {tb : TS} {D : Ends} {σ : St} {H : Hp} (Pv : Nat → St → Hp → Prop) (h0 : Pv 0 σ H) (hl : ∀ i σ H, i ≤ xs.length → Pv i σ H → SqL K H a xs)
    (hs : ∀ i x σ H, xs[i]? = some x → Pv i σ H → g x σ H fun σ2 H2 => tb { D with nx := Pv (i + 1), ct := Pv (i + 1), bk := D.nx } σ2 H2) (hd : ∀ σ H, Pv xs.length σ H → D.nx σ H) :
    ∃ W : Nat → Nat → St → Hp → Prop, (∃ m, W 0 m σ H) ∧ ∀ i m σ H, W i m σ H →
      ((Itl K a).stop i H ∧ D.nx σ H) ∨ ((Itl K a).go i H ∧ ∃ N : St → Hp → Prop, (∀ σ' H', N σ' H' → ∃ m', m' < m ∧ W (i + 1) m' σ' H') ∧ ∀ x H', (Itl K a).yld i H x H' → g x σ H' fun σ2 H2 => tb { D with nx := N, ct := N, bk := D.nx } σ2 H2) := by
  refine ⟨fun i m σ H => m = xs.length - i ∧ i ≤ xs.length ∧ Pv i σ H, ⟨xs.length, by simp, Nat.zero_le _, h0⟩, ?_⟩
  rintro i m σ H ⟨rfl, hi, p⟩
  have q := hl i σ H hi p
  by_cases hlt : i < xs.length
  · refine .inr ⟨⟨xs, xs[i], q, by simp [hlt]⟩, Pv (i + 1), fun σ' H' p' => ⟨xs.length - (i + 1), by omega, rfl, hlt, p'⟩, fun x H' y => ?_⟩
    obtain ⟨e, y⟩ := y
    subst e
    exact hs i x σ _ (y xs q) p
  · have e : i = xs.length := by omega
    subst e
    exact .inl ⟨⟨xs, q, Nat.le_refl _⟩, hd σ H p⟩
theorem for_range {lo : Int} {n : Nat} {g : TG} {tb : TS} {D : Ends} {σ : St} {H : Hp} (Pv : Nat → St → Hp → Prop) (h0 : Pv 0 σ H)
    (hs : ∀ i σ H, i < n → Pv i σ H → g (.int (lo + i)) σ H fun σ2 H2 => tb { D with nx := Pv (i + 1), ct := Pv (i + 1), bk := D.nx } σ2 H2) (hd : ∀ σ H, Pv n σ H → D.nx σ H) :
    ∃ W : Nat → Nat → St → Hp → Prop, (∃ m, W 0 m σ H) ∧ ∀ i m σ H, W i m σ H →
      ((Itr lo n).stop i H ∧ D.nx σ H) ∨ ((Itr lo n).go i H ∧ ∃ N : St → Hp → Prop, (∀ σ' H', N σ' H' → ∃ m', m' < m ∧ W (i + 1) m' σ' H') ∧ ∀ x H', (Itr lo n).yld i H x H' → g x σ H' fun σ2 H2 => tb { D with nx := N, ct := N, bk := D.nx } σ2 H2) := by
  refine ⟨fun i m σ H => m = n - i ∧ i ≤ n ∧ Pv i σ H, ⟨n, by simp, Nat.zero_le _, h0⟩, ?_⟩
  rintro i m σ H ⟨rfl, hi, p⟩
  by_cases hlt : i < n
  · refine .inr ⟨hlt, Pv (i + 1), fun σ' H' p' => ⟨n - (i + 1), by omega, rfl, hlt, p'⟩, fun x H' y => ?_⟩
    obtain ⟨e, y⟩ := y
    subst e y
    exact hs i σ _ hlt p
  · have e : i = n := by omega
    subst e
    exact .inl ⟨Nat.le_refl _, hd σ H p⟩
end L2
namespace L2
open PySem PySem.Spec PyProof.Rows
abbrev R2 := V → V → Hp → VK → Prop
def OpR (X : Cx) (f : Value → Value → Sem Value) (r : R2) : Prop :=
  ∀ (pins : List (Addr × Obj)) (s : Shared) (σ : St) (H : Hp) (x y : V) (v u : Value) (Q : VK), Inv X pins σ H s → RelV x v → RelV y u → r x y H Q →
    wpAny (model X.prog X.w) X.A (f v u) (EP X pins σ Q) X.xe s
def UnR (X : Cx) (f : Value → Sem Value) (r : V → Hp → VK → Prop) : Prop :=
  ∀ (pins : List (Addr × Obj)) (s : Shared) (σ : St) (H : Hp) (x : V) (v : Value) (Q : VK), Inv X pins σ H s → RelV x v → r x H Q →
    wpAny (model X.prog X.w) X.A (f v) (EP X pins σ Q) X.xe s
def CallR (X : Cx) (f : Value) (r : List V → Hp → VK → Prop) : Prop :=
  ∀ (pins : List (Addr × Obj)) (s : Shared) (σ : St) (H : Hp) (xs : List V) (us : List Value) (Q : VK), Inv X pins σ H s → Vals xs us → r xs H Q →
    wpAny (model X.prog X.w) X.A (call f us) (EP X pins σ Q) X.xe s
def tOp (r : R2) (ta tb : TE) : TE := fun σ H Q => ta σ H fun x H1 => tb σ H1 fun y H2 => r x y H2 Q
def tUn (r : V → Hp → VK → Prop) (ta : TE) : TE := fun σ H Q => ta σ H fun x H1 => r x H1 Q
def rI (C : Int → Int → Prop) (g : Int → Int → V) : R2 := fun x y H Q => ∃ i j, x = .int i ∧ y = .int j ∧ C i j ∧ Q (g i j) H
def rI0 (g : Int → Int → V) : R2 := fun x y H Q => ∃ i j, x = .int i ∧ y = .int j ∧ Q (g i j) H
def rU (g : Int → V) : V → Hp → VK → Prop := fun x H Q => ∃ i, x = .int i ∧ Q (g i) H
section
variable {X : Cx} {a b c : Expr} {ta tb tc : TE} {pos : Pos}
theorem binT (ha : PE X a ta) (hb : PE X b tb) {pins : List (Addr × Obj)} {s : Shared} {σ : St} {H : Hp} {R : V → V → Hp → Prop} (I : Inv X pins σ H s)
    (h : ta σ H fun x H1 => tb σ H1 fun y H2 => R x y H2) {Q : Value → Shared → Prop} {f : Value → Value → Sem Value}
    (hf : ∀ v u s2 x y H2, Inv X pins σ H2 s2 → RelV x v → RelV y u → R x y H2 → wpAny (model X.prog X.w) X.A (f v u) Q X.xe s2) :
    wpAny (model X.prog X.w) X.A (eval a X.env) (fun v s₁ => wpAny (model X.prog X.w) X.A (eval b X.env) (fun u s₂ => wpAny (model X.prog X.w) X.A (f v u) Q X.xe s₂) X.xe s₁) X.xe s := by
  refine thn (ha pins s σ H _ I h) fun v s1 ⟨x, H1, I1, r1, q1⟩ => ?_
  refine thn (hb pins s1 σ H1 _ I1 q1) fun u s2 ⟨y, H2, I2, r2, q2⟩ => ?_
  exact hf v u s2 x y H2 I2 r1 r2 q2
theorem pe_op {op : Operator} {r : R2} (ho : OpR X (binaryOp op) r) (ha : PE X a ta) (hb : PE X b tb) : PE X (.BinOp a op b pos) (tOp r ta tb) := by
  intro pins s σ H Q I h
  exact wpAny_BinOp (binT ha hb I h fun v u s2 x y H2 I2 rx ry q => ho pins s2 σ H2 x y v u Q I2 rx ry q)
theorem pe_un {op : UnaryOp} {r : V → Hp → VK → Prop} (ho : UnR X (unaryOp op) r) (ha : PE X a ta) : PE X (.UnaryOp op a pos) (tUn r ta) := by
  intro pins s σ H Q I h
  exact UnaryOp_ (thn (ha pins s σ H _ I h) fun v s1 ⟨x, H1, I1, r1, q1⟩ => ho pins s1 σ H1 x v Q I1 r1 q1)
theorem opI {f : Value → Value → Sem Value} {C : Int → Int → Prop} {g : Int → Int → Int}
    (rule : ∀ (i j : Int) (t u : Tok) (s : Shared) (Q : Value → Shared → Prop) (E : Value → Shared → Prop), C i j → Q (.int (g i j) s.toks) { s with toks := s.toks + 1 } → wpAny (model X.prog X.w) X.A (f (.int i t) (.int j u)) Q E s) :
    OpR X f (rI C fun i j => .int (g i j)) := by
  intro pins s σ H x y v u Q I rx ry h
  obtain ⟨i, j, rfl, rfl, hc, q⟩ := h
  obtain ⟨t, rfl⟩ := rx
  obtain ⟨t', rfl⟩ := ry
  exact rule i j t t' s _ _ hc ⟨.int (g i j), H, I.tok _, ⟨_, rfl⟩, q⟩
theorem opI0 {f : Value → Value → Sem Value} {g : Int → Int → Int}
    (rule : ∀ (i j : Int) (t u : Tok) (s : Shared) (Q : Value → Shared → Prop) (E : Value → Shared → Prop), Q (.int (g i j) s.toks) { s with toks := s.toks + 1 } → wpAny (model X.prog X.w) X.A (f (.int i t) (.int j u)) Q E s) :
    OpR X f (rI0 fun i j => .int (g i j)) := by
  intro pins s σ H x y v u Q I rx ry h
  obtain ⟨i, j, rfl, rfl, q⟩ := h
  obtain ⟨t, rfl⟩ := rx
  obtain ⟨t', rfl⟩ := ry
  exact rule i j t t' s _ _ ⟨.int (g i j), H, I.tok _, ⟨_, rfl⟩, q⟩
theorem opB0 {f : Value → Value → Sem Value} {g : Int → Int → Bool}
    (rule : ∀ (i j : Int) (t u : Tok) (s : Shared) (Q : Value → Shared → Prop) (E : Value → Shared → Prop), Q (.bool (g i j)) s → wpAny (model X.prog X.w) X.A (f (.int i t) (.int j u)) Q E s) :
    OpR X f (rI0 fun i j => .bl (g i j)) := by
  intro pins s σ H x y v u Q I rx ry h
  obtain ⟨i, j, rfl, rfl, q⟩ := h
  obtain ⟨t, rfl⟩ := rx
  obtain ⟨t', rfl⟩ := ry
  exact rule i j t t' s _ _ ⟨.bl (g i j), H, I, rfl, q⟩
def CPow (i j : Int) : Prop := 0 ≤ j ∧ j ≤ 1000000 ∧ i.natAbs < 2 ^ 64
def CMul (i j : Int) : Prop := (-(2 ^ 64) < i ∧ i < 2 ^ 64) ∨ (-(2 ^ 64) < j ∧ j < 2 ^ 64)
theorem CMul.ok {i j : Int} (h : CMul i j) : IntMulOk i j := by
  rcases h with ⟨h1, h2⟩ | ⟨h1, h2⟩
  · exact .of_left (intBits_le_64 h1 h2)
  · exact .of_right (intBits_le_64 h1 h2)
theorem op_add : OpR X (binaryOp .Add) (rI0 fun i j => .int (i + j)) := opI0 fun _ _ _ _ _ _ _ q => add_int q
theorem op_sub : OpR X (binaryOp .Sub) (rI0 fun i j => .int (i - j)) := opI0 fun _ _ _ _ _ _ _ q => sub_int q
theorem op_mul : OpR X (binaryOp .Mult) (rI CMul fun i j => .int (i * j)) := opI fun _ _ _ _ _ _ _ hc q => mul_int q hc.ok
theorem op_mod : OpR X (binaryOp .Mod) (rI (fun _ j => 0 < j) fun i j => .int (i % j)) := opI fun i j _ _ _ _ _ hc q => by
  have h1 : (0 : Int) < j := hc
  exact mod_int' (by omega) (by rw [Int.fmod_eq_emod_of_nonneg i (by omega)]; exact q)
theorem op_pow : OpR X (binaryOp .Pow) (rI CPow fun i j => .int (i ^ j.toNat)) := opI fun _ _ _ _ _ _ _ hc q => pow_int_small hc.1 hc.2.1 hc.2.2 q
theorem unI {f : Value → Sem Value} {g : Int → Int}
    (rule : ∀ (i : Int) (t : Tok) (s : Shared) (Q : Value → Shared → Prop) (E : Value → Shared → Prop), Q (.int (g i) s.toks) { s with toks := s.toks + 1 } → wpAny (model X.prog X.w) X.A (f (.int i t)) Q E s) :
    UnR X f (rU fun i => .int (g i)) := by
  intro pins s σ H x v Q I rx h
  obtain ⟨i, rfl, q⟩ := h
  obtain ⟨t, rfl⟩ := rx
  exact rule i t s _ _ ⟨.int (g i), H, I.tok _, ⟨_, rfl⟩, q⟩
theorem un_neg : UnR X (unaryOp .USub) (rU fun i => .int (-i)) := unI fun _ _ _ _ _ q => neg_int q
end
def scal : V → V → Bool
  | .non, .non => true | .non, .int _ => true | .int _, .non => true | .non, .bl _ => true | .bl _, .non => true | .non, .str _ => true | .str _, .non => true
  | .int _, .int _ => true | .bl _, .bl _ => true | .str _, .str _ => true | .byt _, .byt _ => true
  | .int _, .str _ => true | .str _, .int _ => true | .bl _, .str _ => true | .str _, .bl _ => true
  | _, _ => false
def rEq : R2 := fun x y H Q => scal x y = true ∧ Q (.bl (decide (x = y))) H
def rNe : R2 := fun x y H Q => scal x y = true ∧ Q (.bl (!decide (x = y))) H
theorem dec_int {i j : Int} : decide (V.int i = V.int j) = (i == j) := by
  rw [Bool.eq_iff_iff]
  simp
theorem dec_bl {i j : Bool} : decide (V.bl i = V.bl j) = (i == j) := by
  rw [Bool.eq_iff_iff]
  simp
theorem dec_str {i j : Str} : decide (V.str i = V.str j) = (i == j) := by
  rw [Bool.eq_iff_iff]
  simp
theorem dec_byt {i j : Array UInt8} : decide (V.byt i = V.byt j) = (i.toList == j.toList) := by
  rw [Bool.eq_iff_iff]
  cases i
  cases j
  simp
section
variable {X : Cx} {a b c : Expr} {ta tb tc : TE} {pos : Pos}
theorem fin_bl {pins : List (Addr × Obj)} {σ : St} {H : Hp} {s : Shared} {Q : VK} {k k' : Bool} (I : Inv X pins σ H s) (q : Q (.bl k) H) (e : k = k') : EP X pins σ Q (.bool k') s := by
  subst e
  exact ⟨.bl k, H, I, rfl, q⟩
theorem op_eq : OpR X (compareOp .Eq) rEq := by
  intro pins s σ H x y v u Q I rx ry h
  obtain ⟨hs, q⟩ := h
  cases x with
  | non =>
    cases rx
    cases y with
    | non => cases ry; exact PySem.EqNone.eq_none_none (fin_bl I q (by simp))
    | bl j => cases ry; exact PySem.EqNone.eq_none_bool (fin_bl I q (by simp))
    | int j => obtain ⟨t', rfl⟩ := ry; exact PySem.EqNone.eq_none_int (fin_bl I q (by simp))
    | str j => obtain ⟨t', rfl⟩ := ry; exact PySem.EqNone.eq_none_str (fin_bl I q (by simp))
    | _ => exact absurd (show false = true from hs) Bool.false_ne_true
  | bl i =>
    cases rx
    cases y with
    | non => cases ry; exact PySem.EqNone.eq_bool_none (fin_bl I q (by simp))
    | bl j => cases ry; exact eq_bool (fin_bl I q dec_bl)
    | str j => obtain ⟨t', rfl⟩ := ry; exact PySem.EqMixed.eq_bool_str (fin_bl I q (by simp))
    | _ => exact absurd (show false = true from hs) Bool.false_ne_true
  | int i =>
    obtain ⟨t, rfl⟩ := rx
    cases y with
    | non => cases ry; exact PySem.EqNone.eq_int_none (fin_bl I q (by simp))
    | int j => obtain ⟨t', rfl⟩ := ry; exact eq_int (fin_bl I q dec_int)
    | str j => obtain ⟨t', rfl⟩ := ry; exact PySem.EqMixed.eq_int_str (fin_bl I q (by simp))
    | _ => exact absurd (show false = true from hs) Bool.false_ne_true
  | str i =>
    obtain ⟨t, rfl⟩ := rx
    cases y with
    | non => cases ry; exact PySem.EqNone.eq_str_none (fin_bl I q (by simp))
    | bl j => cases ry; exact PySem.EqMixed.eq_str_bool (fin_bl I q (by simp))
    | int j => obtain ⟨t', rfl⟩ := ry; exact PySem.EqMixed.eq_str_int (fin_bl I q (by simp))
    | str j => obtain ⟨t', rfl⟩ := ry; exact eq_str (fin_bl I q dec_str)
    | _ => exact absurd (show false = true from hs) Bool.false_ne_true
  | byt i =>
    obtain ⟨t, rfl⟩ := rx
    cases y with
    | byt j => obtain ⟨t', rfl⟩ := ry; exact PySem.W.eq_bytes (fin_bl I q dec_byt)
    | _ => exact absurd (show false = true from hs) Bool.false_ne_true
  | _ => cases y <;> exact absurd (show false = true from hs) Bool.false_ne_true
theorem op_ne : OpR X (compareOp .NotEq) rNe := by
  intro pins s σ H x y v u Q I rx ry h
  obtain ⟨hs, q⟩ := h
  cases x with
  | non =>
    cases rx
    cases y with
    | non => cases ry; exact PySem.EqNone.ne_none_none (fin_bl I q (by simp))
    | bl j => cases ry; exact PySem.EqNone.ne_none_bool (fin_bl I q (by simp))
    | int j => obtain ⟨t', rfl⟩ := ry; exact PySem.EqNone.ne_none_int (fin_bl I q (by simp))
    | str j => obtain ⟨t', rfl⟩ := ry; exact PySem.EqNone.ne_none_str (fin_bl I q (by simp))
    | _ => exact absurd (show false = true from hs) Bool.false_ne_true
  | bl i =>
    cases rx
    cases y with
    | non => cases ry; exact PySem.EqNone.ne_bool_none (fin_bl I q (by simp))
    | bl j => cases ry; exact ne_bool (fin_bl I q (congrArg not dec_bl))
    | str j => obtain ⟨t', rfl⟩ := ry; exact PySem.EqMixed.ne_bool_str (fin_bl I q (by simp))
    | _ => exact absurd (show false = true from hs) Bool.false_ne_true
  | int i =>
    obtain ⟨t, rfl⟩ := rx
    cases y with
    | non => cases ry; exact PySem.EqNone.ne_int_none (fin_bl I q (by simp))
    | int j => obtain ⟨t', rfl⟩ := ry; exact ne_int (fin_bl I q (congrArg not dec_int))
    | str j => obtain ⟨t', rfl⟩ := ry; exact PySem.EqMixed.ne_int_str (fin_bl I q (by simp))
    | _ => exact absurd (show false = true from hs) Bool.false_ne_true
  | str i =>
    obtain ⟨t, rfl⟩ := rx
    cases y with
    | non => cases ry; exact PySem.EqNone.ne_str_none (fin_bl I q (by simp))
    | bl j => cases ry; exact PySem.EqMixed.ne_str_bool (fin_bl I q (by simp))
    | int j => obtain ⟨t', rfl⟩ := ry; exact PySem.EqMixed.ne_str_int (fin_bl I q (by simp))
    | str j => obtain ⟨t', rfl⟩ := ry; exact ne_str (fin_bl I q (congrArg not dec_str))
    | _ => exact absurd (show false = true from hs) Bool.false_ne_true
  | byt i =>
    obtain ⟨t, rfl⟩ := rx
    cases y with
    | byt j => obtain ⟨t', rfl⟩ := ry; exact PySem.W.ne_bytes (fin_bl I q (congrArg not dec_byt))
    | _ => exact absurd (show false = true from hs) Bool.false_ne_true
  | _ => cases y <;> exact absurd (show false = true from hs) Bool.false_ne_true
theorem op_lt : OpR X (compareOp .Lt) (rI0 fun i j => .bl (decide (i < j))) := opB0 fun _ _ _ _ _ _ _ q => lt_int q
theorem op_le : OpR X (compareOp .LtE) (rI0 fun i j => .bl (decide (i ≤ j))) := opB0 fun _ _ _ _ _ _ _ q => le_int q
theorem op_gt : OpR X (compareOp .Gt) (rI0 fun i j => .bl (decide (j < i))) := opB0 fun _ _ _ _ _ _ _ q => gt_int q
theorem op_ge : OpR X (compareOp .GtE) (rI0 fun i j => .bl (decide (j ≤ i))) := opB0 fun _ _ _ _ _ _ _ q => ge_int q
theorem op_isN : OpR X (compareOp .Is) (fun x y H Q => y = .non ∧ Q (.bl (decide (x = .non))) H) := by
  intro pins s σ H x y v u Q I rx ry h
  obtain ⟨rfl, q⟩ := h
  cases ry
  refine is_none_gen (fin_bl I q ?_)
  cases x <;> first
    | (cases rx; rfl)
    | (obtain ⟨t, rfl⟩ := rx; rfl)
theorem op_notN : OpR X (compareOp .IsNot) (fun x y H Q => y = .non ∧ Q (.bl (!decide (x = .non))) H) := by
  intro pins s σ H x y v u Q I rx ry h
  obtain ⟨rfl, q⟩ := h
  cases ry
  refine isnot_none_gen (fin_bl I q ?_)
  cases x <;> first
    | (cases rx; rfl)
    | (obtain ⟨t, rfl⟩ := rx; rfl)
theorem nomark (b : Expr) {op : CmpOp} (h : op ≠ .In := by decide) (h2 : op ≠ .NotIn := by decide) : behindInMarks op b = false := by
  have e1 : (op == CmpOp.In) = false := by cases op <;> first | rfl | exact absurd rfl h
  have e2 : (op == CmpOp.NotIn) = false := by cases op <;> first | rfl | exact absurd rfl h2
  cases b <;> simp [behindInMarks, e1, e2]
theorem pe_cmpR {op : CmpOp} {r : R2} (ho : OpR X (compareOp op) r) (ha : PE X a ta) (hb : PE X b tb) (hm : behindInMarks op b = false) : PE X (.Compare a [op] [b] pos) (tOp r ta tb) := by
  intro pins s σ H Q I h
  exact wpAny_Compare1 (binT ha hb I h fun v u s2 x y H2 I2 rx ry q => ho pins s2 σ H2 x y v u Q I2 rx ry q) hm
def tTest (t : TE) : TT := fun σ H Q => t σ H fun x H' => ∃ k, x = .bl k ∧ Q k H'
theorem pt_cmpR {op : CmpOp} {r : R2} (ho : OpR X (compareOp op) r) (ha : PE X a ta) (hb : PE X b tb) (hm : behindInMarks op b = false) : PT X (.Compare a [op] [b] pos) (tTest (tOp r ta tb)) := by
  intro pins s σ H Q I h
  refine wpAny_isTrue_Compare1 (thn (ha pins s σ H _ I h) fun v s1 ⟨x, H1, I1, r1, q1⟩ => thn (hb pins s1 σ H1 _ I1 q1) fun u s2 ⟨y, H2, I2, r2, q2⟩ =>
    thn (ho pins s2 σ H2 x y v u _ I2 r1 r2 q2) fun c s3 ⟨z, H3, I3, r3, k, e, q3⟩ => ?_) hm
  subst e
  cases r3
  exact wpAny_truthy_bool ⟨H3, I3, q3⟩
def tChain (r r' : R2) (ta tb tc : TE) : TE := fun σ H Q => ta σ H fun x H1 => tb σ H1 fun y H2 => r x y H2 fun z H3 => ∃ k, z = .bl k ∧
  (if k = true then tc σ H3 fun w' H4 => r' y w' H4 Q else Q (.bl false) H3)
theorem pe_chain {op op' : CmpOp} {r r' : R2} (ho : OpR X (compareOp op) r) (ho' : OpR X (compareOp op') r') (ha : PE X a ta) (hb : PE X b tb) (hc : PE X c tc)
    (hm : lastMarks [op, op'] [b, c] = false := by with_unfolding_all rfl) : PE X (.Compare a [op, op'] [b, c] pos) (tChain r r' ta tb tc) := by
  intro pins s σ H Q I h
  refine Compare_chain (thn (ha pins s σ H _ I h) fun v s1 ⟨x, H1, I1, r1, q1⟩ => chain_link (thn (hb pins s1 σ H1 _ I1 q1) fun u s2 ⟨y, H2, I2, r2, q2⟩ =>
    thn (ho pins s2 σ H2 x y v u _ I2 r1 r2 q2) fun d s3 ⟨z, H3, I3, r3, k, e, q3⟩ => ?_)) hm
  subst e
  cases r3
  refine wpAny_truthy_bool ?_
  cases k with
  | false => exact ite_ff ⟨.bl false, H3, I3, rfl, q3⟩
  | true => exact ite_tt (chain_last (thn (hc pins s3 σ H3 _ I3 q3) fun w' s4 ⟨z', H4, I4, r4, q4⟩ => ho' pins s4 σ H4 y z' u w' Q I4 r2 r4 q4))
theorem pt_chain {op op' : CmpOp} {r r' : R2} (ho : OpR X (compareOp op) r) (ho' : OpR X (compareOp op') r') (ha : PE X a ta) (hb : PE X b tb) (hc : PE X c tc)
    (hm : lastMarks [op, op'] [b, c] = false := by with_unfolding_all rfl) : PT X (.Compare a [op, op'] [b, c] pos) (tTest (tChain r r' ta tb tc)) := by
  intro pins s σ H Q I h
  refine isTrue_chain (thn (ha pins s σ H _ I h) fun v s1 ⟨x, H1, I1, r1, q1⟩ => test_link (thn (hb pins s1 σ H1 _ I1 q1) fun u s2 ⟨y, H2, I2, r2, q2⟩ =>
    thn (ho pins s2 σ H2 x y v u _ I2 r1 r2 q2) fun d s3 ⟨z, H3, I3, r3, k, e, q3⟩ => ?_)) hm
  subst e
  cases r3
  refine wpAny_truthy_bool ?_
  cases k with
  | false =>
    obtain ⟨k', e', q'⟩ := q3
    cases e'
    exact ite_ff ⟨H3, I3, q'⟩
  | true =>
    refine ite_tt (test_last (thn (hc pins s3 σ H3 _ I3 q3) fun w' s4 ⟨z', H4, I4, r4, q4⟩ => thn (ho' pins s4 σ H4 y z' u w' _ I4 r2 r4 q4) fun d' s5 ⟨z2, H5, I5, r5, k2, e2, q5⟩ => ?_))
    subst e2
    cases r5
    exact wpAny_truthy_bool ⟨H5, I5, q5⟩
theorem line63 : (sizeLine : Nat) < 2 ^ 63 := by rw [sizeLine_eq]; decide
theorem vals1 {x : V} {us : List Value} (r : Vals [x] us) : ∃ u, us = [u] ∧ RelV x u := by
  cases r with
  | cons r1 r2 => cases r2; exact ⟨_, rfl, r1⟩
theorem vals2 {x y : V} {us : List Value} (r : Vals [x, y] us) : ∃ u w', us = [u, w'] ∧ RelV x u ∧ RelV y w' := by
  cases r with
  | cons r1 r2 =>
    cases r2 with
    | cons r3 r4 => cases r4; exact ⟨_, _, rfl, r1, r3⟩
theorem call_max2 (hc : X.calm = true) : CallR X (.builtin "max") (fun xs H Q => ∃ i j, xs = [.int i, .int j] ∧ Q (.int (if j > i then j else i)) H) := by
  intro pins s σ H xs us Q I r h
  obtain ⟨i, j, rfl, q⟩ := h
  obtain ⟨u, w', rfl, ⟨t, rfl⟩, ⟨t', rfl⟩⟩ := vals2 r
  refine max_two_ints (I.ok.hd hc) fun h' tk k => ⟨_, H, I.kept k, ?_, q⟩
  by_cases hj : j > i
  · rw [if_pos hj, if_pos hj]; exact ⟨_, rfl⟩
  · rw [if_neg hj, if_neg hj]; exact ⟨_, rfl⟩
theorem call_min2 (hc : X.calm = true) : CallR X (.builtin "min") (fun xs H Q => ∃ i j, xs = [.int i, .int j] ∧ Q (.int (if j < i then j else i)) H) := by
  intro pins s σ H xs us Q I r h
  obtain ⟨i, j, rfl, q⟩ := h
  obtain ⟨u, w', rfl, ⟨t, rfl⟩, ⟨t', rfl⟩⟩ := vals2 r
  refine min_two_ints (I.ok.hd hc) fun h' tk k => ⟨_, H, I.kept k, ?_, q⟩
  by_cases hj : j < i
  · rw [if_pos hj, if_pos hj]; exact ⟨_, rfl⟩
  · rw [if_neg hj, if_neg hj]; exact ⟨_, rfl⟩
theorem call_int1 : CallR X (.type "int") (fun xs H Q => (∃ i, xs = [.int i] ∧ Q (.int i) H) ∨ ∃ k, xs = [.bl k] ∧ Q (.int (if k then 1 else 0)) H) := by
  intro pins s σ H xs us Q I r h
  rcases h with ⟨i, rfl, q⟩ | ⟨k, rfl, q⟩
  · obtain ⟨u, rfl, t, rfl⟩ := vals1 r
    exact call_int_int ⟨.int i, H, I, ⟨_, rfl⟩, q⟩
  · obtain ⟨u, rfl, r1⟩ := vals1 r
    cases r1
    exact call_int_bool ⟨.int (if k then 1 else 0), H, I.tok _, ⟨_, rfl⟩, q⟩
end
end L2
namespace L2
open PySem PySem.Spec PyProof.Rows
structure ObjM (h : Heap) (x dx C : Addr) (mA : Str → Option Value) : Prop where
  obj : h.get? x = some (PySem.W.instObj C dx)
  ns : h.Ns1 dx mA
  ne : dx ≠ x
theorem lookIn_ns {h : Heap} {dx : Addr} {mA : Str → Option Value} (n : h.Ns1 dx mA) : ∃ od, h.get? dx = some od ∧ ∀ name, PySem.W.lookIn name od = some (mA name) := by
  obtain ⟨o, es, ep, ho, hd, hk, _, hm⟩ := n
  refine ⟨o, ho, fun name => ?_⟩
  have e := hm name
  unfold nsFind findBy at e
  rw [← Array.find?_toList] at e
  unfold PySem.W.lookIn
  rw [hd]
  dsimp only
  split
  · rename_i y q
    rw [q] at e
    exact congrArg some e
  · rename_i q
    rw [q] at e
    have a : es.toList.any (·.refKey) = false := by
      rw [List.any_eq_false]
      intro y hy
      obtain ⟨z, t, hkey⟩ := hk y (Array.mem_toList_iff.mp hy)
      simp [DictEntry.refKey, hkey]
    have a' : ¬ es.toList.any (·.refKey) = true := by rw [a]; exact Bool.false_ne_true
    rw [if_neg a']
    exact congrArg some e
theorem ObjM.look {h : Heap} {x dx C : Addr} {mA : Str → Option Value} (I : ObjM h x dx C mA) : ∃ od, PySem.W.InstAt h x (PySem.W.instObj C dx) C (some od) ∧ ∀ name, PySem.W.lookIn name od = some (mA name) :=
  let ⟨od, ho, hl⟩ := lookIn_ns I.ns
  ⟨od, ⟨I.obj, rfl, rfl, ho⟩, hl⟩
section
variable {prog : Program} {w : World} {A : Around} {E : Value → Shared → Prop} {s : Shared} {K : PySem.W.Frag} {x dx C f : Addr} {mA : Str → Option Value} {name : Str} {v : Value}
end
section
variable {P : Program} {w : World} {H H' : Hp} {h h' : Heap} {a C dx : Addr} {fs fs' : List (Str × V)}
theorem ins_get (hok : HOk P w H h) (e : H a = some (.ins C dx fs)) : ∃ mA, ObjM h a dx C mA ∧ (∀ f, RelO (fs.lookup f) (mA f)) ∧ PySem.Within mA (fs.map (·.1)) ∧ fs.length ≤ 1000 ∧ H dx = some (.own a) := by
  obtain ⟨d, z, ne, ob, mA, n, r, q⟩ := (show ObjOk P w H h a (.ins C dx fs) from hok a _ e)
  exact ⟨mA, ⟨ob, n, ne⟩, r, q, z, d⟩
end
structure Cls (K : PySem.W.Frag) (C : Addr) : Prop where
  pg : PySem.W.plainGet K C Str.empty = true
  hd : PySem.W.hasDictIn K C = true
  po : PySem.W.plainOver K C = true
  sa : PySem.W.findIn K (.ref C) "__setattr__" = some (some (.builtin "object.__setattr__"))
theorem Cls.get {K : PySem.W.Frag} {C : Addr} (c : Cls K C) (f : Str) : PySem.W.plainGet K C f = true := c.pg
structure Con (K : PySem.W.Frag) (C : Addr) (f : Str) (v : V) (u : Value) : Prop where
  at_ : PySem.W.findIn K (.ref C) f = some (some u)
  rel : RelV v u
  get : PySem.W.specialIn K u "__get__" = some none
  cp : PySem.W.copiedNames.contains f = false
structure Meth (K : PySem.W.Frag) (C : Addr) (m : Str) (f : Addr) : Prop where
  at_ : PySem.W.findIn K (.ref C) m = some (some (.ref f))
  fn : PySem.W.isFn K (.ref f) = true
  kp : PySem.W.keepIn K (.ref f) = true
section
variable {X : Cx} {pins : List (Addr × Obj)} {σ : St} {H : Hp} {s : Shared} {a C dx : Addr} {fs : List (Str × V)} {f : Str} {v : V} {A : Around} {E : Value → Shared → Prop}
end
section
variable {X : Cx} {o e value : Expr} {f : Str} {pos pos' tpos : Pos} {ta tv : TE}
end
section
variable {X : Cx} {pins : List (Addr × Obj)} {σ : St} {H : Hp} {s : Shared} {A : Around} {E : Value → Shared → Prop} {Q : Value → Shared → Prop} {c : Value} {b : Bool}
inductive TyOf (K : PySem.W.Frag) (H : Hp) : V → Value → Prop where
  | non : TyOf K H .non (.type "NoneType")
  | bl (x : Bool) : TyOf K H (.bl x) (.type "bool")
  | int (i : Int) : TyOf K H (.int i) (.type "int")
  | str (x : Str) : TyOf K H (.str x) (.type "str")
  | flt (x : UInt64) : TyOf K H (.flt x) (.type "float")
  | lst {a : Addr} {xs : List V} (e : H a = some (.lst xs)) : TyOf K H (.ref a) (.type "list")
  | frz {a : Addr} {o : Obj} {xs : List V} (e : H a = some (.frz o (.lst xs))) : TyOf K H (.ref a) (.type "list")
  | tup {a : Addr} {xs : List V} (e : H a = some (.tup xs)) : TyOf K H (.ref a) (.type "tuple")
  | dK {a : Addr} {kvs : List (Key × V)} (e : H a = some (.dK kvs)) : TyOf K H (.ref a) (.type "dict")
  | dT {a : Addr} {kvs : List (List Key × V)} (e : H a = some (.dT kvs)) : TyOf K H (.ref a) (.type "dict")
  | ins {a C dx : Addr} {fs : List (Str × V)} (e : H a = some (.ins C dx fs)) (cl : Cls K C) (ha : PySem.W.findIn K (.ref C) "__class__" = some (some (.builtin "object.__class__")))
      (hn : PySem.W.specialIn K (.builtin "object.__class__") "__get__" = some (some (.builtin "getset_descriptor.__get__"))) (htk : PySem.W.takesIn K (.builtin "object.__class__") = some true)
      (hm : PySem.W.mroIn K C (.type "object") = some true) : TyOf K H (.ref a) (.ref C)
theorem isinst_ok {x : V} {u t : Value} (I : Inv X pins σ H s) (rx : RelV x u) (ty : TyOf X.K H x t) (e : PySem.W.kitOne X.K t c = some b) (h : ∀ tk, Q (.bool b) { s with toks := tk }) :
    wpAny (model X.prog X.w) A (call (.builtin "isinstance") [u, c]) Q E s := by
  cases ty with
  | non => cases (show u = Value.none from rx); exact PySem.W.kia_one PySem.W.kitx_none I.kIn True.intro e (fun z => nomatch z) h
  | bl y => cases (show u = Value.bool y from rx); exact PySem.W.kia_one PySem.W.kitx_bool I.kIn True.intro e (fun z => nomatch z) h
  | int i => obtain ⟨t, q⟩ := (show ∃ t, u = Value.int i t from rx); cases q; exact PySem.W.kia_one PySem.W.kitx_int I.kIn True.intro e (fun z => nomatch z) h
  | str y => obtain ⟨t, q⟩ := (show ∃ t, u = Value.str y t from rx); cases q; exact PySem.W.kia_one PySem.W.kitx_str I.kIn True.intro e (fun z => nomatch z) h
  | flt y => obtain ⟨t, q⟩ := (show ∃ t, u = Value.float y t from rx); cases q; exact PySem.W.kia_one PySem.W.kitx_float I.kIn True.intro e (fun z => nomatch z) h
  | @lst a xs ea =>
    cases (show u = Value.ref a from rx)
    obtain ⟨_, _, n, _, h1⟩ := (show ObjOk X.prog X.w H s.heap a (.lst xs) from I.hok a _ ea)
    exact PySem.W.kia_one PySem.W.kitx_list I.kIn ⟨_, h1, rfl⟩ e (fun z => nomatch z) h
  | @frz a ob xs ea =>
    cases (show u = Value.ref a from rx)
    obtain ⟨_, _, _, n, _, h1⟩ := (show ObjOk X.prog X.w H s.heap a (.frz ob (.lst xs)) from I.hok a _ ea)
    exact PySem.W.kia_one PySem.W.kitx_list I.kIn ⟨_, h1, rfl⟩ e (fun z => nomatch z) h
  | @tup a xs ea =>
    cases (show u = Value.ref a from rx)
    obtain ⟨_, _, _, p⟩ := (show ObjOk X.prog X.w H s.heap a (.tup xs) from I.hok a _ ea)
    obtain ⟨o, h1, h2, _⟩ := p
    exact PySem.W.kia_one PySem.W.kitx_tuple I.kIn ⟨o, h1, h2⟩ e (fun z => nomatch z) h
  | @dK a kvs ea =>
    cases (show u = Value.ref a from rx)
    obtain ⟨_, _, vs, _, p⟩ := (show ObjOk X.prog X.w H s.heap a (.dK kvs) from I.hok a _ ea)
    obtain ⟨o, es, ep, h1, h2, _⟩ := p
    exact PySem.W.kia_one PySem.W.kitx_dict I.kIn ⟨o, h1, h2.1⟩ e (fun z => nomatch z) h
  | @dT a kvs ea =>
    cases (show u = Value.ref a from rx)
    obtain ⟨_, _, xs, _, o, es, ep, h1, h2, _⟩ := (show ObjOk X.prog X.w H s.heap a (.dT kvs) from I.hok a _ ea)
    exact PySem.W.kia_one PySem.W.kitx_dict I.kIn ⟨o, h1, h2.1⟩ e (fun z => nomatch z) h
  | @ins a C dx fs ea cl ha hn htk hm =>
    cases (show u = Value.ref a from rx)
    obtain ⟨mA, O, _⟩ := ins_get I.hok ea
    obtain ⟨od, J, _⟩ := O.look
    exact PySem.W.kia_one (PySem.W.kitx_own (cl.get _) cl.hd ha hn htk hm) I.kIn J e (fun z => nomatch z) h
end
end L2
namespace L2
open PySem PySem.Spec PyProof.Rows
structure Room (k : Nat) (A : Around) : Prop where
  hd : A.handled = none
  dp : A.depth + 3 * k + 5 < recursionLimit
  un : A.units + 16 * k + 200 < cLine
  gd : A.guards = some []
theorem Room.mono {j k : Nat} {A : Around} (r : Room k A) (h : j ≤ k) : Room j A := ⟨r.hd, by have := r.dp; omega, by have := r.un; omega, r.gd⟩
theorem Room.deeper {k : Nat} {A : Around} (r : Room (k + 1) A) (env : Env) : Room k (A.deeper env) :=
  ⟨r.hd, by have := r.dp; show A.depth + 1 + 3 * k + 5 < _; omega, by have := r.un; show A.units + 3 + 16 * k + 200 < _; omega, r.gd⟩
theorem Room.in1 {k : Nat} {A : Around} (r : Room (k + 1) A) : Room k A.in1 :=
  ⟨r.hd, by have := r.dp; show A.depth + 3 * k + 5 < _; omega, by have := r.un; show A.units + 1 + 16 * k + 200 < _; omega, r.gd⟩
theorem Room.depth {k : Nat} {A : Around} (r : Room k A) : A.depth < recursionLimit := by have := r.dp; omega
theorem Room.units {k : Nat} {A : Around} (r : Room k A) : A.units + 64 < cLine := by have := r.un; omega
def tNil : TA := fun _ H Q => Q [] H
def tCons (ta : TE) (tr : TA) : TA := fun σ H Q => ta σ H fun x H1 => tr σ H1 fun xs H2 => Q (x :: xs) H2
section
variable {X : Cx} {e : Expr} {es : List Expr} {te : TE} {t : TA} {pos : Pos}
theorem pa_nil : PA X [] tNil := fun _ _ _ _ H Q I h => Calls.spliced_nil ⟨[], H, I, .nil, h⟩
theorem pa_cons (ha : PE X e te) (hr : PA X es t) (hs : starEach (e :: es) X.env = (false, eval e X.env) :: starEach es X.env := by rfl) : PA X (e :: es) (tCons te t) := by
  intro pos pins s σ H Q I h
  rw [hs]
  show wpAny _ _ (spliced ((false, eval e X.env) :: backTo pos (starEach es X.env))) _ _ s
  refine Calls.spliced_cons (thn (ha pins s σ H _ I h) fun u s1 ⟨x, H1, I1, r1, q1⟩ => ?_)
  exact thn (hr pos pins s1 σ H1 _ I1 q1) fun us s2 ⟨xs, H2, I2, r2, q2⟩ => ⟨x :: xs, H2, I2, .cons r1 r2, q2⟩
def tTup (t : TA) : TE := fun σ H Q => t σ H fun xs H1 => xs.length ≤ sizeLine ∧ ∀ p, H1 p = none → Q (.ref p) (upd H1 p (.tup xs))
def tLst (t : TA) : TE := fun σ H Q => t σ H fun xs H1 => xs.length ≤ sizeLine ∧ ∀ p, H1 p = none → Q (.ref p) (upd H1 p (.lst xs))
theorem pe_tup {x1} (h : PA X es t) : PE X (.Tuple es x1 pos) (tTup t) := by
  intro pins s σ H Q I hq
  refine wpAny_Tuple_spliced (thn (h pos pins s σ H _ I hq) fun us s1 ⟨xs, H1, I1, r, z, q⟩ => ⟨by rw [← r.length]; exact z, ?_⟩)
  have hf : H1 s1.heap.objs.size = none := I1.hok.fresh (Nat.le_refl _)
  refine ⟨.ref s1.heap.objs.size, upd H1 s1.heap.objs.size (.tup xs), I1.laid (t' := s1.toks) (fun b u e => Heap.get?_push_of_some _ e) (Nat.le_refl _) ?_, rfl, q _ hf⟩
  exact ⟨z, us, r, ⟨_, Heap.get?_push_size _ rfl, rfl, _, rfl⟩⟩
theorem pe_lst (h : PA X es t) : PE X (.List es pos) (tLst t) := by
  intro pins s σ H Q I hq
  refine wpAny_List_spliced (thn (h pos pins s σ H _ I hq) fun us s1 ⟨xs, H1, I1, r, z, q⟩ => ⟨by rw [← r.length]; exact z, ?_⟩)
  have hf : H1 s1.heap.objs.size = none := I1.hok.fresh (Nat.le_refl _)
  refine ⟨.ref s1.heap.objs.size, upd H1 s1.heap.objs.size (.lst xs), I1.laid (t' := s1.toks) (fun b u e => Heap.get?_push_of_some _ e) (Nat.le_refl _) ?_, rfl, q _ hf⟩
  exact ⟨z, us, 0, r, Heap.get?_push_size _ rfl⟩
end
abbrev Sp := List V → Hp → VK → XK → Prop
abbrev CXT := List Env → Hp → Shared → XK → Value → Shared → Prop
structure Env0 (P : Program) (w : World) (K : PySem.W.Frag) (mg : Str → Option Value) (base : Heap) (A : Around) (outer : List Env) (s : Shared) (H : Hp) : Prop where
  frames : A.frames = some outer
  mod : Mod K mg base
  bs : ∀ b o, base.get? b = some o → s.heap.get? b = some o ∧ H b = none
  bsz : base.objs.size ≤ s.heap.objs.size
  funs : s.heap.FunFrames base outer
  frf : ∀ b ∈ frs outer, H b = none
  hok : HOk P w H s.heap
  bare : AllBare s.gens
def CE (outer : List Env) (P : Program) (w : World) (H : Hp) (s : Shared) (Q : VK) (u : Value) (s' : Shared) : Prop :=
  ∃ v H', s'.os = s.os ∧ AllBare s'.gens ∧ Un (frs outer) [] H H' s.heap s'.heap ∧ HOk P w H' s'.heap ∧ RelV v u ∧ Q v H'
def CR (CX : CXT) (outer : List Env) (P : Program) (w : World) (H : Hp) (s : Shared) (Q : VK) (E : XK) (r : Result) (s' : Shared) : Prop :=
  match r with
  | .ok (.ret u) => CE outer P w H s Q u s'
  | .ok _ => False
  | .error e => CX outer H s E e s'
structure FnOk (P : Program) (w : World) (K : PySem.W.Frag) (mg : Str → Option Value) (base : Heap) (CX : CXT) (k : Nat) (f : Addr) (fd : FuncData) (ps : List Str) (sp : Sp) : Prop where
  len : ∀ vs H Q E, sp vs H Q E → vs.length = ps.length
  run : ∀ (A : Around) (outer : List Env) (s : Shared) (H : Hp) (args : Args) (us : List Value) (vs : List V) (Q : VK) (E : XK), Room k A → Env0 P w K mg base A outer s H → BindsTo s fd args (ps.zip us) → Vals vs us → sp vs H Q E →
    codeAny (model P w) A (.call (.ref f) args) (CR CX outer P w H s Q E) s
theorem FnOk.mono {P : Program} {w : World} {K : PySem.W.Frag} {mg : Str → Option Value} {base : Heap} {CX : CXT} {j k : Nat} {f : Addr} {fd : FuncData} {ps : List Str} {sp : Sp} (F : FnOk P w K mg base CX j f fd ps sp) (h : j ≤ k) :
    FnOk P w K mg base CX k f fd ps sp := ⟨F.len, fun A outer s H args us vs Q E hr => F.run A outer s H args us vs Q E (hr.mono h)⟩
theorem FnOk.imp {P : Program} {w : World} {K : PySem.W.Frag} {mg : Str → Option Value} {base : Heap} {CX : CXT} {k : Nat} {f : Addr} {fd : FuncData} {ps : List Str} {sp sp' : Sp} (F : FnOk P w K mg base CX k f fd ps sp)
    (h : ∀ vs H Q E, sp' vs H Q E → sp vs H Q E) : FnOk P w K mg base CX k f fd ps sp' :=
  ⟨fun vs H Q E q => F.len vs H Q E (h _ _ _ _ q), fun A outer s H args us vs Q E hr he hb hv hs => F.run A outer s H args us vs Q E hr he hb hv (h _ _ _ _ hs)⟩
theorem Env0.in1 {P : Program} {w : World} {K : PySem.W.Frag} {mg : Str → Option Value} {base : Heap} {A : Around} {outer : List Env} {s : Shared} {H : Hp} (e : Env0 P w K mg base A outer s H) :
    Env0 P w K mg base A.in1 outer s H := ⟨e.frames, e.mod, e.bs, e.bsz, e.funs, e.frf, e.hok, e.bare⟩
section
variable {X : Cx} {pins : List (Addr × Obj)} {σ : St} {H : Hp} {s s' : Shared}
theorem Inv.env0 (I : Inv X pins σ H s) : Env0 X.prog X.w X.K X.mg X.base X.A X.stack s H :=
  ⟨I.ok.frames, I.ok.mod, I.bs, Nat.le_trans I.ok.bsz I.sz, I.stack, I.stkFree, I.hok, I.bare⟩
theorem Inv.after {Q : VK} {u : Value} (I : Inv X pins σ H s) (h : CE X.stack X.prog X.w H s Q u s') : EP X pins σ Q u s' := by
  obtain ⟨v, H', os, bare, un, hok, r, q⟩ := h
  obtain ⟨hh, g, d, t, os'⟩ := s'
  obtain rfl : os' = s.os := os
  exact ⟨v, H', I.call (h' := hh) (g' := g) (d' := d) (t' := t) (ch := []) un hok bare (fun b z => absurd z (by simp)), r, q⟩
end
def tCall (sp : Sp) (dvs : List V) (E : XK) (t : TA) : TE := fun σ H Q => t σ H fun vs H1 => sp (vs ++ dvs) H1 Q E
def Binds (K : PySem.W.Frag) (fd : FuncData) (ps : List Str) (ds : List Value) : Prop :=
  ∀ (s : Shared) (us : List Value), K.In s.heap → (us ++ ds).length = ps.length → BindsTo s fd ⟨us, []⟩ (ps.zip (us ++ ds))
theorem Binds.all {K : PySem.W.Frag} {fd : FuncData} {ps : List Str} (h : ∀ us : List Value, us.length = ps.length → bindArgs fd ⟨us, []⟩ = pure (ps.zip us)) : Binds K fd ps [] := fun s us _ hl => by
  rw [List.append_nil] at hl ⊢
  exact .of_eq (h us hl)
def Passes (CX : CXT) (X : Cx) (E : XK) : Prop := ∀ (pins : List (Addr × Obj)) (σ : St) (H : Hp) (s : Shared) (e : Value) (s' : Shared), Inv X pins σ H s → CX X.stack H s E e s' → X.xe e s'
section
variable {X : Cx} {CX : CXT} {k : Nat} {f C : Addr} {fd : FuncData} {ps : List Str} {sp : Sp} {dvs : List V} {ds : List Value} {E : XK} {x m : Str} {p pos apos : Pos} {e o : Expr} {es : List Expr} {ta : TE} {t : TA}
theorem run_fn {pins : List (Addr × Obj)} {σ : St} {H : Hp} {s : Shared} {Q : VK} {us : List Value} {vs : List V} (F : FnOk X.prog X.w X.K X.mg X.base CX k f fd ps sp) (hr : Room k X.A) (hb : Binds X.K fd ps ds) (hd : Vals dvs ds) (hx : Passes CX X E)
    (I : Inv X pins σ H s) (r : Vals vs us) (h : sp (vs ++ dvs) H Q E) : wpAny (model X.prog X.w) X.A (call (.ref f) us) (EP X pins σ Q) X.xe s := by
  have r2 : Vals (vs ++ dvs) (us ++ ds) := r.append hd
  have hl : (us ++ ds).length = ps.length := by rw [← r2.length]; exact F.len _ _ _ _ h
  refine wpAny_call (codeAny_mono (F.run X.A X.stack s H ⟨us, []⟩ (us ++ ds) (vs ++ dvs) Q E hr I.env0 (hb s us I.kIn hl) r2 h) fun r s' hq => ?_)
  cases r with
  | error e => exact hx pins σ H s e s' I hq
  | ok fl =>
    cases fl with
    | ret u => exact I.after hq
    | next => exact False.elim hq
    | brk => exact False.elim hq
    | cont => exact False.elim hq
theorem pe_call (F : FnOk X.prog X.w X.K X.mg X.base CX k f fd ps sp) (hr : Room k X.A) (hg : Gl X x) (hm : X.mg x = some (.ref f)) (hk : PySem.W.keepIn X.K (.ref f) = true) (hb : Binds X.K fd ps ds) (hd : Vals dvs ds) (hx : Passes CX X E)
    (ha : PA X (e :: es) t) (hdb : (x == ("__debug__" : Str)) = false := by decide) (he : starEach (e :: es) X.env = (false, eval e X.env) :: starEach es X.env := by rfl) (hpl : (backTo pos (starEach es X.env)).any (·.1) = false := by rfl) :
    PE X (.Call (.Name x p) (e :: es) [] pos) (tCall sp dvs E t) := by
  intro pins s σ H Q I h
  refine wpAny_Call_Name_kw (ld_glob I hg hm ?_ hdb)
  refine PySem.W.callWith_K (h₀ := X.base) I.ok.mod.kin hk (thn (ha pos pins s σ H _ I h) fun us s1 ⟨vs, H1, I1, r, q⟩ => ⟨I1.kIn, ?_⟩) he hpl
  exact run_fn F hr hb hd hx I1 r q
structure Mk (K : PySem.W.Frag) (C f : Addr) : Prop where
  makes : PySem.W.makesIn K C = true
  init : PySem.W.findIn K (.ref C) "__init__" = some (some (.ref f))
  fn : PySem.W.isFn K (.ref f) = true
  kp : PySem.W.keepIn K (.ref C) = true
end
section
variable {X : Cx} {CX : CXT} {k : Nat} {f C : Addr} {fd : FuncData} {ps ks : List Str} {sp : Sp} {E : XK} {x m : Str} {p pos apos kpos : Pos} {e o : Expr} {es : List Expr} {kws : List Keyword} {te ta : TE} {t tk : TA} {nm : Option Str}
structure KBinds (K : PySem.W.Frag) (fd : FuncData) (ps ks : List Str) (g : List Value → List Value → List Value) (gV : List V → List V → List V) : Prop where
  to : ∀ (s : Shared) (us ws : List Value), K.In s.heap → (g us ws).length = ps.length → BindsTo s fd ⟨us, ks.zip ws⟩ (ps.zip (g us ws))
  rel : ∀ {vs : List V} {us : List Value} {zs : List V} {ws : List Value}, Vals vs us → Vals zs ws → Vals (gV vs zs) (g us ws)
variable {g : List Value → List Value → List Value} {gV : List V → List V → List V}
end
structure FnScope (N P : List Str) (sc : Scope) : Prop where
  kind : sc.kind = .function
  co : sc.isCoroutine = false
  gen : sc.isGenerator = false
  nd : N.Nodup
  pre : N.take P.length = P
  par : ∀ x ∈ P, sc.names.lookup x = some .local ∨ sc.names.lookup x = some .cell
  nofree : ∀ y ∈ sc.names, y.2 ≠ .free
theorem bindL_out {kindOf : Str → Option NameKind} {x : Str} : ∀ {binds : List (Str × Value)} {m : Str → Option Value}, (∀ v, (x, v) ∉ binds) → bindL kindOf binds m x = m x
  | [], _, _ => rfl
  | (n, v) :: r, m, h => by
    unfold bindL
    rw [bindL_out fun w hw => h w (List.mem_cons_of_mem _ hw)]
    split
    · have : x ≠ n := by rintro rfl; exact h v List.mem_cons_self
      simp [this]
    · rfl
theorem bindC_out {kindOf : Str → Option NameKind} {x : Str} : ∀ {binds : List (Str × Value)} {m : Str → Option Value}, (∀ v, (x, v) ∉ binds) → bindC kindOf binds m x = m x
  | [], _, _ => rfl
  | (n, v) :: r, m, h => by
    unfold bindC
    rw [bindC_out fun w hw => h w (List.mem_cons_of_mem _ hw)]
    split
    · rfl
    · have : x ≠ n := by rintro rfl; exact h v List.mem_cons_self
      simp [this]
theorem bindL_get {kindOf : Str → Option NameKind} {x : Str} {v : Value} : ∀ {P : List Str} {vs : List Value} {i : Nat} {m : Str → Option Value}, P.Nodup → P[i]? = some x → vs[i]? = some v → kindOf x = some .local →
    bindL kindOf (P.zip vs) m x = some v
  | [], _, _, _, _, h, _, _ => by simp at h
  | _ :: _, [], _, _, _, _, h, _ => by simp at h
  | p :: P, w :: vs, 0, m, nd, h1, h2, hk => by
    simp at h1 h2; subst h1; subst h2
    show bindL kindOf ((p, w) :: P.zip vs) m p = _
    unfold bindL
    rw [bindL_out fun v hv => (List.nodup_cons.mp nd).1 (List.of_mem_zip hv).1, if_pos hk]
    simp
  | p :: P, w :: vs, i + 1, m, nd, h1, h2, hk => by
    show bindL kindOf ((p, w) :: P.zip vs) m x = _
    unfold bindL
    exact bindL_get (i := i) (List.nodup_cons.mp nd).2 (by simpa using h1) (by simpa using h2) hk
theorem bindC_get {kindOf : Str → Option NameKind} {x : Str} {v : Value} : ∀ {P : List Str} {vs : List Value} {i : Nat} {m : Str → Option Value}, P.Nodup → P[i]? = some x → vs[i]? = some v → kindOf x ≠ some .local →
    bindC kindOf (P.zip vs) m x = some v
  | [], _, _, _, _, h, _, _ => by simp at h
  | _ :: _, [], _, _, _, _, h, _ => by simp at h
  | p :: P, w :: vs, 0, m, nd, h1, h2, hk => by
    simp at h1 h2; subst h1; subst h2
    show bindC kindOf ((p, w) :: P.zip vs) m p = _
    unfold bindC
    rw [bindC_out fun v hv => (List.nodup_cons.mp nd).1 (List.of_mem_zip hv).1, if_neg hk]
    simp
  | p :: P, w :: vs, i + 1, m, nd, h1, h2, hk => by
    show bindC kindOf ((p, w) :: P.zip vs) m x = _
    unfold bindC
    exact bindC_get (i := i) (List.nodup_cons.mp nd).2 (by simpa using h1) (by simpa using h2) hk
def start (N : List Str) (vs : List V) : St := vs.map some ++ List.replicate (N.length - vs.length) none
def cxOf (CX : CXT) (P : Program) (w : World) (K : PySem.W.Frag) (mg : Str → Option Value) (base : Heap) (N : List Str) (qual : Str) (scope : Scope) (f : Addr) (cd : Value) (A : Around) (outer : List Env) (s : Shared) (H : Hp) (E : XK) : Cx where
  prog := P
  w := w
  K := K
  mg := mg
  base := base
  A := A.deeper (envOfC qual scope s.heap.objs.size f cd)
  N := N
  s₀ := s
  H₀ := H
  env := envOfC qual scope s.heap.objs.size f cd
  outer := outer
  stack := envOfC qual scope s.heap.objs.size f cd :: outer
  ex := []
  calm := true
  fn := fun _ => true
  pn := []
  xe := fun e s' => wpAny (model P w) (A.deeper (envOfC qual scope s.heap.objs.size f cd)) (leaving (envOfC qual scope s.heap.objs.size f cd) e) (fun _ s'' => CX outer H s E e s'') (fun e' s'' => CX outer H s E e' s'') s'
theorem cell_has {sc : Scope} {n : Nat} {x : Str} (h : sc.names.lookup x = some .cell) : ∃ c, (cellsFrom n sc.names []).lookup x = some c := by
  have q := PySem.W.cellsFrom_some sc.names n [] (.inl h)
  exact Option.isSome_iff_exists.mp q
theorem inv_start {CX : CXT} {P : Program} {w : World} {K : PySem.W.Frag} {mg : Str → Option Value} {base : Heap} {N ps : List Str} {qual : Str} {scope : Scope} {f : Addr} {cd : Value} {A : Around} {outer : List Env} {s s1 : Shared} {H : Hp} {E : XK} {us : List Value} {vs : List V}
    (S : FnScope N ps scope) (hd : A.handled = none) (e0 : Env0 P w K mg base A outer s H) (hl : vs.length = ps.length) (r : Vals vs us)
    (x : InCallC s s.heap.objs.size (bindL (envOfC qual scope s.heap.objs.size f cd).kindOf (ps.zip us) fun _ => none) (cellsFrom (s.heap.objs.size + 1) scope.names []) (bindC (envOfC qual scope s.heap.objs.size f cd).kindOf (ps.zip us) fun _ => none) s1) :
    Inv (cxOf CX P w K mg base N qual scope f cd A outer s H E) [] (start N vs) H s1 := by
  have hpl : ps.length ≤ N.length := by have := congrArg List.length S.pre; rw [List.length_take] at this; omega
  obtain ⟨h1, tk, rfl, hk⟩ := x.done
  have noA : ∀ b : Addr, b ∉ (cxOf CX P w K mg base N qual scope f cd A outer s H E).ex := fun b z => absurd (show b ∈ ([] : List Addr) from z) (by simp)
  refine ⟨⟨e0.mod, S.kind, rfl, rfl, Nat.le_refl _, fun y z c h1 h2 => ?_, fun y hy => ?_, fun y c _ h => ?_, fun _ => hd, Around.frames_deeper e0.frames, .inr ⟨rfl, rfl⟩, fun b z => absurd z (noA b), e0.bs, e0.bsz, fun b _ _ => noA b, fun b z => absurd z (noA b), e0.funs, e0.frf⟩,
    rfl, e0.bare, Un.kept hk, ⟨_, x.toInCall.ns, fun i y v h1 h2 h3 => ?_⟩, fun y c h => ⟨_, x.cell y c h⟩, e0.hok.fresh (Nat.le_refl _), fun y c h => ?_, fun p hp => absurd (show p ∈ ([] : List (Addr × Obj)) from hp) (by simp), e0.hok.kept hk, ?_⟩
  · exact name_of_addr x.apart (PySem.mem_of_lookup h1) (PySem.mem_of_lookup h2)
  · have hy : scope.names.lookup y = some .cell ∨ scope.names.lookup y = some .free := hy
    rcases hy with hy | hy
    · exact cell_has hy
    · exact absurd rfl (S.nofree _ (PySem.mem_of_lookup hy))
  · exact Nat.le_of_lt (x.above y c (PySem.mem_of_lookup h))
  · have hi : i < vs.length := by
      unfold start at h2
      by_cases hi : i < vs.length
      · exact hi
      · rw [List.getElem?_append_right (by simpa using hi)] at h2
        rw [List.getElem?_replicate] at h2
        split at h2 <;> cases h2
    have ha : vs[i]? = some v := by
      unfold start at h2
      rw [List.getElem?_append_left (by simpa using hi), List.getElem?_map] at h2
      cases e : vs[i]? with
      | none => rw [e] at h2; cases h2
      | some a => rw [e] at h2; cases h2; rfl
    obtain ⟨u, hu, rv⟩ := r.get ha
    have hp : ps[i]? = some y := by
      rw [← S.pre, List.getElem?_take_of_lt (by omega)]; exact h1
    have ndP : ps.Nodup := by rw [← S.pre]; exact S.nd.sublist (List.take_sublist _ _)
    refine ⟨u, rv, ?_⟩
    rcases S.par y (List.mem_of_getElem? hp) with k | k
    · exact .inl ⟨k, bindL_get ndP hp hu k⟩
    · obtain ⟨c, e⟩ := cell_has (n := s.heap.objs.size + 1) k
      refine .inr ⟨.inl k, c, e, ?_⟩
      have q := x.cell y c e
      rw [bindC_get ndP hp hu (by show scope.names.lookup y ≠ _; rw [k]; decide)] at q
      exact q
  · exact e0.hok.fresh (Nat.le_of_lt (x.above y c (PySem.mem_of_lookup h)))
  · unfold start
    show _ = N.length
    rw [List.length_append, List.length_map, List.length_replicate]
    omega
theorem fn_of {CX : CXT} {P : Program} {w : World} {K : PySem.W.Frag} {mg : Str → Option Value} {base : Heap} {k : Nat} {f : Addr} {name qual : Str} {params : Arguments} {body : List Stmt} {scope : Scope} {dV kV doc pm cdv ct oc : Value} {an od : Option Addr}
    {osl : Array (Option Value)} {N ps : List Str} {sp : Sp} (lk : K.lookup f = some ⟨oc, od, .func (PySem.W.fnOf name qual params body scope dV kV doc pm an cdv ct), osl⟩) (hcd : PySem.W.codeIn K cdv qual = true) (S : FnScope N ps scope)
    (len : ∀ vs H Q E, sp vs H Q E → vs.length = ps.length)
    (hbody : ∀ (A : Around) (outer : List Env) (s : Shared) (H : Hp) (vs : List V) (Q : VK) (E : XK), Room k (A.deeper (envOfC qual scope s.heap.objs.size f cdv)) → sp vs H Q E →
      ∃ t, PSs (cxOf CX P w K mg base N qual scope f cdv A outer s H E) body t ∧ t { nx := fun _ H' => Q .non H', rt := Q } (start N vs) H) :
    FnOk P w K mg base CX (k + 1) f (PySem.W.fnOf name qual params body scope dV kV doc pm an cdv ct) ps sp := by
  refine ⟨len, fun A outer s H args us vs Q E hr e0 hb r hsp => ?_⟩
  have hl := len _ _ _ _ hsp
  have KX : K.In s.heap := e0.mod.kin.keeps fun b o e => (e0.bs b o e).1
  have lim : s.heap.NoLimit := e0.mod.nolimit.keeps fun b o e => (e0.bs b o e).1
  have hkind : ∀ y ∈ ps.zip us, scope.names.lookup y.1 = some .local ∨ (scope.names.lookup y.1 = some .cell ∧ ((cellsFrom (s.heap.objs.size + 1) scope.names []).lookup y.1).isSome = true) := fun ⟨n, v⟩ hy => by
    rcases S.par n (List.of_mem_zip hy).1 with q | q
    · exact .inl q
    · exact .inr ⟨q, PySem.W.cellsFrom_some _ _ _ (.inl q)⟩
  refine codeAny_call_function hr.depth (KX _ _ lk) rfl S.co S.gen rfl (PySem.W.codeRec_of KX hcd) (hb _ _ _ _ ?_)
  refine wpAny_newFunctionEnv_cells S.kind hkind fun env he s1 x => ?_
  subst he
  refine ⟨lim.keeps x.toInCall.keep, codeAny_func ?_⟩
  obtain ⟨t, ht, hq⟩ := hbody A outer s H vs Q E (hr.deeper _) hsp
  have I : Inv (cxOf CX P w K mg base N qual scope f cdv A outer s H E) [] (start N vs) H s1 := inv_start S hr.hd e0 hl r x
  refine wpAny_mono (ht [] s1 (start N vs) H _ I hq) (fun fl s' hs => ?_) fun e s' hs => hs
  have fin : ∀ {σ' : St} {H' : Hp} {v : V} {u : Value}, Inv (cxOf CX P w K mg base N qual scope f cdv A outer s H E) [] σ' H' s' → RelV v u → Q v H' → CE outer P w H s Q u s' :=
    fun {σ' H' v u} J rv q => ⟨v, H', J.os, J.bare, J.base, J.hok, rv, q⟩
  cases fl with
  | ret u =>
    obtain ⟨v, σ', H', J, rv, q⟩ := hs
    exact fin J rv q
  | next =>
    obtain ⟨σ', H', J, q⟩ := hs
    exact fin (v := V.non) (u := Value.none) J rfl q
  | brk =>
    obtain ⟨_, _, _, q⟩ := hs
    exact False.elim q
  | cont =>
    obtain ⟨_, _, _, q⟩ := hs
    exact False.elim q
end L2
namespace L2
open PySem PySem.Spec PyProof.Rows
section
variable {X : Cx} {x : Str} {p pos : Pos} {e : Expr} {es : List Expr} {t : TA} {id T : String} {r : List V → Hp → VK → Prop}
def tCB (r : List V → Hp → VK → Prop) (t : TA) : TE := fun σ H Q => t σ H fun vs H1 => r vs H1 Q
theorem pe_callB (hc : CallR X (.builtin id) r) (hg : Gl X x) (hm : X.mg x = none) (hv : bootBuiltins x = some (.builtin id)) (ha : PA X (e :: es) t) (hn : x ≠ "__name__" := by decide) (hdb : (x == ("__debug__" : Str)) = false := by decide)
    (he : starEach (e :: es) X.env = (false, eval e X.env) :: starEach es X.env := by rfl) (hpl : (backTo pos (starEach es X.env)).any (·.1) = false := by rfl) : PE X (.Call (.Name x p) (e :: es) [] pos) (tCB r t) := by
  intro pins s σ H Q I h
  refine wpAny_Call_Name_kw (ld_blt I hg hm hv ?_ hn hdb)
  exact PyProof.Rows.callWith_builtin1 (thn (ha pos pins s σ H _ I h) fun us s1 ⟨vs, H1, I1, r1, q1⟩ => hc pins s1 σ H1 vs us Q I1 r1 q1) he hpl
theorem pe_callTy (hc : CallR X (.type T) r) (hg : Gl X x) (hm : X.mg x = none) (hv : bootBuiltins x = some (.type T)) (ha : PA X (e :: es) t) (hn : x ≠ "__name__" := by decide) (hdb : (x == ("__debug__" : Str)) = false := by decide)
    (he : starEach (e :: es) X.env = (false, eval e X.env) :: starEach es X.env := by rfl) (hpl : (backTo pos (starEach es X.env)).any (·.1) = false := by rfl) : PE X (.Call (.Name x p) (e :: es) [] pos) (tCB r t) := by
  intro pins s σ H Q I h
  refine wpAny_Call_Name_kw (ld_blt I hg hm hv ?_ hn hdb)
  exact PyProof.Rows.callWith_type1 (thn (ha pos pins s σ H _ I h) fun us s1 ⟨vs, H1, I1, r1, q1⟩ => hc pins s1 σ H1 vs us Q I1 r1 q1) he hpl
end
end L2
namespace HT
open PySem PyProof.Rows
def lexLt : List Int → List Int → Bool
  | [], [] => false
  | [], _ :: _ => true
  | _ :: _, [] => false
  | x :: xs, y :: ys => if x = y then lexLt xs ys else decide (x < y)
theorem lexLt_cons (x y : Int) (xs ys : List Int) : lexLt (x :: xs) (y :: ys) = if x = y then lexLt xs ys else decide (x < y) := rfl
theorem lexLt_nil_nil : lexLt [] [] = false := rfl
theorem lexLt_nil_cons (y : Int) (ys : List Int) : lexLt [] (y :: ys) = true := rfl
theorem lexLt_cons_nil (x : Int) (xs : List Int) : lexLt (x :: xs) [] = false := rfl
theorem eqAt_int (A : Around) (s : Shared) (a : Int) (t : Tok) (c : Int) (u : Tok) : ∃ e, SeqAt.EqAt A s (.int a t) (.int c u) e ∧ (e = true ↔ a = c) :=
  ⟨(a == c), SeqAt.EqAt.int_int a t c u, by simp⟩
theorem rcLt_int (A : Around) (s : Shared) (a : Int) (t : Tok) (c : Int) (u : Tok) (prog : Program) (w : World) (E : Value → Shared → Prop) (Q : Value → Shared → Prop) (h : Q (.bool (decide (a < c))) s) :
    wpAny (model prog w) A (richCompare .Lt (.int a t) (.int c u)) Q E s :=
  (PyProof.Rows.lt_int h : wpAny (model prog w) A (compareOp .Lt (.int a t) (.int c u)) Q E s)
section
open PySem.SeqAt
open PySem.AutoSeq1 (wpAny_loadPart')
open PySem.MeetsSeq PySem.MeetsSeq2 PySem.MeetsSeq3
end
section
variable {prog : Program} {w : World} {A : Around} {E : Value → Shared → Prop} {s : Shared}
def sIx (n d : Nat) : Option Int → Nat
  | none => d
  | some v => if v < 0 then (v + (n : Int)).toNat else min v.toNat n
theorem sIx_none (n d : Nat) : sIx n d none = d := rfl
theorem sIx_nat (n d k : Nat) : sIx n d (some (k : Int)) = min k n := by
  show (if (k : Int) < 0 then ((k : Int) + (n : Int)).toNat else min (k : Int).toNat n) = min k n
  rw [if_neg (by omega), Int.toNat_natCast]
end
end HT
namespace L2
open PySem PySem.Spec PyProof.Rows
abbrev TO := St → Hp → (Option Int → Hp → Prop) → Prop
def PO (X : Cx) (e : Option Expr) (t : TO) : Prop :=
  ∀ (pins : List (Addr × Obj)) (s : Shared) (σ : St) (H : Hp) (Q : Option Int → Hp → Prop), Inv X pins σ H s → t σ H Q →
    wpAny (model X.prog X.w) X.A (evalPart e X.env) (fun u s' => ∃ o H', Inv X pins σ H' s' ∧ IsPart u o ∧ Q o H') X.xe s
def tNoPart : TO := fun _ H Q => Q none H
def tPart (t : TE) : TO := fun σ H Q => t σ H fun x H1 => ∃ i, x = .int i ∧ Q (some i) H1
theorem intsAre_of {ns : List Int} : ∀ {us : List Value}, Vals (ns.map V.int) us → IntsAre us ns := by
  induction ns with
  | nil => intro us r; rw [List.map_nil] at r; cases r; exact .nil
  | cons n ns ih =>
    intro us r
    rw [List.map_cons] at r
    cases r with
    | cons r1 r2 =>
      obtain ⟨t, e⟩ := r1
      subst e
      exact .cons n t (ih r2)
section
variable {X : Cx} {e : Expr} {te : TE} {lo hi : Option Expr} {tl th : TO} {pos p2 : Pos}
theorem po_none : PO X none tNoPart := by
  intro pins s σ H Q I h
  rw [evalPart_none]
  exact wpAny_pure ⟨none, H, I, .none, h⟩
theorem po_some (h : PE X e te) : PO X (some e) (tPart te) := by
  intro pins s σ H Q I hw
  rw [evalPart_some]
  refine thn (h pins s σ H _ I hw) fun u s1 ⟨x, H1, I1, r1, q1⟩ => ?_
  obtain ⟨i, rfl, q⟩ := q1
  obtain ⟨t, rfl⟩ := r1
  exact ⟨some i, H1, I1, .int i t, q⟩
def SlR (X : Cx) (r : V → Option Int → Option Int → Hp → VK → Prop) : Prop :=
  ∀ (pins : List (Addr × Obj)) (s : Shared) (σ : St) (H : Hp) (x : V) (v vl vu : Value) (lo hi : Option Int) (sl : Addr) (Q : VK), Inv X pins σ H s → RelV x v → s.heap.IsSliceOf sl vl vu .none → IsPart vl lo → IsPart vu hi → r x lo hi H Q →
    ∃ T id, typeLookup (.type T) "__getitem__" = pure (some (.builtin id)) ∧ s.TypeIs v T ∧ wpAny (model X.prog X.w) X.A (getItem v (.ref sl)) (EP X pins σ Q) X.xe s
def tSl (r : V → Option Int → Option Int → Hp → VK → Prop) (te : TE) (tl th : TO) : TE := fun σ H Q => te σ H fun x H1 => tl σ H1 fun l H2 => th σ H2 fun u H3 => r x l u H3 Q
theorem pe_slice {r : V → Option Int → Option Int → Hp → VK → Prop} (hr : SlR X r) (he : PE X e te) (hl : PO X lo tl) (hu : PO X hi th) : PE X (.Subscript e (.Slice lo hi none p2) pos) (tSl r te tl th) := by
  intro pins s σ H Q I h
  refine Subscript_ (thn (he pins s σ H _ I h) fun v s1 ⟨x, H1, I1, r1, q1⟩ => ?_)
  refine wpAny_Slice (thn (hl pins s1 σ H1 _ I1 q1) fun vl s2 ⟨l, H2, I2, pl, q2⟩ => thn (hu pins s2 σ H2 _ I2 q2) fun vu s3 ⟨u, H3, I3, pu, q3⟩ => ?_)
  rw [evalPart_none]
  refine wpAny_pure ?_
  have I4 : Inv X pins σ H3 { s3 with heap := s3.heap.push { cls := .type "slice", data := .fields #[vl, vu, .none] } } := I3.kept (t' := s3.toks) fun b ob q => Heap.get?_push_of_some _ q
  obtain ⟨T, id, hT, ht, hg⟩ := hr pins { s3 with heap := s3.heap.push { cls := .type "slice", data := .fields #[vl, vu, .none] } } σ H3 x v vl vu l u s3.heap.objs.size Q I4 r1 (Heap.IsSliceOf.new ..) pl pu q3
  show wpAny (model X.prog X.w) X.A (subscriptTail e (.Slice lo hi none p2) v (.ref s3.heap.objs.size)) (EP X pins σ Q) X.xe { s3 with heap := s3.heap.push { cls := .type "slice", data := .fields #[vl, vu, .none] } }
  exact tail_any (ops := [.ref s3.heap.objs.size, v]) ht hT hg (by with_unfolding_all rfl)
def cutV (xs : List V) (lo hi : Option Int) : List V := (xs.drop (HT.sIx xs.length 0 lo)).take (HT.sIx xs.length xs.length hi - HT.sIx xs.length 0 lo)
theorem cutV_length (xs : List V) (lo hi : Option Int) : (cutV xs lo hi).length ≤ xs.length := by
  unfold cutV
  rw [List.length_take, List.length_drop]
  omega
end
end L2
namespace L2
open PySem PySem.Spec PyProof.Rows
def ixN (n : Nat) (i : Int) : Option Nat := if 0 ≤ i then (if i < n then some i.toNat else none) else if -(n : Int) ≤ i then some (i + n).toNat else none
def atI {α : Type} (xs : List α) (i : Int) : Option α := (ixN xs.length i).bind fun j => xs[j]?
theorem ixN_seq {n : Nat} {i : Int} {j : Nat} (h : ixN n i = some j) : seqIndex? i n = some j ∧ j < n ∧ -(n : Int) ≤ i ∧ i < n := by
  unfold ixN at h
  by_cases h0 : 0 ≤ i
  · rw [if_pos h0] at h
    by_cases h1 : i < n
    · rw [if_pos h1] at h
      have e : i.toNat = j := Option.some.inj h
      exact ⟨by rw [seqIndex_of h0 h1, e], by omega, by omega, h1⟩
    · rw [if_neg h1] at h; cases h
  · rw [if_neg h0] at h
    by_cases h1 : -(n : Int) ≤ i
    · rw [if_pos h1] at h
      have e : (i + n).toNat = j := Option.some.inj h
      exact ⟨by rw [seqIndex_neg (by omega) h1, e], by omega, h1, by omega⟩
    · rw [if_neg h1] at h; cases h
theorem atI_get {α : Type} {xs : List α} {i : Int} {v : α} (h : atI xs i = some v) : ∃ j, seqIndex? i xs.length = some j ∧ xs[j]? = some v ∧ j < xs.length ∧ -(xs.length : Int) ≤ i ∧ i < xs.length := by
  unfold atI at h
  cases e : ixN xs.length i with
  | none => rw [e] at h; cases h
  | some j =>
    rw [e] at h
    obtain ⟨h1, h2, h3, h4⟩ := ixN_seq e
    exact ⟨j, h1, h, h2, h3, h4⟩
theorem atI_nat {α : Type} {xs : List α} {j : Nat} {v : α} (h : xs[j]? = some v) : atI xs (j : Int) = some v := by
  have hj : j < xs.length := (List.getElem?_eq_some_iff.mp h).1
  have e : ixN xs.length (j : Int) = some j := by
    unfold ixN
    rw [if_pos (by omega), if_pos (by omega)]; simp
  unfold atI; rw [e]; exact h
theorem atI_last {α : Type} (xs : List α) (v : α) : atI (xs ++ [v]) (-1) = some v := by
  have hl : (xs ++ [v]).length = xs.length + 1 := by simp
  have e : ixN (xs ++ [v]).length (-1) = some xs.length := by
    unfold ixN
    rw [hl, if_neg (by decide), if_pos (by omega)]
    congr 1
    omega
  unfold atI
  rw [e]
  show (xs ++ [v])[xs.length]? = some v
  simp
def PlainIx (b : Expr) : Prop := ∀ o i, subscripted b false o i = operate [o, i] (getItem o i)
def IxR (X : Cx) (r : R2) : Prop :=
  ∀ (value slice : Expr) (pins : List (Addr × Obj)) (s : Shared) (σ : St) (H : Hp) (x y : V) (v u : Value) (Q : VK), Inv X pins σ H s → RelV x v → RelV y u → r x y H Q →
    subscripted slice false v u = operate [v, u] (getItem v u) → wpAny (model X.prog X.w) X.A (subscriptTail value slice v u) (EP X pins σ Q) X.xe s
def MtR (X : Cx) (id : String) (r : V → List V → Hp → VK → Prop) : Prop :=
  ∀ (pins : List (Addr × Obj)) (s : Shared) (σ : St) (H : Hp) (x : V) (xs : List V) (v : Value) (us : List Value) (Q : VK), Inv X pins σ H s → RelV x v → Vals xs us → r x xs H Q →
    wpAny (model X.prog X.w) X.A (call (.builtin id) (v :: us)) (EP X pins σ Q) X.xe s
section
variable {X : Cx} {a b : Expr} {ta tb : TE} {pos : Pos}
theorem pe_ix {r : R2} (hr : IxR X r) (ha : PE X a ta) (hb : PE X b tb) (hs : PlainIx b) : PE X (.Subscript a b pos) (tOp r ta tb) := by
  intro pins s σ H Q I h
  exact Subscript_ (binT ha hb I h fun v u s2 x y H2 I2 rx ry q => hr a b pins s2 σ H2 x y v u Q I2 rx ry q (hs _ _))
def rIxL (K : PySem.W.Frag) : R2 := fun x y H Q => ∃ p xs i v, x = .ref p ∧ y = .int i ∧ SqL K H p xs ∧ atI xs i = some v ∧ Q v H
def rIxT (K : PySem.W.Frag) : R2 := fun x y H Q => ∃ p xs i v, x = .ref p ∧ y = .int i ∧ SqT K H p xs ∧ atI xs i = some v ∧ Q v H
theorem ix_list : IxR X (rIxL X.K) := by
  intro value slice pins s σ H x y v u Q I rx ry h hs
  obtain ⟨p, xs, i, z, rfl, rfl, hq, he, q⟩ := h
  cases rx
  obtain ⟨t, rfl⟩ := ry
  obtain ⟨its, r, pl, hz⟩ := I.list hq
  obtain ⟨j, h1, h2, h3, h4, h5⟩ := atI_get he
  obtain ⟨w, ew, rw'⟩ := r.get h2
  have hl := r.length
  have hn := line63
  have fin : EP X pins σ Q w s := ⟨z, H, I, rw', q⟩
  by_cases h0 : 0 ≤ i
  · have hj : i.toNat = j := by
      rw [seqIndex_of h0 h5] at h1
      exact Option.some.inj h1
    exact item_listR pl.isList h0 (by omega) (by rw [hj]; simpa using ew) fin hs
  · have hj : (i + (its.toArray.size : Int)).toNat = j := by
      rw [seqIndex_neg (by omega) h4] at h1
      rw [List.size_toArray, ← hl]
      exact Option.some.inj h1
    exact subscriptTail_builtinR (x := w) pl.isList.typeIs slot_list_getitem.lookup
      (wpAny_getItem_list_neg (Q := fun r s' => r = w ∧ EP X pins σ Q r s') pl.isList (by omega) (by rw [List.size_toArray] <;> omega) (by omega) (by rw [hj]; simpa using ew) ⟨rfl, fin⟩) hs
theorem ix_tup : IxR X (rIxT X.K) := by
  intro value slice pins s σ H x y v u Q I rx ry h hs
  obtain ⟨p, xs, i, z, rfl, rfl, hq, he, q⟩ := h
  cases rx
  obtain ⟨t, rfl⟩ := ry
  obtain ⟨its, r, pl, hz⟩ := I.tuple hq
  obtain ⟨j, h1, h2, h3, h4, h5⟩ := atI_get he
  obtain ⟨w, ew, rw'⟩ := r.get h2
  have hl := r.length
  have hn := line63
  have fin : EP X pins σ Q w s := ⟨z, H, I, rw', q⟩
  exact subscriptTail_builtinR (x := w) pl.typeIs slot_tuple_getitem.lookup
    (getItem_tuple (j := j) (Q := fun r s' => r = w ∧ EP X pins σ Q r s') pl (by omega) (by omega) (by rw [List.size_toArray, ← hl]; exact h1) (by simpa using ew) ⟨rfl, fin⟩) hs
theorem mapSeq_set (its : List Value) (n j : Nat) (u : Value) : Obj.mapSeq (·.setIfInBounds j u) { cls := .type "list", data := .seq its.toArray n } = { cls := .type "list", data := .seq (its.set j u).toArray n } := by
  simp [Obj.mapSeq]
theorem Inv.lst {pins : List (Addr × Obj)} {σ : St} {H : Hp} {s : Shared} {p : Addr} {xs : List V} (I : Inv X pins σ H s) (h : H p = some (.lst xs)) :
    ∃ (its : List Value) (n : Nat), Vals xs its ∧ s.heap.get? p = some { cls := .type "list", data := .seq its.toArray n } ∧ xs.length ≤ sizeLine := by
  obtain ⟨z, its, n, r, e⟩ := I.hok p _ h
  exact ⟨its, n, r, e, z⟩
theorem Inv.lstUpd {pins : List (Addr × Obj)} {σ : St} {H : Hp} {s : Shared} {p : Addr} {xs ys : List V} {its its' : List Value} {n n' : Nat} {f : Obj → Obj} (I : Inv X pins σ H s) (h : H p = some (.lst xs))
    (ho : s.heap.get? p = some { cls := .type "list", data := .seq its.toArray n }) (hf : f { cls := .type "list", data := .seq its.toArray n } = { cls := .type "list", data := .seq its'.toArray n' }) (r : Vals ys its') (hz : ys.length ≤ sizeLine) (t : Nat) :
    Inv X pins σ (upd H p (.lst ys)) { s with heap := s.heap.update p f, toks := t } := by
  have e : (s.heap.update p f).get? p = some { cls := .type "list", data := .seq its'.toArray n' } := by
    rw [Heap.get?_update_self f ho (by rw [hf] <;> rfl), hf]
  refine I.write (x := p) (e := p) (by rw [h]; trivial) (.inl rfl) (fun b u hb q => (Heap.get?_update_other _ _ (Ne.symm hb)).trans q) ⟨_, e⟩ ?_
  exact ⟨hz, its', n', r, e⟩
def rSetL : V → V → V → Hp → (Hp → Prop) → Prop := fun o i v H Q => ∃ p xs k j, o = .ref p ∧ i = .int k ∧ H p = some (.lst xs) ∧ ixN xs.length k = some j ∧ Q (upd H p (.lst (xs.set j v)))
theorem set_list : PSet X rSetL := by
  intro pins s σ H o i v ov iv u Q I ro ri rv h
  obtain ⟨p, xs, k, j, rfl, rfl, hp, hj, q⟩ := h
  cases ro
  obtain ⟨t, rfl⟩ := ri
  obtain ⟨its, n, r, ho, hz⟩ := I.lst hp
  obtain ⟨h1, h2, h3, h4⟩ := ixN_seq hj
  have hl := r.length
  have hn := line63
  have I' : Inv X pins σ (upd H p (.lst (xs.set j v))) { s with heap := s.heap.update p (Obj.mapSeq (·.setIfInBounds j u)) } :=
    I.lstUpd hp ho (mapSeq_set its n j u) (r.set rv j) (by rw [List.length_set]; exact hz) s.toks
  by_cases h0 : 0 ≤ k
  · have hk : k.toNat = j := by
      rw [seqIndex_of h0 h4] at h1
      exact Option.some.inj h1
    exact PySem.W.ki_setAt ho h0 (by omega) (by rw [List.size_toArray, ← hl]; exact h4) (by rw [hk]; exact ⟨_, I', q⟩)
  · have hk : (k + (its.toArray.size : Int)).toNat = j := by
      rw [seqIndex_neg (by omega) h3] at h1
      rw [List.size_toArray, ← hl]
      exact Option.some.inj h1
    exact PySem.W.ki_setBack ho (by omega) (by rw [List.size_toArray, ← hl]; exact h3) (by omega) (by rw [hk]; exact ⟨_, I', q⟩)
theorem slice_bounds (lo hi : Option Int) (n : Nat) : (sliceBounds lo hi none n).1 = ((HT.sIx n 0 lo : Nat) : Int) ∧ (sliceBounds lo hi none n).2.1 = ((HT.sIx n n hi : Nat) : Int) ∧ (sliceBounds lo hi none n).2.2 = 1 := by
  refine ⟨?_, ?_, rfl⟩
  · cases lo with
    | none => simp [sliceBounds, HT.sIx]
    | some i =>
      simp only [sliceBounds, HT.sIx, Option.getD_none, show (1 : Int) > 0 by decide, if_true]
      by_cases h : i < 0
      · simp only [h, if_true] <;> omega
      · simp only [h, if_false] <;> omega
  · cases hi with
    | none => simp [sliceBounds, HT.sIx]
    | some i =>
      simp only [sliceBounds, HT.sIx, Option.getD_none, show (1 : Int) > 0 by decide, if_true]
      by_cases h : i < 0
      · simp only [h, if_true] <;> omega
      · simp only [h, if_false] <;> omega
theorem slicePick_cut (its : List Value) (lo hi : Option Int) : slicePick its.toArray lo hi none = ((its.drop (HT.sIx its.length 0 lo)).take (HT.sIx its.length its.length hi - HT.sIx its.length 0 lo)).toArray := by
  obtain ⟨h1, h2, h3⟩ := slice_bounds lo hi its.toArray.size
  unfold slicePick
  rw [h1, h2, h3]
  simp only [sliceRange_one, pick_run, List.size_toArray] <;> rfl
def rSlL (K : PySem.W.Frag) : V → Option Int → Option Int → Hp → VK → Prop := fun x lo hi H Q => ∃ a xs, x = .ref a ∧ SqL K H a xs ∧ ∀ p, H p = none → Q (.ref p) (upd H p (.lst (cutV xs lo hi)))
theorem sl_list : SlR X (rSlL X.K) := by
  intro pins s σ H x v vl vu lo hi sl Q I rx hs pl pu h
  obtain ⟨a, xs, rfl, hx, q⟩ := h
  cases rx
  obtain ⟨its, r, ht, hz⟩ := I.list hx
  have hlen := r.length
  refine ⟨"list", _, slot_list_getitem.lookup, ht.isList.typeIs, ?_⟩
  refine wpAny_getItem_list_slice ht.isList hs pl pu .none (by simp) ?_ (by rw [List.size_toArray] <;> omega)
  rw [slicePick_cut, ← hlen]
  refine ⟨.ref s.heap.objs.size, _, I.laid (t' := s.toks) (o := .lst (cutV xs lo hi)) (fun b ob q => Heap.get?_push_of_some _ q) (Nat.le_refl _) ?_, rfl, q _ (I.hok.fresh (Nat.le_refl _))⟩
  exact ⟨Nat.le_trans (cutV_length xs lo hi) hz, _, 0, (r.drop (HT.sIx xs.length 0 lo)).take (HT.sIx xs.length xs.length hi - HT.sIx xs.length 0 lo), Heap.get?_push_size _ rfl⟩
theorem call_len_seq : CallR X (.builtin "len") (fun xs H Q => ∃ p ys, xs = [.ref p] ∧ (SqL X.K H p ys ∨ SqT X.K H p ys) ∧ Q (.int ys.length) H) := by
  intro pins s σ H xs us Q I r h
  obtain ⟨p, ys, rfl, hq, q⟩ := h
  obtain ⟨u, rfl, rx⟩ := vals1 r
  cases rx
  have hn := line63
  rcases hq with hq | hq
  · obtain ⟨its, r', pl, hz⟩ := I.list hq
    have hlen := r'.length
    exact Calls.call_len_list pl.isList (by simp only [List.size_toArray] <;> omega) ⟨.int ys.length, H, I.tok _, ⟨s.toks + 1, by rw [List.size_toArray, hlen]⟩, q⟩
  · obtain ⟨its, r', pl, hz⟩ := I.tuple hq
    have hlen := r'.length
    exact len_tuple pl (by simp only [List.size_toArray] <;> omega) ⟨.int ys.length, H, I.tok _, ⟨s.toks + 1, by rw [List.size_toArray, hlen]⟩, q⟩
theorem call_tuple_of : CallR X (.type "tuple") (fun xs H Q => ∃ p ys, xs = [.ref p] ∧ ((SqL X.K H p ys ∧ ∀ l, H l = none → Q (.ref l) (upd H l (.tup ys))) ∨ (SqT X.K H p ys ∧ Q (.ref p) H))) := by
  intro pins s σ H xs us Q I r h
  obtain ⟨p, ys, rfl, h⟩ := h
  obtain ⟨u, rfl, rx⟩ := vals1 r
  cases rx
  rcases h with ⟨hq, q⟩ | ⟨hq, q⟩
  · obtain ⟨its, r', pl, hz⟩ := I.list hq
    have hlen := r'.length
    refine call_tuple_list pl.isList (fun h' kp => ?_) (by simp only [List.size_toArray] <;> omega)
    have I1 : Inv X pins σ H { s with heap := h' } := I.kept (t' := s.toks) kp
    have I2 : Inv X pins σ (upd H h'.objs.size (.tup ys)) { s with heap := h'.push { cls := .type "tuple", data := .seq its.toArray } } :=
      I1.laid (t' := s.toks) (fun b o e => Heap.get?_push_of_some _ e) (Nat.le_refl _) (show ObjOk X.prog X.w _ _ _ (.tup ys) from ⟨hz, its, r', IsTup.new _ _⟩)
    exact ⟨.ref h'.objs.size, _, I2, rfl, q _ (I1.hok.fresh (Nat.le_refl _))⟩
  · obtain ⟨its, r', pl, hz⟩ := I.tuple hq
    exact call_tuple_same pl ⟨.ref p, H, I, rfl, q⟩
def tyV (K : PySem.W.Frag) (T : String) (x : V) (H : Hp) : Prop := match x with
  | .str _ => T = "str"
  | .int _ => T = "int"
  | .ref p => (T = "list" ∧ ∃ xs, SqL K H p xs) ∨ (T = "tuple" ∧ ∃ o, K.lookup p = some o ∧ o.cls = .type "tuple" ∧ o.dict = none) ∨
      (T = "dict" ∧ ((∃ kvs, H p = some (.dK kvs)) ∨ ∃ kvs, H p = some (.dT kvs))) ∨ (T = "set" ∧ ∃ S n, H p = some (.set S n))
  | _ => False
theorem tyV_is {pins : List (Addr × Obj)} {σ : St} {H : Hp} {s : Shared} {T : String} {x : V} {v : Value} (I : Inv X pins σ H s) (r : RelV x v) (ty : tyV X.K T x H) :
    s.TypeIs v T ∧ ∀ a, v = .ref a → ∃ ob, s.heap.get? a = some ob ∧ ob.dict = none := by
  cases x with
  | str z =>
    obtain ⟨t, rfl⟩ := r
    cases (show T = "str" from ty)
    exact ⟨typeIs_str s z t, fun _ e => nomatch e⟩
  | int i =>
    obtain ⟨t, rfl⟩ := r
    cases (show T = "int" from ty)
    exact ⟨typeIs_int s i t, fun _ e => nomatch e⟩
  | ref p =>
    cases r
    rcases ty with ⟨rfl, xs, hq⟩ | ⟨rfl, o, hk, hc, hd⟩ | ⟨rfl, hk⟩ | ⟨rfl, S, n, hk⟩
    · obtain ⟨its, _, pl, _⟩ := I.list hq
      refine ⟨pl.isList.typeIs, fun a e => ?_⟩
      cases e
      obtain ⟨o, n, e, c, hd, _⟩ := pl
      exact ⟨o, e, hd⟩
    · refine ⟨⟨o, I.kIn p o hk, hc⟩, fun a e => ?_⟩
      cases e
      exact ⟨o, I.kIn _ o hk, hd⟩
    · have z : ∃ o, s.heap.get? p = some o ∧ o.ExactDict := by
        rcases hk with ⟨kvs, hk⟩ | ⟨kvs, hk⟩
        · obtain ⟨_, _, _, _, o, _, _, e, ex, _⟩ := I.hok p _ hk
          exact ⟨o, e, ex⟩
        · obtain ⟨_, _, _, _, o, _, _, e, ex, _⟩ := I.hok p _ hk
          exact ⟨o, e, ex⟩
      obtain ⟨o, e, ex⟩ := z
      refine ⟨⟨o, e, ex.1⟩, fun a e2 => ?_⟩
      cases e2
      exact ⟨o, e, ex.2.1⟩
    · obtain ⟨o, _, _, _, e, ex, _⟩ := I.hok p _ hk
      refine ⟨⟨o, e, ex.1⟩, fun a e2 => ?_⟩
      cases e2
      exact ⟨o, e, ex.2.1⟩
  | _ => exact False.elim ty
def tBM (K : PySem.W.Frag) (T : String) (r : V → List V → Hp → VK → Prop) (to : TE) (t : TA) : TE := fun σ H Q => to σ H fun x H1 => tyV K T x H1 ∧ t σ H1 fun xs H2 => r x xs H2 Q
variable {o e : Expr} {es : List Expr} {to : TE} {t : TA} {name : Str} {apos cpos : Pos} {T id : String} {r : V → List V → Hp → VK → Prop}
theorem pe_bm (pa : PlainAttrs T) (slot : Slot T name id) (hty : typeOf (.builtin id) = pure (.type "method_descriptor")) (hm : MtR X id r) (ho : PE X o to) (ha : PA X (e :: es) t)
    (hbase : attributeBase o name X.env (eval o X.env) = eval o X.env := by rfl)
    (hfew : ((backTo cpos (starEach (e :: es) X.env)).all (fun x => !x.1) && (backToKw cpos (keywordEach [] X.env)).all (fun x => x.1.isSome)
      && decide ((e :: es).length + ([] : List Keyword).length + (if ([] : List Keyword).isEmpty then 0 else 1) < 30)) = true := by rfl)
    (hline : (apos.endLine == cpos.line) = true := by rfl) (hs : starEach (e :: es) X.env = (false, eval e X.env) :: starEach es X.env := by rfl) (hplain : (backTo cpos (starEach es X.env)).any (·.1) = false := by rfl) :
    PE X (.Call (.Attribute o name apos) (e :: es) [] cpos) (tBM X.K T r to t) := by
  intro pins s σ H Q I h
  refine wpAny_Call_method_late hbase hfew hline rfl (thn (ho pins s σ H _ I h) fun v s1 ⟨x, H1, I1, r1, ty, q1⟩ => ?_)
  obtain ⟨h1, h2⟩ := tyV_is I1 r1 ty
  refine ⟨T, id, pa, slot, hty, h1, h2, ?_⟩
  have hA := ha cpos pins s1 σ H1 _ I1 q1
  rw [hs] at hA ⊢
  refine Calls.callWith_builtin (by show (false || (backTo cpos (starEach es X.env)).any (·.1)) = false; rw [hplain] <;> rfl) (Calls.evalArgs_plain ?_)
  exact thn hA fun us s2 ⟨vs, H2, I2, r2, q2⟩ => hm pins s2 σ H2 x vs v us Q I2 r1 r2 q2
end
end L2
namespace L2
open PySem PySem.Spec PyProof.Rows
def MtM (X : Cx) (id : String) (r : V → List V → Hp → VK → Prop) : Prop :=
  ∀ (pins : List (Addr × Obj)) (s : Shared) (σ : St) (H : Hp) (x : V) (xs : List V) (v : Value) (us : List Value) (Q : VK), Inv X pins σ H s → RelV x v → Vals xs us → r x xs H Q →
    wpAny (model X.prog X.w) X.A (call (.builtin id) (v :: us)) (EP X pins σ Q) X.xe s
theorem Vals.one : ∀ {x : V} {us : List Value}, Vals [x] us → ∃ u, us = [u] ∧ RelV x u
  | _, _, .cons r .nil => ⟨_, rfl, r⟩
theorem Vals.zero : ∀ {us : List Value}, Vals [] us → us = []
  | _, .nil => rfl
theorem Vals.dropLast {xs : List V} {us : List Value} (h : Vals xs us) : Vals xs.dropLast us.dropLast := by
  induction h with
  | nil => exact .nil
  | cons r t ih =>
    cases t with
    | nil => exact .nil
    | cons q t' => exact .cons r ih
theorem Vals.reverse {xs : List V} {us : List Value} (h : Vals xs us) : Vals xs.reverse us.reverse := by
  induction h with
  | nil => exact .nil
  | cons r t ih => rw [List.reverse_cons, List.reverse_cons]; exact Vals.append ih (.cons r .nil)
theorem Vals.rep {xs : List V} {us : List Value} (h : Vals xs us) : ∀ k : Nat, Vals (List.replicate k xs).flatten (List.replicate k us).flatten
  | 0 => .nil
  | k + 1 => by
    rw [List.replicate_succ, List.replicate_succ, List.flatten_cons, List.flatten_cons]
    exact Vals.append h (Vals.rep h k)
theorem foldl_rep (its : List Value) : ∀ (k : Nat) (acc : List Value),
    List.foldl (fun x1 x2 => x1 ++ x2) acc.toArray (List.replicate k its.toArray) = (acc ++ (List.replicate k its).flatten).toArray
  | 0, acc => by simp
  | k + 1, acc => by
    have e : acc.toArray ++ its.toArray = (acc ++ its).toArray := by simp
    have e2 : (acc ++ its) ++ (List.replicate k its).flatten = acc ++ (List.replicate (k + 1) its).flatten := by
      rw [List.replicate_succ, List.flatten_cons, List.append_assoc]
    rw [← e2, ← foldl_rep its k (acc ++ its), ← e, List.replicate_succ, List.foldl_cons]
section
variable {X : Cx} {pins : List (Addr × Obj)} {σ : St} {H : Hp} {s : Shared} {l b : Addr} {xs ys zs : List V}
theorem Inv.lset {its its' : List Value} {n : Nat} {f : Array Value → Array Value} {t' : Nat} (I : Inv X pins σ H s) (hH : H l = some (.lst xs))
    (e : s.heap.get? l = some { cls := .type "list", data := .seq its.toArray n }) (hf : f its.toArray = its'.toArray) (hv : Vals ys its') (hz : ys.length ≤ sizeLine) :
    Inv X pins σ (upd H l (.lst ys)) { s with heap := s.heap.update l (Obj.mapSeq f), toks := t' } := by
  have q := PySem.IsL.update e f
  rw [hf] at q
  refine I.write (x := l) (e := l) (by rw [hH]; exact trivial) (.inl rfl) (fun b' u hb hu => (Heap.get?_update_other s.heap (Obj.mapSeq f) (Ne.symm hb)).trans hu) ⟨_, q⟩ ?_
  exact ⟨hz, its', _, hv, q⟩
theorem Inv.lnew {its : List Value} {t' : Nat} (I : Inv X pins σ H s) (hv : Vals ys its) (hz : ys.length ≤ sizeLine) :
    Inv X pins σ (upd H s.heap.objs.size (.lst ys)) { s with heap := s.heap.push { cls := .type "list", data := .seq its.toArray }, toks := t' } :=
  I.laid (fun _ _ q => Heap.get?_push_of_some _ q) (Nat.le_refl _) ⟨hz, its, 0, hv, Heap.get?_push_size _ rfl⟩
theorem Inv.fresh (I : Inv X pins σ H s) : H s.heap.objs.size = none := I.hok.fresh (Nat.le_refl _)
theorem Inv.lstM (I : Inv X pins σ H s) (hH : H l = some (.lst xs)) : xs.length ≤ sizeLine ∧ ∃ (its : List Value) (n : Nat), Vals xs its ∧ xs.length = its.length ∧ s.heap.get? l = some { cls := .type "list", data := .seq its.toArray n } := by
  obtain ⟨z, its, n, r, e⟩ := I.hok l _ hH
  exact ⟨z, its, n, r, r.length, e⟩
theorem notLongL {n : Nat} (h : n ≤ sizeLine) : Builtin.List.listTooLong n = false := by
  unfold Builtin.List.listTooLong
  exact decide_eq_false (by omega)
end
section
variable {X : Cx}
def rAppend : V → List V → Hp → VK → Prop := fun x vs H Q => ∃ l xs y, x = .ref l ∧ vs = [y] ∧ H l = some (.lst xs) ∧ xs.length < sizeLine ∧ Q .non (upd H l (.lst (xs ++ [y])))
theorem mt_append : MtM X "list.append" rAppend := by
  intro pins s σ H x vs v us Q I rx rv h
  obtain ⟨l, xs, y, rfl, rfl, hH, hz, q⟩ := h
  cases rx
  obtain ⟨u, rfl, ru⟩ := rv.one
  obtain ⟨z, its, n, r, hl, e⟩ := I.lstM hH
  refine call_meets F.slot_list_append ⟨_, e, rfl⟩ F.entry_list_append (F.args_list_append_2 _ _) (PySem.list_append l its.toArray n u (by rw [List.size_toArray]; omega)) ⟨e, ?_⟩
  refine ⟨.non, _, I.lset (its' := its ++ [u]) hH e (by simp) (r.append (.cons ru .nil)) ?_, rfl, q⟩
  rw [List.length_append, List.length_singleton]
  omega
def rCat : R2 := fun x y H Q => ∃ l b xs zs, x = .ref l ∧ y = .ref b ∧ H l = some (.lst xs) ∧ H b = some (.lst zs) ∧ xs.length + zs.length ≤ sizeLine ∧ ∀ p, H p = none → Q (.ref p) (upd H p (.lst (xs ++ zs)))
theorem op_cat : OpR X (binaryOp .Add) rCat := by
  intro pins s σ H x y v u Q I rx ry h
  obtain ⟨l, b, xs, zs, rfl, rfl, hH, hB, hz, q⟩ := h
  cases rx
  cases ry
  obtain ⟨z, its, n, r, hl, e⟩ := I.lstM hH
  obtain ⟨z2, its2, n2, r2, hl2, e2⟩ := I.lstM hB
  refine PySem.P.add_list e e2 ?_ (by rw [List.size_toArray, List.size_toArray]; omega)
  have ea : its.toArray ++ its2.toArray = (its ++ its2).toArray := by simp
  rw [ea]
  exact ⟨.ref _, _, I.lnew (t' := s.toks) (r.append r2) (by rw [List.length_append]; omega), rfl, q _ I.fresh⟩
def rRep : R2 := fun x y H Q => ∃ l k xs, x = .ref l ∧ y = .int k ∧ H l = some (.lst xs) ∧ -(2 ^ 63) ≤ k ∧ k < 2 ^ 63 ∧ xs.length * k.toNat ≤ sizeLine ∧
  ∀ p, H p = none → Q (.ref p) (upd H p (.lst (List.replicate k.toNat xs).flatten))
theorem len_rep {α : Type} (xs : List α) (k : Nat) : (List.replicate k xs).flatten.length = k * xs.length := by
  induction k with
  | zero => simp
  | succ k ih => rw [List.replicate_succ, List.flatten_cons, List.length_append, ih, Nat.succ_mul, Nat.add_comm]
theorem op_rep : OpR X (binaryOp .Mult) rRep := by
  intro pins s σ H x y v u Q I rx ry h
  obtain ⟨l, k, xs, rfl, rfl, hH, h1, h2, hz, q⟩ := h
  cases rx
  obtain ⟨t, rfl⟩ := ry
  obtain ⟨z, its, n, r, hl, e⟩ := I.lstM hH
  have hlen : its.toArray.size * k.toNat ≤ sizeLine := by rw [List.size_toArray, ← hl]; exact hz
  have hcap : ¬ its.toArray.size * k.toNat > (2 ^ 63 - 1) / 8 := by
    have : (sizeLine : Nat) ≤ (2 ^ 63 - 1) / 8 := by decide
    omega
  have hfit : ¬ (!Builtin.List.listFitsIndex k) = true := by
    rw [fitsIndex_both h1 h2]
    exact Bool.false_ne_true
  have hlong : ¬ Builtin.List.listTooLong (its.toArray.size * k.toNat) = true := by
    rw [notLongL hlen]
    exact Bool.false_ne_true
  have hnew : List.foldl (fun x1 x2 => x1 ++ x2) #[] (List.replicate (if its.toArray.isEmpty = true then 0 else k.toNat) its.toArray) = (List.replicate k.toNat its).flatten.toArray := by
    have f0 : ∀ m : Nat, List.foldl (fun x1 x2 => x1 ++ x2) #[] (List.replicate m its.toArray) = (List.replicate m its).flatten.toArray := fun m => by
      have := foldl_rep its m []
      rw [List.nil_append] at this
      exact this
    rw [f0]
    cases its with
    | nil => simp
    | cons a r' => rw [if_neg (by simp)]
  refine wpAny_binaryOp_repeat_ref (T := "list") (U := "int") (by decide) ⟨_, e, rfl⟩ (fun s' => typeIs_int s' k t) noFill_list_mul F.fills_int_mul F.slot_int_rmul repeat_list F.slot_int_index.lookup
    (call_meets F.slot_int_rmul (typeIs_int s k t) F.entry_int_rmul (F.args_int_rmul_2 _ _) (int___rmul___int_list k t l its.toArray n)
      ⟨e, rfl, ⟨_, e, rfl⟩, call_meets F.slot_list_mul ⟨_, e, rfl⟩ F.entry_list_mul (F.args_list_mul_2 _ _) (AutoListH.list___mul___list_int_3 l its.toArray n k t hfit hcap hlong) ⟨e, ?_⟩⟩)
  rw [hnew]
  exact ⟨.ref _, _, I.lnew (t' := s.toks) (r.rep k.toNat) (by rw [len_rep, Nat.mul_comm]; exact hz), rfl, q _ I.fresh⟩
end
section
variable {prog : Program} {w : World} {A : Around} {E : Value → Shared → Prop} {s : Shared}
end
section
variable {X : Cx}
end
end L2
namespace Att
open PySem PySem.W PySem.Calls PyProof.Rows
theorem ints_of_wellAll {P : Params} {h : Heap} : ∀ (ns : List Int) (vs : List Value), WellAll P h vs (ns.map WData.int) → IntsAre vs ns := by
  intro ns
  induction ns with
  | nil =>
    intro vs w
    rw [List.map_nil] at w
    cases w
    exact .nil
  | cons n ns ih =>
    intro vs w
    rw [List.map_cons] at w
    cases w with
    | cons a b =>
      cases a
      exact .cons _ _ (ih _ b)
theorem script_of {l : OpenLaw} {n : Nat} (hn : l.most = some n) {P : Params} {h : Heap} {args : List WData} {vals : List Value}
    (hpre : l.row.toRowW.claim.pre args = true) (hwl : WellAll P h vals args) :
    ∃ a vs ns, vals = [Value.ref a] ∧ args = [WData.list (ns.map WData.int)] ∧ h.get? a = some { cls := .type "list", data := .seq vs.toArray } ∧ IntsAre vs ns ∧ ns.length ≤ n := by
  have hsh : WShape.hasAll [] args [.list .int] = true := (pre_splitW hpre).1
  have hc : l.pre.holds [] { args := args } = true := (pre_splitW hpre).2
  obtain ⟨d, r, rfl, h1, h2⟩ := hasAllW_cons hsh
  obtain rfl := hasAllW_nil h2
  obtain ⟨xs, rfl, h3⟩ := hasW_list h1
  obtain ⟨ns, rfl⟩ := items_int h3
  have hlen : ns.length ≤ n := by
    unfold OpenLaw.pre at hc
    have h4 : (WTm.not (.lt (.lit (.int (n : Int))) (.len (.arg 0)))).holds [] { args := [.list (ns.map .int)] } = true := by
      have h4 := (holds_andW hc).1
      rw [hn] at h4
      exact h4
    have h5 := condW_of h4 (w_not (w_lt w_lit (w_len_list (w_arg rfl))))
    rw [List.length_map] at h5
    refine Nat.le_of_not_lt fun q => ?_
    have q' : (n : Int) < ((ns.length : Nat) : Int) := by omega
    first
      | (rw [decide_eq_true q'] at h5; exact absurd h5 (by decide))
      | (simp at h5; omega)
  cases hwl with
  | cons w1 w2 =>
    cases w2
    cases w1 with
    | list ho hall => exact ⟨_, _, ns, rfl, rfl, ho, ints_of_wellAll ns _ hall, hlen⟩
theorem post_true (l : OpenLaw) (args : List WData) : l.row.toRowW.claim.post args (.bool true) args = true :=
  postW_of (r := l.row.toRowW) (X := (true == true))
    (show WShape.has [] (.bool true) .bool = true by first | rfl | decide | simp [WShape.has, WShape.arms, WShape.armsAll])
    (show (WTm.eq .res (.lit (.bool true))).value [] { args := args, res := some (.bool true), after := args } = some (.bool (true == true)) from w_eq_bool (w_res rfl) w_lit) rfl
theorem attach_call {l : OpenLaw} {n : Nat} {q : Program} {loose : List Str} {XP : (Str → Option Value) → Heap → Prop} {YP : World → Heap → Prop} {d : DefRec}
    (hn : l.most = some n) (hdf : d.params.defaults = [])
    (call : ∀ (w : World) (s₀ s₁ : Shared) (mg mb : Str → Option Value) (fa : Addr) (o : Obj) (pm cd doc : Value) (a : Addr) (vs : List Value) (ns : List Int),
      Ground q loose [] XP w s₀ mg mb s₁.heap → YP w s₁.heap →
      s₁.heap.get? fa = some o → o.data = .func (docDef d.name d.params d.body d.scope pm cd doc) → s₁.heap.CodeRec cd d.name → mg d.name = some (.ref fa) →
      s₁.heap.get? a = some { cls := .type "list", data := .seq vs.toArray } → IntsAre vs ns → ns.length ≤ n → s₁.gens = #[] →
      codeAny (model l.prog w) callerA (.call (.ref fa) ⟨[.ref a], []⟩) (fun r s' => r = .ok (.ret (.bool true)) ∧ OldK s₁.heap s'.heap ∧ s'.os = s₁.os ∧ AllBare s'.gens) s₁) :
    WalkO q loose XP YP l.row.toRowW d [] (fun f vs => PySem.call f vs) := by
  intro w s₀ s₁ mg mb G Y fa o pm cd doc dV kV ho hd hcd hD hmg hg args vals as hpre hlay hrd hwl hlo
  obtain rfl : dV = .none := Dflts.none hD hdf
  obtain rfl : kV = .none := Dflts.noKw hD
  obtain ⟨a, vs, ns, rfl, rfl, hobj, hints, hlen⟩ := script_of hn hpre hwl
  refine enter_call (codeAny_mono (call w s₀ s₁ mg mb fa o pm cd doc a vs ns G Y ho (fd_plain hd) hcd hmg hobj hints hlen hg) fun r s' hq => ?_)
  obtain ⟨rfl, h2, h3, h4⟩ := hq
  exact ⟨.inl ⟨.bool true, .bool true, [], rfl, fun _ => rfl, .bool true, post_true l _, fun _ => ⟨List.Pairwise.nil, fun _ hm => (nomatch hm)⟩⟩, h2, h3, h4⟩
section
variable {prog : Program} {w : World} {A : Around} {E : Value → Shared → Prop} {s : Shared} {K : Frag}
end
end Att
namespace L2
open PySem PySem.Spec PyProof.Rows
theorem vals_ints : ∀ {vs : List Value} {ns : List Int}, IntsAre vs ns → Vals (ns.map V.int) vs
  | _, _, .nil => .nil
  | _, _, .cons n t h => .cons ⟨t, rfl⟩ (vals_ints h)
end L2
namespace L2
open PySem PySem.Spec PyProof.Rows
end L2
namespace L2
open PySem PySem.Spec PyProof.Rows
def defArgs (s : Stmt) : Arguments := match s with
  | .FunctionDef _ a _ _ _ _ _ _ _ _ => a
  | _ => { posonlyargs := [], args := [], vararg := none, kwonlyargs := [], kw_defaults := [], kwarg := none, defaults := [] }
def defBody (s : Stmt) : List Stmt := match s with
  | .FunctionDef _ _ b _ _ _ _ _ _ _ => b
  | _ => []
def defScope (s : Stmt) : Scope := match s with
  | .FunctionDef _ _ _ _ _ _ sc _ _ _ => sc
  | _ => { kind := .function, names := [], isGenerator := false, isCoroutine := false }
abbrev CX0 : CXT := fun _ _ _ _ _ _ => False
abbrev E0 : XK := fun _ _ _ => False
theorem pass0 {X : Cx} : Passes CX0 X E0 := fun _ _ _ _ _ _ _ h => h.elim
structure Fun (K : PySem.W.Frag) (x qual : Str) (st : Stmt) (f : Addr) (fd : FuncData) : Prop where
  ex : ∃ (oc : Value) (od : Option Addr) (kV doc pm : Value) (an : Option Addr) (cdv ct : Value) (osl : Array (Option Value)),
    fd = PySem.W.fnOf x qual (defArgs st) (defBody st) (defScope st) .none kV doc pm an cdv ct ∧ K.lookup f = some ⟨oc, od, .func fd, osl⟩ ∧ PySem.W.codeIn K cdv qual = true
  kp : PySem.W.keepIn K (.ref f) = true
section
variable {P : Program} {w : World} {K : PySem.W.Frag} {mg : Str → Option Value} {base : Heap}
theorem Fun.ok {x qual : Str} {st : Stmt} {f : Addr} {fd : FuncData} {N ps : List Str} {k : Nat} {sp : Sp} (F : Fun K x qual st f fd) (S : FnScope N ps (defScope st)) (len : ∀ vs H Q E, sp vs H Q E → vs.length = ps.length)
    (hbody : ∀ (cdv : Value) (A : Around) (outer : List Env) (s : Shared) (H : Hp) (vs : List V) (Q : VK) (E : XK), Room k (A.deeper (envOfC qual (defScope st) s.heap.objs.size f cdv)) → sp vs H Q E →
      ∃ t, PSs (cxOf CX0 P w K mg base N qual (defScope st) f cdv A outer s H E).nox (defBody st) t ∧ t { nx := fun _ H' => Q .non H', rt := Q } (start N vs) H) : FnOk P w K mg base CX0 (k + 1) f fd ps sp := by
  obtain ⟨oc, od, kV, doc, pm, an, cdv, ct, osl, rfl, lk, hcd⟩ := F.ex
  refine fn_of lk hcd S len fun A outer s H vs Q E hr hsp => ?_
  obtain ⟨t, h, q⟩ := hbody cdv A outer s H vs Q E hr hsp
  exact ⟨t, h.nox, q⟩
theorem Fun.binds {x qual : Str} {st : Stmt} {f : Addr} {fd : FuncData} {ps : List Str} (F : Fun K x qual st f fd)
    (h : ∀ (kV doc pm : Value) (an : Option Addr) (cdv ct : Value) (us : List Value), us.length = ps.length → bindArgs (PySem.W.fnOf x qual (defArgs st) (defBody st) (defScope st) .none kV doc pm an cdv ct) ⟨us, []⟩ = pure (ps.zip us)) : Binds K fd ps [] := by
  obtain ⟨oc, od, kV, doc, pm, an, cdv, ct, osl, rfl, lk, hcd⟩ := F.ex
  exact .all (h kV doc pm an cdv ct)
theorem fun_mk {x qual : Str} {st : Stmt} {f : Addr} {oc : Value} {od an : Option Addr} {osl : Array (Option Value)} {kV doc pm cdv ct : Value} (l : K.lookup f = some ⟨oc, od, .func (PySem.W.fnOf x qual (defArgs st) (defBody st) (defScope st) .none kV doc pm an cdv ct), osl⟩)
    (c : PySem.W.codeIn K cdv qual = true) (k : PySem.W.keepIn K (.ref f) = true) : Fun K x qual st f (PySem.W.fnOf x qual (defArgs st) (defBody st) (defScope st) .none kV doc pm an cdv ct) := ⟨⟨oc, od, kV, doc, pm, an, cdv, ct, osl, rfl, l, c⟩, k⟩
end
section
variable {X : Cx}
theorem pv (i : Nat) {x : Str} {pos : Pos} (hN : X.N[i]? = some x := by rfl) (hv : Vis X.env.scope x := by first | exact Or.inl rfl | exact Or.inr (Or.inl rfl) | exact Or.inr (Or.inr rfl)) (hd : (x == ("__debug__" : Str)) = false := by decide)
    (hcd : (x == ("__classdict__" : Str)) = false := by decide) : PE X (.Name x pos) (tVar i) := pe_var hN hv hd hcd
end
theorem iteF {A B : Prop} (h : B) : if false = true then A else B := by
  rw [if_neg Bool.false_ne_true]
  exact h
theorem iteT {A B : Prop} (h : A) : if true = true then A else B := by
  rw [if_pos rfl]
  exact h
theorem ite2 {c A B : Prop} [Decidable c] (h1 : c → A) (h2 : ¬ c → B) : if c then A else B := by
  by_cases h : c
  · rw [if_pos h]
    exact h1 h
  · rw [if_neg h]
    exact h2 h
def Same (H H' : Hp) : Prop := ∀ b o, H b = some o → H' b = some o
theorem Same.refl (H : Hp) : Same H H := fun _ _ h => h
theorem Same.trans {H H1 H2 : Hp} (a : Same H H1) (b : Same H1 H2) : Same H H2 := fun c o h => b c o (a c o h)
theorem Same.free {H H' : Hp} (e : Same H H') {l : Addr} (h : H' l = Option.none) : H l = Option.none := by
  cases q : H l with
  | none => rfl
  | some o =>
    rw [e l o q] at h
    cases h
theorem Same.seq {K : PySem.W.Frag} {H H' : Hp} {a : Addr} {xs : List V} (e : Same H H') (h : SqL K H a xs) : SqL K H' a xs := by
  rcases h with (h | ⟨o, h⟩) | h
  · exact .inl (.inl (e _ _ h))
  · exact .inl (.inr ⟨o, e _ _ h⟩)
  · exact .inr h
end L2
set_option Elab.async false
set_option linter.all false
set_option maxRecDepth 100000
namespace L2
open PySem PySem.Spec PyProof.Rows
def closOf (cells : List (Str × Addr)) : List (Str × NameKind) → List (Str × Addr) → List (Str × Addr)
  | [], cs => cs
  | (n, k) :: r, cs => closOf cells r (if k = .free then (match cells.lookup n with | some c => (n, c) :: cs | none => cs) else cs)
theorem closureFor_loop {env : Env} : ∀ (names : List (Str × NameKind)) (cs : List (Str × Addr)), (∀ x ∈ names, x.2 = .free → ∃ c, env.cells.lookup x.1 = some c) →
    (forIn names cs fun (x : Str × NameKind) (r : List (Str × Addr)) => if (x.2 == .free) = true then (do let c ← cellOf env x.1; pure (ForInStep.yield ((x.1, c) :: r)) : Sem _) else pure (ForInStep.yield r)) = pure (closOf env.cells names cs)
  | [], cs, _ => rfl
  | (n, k) :: r, cs, h => by
    have ih := fun cs' => closureFor_loop (env := env) r cs' fun x hx => h x (List.mem_cons_of_mem _ hx)
    rw [List.forIn_cons]
    by_cases hk : k = .free
    · subst hk
      obtain ⟨c, hc⟩ := h (n, .free) List.mem_cons_self rfl
      have e : cellOf env n = pure c := by unfold cellOf; rw [hc]
      simp only [beq_self_eq_true, if_true, e, pure_bind, closOf, hc]
      exact ih _
    · have hb : (k == NameKind.free) = false := by simpa using hk
      simp only [hb, Bool.false_eq_true, if_false, pure_bind, closOf, hk]
      exact ih _
theorem closureFor_eq {scope : Scope} {env : Env} (h : ∀ x ∈ scope.names, x.2 = .free → ∃ c, env.cells.lookup x.1 = some c) : closureFor scope env = pure (closOf env.cells scope.names []) := by
  have e := closureFor_loop scope.names [] h
  unfold closureFor
  first
    | (simp only [bind_pure]; exact e)
    | (show (forIn scope.names [] _ >>= fun r => pure r) = _
       rw [show (forIn scope.names ([] : List (Str × Addr)) _ : Sem _) = _ from e]
       rfl)
theorem closOf_sub {cells : List (Str × Addr)} {y : Str} {c : Addr} : ∀ {names : List (Str × NameKind)} {cs : List (Str × Addr)}, (∀ y c, cs.lookup y = some c → cells.lookup y = some c) → (closOf cells names cs).lookup y = some c → cells.lookup y = some c
  | [], cs, h, e => h y c e
  | (n, k) :: r, cs, h, e => by
    refine closOf_sub (names := r) ?_ e
    intro y' c' e'
    by_cases hk : k = .free
    · rw [if_pos hk] at e'
      cases q : cells.lookup n with
      | none => rw [q] at e'; exact h _ _ e'
      | some d =>
        rw [q] at e'
        simp only [List.lookup_cons] at e'
        cases hb : y' == n with
        | true =>
          rw [hb] at e'
          cases e'
          have : y' = n := by simpa using hb
          rw [this]; exact q
        | false => rw [hb] at e'; exact h _ _ e'
    · rw [if_neg hk] at e'; exact h _ _ e'
theorem closOf_has {cells : List (Str × Addr)} {y : Str} : ∀ {names : List (Str × NameKind)} {cs : List (Str × Addr)}, ((∃ c, cs.lookup y = some c) ∨ ((y, NameKind.free) ∈ names ∧ ∃ c, cells.lookup y = some c)) → ∃ c, (closOf cells names cs).lookup y = some c
  | [], cs, h => by
    rcases h with h | ⟨h, _⟩
    · exact h
    · cases h
  | (n, k) :: r, cs, h => by
    refine closOf_has (names := r) ?_
    rcases h with ⟨c, h⟩ | ⟨h, c, hc⟩
    · left
      by_cases hk : k = .free
      · rw [if_pos hk]
        cases q : cells.lookup n with
        | none => exact ⟨c, h⟩
        | some d =>
          simp only [List.lookup_cons]
          cases hb : y == n with
          | true => exact ⟨d, rfl⟩
          | false => exact ⟨c, h⟩
      · rw [if_neg hk]; exact ⟨c, h⟩
    · rcases List.mem_cons.mp h with e | h
      · cases e
        left
        rw [if_pos rfl, hc]
        exact ⟨c, by simp⟩
      · exact .inr ⟨h, c, hc⟩
theorem lookup_relabel {env : Env} : ∀ {names : List (Str × NameKind)} {x : Str} {k : NameKind},
    (names.map fun (n, k) => if (k == NameKind.free && env.scope.kind == .function && env.kindOf n == some .cell) then (n, NameKind.cell) else (n, k)).lookup x = some k → names.lookup x = some k ∨ (k = .cell ∧ names.lookup x = some .free)
  | [], _, _, h => by simp at h
  | (n, k0) :: r, x, k, h => by
    have ih := @lookup_relabel env r x k
    rw [List.map_cons] at h
    by_cases hc : (k0 == NameKind.free && env.scope.kind == .function && env.kindOf n == some .cell) = true
    · simp only [hc, if_true, List.lookup_cons] at h
      have hk0 : k0 = .free := by
        simp only [Bool.and_eq_true] at hc
        simpa using hc.1.1
      cases hx : x == n with
      | true => rw [hx] at h; cases h; right; simp [List.lookup_cons, hx, hk0]
      | false => rw [hx] at h; simp only [List.lookup_cons, hx]; exact ih h
    · have hc' : (k0 == NameKind.free && env.scope.kind == .function && env.kindOf n == some .cell) = false := by simpa using hc
      simp only [hc', Bool.false_eq_true, if_false, List.lookup_cons] at h
      cases hx : x == n with
      | true => rw [hx] at h; cases h; left; simp [List.lookup_cons, hx]
      | false => rw [hx] at h; simp only [List.lookup_cons, hx]; exact ih h
def cxC (X : Cx) (N : List Str) (scope : Scope) (C : Addr) (s₀ : Shared) (H₀ : Hp) (ex : List Addr) : Cx where
  prog := X.prog
  w := X.w
  K := X.K
  mg := X.mg
  base := X.base
  A := X.A
  N := N
  s₀ := s₀
  H₀ := H₀
  env := compEnvC scope (closOf X.env.cells scope.names []) C X.env
  outer := X.stack
  stack := X.stack
  ex := ex
  fn := fun _ => false
  calm := X.calm
  pn := []
  xe := fun _ _ => False
def capt (js : List Nat) (σ : St) : St := js.map fun j => (σ[j]?).join
theorem capt_get {js : List Nat} {σ : St} {i : Nat} {v : V} (h : (capt js σ)[i]? = some (some v)) : ∃ j, js[i]? = some j ∧ σ[j]? = some (some v) := by
  unfold capt at h
  rw [List.getElem?_map] at h
  cases e : js[i]? with
  | none => rw [e] at h; cases h
  | some j =>
    rw [e] at h
    have h' : (σ[j]?).join = some v := Option.some.inj h
    refine ⟨j, rfl, ?_⟩
    cases q : σ[j]? with
    | none => rw [q] at h'; cases h'
    | some z => rw [q] at h'; exact congrArg some h'
structure CScope (sc : Scope) (scope : Scope) (x : Str) (M : List Str) (ys : List Str) (js : List Nat) : Prop where
  kind : scope.kind = .function
  cell : ∀ y ∈ scope.names, y.2 ≠ .cell
  loc : ∀ y ∈ scope.names, y.2 = .local → scope.names.lookup y.1 = some .local
  var : scope.names.lookup x = some .local
  free : ∀ y ∈ scope.names, y.2 = .free → sc.names.lookup y.1 = some .cell ∨ sc.names.lookup y.1 = some .free
  caps : js.map (M[·]?) = ys.map some
  fr : ∀ y ∈ ys, scope.names.lookup y = some .free
  nd : (x :: ys).Nodup
section
variable {X : Cx} {pins : List (Addr × Obj)} {σ : St} {H : Hp} {s : Shared}
theorem inv_comp {scope : Scope} {x : Str} {ys : List Str} {js : List Nat} {fp : List Addr} {h₁ : Heap} {tk : Nat} {C : Addr} (I : Inv X pins σ H s) (S : CScope X.env.scope scope x X.N ys js) (hf : ∀ b ∈ fp, FpOk X pins H b) (ho : ∀ b ∈ fp, ∃ o, s.heap.get? b = some o)
    (hC : s.heap.objs.size ≤ C) (hk : ∀ b o, s.heap.get? b = some o → h₁.get? b = some o) (hn : h₁.Ns C fun _ => none) :
    Inv (cxC X (x :: ys) scope C s H fp) [] (none :: capt js σ) H { s with heap := h₁, toks := tk } := by
  have sub : ∀ y c, (closOf X.env.cells scope.names []).lookup y = some c → X.env.cells.lookup y = some c := fun y c e => closOf_sub (fun _ _ z => by simp at z) e
  have has : ∀ y, scope.names.lookup y = some .free → ∃ c, (closOf X.env.cells scope.names []).lookup y = some c := fun y e => by
    have m : (y, NameKind.free) ∈ scope.names := PySem.mem_of_lookup e
    exact closOf_has (.inr ⟨m, I.ok.has y (S.free _ m rfl)⟩)
  have lt : ∀ b ∈ fp, b < s.heap.objs.size := fun b hb => by obtain ⟨o, e⟩ := ho b hb; exact Heap.lt_size e
  have ok : (cxC X (x :: ys) scope C s H fp).Ok := by
    refine ⟨I.ok.mod, S.kind, I.ok.glob, I.ok.blt, hC, fun y z c e1 e2 => I.ok.inj y z c (sub _ _ e1) (sub _ _ e2), fun y hy => ?_, fun y c z => ?_, I.ok.hd, I.ok.frames, .inl rfl, fun b hb => ?_, I.bs, Nat.le_trans I.ok.bsz I.sz, fun b o e hb => ?_, fun b hb z => ?_, I.stack, I.stkFree⟩
    · have hy' : (relabel scope X.env).names.lookup y = some .cell ∨ (relabel scope X.env).names.lookup y = some .free := hy
      have nocell : scope.names.lookup y ≠ some .cell := fun z => S.cell _ (PySem.mem_of_lookup z) rfl
      rcases hy' with e | e
      · rcases lookup_relabel e with z | ⟨_, z⟩
        · exact absurd z nocell
        · exact has y z
      · rcases lookup_relabel e with z | ⟨z, _⟩
        · exact has y z
        · cases z
    · exact absurd (show false = true from z) Bool.false_ne_true
    · refine ⟨Nat.ne_of_lt (Nat.lt_of_lt_of_le (lt b hb) hC), fun y c e => (hf b hb).2.2.2.2.1 y c (sub y c e)⟩
    · rcases (hf b hb).2.2.2.1 with z | z
      · exact I.ok.noex b o e z
      · exact absurd (Nat.lt_of_lt_of_le (Heap.lt_size e) (Nat.le_trans I.ok.bsz z)) (Nat.lt_irrefl _)
    · rcases List.mem_cons.mp (I.stkSub b z) with e | e
      · exact (hf b hb).2.1 e
      · exact (hf b hb).2.2.1 e
  refine ⟨ok, rfl, I.bare, Un.kept hk, ⟨_, hn, fun i y v e1 e2 e3 => ?_⟩, fun y c e => ?_, I.hok.fresh hC, fun y c e => I.freeC y c (sub y c e), fun p hp => absurd (show p ∈ ([] : List (Addr × Obj)) from hp) (by simp), I.hok.kept hk, ?_⟩
  · cases i with
    | zero => simp at e2
    | succ i =>
      have e1' : ys[i]? = some y := by simpa [cxC] using e1
      have e2' : (capt js σ)[i]? = some (some v) := by simpa using e2
      obtain ⟨j, hj, hσ⟩ := capt_get e2'
      have hN : X.N[j]? = some y := by
        have z := congrArg (fun l => l[i]?) S.caps
        simp only [List.getElem?_map, hj, e1', Option.map_some] at z
        exact Option.some.inj z
      have hfr := S.fr y (List.mem_of_getElem? e1')
      have m : (y, NameKind.free) ∈ scope.names := PySem.mem_of_lookup hfr
      have hkind := S.free _ m rfl
      obtain ⟨m', hns, hl⟩ := I.loc
      obtain ⟨u, r, lk⟩ := hl j y v hN hσ (by rcases hkind with z | z; exact .inr (.inl z); exact .inr (.inr z))
      refine ⟨u, r, .inr ⟨?_, ?_⟩⟩
      · have e3' : (relabel scope X.env).names.lookup y = some .local ∨ (relabel scope X.env).names.lookup y = some .cell ∨ (relabel scope X.env).names.lookup y = some .free := e3
        rcases e3' with z | z | z
        · rcases lookup_relabel z with q | ⟨q, _⟩
          · rw [hfr] at q; cases q
          · cases q
        · exact .inl z
        · exact .inr z
      · obtain ⟨c, hc⟩ := has y hfr
        refine ⟨c, hc, ?_⟩
        rcases lk with ⟨z, _⟩ | ⟨_, c', hc', cell⟩
        · rcases hkind with q | q
          · have q' : X.env.kindOf y = some .cell := q
            rw [show X.env.kindOf y = some .local from z] at q'; cases q'
          · have q' : X.env.kindOf y = some .free := q
            rw [show X.env.kindOf y = some .local from z] at q'; cases q'
        · rw [sub y c hc] at hc'
          cases hc'
          obtain ⟨o, e, d⟩ := cell
          exact ⟨o, hk _ _ e, d⟩
  · obtain ⟨v, o, e', d⟩ := I.cell y c (sub y c e)
    exact ⟨v, o, hk _ _ e', d⟩
  · have z := congrArg List.length S.caps
    simp only [List.length_map] at z
    show (none :: capt js σ).length = (x :: ys).length
    simp [capt, z]
end
end L2
set_option Elab.async false
set_option linter.all false
set_option maxRecDepth 100000
namespace L2
open PySem PySem.Spec PyProof.Rows
theorem from_pure {α β : Type} {M : Model} {A : Around} {a : α} {Q : α → Shared → Prop} {E E' : Value → Shared → Prop} {s : Shared} {t : Sem β} {Q' : β → Shared → Prop} (h : wpAny M A (pure a) Q E s) (k : Q a s → wpAny M A t Q' E' s) : wpAny M A t Q' E' s :=
  fun Γ p hΓ => k (h Γ p hΓ) Γ p hΓ
def PTs (X : Cx) (ifs : List Expr) (t : TT) : Prop :=
  ∀ (pins : List (Addr × Obj)) (s : Shared) (σ : St) (H : Hp) (Q : Bool → Hp → Prop), Inv X pins σ H s → t σ H Q →
    wpAny (model X.prog X.w) X.A (forIn ifs true fun c r => if r = true then do let ok ← isTrue c X.env (eval c X.env); pure (ForInStep.yield ok) else pure (ForInStep.yield r)) (TP X pins σ Q) X.xe s
def tYes : TT := fun _ H Q => Q true H
theorem pts_nil {X : Cx} : PTs X [] tYes := fun pins s σ H Q I h => wpAny_tests_nil ⟨H, I, h⟩
def CompLoop (J : It) (js : List Nat) (tt : TT) (te : TE) (σ : St) (Q : VK) (H : Hp) : Prop := ∃ W : Nat → Nat → List V → Hp → Prop, (∃ m, W 0 m [] H) ∧ ∀ i m ys H, W i m ys H →
  (J.stop i H ∧ ∀ D, H D = none → Q (.ref D) (upd H D (.lst ys))) ∨
  (J.go i H ∧ ys.length < sizeLine ∧ ∃ N : List V → Hp → Prop, (∀ ys' H', N ys' H' → ∃ m', m' < m ∧ W (i + 1) m' ys' H') ∧ ∀ x H', J.yld i H x H' → tt (some x :: capt js σ) H' fun b H2 => if b = true then te (some x :: capt js σ) H2 fun v H3 => N (ys ++ [v]) H3 else N ys H2)
def tComp (wi : TI) (js : List Nat) (tt : TT) (te : TE) : TE := fun σ H Q => wi σ H fun J H1 => CompLoop J js tt te σ Q H1
theorem HOk.track {P : Program} {w : World} {H : Hp} {h : Heap} {a : Addr} {o : HO} (x : HOk P w H h) (hn : H a = none) (new : ObjOk P w (upd H a o) h a o) : HOk P w (upd H a o) h := fun b u e => by
  by_cases hb : b = a
  · subst hb; rw [upd_same] at e; cases e; exact new
  · rw [upd_ne hb] at e
    exact (x b u e).stay (fun _ _ _ q => q) (fun c q => by rw [upd_ne (ne_of_none q hn)]; exact q) fun c xs q => by rw [upd_ne (ne_of_none q hn)]; exact q
section
variable {X : Cx} {elt iter : Expr} {ifs : List Expr} {x : Str} {px pos : Pos} {scope : Scope} {ys : List Str} {js : List Nat} {wi : TI} {tt : TT} {te : TE}
theorem comp_block {pins : List (Addr × Obj)} {σ : St} {H : Hp} {s : Shared} {J : It} {fp : List Addr} {it : Addr} {tn : Nat → Heap → Prop} {Q : VK} {E : Value → Shared → Prop} {R : Value → Addr → Result → Shared → Prop}
    (S : CScope X.env.scope scope x X.N ys js) (hc : X.calm = true) (ht : ∀ C s₀ H₀ ex, PTs (cxC X (x :: ys) scope C s₀ H₀ ex) ifs tt) (he : ∀ C s₀ H₀ ex, PE (cxC X (x :: ys) scope C s₀ H₀ ex) elt te)
    (I : Inv X pins σ H s) (T : Turn X.prog X.w X.K (.Name x px) J fp it tn) (st : tn 0 s.heap) (hf : ∀ b ∈ fp, FpOk X pins H b)
    (hw : ∃ W : Nat → Nat → List V → Hp → Prop, (∃ m, W 0 m [] H) ∧ ∀ i m zs H, W i m zs H →
      (J.stop i H ∧ ∀ D, H D = none → Q (.ref D) (upd H D (.lst zs))) ∨
      (J.go i H ∧ zs.length < sizeLine ∧ ∃ N : List V → Hp → Prop, (∀ ys' H', N ys' H' → ∃ m', m' < m ∧ W (i + 1) m' ys' H') ∧ ∀ x H', J.yld i H x H' → tt (some x :: capt js σ) H' fun b H2 => if b = true then te (some x :: capt js σ) H2 fun v H3 => N (zs ++ [v]) H3 else N zs H2))
    (hR : ∀ D C s' H' m', Inv X pins σ H' s' → Q (.ref D) H' → s.heap.objs.size ≤ C → H' C = none → s'.heap.Ns C m' → R (.ref D) C (.ok .next) s') :
    wpAny (model X.prog X.w) X.A (newList []) (fun acc s₃ => wpAny (model X.prog X.w) X.A (newFunctionEnv scope X.env.globals (closOf X.env.cells scope.names []) [] X.env.qual none .none (some X.env)) (fun cenv s₄ =>
      codeAny (model X.prog X.w) X.A (.compStart (.ListComp elt [⟨.Name x px, iter, ifs, 0⟩] scope pos) 0 (.ref it) acc { cenv with scope := relabel scope X.env }) (R acc cenv.locals) s₄) E s₃) E s := by
  obtain ⟨W, ⟨m0, w0⟩, turn⟩ := hw
  refine wpAny_newObj_type (wpAny_newFunctionEnv S.cell (by intro y hy; simp at hy) (fun h₁ hns₁ hsb₁ => ?_) S.kind)
  dsimp only at hns₁ hsb₁ ⊢
  generalize hH2 : s.heap.push { cls := .type "list", dict := none, data := .seq ([] : List Value).toArray } = G at hns₁ hsb₁ ⊢
  generalize hD : s.heap.objs.size = D at *
  generalize hCe : G.objs.size = C at *
  have hC : C = D + 1 := by rw [← hCe, ← hH2, Heap.size_push, hD]
  have hDlt : D < C := by rw [hC]; exact Nat.lt_succ_self D
  have hDC : D ≠ C := Nat.ne_of_lt hDlt
  have old : ∀ b o, s.heap.get? b = some o → h₁.get? b = some o := fun b o e => by
    have hb : b < D := hD ▸ Heap.lt_size e
    exact (hsb₁.2 b (Nat.ne_of_lt (Nat.lt_trans hb hDlt))).trans (Heap.get?_push_of_some _ (hH2 ▸ Heap.get?_push_of_some _ e))
  have hacc : h₁.get? D = some { cls := .type "list", data := .seq ([] : List Value).toArray 0 } := by
    refine (hsb₁.2 D hDC).trans (Heap.get?_push_of_some _ ?_)
    rw [← hH2, ← hD]
    exact Heap.get?_push_size _ rfl
  have obj0 := T.obj 0 _ st
  have fplt : ∀ b ∈ fp, b < D := fun b hb => by obtain ⟨o, e, _⟩ := obj0 b hb; exact hD ▸ Heap.lt_size e
  generalize hX : cxC X (x :: ys) scope C s H fp = X'
  have I1 : Inv X' [] (none :: capt js σ) H { s with heap := h₁, toks := s.toks + ([] : List (Str × Value)).length } := by
    subst hX
    exact inv_comp I S hf (fun b hb => by obtain ⟨o, e, _⟩ := obj0 b hb; exact ⟨o, e⟩) (by omega) old (by simpa using hns₁)
  have eP : X'.prog = X.prog := by subst hX; rfl
  have eW : X'.w = X.w := by subst hX; rfl
  have eK : X'.K = X.K := by subst hX; rfl
  have eA : X'.A = X.A := by subst hX; rfl
  have eC : X'.calm = true := by subst hX; exact hc
  have eL : X'.env.locals = C := by subst hX; rfl
  have eS : X'.s₀ = s := by subst hX; rfl
  have eN : X'.N = x :: ys := by subst hX; rfl
  have eE : X'.env = compEnvC scope (closOf X.env.cells scope.names []) C X.env := by subst hX; rfl
  have eXe : X'.xe = fun _ _ => False := by subst hX; rfl
  have eX : X'.ex = fp := by subst hX; rfl
  have ePn : X'.pn = [] := by subst hX; rfl
  have efs : ∀ b, b ∈ X'.fs → b ∈ frs X.stack := fun b z => by subst hX; exact z
  have cellLt : ∀ y c, X'.env.cells.lookup y = some c → c < D := fun y c e => by
    have e' : (closOf X.env.cells scope.names []).lookup y = some c := by rw [eE] at e; exact e
    obtain ⟨v, o, e2, _⟩ := I.cell y c (closOf_sub (fun _ _ z => by simp at z) e')
    exact hD ▸ Heap.lt_size e2
  have frLt : ∀ b, b ∈ X'.fs → b < D := fun b z => by
    rcases List.mem_cons.mp (I.stkSub b (efs b z)) with e | e
    · rw [e]; exact hD ▸ I.lt
    · exact Nat.lt_of_not_le fun h => I.nofs (hD ▸ h) e
  have fpOk : ∀ (p : List (Addr × Obj)) (H' : Hp), (∀ b ∈ fp, H' b = none) → (∀ q ∈ p, q.1 = D) → ∀ b ∈ fp, FpOk X' p H' b := fun p H' hn hp b hb => by
    refine ⟨hn b hb, ?_, fun z => ?_, .inl (eX ▸ hb), fun y c e => ?_, fun q hq => ?_⟩
    · rw [eL]; exact Nat.ne_of_lt (Nat.lt_trans (fplt b hb) hDlt)
    · rcases List.mem_cons.mp (I.stkSub b (efs b z)) with e | e
      · exact (hf b hb).2.1 e
      · exact (hf b hb).2.2.1 e
    · have e' : (closOf X.env.cells scope.names []).lookup y = some c := by rw [eE] at e; exact e
      exact (hf b hb).2.2.2.2.1 y c (closOf_sub (fun _ _ z => by simp at z) e')
    · rw [ePn, List.nil_append] at hq
      rw [hp q hq]; exact Nat.ne_of_gt (fplt b hb)
  have noCell : ∀ (its : List Value) (k : Nat) v, ({ cls := .type "list", data := .seq its.toArray k } : Obj).data ≠ .cell v := fun its k v z => by cases z
  have done : ∀ {zs : List V} {its : List Value} {k : Nat} {H' : Hp} {s' : Shared}, Inv X' [] (none :: capt js σ) H' s' → s'.heap.get? D = some { cls := .type "list", data := .seq its.toArray k } → Vals zs its → H' D = none → zs.length ≤ sizeLine →
      (∀ D, H' D = none → Q (.ref D) (upd H' D (.lst zs))) → R (.ref D) C (.ok .next) s' := fun {zs its k H' s'} I' hd hv hn hz q => by
    have un := I'.base
    obtain ⟨m', hns, _⟩ := I'.loc
    rw [eL] at hns
    have hCn : H' C = none := by have := I'.free; rw [eL] at this; exact this
    have hH0 : X'.H₀ = H := by subst hX; rfl
    rw [hH0, eS, eX] at un
    have un2 : Un (frs X.stack) fp H (upd H' D (.lst zs)) s.heap s'.heap := by
      have ne : ∀ b o, s.heap.get? b = some o → b ≠ D := fun b o e => Nat.ne_of_lt (hD ▸ Heap.lt_size e)
      have un' : Un (frs X.stack) fp H H' s.heap s'.heap := by subst hX; exact un
      exact ⟨un'.keep, un'.slot, fun b o e n hx => by rw [upd_ne (ne b o e)]; exact un'.free b o e n hx, un'.there, fun b xs e => by rw [upd_ne (ne_of_none (un'.tups b xs e) hn)]; exact un'.tups b xs e,
        fun b o u e => by rw [upd_ne (ne_of_none (un'.frzs b o u e) hn)]; exact un'.frzs b o u e, fun b ps e => by
          obtain ⟨more, z⟩ := un'.tbls b ps e
          exact ⟨more, by rw [upd_ne (ne_of_none z hn)]; exact z⟩⟩
    have hok : HOk X.prog X.w (upd H' D (.lst zs)) s'.heap := by
      have h0 := I'.hok
      rw [eP, eW] at h0
      exact h0.track hn ⟨hz, its, k, hv, hd⟩
    have I2 : Inv X pins σ (upd H' D (.lst zs)) s' := I.call' (by have := I'.os; rw [eS] at this; exact this) un2 hok I'.bare fun b hb => ⟨(hf b hb).2.2.2.1, (hf b hb).2.1, (hf b hb).2.2.2.2.1, (hf b hb).2.2.2.2.2⟩
    exact hR D C s' _ m' I2 (q D hn) (by omega) (by rw [upd_ne (Ne.symm hDC)]; exact hCn) hns
  have loop : codeAny (model X.prog X.w) X.A (.compLoop (.ListComp elt [⟨.Name x px, iter, ifs, 0⟩] scope pos) 0 (.ref it) (.ref D) X'.env) (R (.ref D) C) { s with heap := h₁, toks := s.toks + ([] : List (Str × Value)).length } := by
    refine codeAny_compLoop_tests (fun n s' => ∃ i zs its k H', Inv X' [] (none :: capt js σ) H' s' ∧ tn i s'.heap ∧ (∀ b ∈ fp, H' b = none) ∧ s'.heap.get? D = some { cls := .type "list", data := .seq its.toArray k } ∧ Vals zs its ∧ H' D = none ∧ zs.length ≤ sizeLine ∧ W i n zs H')
      ?_ m0 ⟨0, [], [], 0, H, I1, T.keep _ _ _ st (fun b hb o e => old b o e), fun b hb => (hf b hb).1, hacc, .nil, I.hok.fresh (by omega), Nat.zero_le _, w0⟩ (fun _ => rfl)
    rintro n s3 ⟨i, zs, its, k, H3, I3, st3, fr3, d3, v3, n3, z3, w3⟩
    have pinD : Inv X' [(D, { cls := .type "list", data := .seq its.toArray k })] (none :: capt js σ) H3 s3 := I3.pins_of fun p hp => by
      have e : p = (D, { cls := .type "list", data := .seq its.toArray k }) := by simpa using hp
      subst e
      exact ⟨d3, n3, by rw [eL]; exact hDC, fun z => Nat.lt_irrefl _ (frLt D z), noCell its k⟩
    have hpD : ∀ q ∈ [(D, ({ cls := .type "list", data := .seq its.toArray k } : Obj))], q.1 = D := fun q hq => by
      have e : q = (D, { cls := .type "list", data := .seq its.toArray k }) := by simpa using hq
      rw [e]
    rcases turn i n zs H3 w3 with ⟨stop, qn⟩ | ⟨go, hzl, NN, hNN, step⟩
    · refine thn (eA ▸ T.done X' eP eW eK eC i _ s3 _ H3 _ pinD (fpOk _ _ fr3 hpD) st3 stop) fun r s4 ⟨hr, I4⟩ => ?_
      subst hr
      exact done (I4.pins_of fun p hp => absurd hp (by simp)) (I4.pin (D, { cls := .type "list", data := .seq its.toArray k }) (List.mem_append_right _ (by simp))).1 v3 n3 z3 qn
    · refine thn (eA ▸ T.item X' eP eW eK eC i _ s3 _ H3 _ pinD (fpOk _ _ fr3 hpD) st3 go) fun r s4 ⟨u, hr, h4⟩ => ?_
      subst hr
      refine from_pure (a := ()) h4 fun ⟨v, H5, I5, r5, y5, st5, fr5⟩ => ?_
      have I5' := I5.pinned (fpOk _ _ fr5 hpD) (T.obj _ _ st5)
      have ev : ∀ {α : Type} {t : Sem α} {Q' : α → Shared → Prop} {E' : Value → Shared → Prop} {s' : Shared}, wpAny (model X'.prog X'.w) X'.A t Q' X'.xe s' → wpAny (model X.prog X.w) X.A t Q' E' s' := fun {α t Q' E' s'} hh => by
        rw [eP, eW, eA, eXe] at hh
        exact wpAny_mono hh (fun _ _ q => q) fun _ _ z => z.elim
      refine ev (thn (pg_name (X := X') (i := 0) (by rw [eN]; exact S.nd) (by rw [eN]; rfl) (.inl (by rw [eE]; exact lookup_relabel_local S.var)) (.inr (by rw [eE]; exact lookup_relabel_local S.var)) _ s4 _ H5 v u (fun σ' H' => σ' = some v :: capt js σ ∧ H' = H5) I5' r5 ⟨rfl, rfl⟩) fun _ s6 ⟨σ6, H6, I6, e6, e6'⟩ => ?_)
      subst e6 e6'
      have back : ∀ {σ' : St} {H7 : Hp} {s7 : Shared}, Inv X' ([(D, { cls := .type "list", data := .seq its.toArray k })] ++ pinsAt fp s4.heap) (some v :: capt js σ) H7 s7 → Inv X' [] (none :: capt js σ) H7 s7 := fun {_ H7 s7} I7 => by
        refine (I7.pins_of fun p hp => absurd hp (by simp)).weak rfl fun i v' e => ?_
        cases i with
        | zero => simp at e
        | succ i => simpa using e
      have fps : ∀ {σ' : St} {H7 : Hp} {s7 : Shared}, Inv X' ([(D, { cls := .type "list", data := .seq its.toArray k })] ++ pinsAt fp s4.heap) σ' H7 s7 → (∀ b ∈ fp, H7 b = none) ∧ (∀ b ∈ fp, ∀ o, s4.heap.get? b = some o → s7.heap.get? b = some o) ∧ s7.heap.get? D = some { cls := .type "list", data := .seq its.toArray k } ∧ H7 D = none := fun {σ' H7 s7} I7 => by
        have g : ∀ b ∈ fp, ∀ o, s4.heap.get? b = some o → s7.heap.get? b = some o ∧ H7 b = none := fun b hb o e => by
          have z := I7.pin (b, o) (List.mem_append_right _ (List.mem_append_right _ (mem_pinsAt hb e)))
          exact ⟨z.1, z.2.1⟩
        refine ⟨fun b hb => ?_, fun b hb o e => (g b hb o e).1, (I7.pin (D, { cls := .type "list", data := .seq its.toArray k }) (List.mem_append_right _ (by simp))).1, (I7.pin (D, { cls := .type "list", data := .seq its.toArray k }) (List.mem_append_right _ (by simp))).2.1⟩
        obtain ⟨o, e, _⟩ := T.obj _ _ st5 b hb
        exact (g b hb o e).2
      have hte : PTs X' ifs tt := hX ▸ ht C s H fp
      have hee : PE X' elt te := hX ▸ he C s H fp
      refine ev (thn (hte _ s6 _ H6 _ I6 (step v H6 y5)) fun b s7 ⟨H7, I7, q7⟩ => ?_)
      cases b with
      | false =>
        rw [if_neg Bool.false_ne_true]
        rw [if_neg Bool.false_ne_true] at q7
        obtain ⟨m', hm, w7⟩ := hNN _ _ q7
        obtain ⟨g1, g2, g3, g4⟩ := fps I7
        exact ⟨m', hm, i + 1, zs, its, k, H7, back (σ' := []) I7, T.keep _ _ _ st5 g2, g1, g3, v3, g4, z3, w7⟩
      | true =>
        rw [if_pos rfl]
        rw [if_pos rfl] at q7
        refine ev (thn (hee _ s7 _ H7 _ I7 q7) fun u8 s8 ⟨v8, H8, I8, r8, q8⟩ => ?_)
        obtain ⟨m', hm, w8⟩ := hNN _ _ q8
        obtain ⟨g1, g2, g3, g4⟩ := fps I8
        have hil := v3.length
        refine call_meets F.slot_list_append ⟨_, g3, rfl⟩ F.entry_list_append (F.args_list_append_2 _ _) (PySem.list_append D its.toArray k u8 (by rw [List.size_toArray]; omega)) ⟨g3, ?_⟩
        have q := PySem.IsL.update g3 (fun a => a.push u8)
        have ea : its.toArray.push u8 = (its ++ [u8]).toArray := by simp
        rw [ea] at q
        have kk : ∀ b o, b ≠ D → s8.heap.get? b = some o → (s8.heap.update D (Obj.mapSeq fun a => a.push u8)).get? b = some o := fun b o hb e => (Heap.get?_update_other _ _ (Ne.symm hb)).trans e
        have I9 : Inv X' [] (none :: capt js σ) H8 { s8 with heap := s8.heap.update D (Obj.mapSeq fun a => a.push u8), toks := s8.toks } := by
          refine (back (σ' := []) I8).turned kk g4 (by rw [eL]; exact hDC) (.inr (by rw [eS]; omega)) (fun y c e => Nat.ne_of_lt (cellLt y c e)) fun p hp => ?_
          rw [ePn] at hp
          exact absurd hp (by simp)
        refine ⟨m', hm, i + 1, zs ++ [v8], its ++ [u8], _, H8, I9, T.keep _ _ _ st5 (fun b hb o e => kk b o (Nat.ne_of_lt (fplt b hb)) (g2 b hb o e)), g1, q, v3.append (.cons r8 .nil), g4, ?_, w8⟩
        rw [List.length_append, List.length_singleton]
        omega
  rw [eE] at loop
  exact codeAny_compStart_list loop (T.self _ 0 _ _ _ (T.keep _ _ _ st (fun b hb o e => old b o e)) loop)
theorem pe_comp (S : CScope X.env.scope scope x X.N ys js) (hc : X.calm = true) (hi : PI X (.Name x px) iter wi) (ht : ∀ C s₀ H₀ ex, PTs (cxC X (x :: ys) scope C s₀ H₀ ex) ifs tt) (he : ∀ C s₀ H₀ ex, PE (cxC X (x :: ys) scope C s₀ H₀ ex) elt te)
    (hs : ∀ x, foldedSetIterable iter X.env x = pure x := by intro _; rfl) : PE X (.ListComp elt [⟨.Name x px, iter, ifs, 0⟩] scope pos) (tComp wi js tt te) := by
  intro pins s σ H Q I h
  rw [eval_ListComp]
  refine wpAny_comprehension_free (use := none) rfl hs (closureFor_eq fun y hy e => I.ok.has _ (S.free y hy e)) S.kind S.loc (thn (hi pins s σ H _ I h) fun v s1 h1 => thn h1 fun itv s2 h2 => ?_)
  obtain ⟨it, fp, tn, J, H2, e, I2, T, st2, f2, hw⟩ := h2
  subst e
  refine comp_block (Q := Q) (R := fun acc C => compPost (model X.prog X.w) X.A X.xe none (EP X pins σ Q) acc C) S hc ht he I2 T st2 f2 hw ?_
  intro D C s' H' m' I' q hC hn hns
  refine ⟨m', hns, fun h' hs' => ⟨.ref D, H', ?_, rfl, q⟩⟩
  have e := I2.fpOk hC hn
  exact I'.turned (t' := s'.toks) (fun b o hb e => (hs'.2 b hb).trans e) hn e.2.1 e.2.2.2.1 e.2.2.2.2.1 e.2.2.2.2.2
theorem ps_setComp {i : Nat} {y : Str} {py spos : Pos} (S : CScope X.env.scope scope x X.N ys js) (hc : X.calm = true) (hN : X.N.Nodup) (hy : X.N[i]? = some y) (hl : Loc X.env.scope y) (hi : PI X (.Name x px) iter wi) (ht : ∀ C s₀ H₀ ex, PTs (cxC X (x :: ys) scope C s₀ H₀ ex) ifs tt) (he : ∀ C s₀ H₀ ex, PE (cxC X (x :: ys) scope C s₀ H₀ ex) elt te)
    (hf : X.fn y = true ∨ X.env.scope.names.lookup y = some .local := by first | exact .inl rfl | exact .inr rfl | assumption)
    (hsw : swapsWith (.ListComp elt [⟨.Name x px, iter, ifs, 0⟩] scope pos) (some (.Name y py)) spos.line X.env = pure true := by rfl)
    (hs : ∀ x, foldedSetIterable iter X.env x = pure x := by intro _; rfl) : PS X (.Assign [.Name y py] (.ListComp elt [⟨.Name x px, iter, ifs, 0⟩] scope pos) spos) (tAsg (tComp wi js tt te) (gName i)) := by
  intro pins s σ H D I h
  rw [exec_Assign_Name_used _ _ _ _ hsw]
  refine wpAny_bind (wpAny_standAt (wpAny_bind ?_))
  show wpAny _ X.A (do let _ ← comprehension (.ListComp elt [⟨.Name x px, iter, ifs, 0⟩] scope pos) scope X.env _ (newList []) false (eval iter X.env) (some (assign (.Name y py) X.env))) _ _ s
  refine wpAny_bind (wpAny_mono (wpAny_comprehension_free (use := some (assign (.Name y py) X.env)) (Q := fun _ s' => SP X pins D .next s') rfl hs (closureFor_eq fun y hy e => I.ok.has _ (S.free y hy e)) S.kind S.loc
    (thn (hi pins s σ H _ I h) fun v s1 h1 => thn h1 fun itv s2 h2 => ?_)) (fun _ s' hq => wpAny_pure (wpAny_pure hq)) fun _ _ e => e)
  obtain ⟨it, fp, tn, J, H2, e, I2, T, st2, f2, hw⟩ := h2
  subst e
  refine comp_block (Q := fun v H' => gName i v σ H' D.nx) (R := fun acc C => compPost (model X.prog X.w) X.A X.xe (some (assign (.Name y py) X.env)) (fun _ s' => SP X pins D .next s') acc C) S hc ht he I2 T st2 f2 hw ?_
  intro Da C s' H' m' I' q hC hn hns
  have e := I2.fpOk hC hn
  show wpAny _ X.A (assign (.Name y py) X.env (.ref Da)) _ _ _
  refine wpAny_assign_Name (store_ok2 I' hN hy hl (show RelV (.ref Da) (.ref Da) from rfl) (fun s2' I3 ⟨a, sb, ha⟩ => ?_) hf)
  have hCa : C ≠ a := by
    rcases ha with z | z
    · rw [z]; exact e.2.1
    · intro w; exact e.2.2.2.2.1 _ _ z w.symm
  refine ⟨m', hns.sameBut sb hCa, fun h' hs' => ⟨_, H', ?_, q⟩⟩
  exact I3.turned (t' := s2'.toks) (fun b o hb e => (hs'.2 b hb).trans e) hn e.2.1 e.2.2.2.1 e.2.2.2.2.1 e.2.2.2.2.2
end
theorem comp_list {K : PySem.W.Frag} {a : Addr} {xs : List V} {js : List Nat} {tt : TT} {te : TE} {σ : St} {H : Hp} {Q : VK} (Pv : Nat → List V → Hp → Prop) (h0 : Pv 0 [] H) (hl : ∀ i ys H, i ≤ xs.length → Pv i ys H → SqL K H a xs)
    (hs : ∀ i x ys H, xs[i]? = some x → Pv i ys H → ys.length < sizeLine ∧ tt (some x :: capt js σ) H fun b H2 => if b = true then te (some x :: capt js σ) H2 fun v H3 => Pv (i + 1) (ys ++ [v]) H3 else Pv (i + 1) ys H2)
    (hd : ∀ ys H, Pv xs.length ys H → ∀ D, H D = none → Q (.ref D) (upd H D (.lst ys))) :
    CompLoop (Itl K a) js tt te σ Q H := by
  refine ⟨fun i m ys H => m = xs.length - i ∧ i ≤ xs.length ∧ Pv i ys H, ⟨xs.length, by simp, Nat.zero_le _, h0⟩, ?_⟩
  rintro i m ys H ⟨rfl, hi, p⟩
  have q := hl i ys H hi p
  by_cases hlt : i < xs.length
  · have hx : xs[i]? = some xs[i] := List.getElem?_eq_getElem hlt
    obtain ⟨hz, hst⟩ := hs i xs[i] ys H hx p
    refine .inr ⟨⟨xs, xs[i], q, hx⟩, hz, Pv (i + 1), fun ys' H' p' => ⟨xs.length - (i + 1), by omega, rfl, hlt, p'⟩, fun x H' y => ?_⟩
    obtain ⟨e, y⟩ := y
    subst e
    have e2 := y xs q
    rw [hx] at e2
    cases e2
    exact hst
  · have e : i = xs.length := by omega
    subst e
    exact .inl ⟨⟨xs, q, Nat.le_refl _⟩, hd ys H p⟩
theorem comp_range {lo : Int} {n : Nat} {js : List Nat} {tt : TT} {te : TE} {σ : St} {H : Hp} {Q : VK} (Pv : Nat → List V → Hp → Prop) (h0 : Pv 0 [] H)
    (hs : ∀ i ys H, i < n → Pv i ys H → ys.length < sizeLine ∧ tt (some (.int (lo + i)) :: capt js σ) H fun b H2 => if b = true then te (some (.int (lo + i)) :: capt js σ) H2 fun v H3 => Pv (i + 1) (ys ++ [v]) H3 else Pv (i + 1) ys H2)
    (hd : ∀ ys H, Pv n ys H → ∀ D, H D = none → Q (.ref D) (upd H D (.lst ys))) :
    CompLoop (Itr lo n) js tt te σ Q H := by
  refine ⟨fun i m ys H => m = n - i ∧ i ≤ n ∧ Pv i ys H, ⟨n, by simp, Nat.zero_le _, h0⟩, ?_⟩
  rintro i m ys H ⟨rfl, hi, p⟩
  by_cases hlt : i < n
  · obtain ⟨hz, hst⟩ := hs i ys H hlt p
    refine .inr ⟨hlt, hz, Pv (i + 1), fun ys' H' p' => ⟨n - (i + 1), by omega, rfl, hlt, p'⟩, fun x H' y => ?_⟩
    obtain ⟨e, y⟩ := y
    subst e y
    exact hst
  · have e : i = n := by omega
    subst e
    exact .inl ⟨Nat.le_refl _, hd ys H p⟩
end L2
set_option Elab.async false
set_option linter.all false
set_option maxRecDepth 100000
namespace L2
open PySem PySem.Spec PyProof.Rows PySem.SeqAt
inductive Tr where
  | non | bl (b : Bool) | int (i : Int) | str (x : Str) | lst (ts : List Tr) | tup (ts : List Tr)
mutual
def TrAt (K : PySem.W.Frag) (H : Hp) : Tr → V → Prop
  | .non, v => v = .non
  | .bl b, v => v = .bl b
  | .int i, v => v = .int i
  | .str x, v => v = .str x
  | .lst ts, v => ∃ a xs, v = .ref a ∧ SqL K H a xs ∧ TrsAt K H ts xs
  | .tup ts, v => ∃ a xs, v = .ref a ∧ SqT K H a xs ∧ TrsAt K H ts xs
def TrsAt (K : PySem.W.Frag) (H : Hp) : List Tr → List V → Prop
  | [], xs => xs = []
  | t :: ts, xs => ∃ y ys, xs = y :: ys ∧ TrAt K H t y ∧ TrsAt K H ts ys
end
mutual
def teq : Tr → Tr → Bool
  | .non, .non => true
  | .bl a, .bl b => a == b
  | .bl a, .int b => (if a then 1 else 0) == b
  | .int a, .bl b => a == (if b then 1 else 0)
  | .int a, .int b => a == b
  | .str a, .str b => a == b
  | .lst a, .lst b => teqs a b
  | .tup a, .tup b => teqs a b
  | _, _ => false
def teqs : List Tr → List Tr → Bool
  | [], [] => true
  | t :: ts, u :: us => teq t u && teqs ts us
  | _, _ => false
end
mutual
def tdep : Tr → Nat
  | .lst ts => tdeps ts + 1
  | .tup ts => tdeps ts + 1
  | _ => 0
def tdeps : List Tr → Nat
  | [] => 0
  | t :: ts => max (tdep t) (tdeps ts)
end
theorem tdep_mem {t : Tr} : ∀ {ts : List Tr}, t ∈ ts → tdep t ≤ tdeps ts
  | u :: ts, h => by
    rw [tdeps]
    rcases List.mem_cons.mp h with e | h
    · rw [e]; exact Nat.le_max_left _ _
    · exact Nat.le_trans (tdep_mem h) (Nat.le_max_right _ _)
section
variable {K : PySem.W.Frag} {H : Hp}
theorem TrsAt.length : ∀ {ts : List Tr} {xs : List V}, TrsAt K H ts xs → ts.length = xs.length
  | [], xs, h => by rw [TrsAt] at h; subst h; rfl
  | t :: ts, xs, h => by
    rw [TrsAt] at h
    obtain ⟨y, ys, rfl, _, h⟩ := h
    rw [List.length_cons, List.length_cons, TrsAt.length h]
theorem TrsAt.get : ∀ {ts : List Tr} {xs : List V} {j : Nat} {t : Tr}, TrsAt K H ts xs → ts[j]? = some t → ∃ x, xs[j]? = some x ∧ TrAt K H t x
  | [], xs, j, t, h, e => by simp at e
  | u :: ts, xs, 0, t, h, e => by
    rw [TrsAt] at h
    obtain ⟨y, ys, rfl, hy, h⟩ := h
    simp at e
    subst e
    exact ⟨y, rfl, hy⟩
  | u :: ts, xs, j + 1, t, h, e => by
    rw [TrsAt] at h
    obtain ⟨y, ys, rfl, hy, h⟩ := h
    obtain ⟨x, e1, e2⟩ := TrsAt.get (j := j) h (by simpa using e)
    exact ⟨x, by simpa using e1, e2⟩
theorem TrsAt.mk : ∀ {ts : List Tr} {xs : List V}, ts.length = xs.length → (∀ (j : Nat) (t : Tr) (x : V), ts[j]? = some t → xs[j]? = some x → TrAt K H t x) → TrsAt K H ts xs
  | [], [], _, _ => by rw [TrsAt]
  | [], _ :: _, h, _ => by simp at h
  | _ :: _, [], h, _ => by simp at h
  | t :: ts, x :: xs, h, f => by
    rw [TrsAt]
    exact ⟨x, xs, rfl, f 0 t x rfl rfl, TrsAt.mk (by simpa using h) fun j t x e1 e2 => f (j + 1) t x (by simpa using e1) (by simpa using e2)⟩
theorem TrsAt.ints : ∀ {ns : List Int}, TrsAt K H (ns.map Tr.int) (ns.map V.int)
  | [] => by rw [List.map_nil, TrsAt]; rfl
  | n :: ns => by rw [List.map_cons, TrsAt]; exact ⟨_, _, rfl, by rw [TrAt], TrsAt.ints⟩
def tInts (ns : List Int) : Tr := .lst (ns.map Tr.int)
theorem TrAt.ints {a : Addr} {ns : List Int} (h : SqL K H a (ns.map V.int)) : TrAt K H (tInts ns) (.ref a) := by
  unfold tInts; rw [TrAt]; exact ⟨a, _, rfl, h, TrsAt.ints⟩
end
mutual
theorem teq_refl : ∀ t : Tr, teq t t = true
  | .non => by rw [teq]
  | .bl b => by rw [teq]; simp
  | .int i => by rw [teq]; simp
  | .str x => by rw [teq]; simp
  | .lst ts => by rw [teq]; exact teqs_refl ts
  | .tup ts => by rw [teq]; exact teqs_refl ts
theorem teqs_refl : ∀ ts : List Tr, teqs ts ts = true
  | [] => by rw [teqs]
  | t :: ts => by rw [teqs, teq_refl t, teqs_refl ts]; rfl
end
theorem teqs_map {α : Type} [DecidableEq α] {f : α → Tr} (h : ∀ a b, teq (f a) (f b) = decide (a = b)) : ∀ (xs ys : List α), teqs (xs.map f) (ys.map f) = decide (xs = ys)
  | [], [] => by simp [teqs]
  | [], _ :: _ => by simp [teqs]
  | _ :: _, [] => by simp [teqs]
  | x :: xs, y :: ys => by
    rw [List.map_cons, List.map_cons, teqs, h, teqs_map h xs ys, Bool.eq_iff_iff]
    simp
theorem teq_int (a b : Int) : teq (.int a) (.int b) = decide (a = b) := by rw [teq, Bool.eq_iff_iff]; simp
theorem teq_ints (a b : List Int) : teq (tInts a) (tInts b) = decide (a = b) := by unfold tInts; rw [teq]; exact teqs_map teq_int a b
theorem tdeps_ints : ∀ ns : List Int, tdeps (ns.map Tr.int) = 0
  | [] => by simp [tdeps]
  | n :: ns => by rw [List.map_cons, tdeps, tdeps_ints ns, tdep] <;> simp
theorem tdep_tInts (ns : List Int) : tdep (tInts ns) = 1 := by unfold tInts; rw [tdep, tdeps_ints]
theorem teqs_length : ∀ {ts us : List Tr}, ts.length ≠ us.length → teqs ts us = false
  | [], [], h => absurd rfl h
  | [], _ :: _, _ => by simp [teqs]
  | _ :: _, [], _ => by simp [teqs]
  | t :: ts, u :: us, h => by rw [teqs, teqs_length (by simpa using h), Bool.and_false]
def eAt (ts us : List Tr) (j : Nat) : Bool := match ts[j]?, us[j]? with
  | some t, some u => teq t u
  | _, _ => true
theorem all_eAt : ∀ {ts us : List Tr}, ts.length = us.length → (List.range ts.length).all (eAt ts us) = teqs ts us
  | [], [], _ => by simp [teqs]
  | [], _ :: _, h => by simp at h
  | _ :: _, [], h => by simp at h
  | t :: ts, u :: us, h => by
    rw [List.length_cons, List.range_succ_eq_map, List.all_cons, List.all_map, teqs, ← all_eAt (ts := ts) (us := us) (by simpa using h)]
    rfl
section
variable {X : Cx} {pins : List (Addr × Obj)} {σ : St} {H : Hp} {s : Shared}
theorem tr_inj (I : Inv X pins σ H s) : ∀ (n : Nat) {t u : Tr} {v : V}, tdep t ≤ n → TrAt X.K H t v → TrAt X.K H u v → t = u := by
  intro n
  induction n with
  | zero =>
    intro t u v hd ht hu
    cases t with
    | lst ts => rw [tdep] at hd; omega
    | tup ts => rw [tdep] at hd; omega
    | _ => (rw [TrAt] at ht; subst ht; cases u <;> (rw [TrAt] at hu) <;> first | rfl | (obtain ⟨_, _, z, _⟩ := hu; cases z) | (cases hu; rfl) | cases hu)
  | succ n ih =>
    intro t u v hd ht hu
    have lists : ∀ {ts us : List Tr} {xs : List V}, tdeps ts ≤ n → TrsAt X.K H ts xs → TrsAt X.K H us xs → ts = us := by
      intro ts us xs hd h1 h2
      apply List.ext_getElem?
      intro j
      have l1 := h1.length
      have l2 := h2.length
      by_cases hj : j < ts.length
      · obtain ⟨t, e⟩ : ∃ t, ts[j]? = some t := ⟨_, List.getElem?_eq_getElem hj⟩
        obtain ⟨u, e'⟩ : ∃ u, us[j]? = some u := ⟨_, List.getElem?_eq_getElem (by omega)⟩
        obtain ⟨x, ex, hx⟩ := h1.get e
        obtain ⟨y, ey, hy⟩ := h2.get e'
        rw [ex] at ey
        cases ey
        rw [e, e', ih (Nat.le_trans (tdep_mem (List.mem_of_getElem? e)) hd) hx hy]
      · rw [List.getElem?_eq_none (by omega), List.getElem?_eq_none (by omega)]
    cases t with
    | lst ts =>
      rw [TrAt] at ht
      obtain ⟨a, xs, rfl, q, h1⟩ := ht
      cases u with
      | lst us =>
        rw [TrAt] at hu
        obtain ⟨b, ys, e, q', h2⟩ := hu
        cases e
        rw [I.list_inj q' q] at h2
        rw [lists (by rw [tdep] at hd; omega) h1 h2]
      | tup us =>
        rw [TrAt] at hu
        obtain ⟨b, ys, e, q', h2⟩ := hu
        cases e
        obtain ⟨_, _, pl, _⟩ := I.list q
        obtain ⟨_, _, pt, _⟩ := I.tuple q'
        exact absurd rfl (ne_of_list_tuple pl.isList pt)
      | _ => rw [TrAt] at hu; cases hu
    | tup ts =>
      rw [TrAt] at ht
      obtain ⟨a, xs, rfl, q, h1⟩ := ht
      cases u with
      | tup us =>
        rw [TrAt] at hu
        obtain ⟨b, ys, e, q', h2⟩ := hu
        cases e
        rw [I.tuple_inj q' q] at h2
        rw [lists (by rw [tdep] at hd; omega) h1 h2]
      | lst us =>
        rw [TrAt] at hu
        obtain ⟨b, ys, e, q', h2⟩ := hu
        cases e
        obtain ⟨_, _, pl, _⟩ := I.list q'
        obtain ⟨_, _, pt, _⟩ := I.tuple q
        exact absurd rfl (ne_of_list_tuple pl.isList pt)
      | _ => rw [TrAt] at hu; cases hu
    | _ => (rw [TrAt] at ht; subst ht; cases u <;> (rw [TrAt] at hu) <;> first | rfl | (obtain ⟨_, _, z, _⟩ := hu; cases z) | (cases hu; rfl) | cases hu)
structure Cmps (A : Around) (s : Shared) (a b : Value) (r : Bool) : Prop where
  rc : RcAt A s a b r
  ne : RcNeAt A s a b (!r)
  eq : EqAt A s a b r
theorem units_in1 (A : Around) : A.in1.units = A.units + 1 := rfl
theorem tr_cmps (I : Inv X pins σ H s) : ∀ (n : Nat) {t u : Tr} {v w : V} {a b : Value} {A : Around}, tdep t ≤ n → TrAt X.K H t v → TrAt X.K H u w → RelV v a → RelV w b → A.units + n < cLine → Cmps A s a b (teq t u) := by
  intro n
  induction n with
  | zero =>
    intro t u v w a b A hd ht hu ra rb hA
    have hA' : A.units < cLine := by omega
    cases t with
    | lst ts => rw [tdep] at hd; omega
    | tup ts => rw [tdep] at hd; omega
    | non =>
      rw [TrAt] at ht; subst ht; cases ra
      cases u with
      | non => rw [TrAt] at hu; subst hu; cases rb; rw [teq]; exact ⟨.none_none, .none_none, .same _⟩
      | bl b => rw [TrAt] at hu; subst hu; cases rb; simp only [teq]; exact ⟨.none_bool _, .none_bool _, .none_bool _⟩
      | int b => rw [TrAt] at hu; subst hu; obtain ⟨_, rfl⟩ := rb; simp only [teq]; exact ⟨.none_int _ _, .none_int _ _, .none_int _ _⟩
      | str b => rw [TrAt] at hu; subst hu; obtain ⟨_, rfl⟩ := rb; simp only [teq]; exact ⟨.none_str _ _, .none_str _ _, .none_str _ _⟩
      | lst us => rw [TrAt] at hu; obtain ⟨p, ys, rfl, q, _⟩ := hu; cases rb; obtain ⟨_, _, pl, _⟩ := I.list q; simp only [teq]; exact ⟨.none_list pl.isList hA', .none_list pl.isList hA', .none_list pl.isList hA'⟩
      | tup us => rw [TrAt] at hu; obtain ⟨p, ys, rfl, q, _⟩ := hu; cases rb; obtain ⟨_, _, pl, _⟩ := I.tuple q; simp only [teq]; exact ⟨.none_tuple pl hA', .none_tuple pl hA', .none_tuple pl hA'⟩
    | bl c =>
      rw [TrAt] at ht; subst ht; cases ra
      cases u with
      | non => rw [TrAt] at hu; subst hu; cases rb; simp only [teq]; exact ⟨.bool_none _, .bool_none _, .bool_none _⟩
      | bl b => rw [TrAt] at hu; subst hu; cases rb; rw [teq]; exact ⟨.bool_bool _ _, .bool_bool _ _, .bool_bool _ _⟩
      | int b => rw [TrAt] at hu; subst hu; obtain ⟨_, rfl⟩ := rb; rw [teq]; exact ⟨.bool_int _ _ _, .bool_int _ _ _, .bool_int _ _ _⟩
      | str b => rw [TrAt] at hu; subst hu; obtain ⟨_, rfl⟩ := rb; simp only [teq]; exact ⟨.bool_str _ _ _, .bool_str _ _ _, .bool_str _ _ _⟩
      | lst us => rw [TrAt] at hu; obtain ⟨p, ys, rfl, q, _⟩ := hu; cases rb; obtain ⟨_, _, pl, _⟩ := I.list q; simp only [teq]; exact ⟨.bool_list _ pl.isList hA', .bool_list _ pl.isList hA', .bool_list _ pl.isList hA'⟩
      | tup us => rw [TrAt] at hu; obtain ⟨p, ys, rfl, q, _⟩ := hu; cases rb; obtain ⟨_, _, pl, _⟩ := I.tuple q; simp only [teq]; exact ⟨.bool_tuple _ pl hA', .bool_tuple _ pl hA', .bool_tuple _ pl hA'⟩
    | int c =>
      rw [TrAt] at ht; subst ht; obtain ⟨_, rfl⟩ := ra
      cases u with
      | non => rw [TrAt] at hu; subst hu; cases rb; simp only [teq]; exact ⟨.int_none _ _, .int_none _ _, .int_none _ _⟩
      | bl b => rw [TrAt] at hu; subst hu; cases rb; rw [teq]; exact ⟨.int_bool _ _ _, .int_bool _ _ _, .int_bool _ _ _⟩
      | int b => rw [TrAt] at hu; subst hu; obtain ⟨_, rfl⟩ := rb; rw [teq]; exact ⟨.int_int _ _ _ _, .int_int _ _ _ _, .int_int _ _ _ _⟩
      | str b => rw [TrAt] at hu; subst hu; obtain ⟨_, rfl⟩ := rb; simp only [teq]; exact ⟨.int_str _ _ _ _, .int_str _ _ _ _, .int_str _ _ _ _⟩
      | lst us => rw [TrAt] at hu; obtain ⟨p, ys, rfl, q, _⟩ := hu; cases rb; obtain ⟨_, _, pl, _⟩ := I.list q; simp only [teq]; exact ⟨.int_list _ _ pl.isList hA', .int_list _ _ pl.isList hA', .int_list _ _ pl.isList hA'⟩
      | tup us => rw [TrAt] at hu; obtain ⟨p, ys, rfl, q, _⟩ := hu; cases rb; obtain ⟨_, _, pl, _⟩ := I.tuple q; simp only [teq]; exact ⟨.int_tuple _ _ pl hA', .int_tuple _ _ pl hA', .int_tuple _ _ pl hA'⟩
    | str c =>
      rw [TrAt] at ht; subst ht; obtain ⟨_, rfl⟩ := ra
      cases u with
      | non => rw [TrAt] at hu; subst hu; cases rb; simp only [teq]; exact ⟨.str_none _ _, .str_none _ _, .str_none _ _⟩
      | bl b => rw [TrAt] at hu; subst hu; cases rb; simp only [teq]; exact ⟨.str_bool _ _ _, .str_bool _ _ _, .str_bool _ _ _⟩
      | int b => rw [TrAt] at hu; subst hu; obtain ⟨_, rfl⟩ := rb; simp only [teq]; exact ⟨.str_int _ _ _ _, .str_int _ _ _ _, .str_int _ _ _ _⟩
      | str b => rw [TrAt] at hu; subst hu; obtain ⟨_, rfl⟩ := rb; rw [teq]; exact ⟨.str_str _ _ _ _, .str_str _ _ _ _, .str_str _ _ _ _⟩
      | lst us => rw [TrAt] at hu; obtain ⟨p, ys, rfl, q, _⟩ := hu; cases rb; obtain ⟨_, _, pl, _⟩ := I.list q; simp only [teq]; exact ⟨.str_list _ _ pl.isList hA', .str_list _ _ pl.isList hA', .str_list _ _ pl.isList hA'⟩
      | tup us => rw [TrAt] at hu; obtain ⟨p, ys, rfl, q, _⟩ := hu; cases rb; obtain ⟨_, _, pl, _⟩ := I.tuple q; simp only [teq]; exact ⟨.str_tuple _ _ pl hA', .str_tuple _ _ pl hA', .str_tuple _ _ pl hA'⟩
  | succ n ih =>
    intro t u v w a b A hd ht hu ra rb hA
    have hA' : A.units < cLine := by omega
    have items : ∀ {ts us : List Tr} {xs ys : List V} {its its2 : List Value}, tdeps ts ≤ n → TrsAt X.K H ts xs → TrsAt X.K H us ys → Vals xs its → Vals ys its2 →
        ∀ j (h1 : j < its.toArray.size) (h2 : j < its2.toArray.size), EqAt A.in1 s its.toArray[j] its2.toArray[j] (eAt ts us j) := by
      intro ts us xs ys its its2 hdn h1 h2 r1 r2 j hj1 hj2
      have l1 := h1.length
      have l2 := h2.length
      have m1 := r1.length
      have m2 := r2.length
      rw [List.size_toArray] at hj1 hj2
      obtain ⟨t, e⟩ : ∃ t, ts[j]? = some t := ⟨_, List.getElem?_eq_getElem (by omega)⟩
      obtain ⟨u, e'⟩ : ∃ u, us[j]? = some u := ⟨_, List.getElem?_eq_getElem (by omega)⟩
      obtain ⟨x, ex, hx⟩ := h1.get e
      obtain ⟨y, ey, hy⟩ := h2.get e'
      obtain ⟨vx, fx, rx⟩ := r1.get ex
      obtain ⟨vy, fy, ry⟩ := r2.get ey
      have g1 : its.toArray[j]'(by simpa using hj1) = vx := by
        have z : its[j] = vx := Option.some.inj ((List.getElem?_eq_getElem hj1).symm.trans fx)
        simpa using z
      have g2 : its2.toArray[j]'(by simpa using hj2) = vy := by
        have z : its2[j] = vy := Option.some.inj ((List.getElem?_eq_getElem hj2).symm.trans fy)
        simpa using z
      rw [g1, g2]
      have q := (ih (A := A.in1) (Nat.le_trans (tdep_mem (List.mem_of_getElem? e)) hdn) hx hy rx ry (by rw [units_in1]; omega)).eq
      unfold eAt
      rw [e, e']
      exact q
    by_cases hz : tdep t ≤ n
    · exact ih hz ht hu ra rb (by omega)
    cases t with
    | lst ts =>
      rw [TrAt] at ht; obtain ⟨p, xs, rfl, q, h1⟩ := ht; cases ra
      obtain ⟨its, r1, pl, _⟩ := I.list q
      cases u with
      | non => rw [TrAt] at hu; subst hu; cases rb; simp only [teq]; exact ⟨.list_none pl.isList hA', .list_none pl.isList hA', .list_none pl.isList hA'⟩
      | bl b => rw [TrAt] at hu; subst hu; cases rb; simp only [teq]; exact ⟨.list_bool _ pl.isList hA', .list_bool _ pl.isList hA', .list_bool _ pl.isList hA'⟩
      | int b => rw [TrAt] at hu; subst hu; obtain ⟨_, rfl⟩ := rb; simp only [teq]; exact ⟨.list_int _ _ pl.isList hA', .list_int _ _ pl.isList hA', .list_int _ _ pl.isList hA'⟩
      | str b => rw [TrAt] at hu; subst hu; obtain ⟨_, rfl⟩ := rb; simp only [teq]; exact ⟨.list_str _ _ pl.isList hA', .list_str _ _ pl.isList hA', .list_str _ _ pl.isList hA'⟩
      | tup us => rw [TrAt] at hu; obtain ⟨p', ys, rfl, q', _⟩ := hu; cases rb; obtain ⟨_, _, pl', _⟩ := I.tuple q'; simp only [teq]; exact ⟨.list_tuple pl.isList pl' hA', .list_tuple pl.isList pl' hA', .list_tuple pl.isList pl' hA'⟩
      | lst us =>
        have hu0 := hu
        rw [TrAt] at hu; obtain ⟨p', ys, rfl, q', h2⟩ := hu; cases rb
        obtain ⟨its2, r2, pl', _⟩ := I.list q'
        have l1 := h1.length
        have l2 := h2.length
        have m1 := r1.length
        have m2 := r2.length
        have hdn : tdeps ts ≤ n := by rw [tdep] at hd; omega
        have both : RcAt A s (.ref p) (.ref p') (teqs ts us) ∧ RcNeAt A s (.ref p) (.ref p') (!teqs ts us) := by
          by_cases hsz : ts.length = us.length
          · have hs : its.toArray.size = its2.toArray.size := by rw [List.size_toArray, List.size_toArray]; omega
            have it := items hdn h1 h2 r1 r2
            have e1 : (List.range its.toArray.size).all (eAt ts us) = teqs ts us := by
              rw [List.size_toArray, ← m1, ← l1]; exact all_eAt hsz
            have a1 := RcAt.lists pl.isList pl'.isList hs hA' it
            have a2 := RcNeAt.lists pl.isList pl'.isList hs hA' it
            rw [e1] at a1 a2
            exact ⟨a1, a2⟩
          · have hs : (its.toArray.size != its2.toArray.size) = true := by
              rw [List.size_toArray, List.size_toArray, bne_iff_ne]; omega
            rw [teqs_length hsz]
            exact ⟨.lists_lengths pl.isList pl'.isList hs hA', .lists_lengths pl.isList pl'.isList hs hA'⟩
        rw [teq]
        refine ⟨both.1, both.2, ?_⟩
        by_cases hpp : p = p'
        · subst hpp
          have e : Tr.lst ts = Tr.lst us := tr_inj I (n + 1) hd (show TrAt X.K H (.lst ts) (.ref p) by rw [TrAt]; exact ⟨p, xs, rfl, q, h1⟩) hu0
          cases e
          rw [teqs_refl]
          exact .same _
        · exact .of_refs hpp both.1
    | tup ts =>
      rw [TrAt] at ht; obtain ⟨p, xs, rfl, q, h1⟩ := ht; cases ra
      obtain ⟨its, r1, pl, _⟩ := I.tuple q
      cases u with
      | non => rw [TrAt] at hu; subst hu; cases rb; simp only [teq]; exact ⟨.tuple_none pl hA', .tuple_none pl hA', .tuple_none pl hA'⟩
      | bl b => rw [TrAt] at hu; subst hu; cases rb; simp only [teq]; exact ⟨.tuple_bool _ pl hA', .tuple_bool _ pl hA', .tuple_bool _ pl hA'⟩
      | int b => rw [TrAt] at hu; subst hu; obtain ⟨_, rfl⟩ := rb; simp only [teq]; exact ⟨.tuple_int _ _ pl hA', .tuple_int _ _ pl hA', .tuple_int _ _ pl hA'⟩
      | str b => rw [TrAt] at hu; subst hu; obtain ⟨_, rfl⟩ := rb; simp only [teq]; exact ⟨.tuple_str _ _ pl hA', .tuple_str _ _ pl hA', .tuple_str _ _ pl hA'⟩
      | lst us => rw [TrAt] at hu; obtain ⟨p', ys, rfl, q', _⟩ := hu; cases rb; obtain ⟨_, _, pl', _⟩ := I.list q'; simp only [teq]; exact ⟨.tuple_list pl pl'.isList hA', .tuple_list pl pl'.isList hA', .tuple_list pl pl'.isList hA'⟩
      | tup us =>
        have hu0 := hu
        rw [TrAt] at hu; obtain ⟨p', ys, rfl, q', h2⟩ := hu; cases rb
        obtain ⟨its2, r2, pl', _⟩ := I.tuple q'
        have l1 := h1.length
        have l2 := h2.length
        have m1 := r1.length
        have m2 := r2.length
        have hdn : tdeps ts ≤ n := by rw [tdep] at hd; omega
        have e1 : ((List.range (min its.toArray.size its2.toArray.size)).all (eAt ts us) && its.toArray.size == its2.toArray.size) = teqs ts us := by
          rw [List.size_toArray, List.size_toArray, ← m1, ← l1, ← m2, ← l2]
          by_cases hsz : ts.length = us.length
          · rw [← hsz, Nat.min_self, beq_self_eq_true, Bool.and_true]; exact all_eAt hsz
          · rw [teqs_length hsz, beq_eq_false_iff_ne.mpr hsz, Bool.and_false]
        have it := items hdn h1 h2 r1 r2
        have a1 := RcAt.tuples pl pl' hA' it
        have a2 := RcNeAt.tuples pl pl' hA' it
        rw [e1] at a1 a2
        rw [teq]
        refine ⟨a1, a2, ?_⟩
        by_cases hpp : p = p'
        · subst hpp
          have e : Tr.tup ts = Tr.tup us := tr_inj I (n + 1) hd (show TrAt X.K H (.tup ts) (.ref p) by rw [TrAt]; exact ⟨p, xs, rfl, q, h1⟩) hu0
          cases e
          rw [teqs_refl]
          exact .same _
        · exact .of_refs hpp a1
    | non => exact absurd (Nat.zero_le _) hz
    | bl b => exact absurd (Nat.zero_le _) hz
    | int b => exact absurd (Nat.zero_le _) hz
    | str b => exact absurd (Nat.zero_le _) hz
end
section
variable {X : Cx}
def rEqT (K : PySem.W.Frag) (neg : Bool) : R2 := fun x y H Q => ∃ t u, TrAt K H t x ∧ TrAt K H u y ∧ tdep t ≤ 8 ∧ Q (.bl (if neg then !teq t u else teq t u)) H
theorem op_eqT (hu : X.A.units + 64 < cLine) : OpR X (compareOp .Eq) (rEqT X.K false) := by
  intro pins s σ H x y v u Q I rx ry h
  obtain ⟨t, t', h1, h2, hd, q⟩ := h
  exact (tr_cmps I 8 hd h1 h2 rx ry (by omega)).rc _ _ _ _ ⟨.bl _, H, I, rfl, q⟩
open Classical in
def rInT (K : PySem.W.Frag) (neg : Bool) : R2 := fun x y H Q => ∃ p xs ts u, y = .ref p ∧ SqL K H p xs ∧ TrsAt K H ts xs ∧ TrAt K H u x ∧ tdeps ts ≤ 8 ∧ Q (.bl (if neg then !(ts.any fun t => teq t u) else ts.any fun t => teq t u)) H
open Classical in
theorem in_any {pins : List (Addr × Obj)} {σ : St} {H : Hp} {s : Shared} (I : Inv X pins σ H s) {u : Tr} : ∀ {ts : List Tr} {xs : List V} {its : List Value}, tdeps ts ≤ 8 → TrsAt X.K H ts xs → Vals xs its →
    its.any (fun y => decide (∃ t x, RelV x y ∧ TrAt X.K H t x ∧ teq t u = true)) = ts.any fun t => teq t u
  | [], xs, its, _, h, r => by rw [TrsAt] at h; subst h; cases r; rfl
  | t :: ts, xs, its, hd, h, r => by
    rw [TrsAt] at h
    obtain ⟨y, ys, rfl, hy, h⟩ := h
    cases r with
    | cons r1 r2 =>
      rw [tdeps] at hd
      rw [List.any_cons, List.any_cons, in_any I (by omega) h r2]
      congr 1
      rw [Bool.eq_iff_iff, decide_eq_true_iff]
      constructor
      · rintro ⟨t', x', r', h', e⟩
        rw [r1.inj r'] at hy
        rw [tr_inj I 8 (by omega) hy h']; exact e
      · intro e
        exact ⟨t, y, r1, hy, e⟩
open Classical in
theorem in_core {pins : List (Addr × Obj)} {σ : St} {H : Hp} {s : Shared} (I : Inv X pins σ H s) (hu : X.A.units + 64 < cLine) {u : Tr} {x : V} {v : Value} (hx : TrAt X.K H u x) (rx : RelV x v) {ts : List Tr} {xs : List V} {its : List Value} (hd : tdeps ts ≤ 8) (h : TrsAt X.K H ts xs) (r : Vals xs its) :
    ∀ y, y ∈ its.toArray → SeqAt.EqAt X.A.in1 s y v (decide (∃ t x, RelV x y ∧ TrAt X.K H t x ∧ teq t u = true)) := by
  intro y hy
  have hy' : y ∈ its := by simpa using hy
  obtain ⟨j, hj, e⟩ := List.getElem_of_mem hy'
  have l1 := h.length
  have m1 := r.length
  obtain ⟨t, et⟩ : ∃ t, ts[j]? = some t := ⟨_, List.getElem?_eq_getElem (by omega)⟩
  obtain ⟨z, ez, hz⟩ := h.get et
  obtain ⟨w, ew, rw'⟩ := r.get ez
  have e' : y = w := by
    rw [List.getElem?_eq_getElem hj] at ew
    exact e.symm.trans (Option.some.inj ew)
  subst e'
  have hd' : tdep t ≤ 8 := Nat.le_trans (tdep_mem (List.mem_of_getElem? et)) hd
  have q := (tr_cmps I 8 (A := X.A.in1) hd' hz hx rw' rx (by rw [units_in1]; omega)).eq
  have e2 : decide (∃ t x, RelV x y ∧ TrAt X.K H t x ∧ teq t u = true) = teq t u := by
    rw [Bool.eq_iff_iff, decide_eq_true_iff]
    constructor
    · rintro ⟨t', x', r', h', e3⟩
      rw [rw'.inj r'] at hz
      rw [tr_inj I 8 hd' hz h']; exact e3
    · intro e3
      exact ⟨t, z, rw', hz, e3⟩
  rw [e2]
  exact q
open Classical in
theorem op_inT (hu : X.A.units + 64 < cLine) : OpR X (compareOp .In) (rInT X.K false) := by
  intro pins s σ H x y v u Q I rx ry h
  obtain ⟨p, xs, ts, t, rfl, hq, hts, ht, hd, q⟩ := h
  cases ry
  obtain ⟨its, r, pl, hz⟩ := I.list hq
  refine SeqAt.in_listAt _ pl.isList (in_core I hu ht rx hd hts r) ⟨.bl _, H, I, rfl, ?_⟩
  simp only [List.any_toArray]
  rw [in_any I hd hts r]
  exact q
open Classical in
theorem op_notInT (hu : X.A.units + 64 < cLine) : OpR X (compareOp .NotIn) (rInT X.K true) := by
  intro pins s σ H x y v u Q I rx ry h
  obtain ⟨p, xs, ts, t, rfl, hq, hts, ht, hd, q⟩ := h
  cases ry
  obtain ⟨its, r, pl, hz⟩ := I.list hq
  refine SeqAt.notIn_listAt _ pl.isList (in_core I hu ht rx hd hts r) ⟨.bl _, H, I, rfl, ?_⟩
  simp only [List.any_toArray]
  rw [in_any I hd hts r]
  exact q
end
end L2
set_option Elab.async false
set_option linter.all false
set_option maxRecDepth 100000
namespace L2
open PySem PySem.Spec PyProof.Rows
theorem kit_ty {K : PySem.W.Frag} {T U : String} {b : Bool} (h1 : PySem.W.kitMeta U = true) (h2 : (fastBuiltinMro T).map (·.contains (Value.type U)) = some b) (hb : T = U → b = true) : PySem.W.kitOne K (.type T) (.type U) = some b := by
  unfold PySem.W.kitOne
  by_cases e : T = U
  · subst e
    rw [if_pos (by simp), hb rfl]
  · rw [if_neg (by simpa using e)]
    show (if PySem.W.kitMeta U = true then PySem.W.subIn K (.type T) (.type U) else none) = some b
    rw [if_pos h1]
    exact h2
section
variable {K : PySem.W.Frag}
end
section
variable {X : Cx}
def rIsi (K : PySem.W.Frag) : List V → Hp → VK → Prop := fun xs H Q => ∃ x T t b, xs = [x, .ty T] ∧ TyOf K H x t ∧ PySem.W.kitOne K t (.type T) = some b ∧ Q (.bl b) H
theorem call_isi : CallR X (.builtin "isinstance") (rIsi X.K) := by
  intro pins s σ H xs us Q I r h
  obtain ⟨x, T, t, b, rfl, ty, e, q⟩ := h
  obtain ⟨u, v, rfl, rx, rt⟩ := vals2 r
  cases rt
  exact isinst_ok I rx ty e fun tk => ⟨.bl b, H, I.tok tk, rfl, q⟩
def CDivB (i j : Int) : Prop := 0 < j ∧ j < 2 ^ 200
theorem op_fdivB : OpR X (binaryOp .FloorDiv) (rI CDivB fun i j => .int (i / j)) := opI fun i j _ _ _ _ _ hc q => by
  have h1 : (0 : Int) < j := hc.1
  have h2 : j < 2 ^ 200 := hc.2
  refine floordiv_int (by omega) (by rw [Int.fdiv_eq_ediv_of_nonneg i (by omega)]; exact q) (.inl (PyProof.noPylong_of_log2 ?_))
  have h3 : j.natAbs < 2 ^ 200 := by omega
  have h4 : j.natAbs.log2 < 200 := (Nat.log2_lt (by omega)).mpr h3
  omega
theorem truth_bools {P : Program} {w : World} {A : Around} {its : List Value} {bs : List Bool} (r : Vals (bs.map V.bl) its) : TruthOf P w A (fun i v => its.toArray[i]? = some v) (fun i => bs.getD i false) := by
  intro i v s Q E hP hQ
  have hl := r.length
  rw [List.length_map] at hl
  have e : its[i]? = some v := by simpa using hP
  have hi : i < its.length := (List.getElem?_eq_some_iff.mp e).1
  have e2 : (bs.map V.bl)[i]? = some (.bl (bs[i]'(by omega))) := by rw [List.getElem?_map, List.getElem?_eq_getElem (by omega)]; rfl
  obtain ⟨u, e3, r3⟩ := r.get e2
  rw [e] at e3
  cases e3
  cases r3
  have e4 : bs.getD i false = bs[i] := by rw [List.getD_eq_getElem?_getD, List.getElem?_eq_getElem (by omega)]; rfl
  exact wpAny_truthy_bool (e4 ▸ hQ)
theorem all_getD : ∀ bs : List Bool, (List.range bs.length).all (fun i => bs.getD i false) = bs.all id
  | [] => rfl
  | b :: bs => by
    rw [List.length_cons, List.range_succ_eq_map, List.all_cons, List.all_map, List.all_cons, ← all_getD bs]
    rfl
theorem any_getD : ∀ bs : List Bool, (List.range bs.length).any (fun i => bs.getD i false) = bs.any id
  | [] => rfl
  | b :: bs => by
    rw [List.length_cons, List.range_succ_eq_map, List.any_cons, List.any_map, List.any_cons, ← any_getD bs]
    rfl
def rAll (K : PySem.W.Frag) : List V → Hp → VK → Prop := fun xs H Q => ∃ (a : Addr) (bs : List Bool), xs = [.ref a] ∧ SqL K H a (bs.map V.bl) ∧ Q (.bl (bs.all id)) H
def rAny (K : PySem.W.Frag) : List V → Hp → VK → Prop := fun xs H Q => ∃ (a : Addr) (bs : List Bool), xs = [.ref a] ∧ SqL K H a (bs.map V.bl) ∧ Q (.bl (bs.any id)) H
theorem call_all (hc : X.calm = true) : CallR X (.builtin "all") (rAll X.K) := by
  intro pins s σ H xs us Q I r h
  obtain ⟨a, bs, rfl, hq, q⟩ := h
  obtain ⟨u, rfl, rx⟩ := vals1 r
  cases rx
  obtain ⟨its, rv, pl, hz⟩ := I.list hq
  have hl := rv.length
  rw [List.length_map] at hl
  obtain ⟨o, n, eo, _⟩ := id pl
  have hne : a ≠ s.heap.objs.size := Nat.ne_of_lt (Heap.lt_size eo)
  refine call_all_walk (wpAny_pyIter_list pl.isList ?_)
  refine ⟨_, _, _, _, _, _, _, rfl, Walks.list (A := X.A.in1) (show X.A.in1.handled = none from I.ok.hd hc) s.heap.objs.size a hne its.toArray, ⟨⟨_, Heap.get?_push_size _ rfl, rfl, rfl⟩, pl.isList.at fun o e => Heap.get?_push_of_some _ e⟩, truth_bools rv, fun h' tk hk => ?_⟩
  have I1 : Inv X pins σ H { s with heap := h', toks := tk } := I.kept fun b o e => hk b o (by have := Heap.lt_size e; simp; exact Nat.ne_of_lt this) (Heap.get?_push_of_some _ e)
  refine ⟨.bl _, H, I1, rfl, ?_⟩
  rw [List.size_toArray, ← hl, all_getD]
  exact q
theorem call_any (hc : X.calm = true) : CallR X (.builtin "any") (rAny X.K) := by
  intro pins s σ H xs us Q I r h
  obtain ⟨a, bs, rfl, hq, q⟩ := h
  obtain ⟨u, rfl, rx⟩ := vals1 r
  cases rx
  obtain ⟨its, rv, pl, hz⟩ := I.list hq
  have hl := rv.length
  rw [List.length_map] at hl
  obtain ⟨o, n, eo, _⟩ := id pl
  have hne : a ≠ s.heap.objs.size := Nat.ne_of_lt (Heap.lt_size eo)
  refine call_any_walk (wpAny_pyIter_list pl.isList ?_)
  refine ⟨_, _, _, _, _, _, _, rfl, Walks.list (A := X.A.in1) (show X.A.in1.handled = none from I.ok.hd hc) s.heap.objs.size a hne its.toArray, ⟨⟨_, Heap.get?_push_size _ rfl, rfl, rfl⟩, pl.isList.at fun o e => Heap.get?_push_of_some _ e⟩, truth_bools rv, fun h' tk hk => ?_⟩
  have I1 : Inv X pins σ H { s with heap := h', toks := tk } := I.kept fun b o e => hk b o (by have := Heap.lt_size e; simp; exact Nat.ne_of_lt this) (Heap.get?_push_of_some _ e)
  refine ⟨.bl _, H, I1, rfl, ?_⟩
  rw [List.size_toArray, ← hl, any_getD]
  exact q
def rRevS (K : PySem.W.Frag) (te : TE) : TE := fun σ H Q => te σ H fun x H1 => ∃ a xs, x = .ref a ∧ SqL K H1 a xs ∧ ∀ p, H1 p = none → Q (.ref p) (upd H1 p (.lst xs.reverse))
theorem pe_revSlice {e : Expr} {te : TE} {j : Nat} {p1 p2 p3 pos : Pos} (he : PE X e te) : PE X (.Subscript e (.Slice none none (some (.UnaryOp .USub (.Constant (.int 1) j p1) p2)) p3) pos) (rRevS X.K te) := by
  intro pins s σ H Q I h
  refine Subscript_ (thn (he pins s σ H _ I h) fun v s1 ⟨x, H1, I1, r1, q1⟩ => ?_)
  obtain ⟨a, xs, rfl, hx, q⟩ := q1
  cases r1
  refine wpAny_Slice ?_
  rw [evalPart_none]
  refine wpAny_pure (wpAny_pure ?_)
  rw [evalPart_some]
  refine thn (pe_un un_neg (pe_int (X := X)) pins s1 σ H1 (fun v H2 => v = .int (-1) ∧ H2 = H1) I1 ⟨1, rfl, rfl, rfl⟩) fun u s2 ⟨y, H2, I2, r2, e1, e2⟩ => ?_
  subst e1 e2
  obtain ⟨t, rfl⟩ := r2
  obtain ⟨its, r, ht, hz⟩ := I2.list hx
  have hlen := r.length
  have I3 : Inv X pins σ H2 { s2 with heap := s2.heap.push { cls := .type "slice", data := .fields #[.none, .none, .int (-1) t] } } := I2.kept (t' := s2.toks) fun b ob q => Heap.get?_push_of_some _ q
  obtain ⟨its', r', ht', hz'⟩ := I3.list hx
  have hlen' := r'.length
  show wpAny (model X.prog X.w) X.A (subscriptTail e (.Slice none none (some _) p3) (.ref a) (.ref s2.heap.objs.size)) (EP X pins σ Q) X.xe { s2 with heap := s2.heap.push { cls := .type "slice", data := .fields #[.none, .none, .int (-1) t] } }
  refine tail_any (ops := [.ref a, .ref s2.heap.objs.size]) ht'.isList.typeIs slot_list_getitem.lookup ?_ (by with_unfolding_all rfl)
  refine wpAny_getItem_list_slice ht'.isList (Heap.IsSliceOf.new ..) .none .none (.int (-1) t) (by simp) ?_ (by rw [List.size_toArray] <;> omega)
  rw [PySem.W.krv_pick]
  refine ⟨.ref _, _, I3.laid (t' := s2.toks) (o := .lst xs.reverse) (fun b ob q => Heap.get?_push_of_some _ q) (Nat.le_refl _) ?_, rfl, q _ (I3.hok.fresh (Nat.le_refl _))⟩
  exact ⟨by rw [List.length_reverse]; exact hz, _, 0, r'.reverse, Heap.get?_push_size _ rfl⟩
section
variable {prog : Program} {w : World} {A : Around} {E : Value → Shared → Prop} {s : Shared}
end
end
section
variable {X : Cx} (K : PySem.W.Frag)
theorem k_isi (e : X.K = K := by rfl) : CallR X (.builtin "isinstance") (rIsi K) := by subst e; exact call_isi
theorem k_len (e : X.K = K := by rfl) : CallR X (.builtin "len") (fun xs H Q => ∃ p ys, xs = [.ref p] ∧ (SqL K H p ys ∨ SqT K H p ys) ∧ Q (.int ys.length) H) := by subst e; exact call_len_seq
theorem k_ixL (e : X.K = K := by rfl) : IxR X (rIxL K) := by subst e; exact ix_list
theorem k_ixT (e : X.K = K := by rfl) : IxR X (rIxT K) := by subst e; exact ix_tup
theorem k_slL (e : X.K = K := by rfl) : SlR X (rSlL K) := by subst e; exact sl_list
theorem k_all (hc : X.calm = true) (e : X.K = K := by rfl) : CallR X (.builtin "all") (rAll K) := by subst e; exact call_all hc
theorem k_any (hc : X.calm = true) (e : X.K = K := by rfl) : CallR X (.builtin "any") (rAny K) := by subst e; exact call_any hc
theorem k_eqT (hu : X.A.units + 64 < cLine) (e : X.K = K := by rfl) : OpR X (compareOp .Eq) (rEqT K false) := by subst e; exact op_eqT hu
theorem k_inT (hu : X.A.units + 64 < cLine) (e : X.K = K := by rfl) : OpR X (compareOp .In) (rInT K false) := by subst e; exact op_inT hu
theorem k_notInT (hu : X.A.units + 64 < cLine) (e : X.K = K := by rfl) : OpR X (compareOp .NotIn) (rInT K true) := by subst e; exact op_notInT hu
theorem k_pi {tg l : Expr} {tl : TE} (hl : PE X l tl) (e : X.K = K := by rfl) : PI X tg l (iList K tl) := by subst e; exact pi_list hl
end
structure Df (K : PySem.W.Frag) (mg : Str → Option Value) (x : Str) (st : Stmt) (ps : List Str) (f : Addr) (fd : FuncData) : Prop where
  fn : Fun K x x st f fd
  b : Binds K fd ps []
  g : mg x = some (.ref f)
theorem pcall {X : Cx} {x : Str} {st : Stmt} {ps : List Str} {f : Addr} {fd : FuncData} {k : Nat} {sp : Sp} {e : Expr} {es : List Expr} {t : TA} {p pos : Pos} (D : Df X.K X.mg x st ps f fd) (G : FnOk X.prog X.w X.K X.mg X.base CX0 k f fd ps sp) (hr : Room k X.A) (ha : PA X (e :: es) t) (hg : Gl X x := by rfl)
    (hdb : (x == ("__debug__" : Str)) = false := by decide) (he : starEach (e :: es) X.env = (false, eval e X.env) :: starEach es X.env := by rfl) (hpl : (backTo pos (starEach es X.env)).any (·.1) = false := by rfl) : PE X (.Call (.Name x p) (e :: es) [] pos) (tCall sp [] E0 t) :=
  pe_call G hr hg D.g D.fn.kp D.b .nil pass0 ha hdb he hpl
theorem df_mk {K : PySem.W.Frag} {h : Heap} {mg : Str → Option Value} {x : Str} {st : Stmt} {ps : List Str} {f : Addr} {oc : Value} {od an : Option Addr} {osl : Array (Option Value)} {kV doc pm cdv ct : Value} (X : K.In h) (G : h.Ns mainGlobals mg)
    (a : PySem.W.nsIn K mainGlobals x = some (some (.ref f))) (l : K.lookup f = some ⟨oc, od, .func (PySem.W.fnOf x x (defArgs st) (defBody st) (defScope st) .none kV doc pm an cdv ct), osl⟩) (c : PySem.W.codeIn K cdv x = true) (k : PySem.W.keepIn K (.ref f) = true)
    (hb : ∀ (kV doc pm : Value) (an : Option Addr) (cdv ct : Value) (us : List Value), us.length = ps.length → bindArgs (PySem.W.fnOf x x (defArgs st) (defBody st) (defScope st) .none kV doc pm an cdv ct) ⟨us, []⟩ = pure (ps.zip us)) :
    Df K mg x st ps f (PySem.W.fnOf x x (defArgs st) (defBody st) (defScope st) .none kV doc pm an cdv ct) :=
  ⟨fun_mk l c k, (fun_mk (st := st) l c k).binds hb, PySem.W.mg_of X G a⟩
structure Blt (mg : Str → Option Value) : Prop where
  n_isinstance : mg "isinstance" = none
  n_int : mg "int" = none
  n_bool : mg "bool" = none
  n_list : mg "list" = none
  n_tuple : mg "tuple" = none
  n_reversed : mg "reversed" = none
  n_len : mg "len" = none
  n_max : mg "max" = none
  n_min : mg "min" = none
  n_range : mg "range" = none
  n_all : mg "all" = none
  n_any : mg "any" = none
  n_sorted : mg "sorted" = none
  n_enumerate : mg "enumerate" = none
  n_repr : mg "repr" = none
theorem HUof {A : Around} {k : Nat} (hr : Room k A) : A.units + 64 < cLine := hr.units
def aw (fp : List Addr) (H : Hp) : Hp := fun b => if b ∈ fp then none else H b
theorem aw_in {fp : List Addr} {H : Hp} {b : Addr} (h : b ∈ fp) : aw fp H b = none := by unfold aw; rw [if_pos h]
theorem aw_out {fp : List Addr} {H : Hp} {b : Addr} (h : b ∉ fp) : aw fp H b = H b := by unfold aw; rw [if_neg h]
theorem aw_same (fp : List Addr) (H : Hp) : Same (aw fp H) H := fun b o e => by
  by_cases h : b ∈ fp
  · rw [aw_in h] at e; cases e
  · rw [aw_out h] at e; exact e
theorem Same.aw {H H' : Hp} (h : Same H H') (fp : List Addr) : Same (aw fp H) (aw fp H') := fun b o e => by
  by_cases hb : b ∈ fp
  · rw [aw_in hb] at e; cases e
  · rw [aw_out hb] at e ⊢; exact h b o e
theorem same_upd {H : Hp} {p : Addr} {o : HO} (h : H p = none) : Same H (upd H p o) := fun b u e => by rw [upd_ne (ne_of_none e h)]; exact e
end L2
set_option Elab.async false
set_option linter.all false
set_option maxRecDepth 100000
namespace L2
open PySem PyProof.Rows
def unD : List (PyData × PyData) → List (Int × Int)
  | (.int k, .int v) :: r => (k, v) :: unD r
  | _ => []
def dD (ps : List (Int × Int)) : List (PyData × PyData) := ps.map fun p => (.int p.1, .int p.2)
def dV (ps : List (Int × Int)) : List (Key × V) := ps.map fun p => (.inl p.1, .int p.2)
theorem unD_dD : ∀ ps : List (Int × Int), unD (dD ps) = ps
  | [] => rfl
  | (k, v) :: r => by
    show (k, v) :: unD (dD r) = _
    rw [unD_dD r]
theorem dV_inj : ∀ {ps qs : List (Int × Int)}, dV ps = dV qs → ps = qs
  | [], [], _ => rfl
  | [], _ :: _, h => by cases h
  | _ :: _, [], h => by cases h
  | (k, v) :: r, (k', v') :: r', h => by
    have h' : ((Sum.inl k : Key), V.int v) :: dV r = (Sum.inl k', V.int v') :: dV r' := h
    injection h' with h1 h2
    injection h1 with h3 h4
    injection h3 with h3
    injection h4 with h4
    rw [h3, h4, dV_inj h2]
mutual
def ThAt (H : Hp) : PyData → V → Prop
  | .none, v => v = .non
  | .bool b, v => v = .bl b
  | .int i, v => v = .int i
  | .str x, v => v = .str x
  | .list xs, v => ∃ a ys, v = .ref a ∧ H a = some (.lst ys) ∧ ThsAt H xs ys
  | .tuple xs, v => ∃ a ys, v = .ref a ∧ H a = some (.tup ys) ∧ ThsAt H xs ys
  | .dict kvs, v => kvs = dD (unD kvs) ∧ ∃ a, v = .ref a ∧ H a = some (.dK (dV (unD kvs)))
def ThsAt (H : Hp) : List PyData → List V → Prop
  | [], ys => ys = []
  | d :: ds, ys => ∃ y zs, ys = y :: zs ∧ ThAt H d y ∧ ThsAt H ds zs
end
mutual
theorem ThAt.same {H H' : Hp} (m : Same H H') : ∀ {d : PyData} {v : V}, ThAt H d v → ThAt H' d v
  | .none, v, h => by rw [ThAt] at h ⊢; exact h
  | .bool b, v, h => by rw [ThAt] at h ⊢; exact h
  | .int i, v, h => by rw [ThAt] at h ⊢; exact h
  | .str x, v, h => by rw [ThAt] at h ⊢; exact h
  | .list xs, v, h => by
    rw [ThAt] at h ⊢
    obtain ⟨a, ys, h1, h2, h3⟩ := h
    exact ⟨a, ys, h1, m _ _ h2, ThsAt.same m h3⟩
  | .tuple xs, v, h => by
    rw [ThAt] at h ⊢
    obtain ⟨a, ys, h1, h2, h3⟩ := h
    exact ⟨a, ys, h1, m _ _ h2, ThsAt.same m h3⟩
  | .dict kvs, v, h => by
    rw [ThAt] at h ⊢
    obtain ⟨h0, a, h1, h2⟩ := h
    exact ⟨h0, a, h1, m _ _ h2⟩
theorem ThsAt.same {H H' : Hp} (m : Same H H') : ∀ {ds : List PyData} {ys : List V}, ThsAt H ds ys → ThsAt H' ds ys
  | [], ys, h => by rw [ThsAt] at h ⊢; exact h
  | d :: ds, ys, h => by
    rw [ThsAt] at h ⊢
    obtain ⟨y, zs, h1, h2, h3⟩ := h
    exact ⟨y, zs, h1, ThAt.same m h2, ThsAt.same m h3⟩
end
theorem ThsAt.len {H : Hp} : ∀ {ds : List PyData} {ys : List V}, ThsAt H ds ys → ys.length = ds.length
  | [], ys, h => by rw [ThsAt] at h; rw [h]; rfl
  | d :: ds, ys, h => by
    rw [ThsAt] at h
    obtain ⟨y, zs, h1, h2, h3⟩ := h
    rw [h1, List.length_cons, List.length_cons, ThsAt.len h3]
theorem ThsAt.get {H : Hp} : ∀ {ds : List PyData} {ys : List V} {k : Nat} {v : V}, ThsAt H ds ys → ys[k]? = some v → ∃ d, ds[k]? = some d ∧ ThAt H d v
  | [], ys, k, v, h, e => by rw [ThsAt] at h; rw [h] at e; simp at e
  | d :: ds, ys, k, v, h, e => by
    rw [ThsAt] at h
    obtain ⟨y, zs, h1, h2, h3⟩ := h
    rw [h1] at e
    cases k with
    | zero =>
      have e' : y = v := by simpa using e
      exact ⟨d, rfl, by rw [← e']; exact h2⟩
    | succ k => exact ThsAt.get (ds := ds) (k := k) h3 (by simpa using e)
theorem ThsAt.app {H : Hp} : ∀ {ds es : List PyData} {ys zs : List V}, ThsAt H ds ys → ThsAt H es zs → ThsAt H (ds ++ es) (ys ++ zs)
  | [], es, ys, zs, h, q => by rw [ThsAt] at h; rw [h]; exact q
  | d :: ds, es, ys, zs, h, q => by
    rw [ThsAt] at h
    obtain ⟨y, us, h1, h2, h3⟩ := h
    rw [h1, List.cons_append, List.cons_append, ThsAt]
    exact ⟨y, us ++ zs, rfl, h2, ThsAt.app h3 q⟩
def tyT : PyData → String
  | .none => "NoneType" | .bool _ => "bool" | .int _ => "int" | .str _ => "str" | .list _ => "list" | .tuple _ => "tuple" | .dict _ => "dict"
theorem ThAt.ty {K : PySem.W.Frag} {H : Hp} {d : PyData} {v : V} (h : ThAt H d v) : TyOf K H v (.type (tyT d)) := by
  cases d with
  | none => rw [ThAt] at h; rw [h]; exact .non
  | bool b => rw [ThAt] at h; rw [h]; exact .bl b
  | int i => rw [ThAt] at h; rw [h]; exact .int i
  | str x => rw [ThAt] at h; rw [h]; exact .str x
  | list xs => rw [ThAt] at h; obtain ⟨a, ys, rfl, h2, _⟩ := h; exact .lst h2
  | tuple xs => rw [ThAt] at h; obtain ⟨a, ys, rfl, h2, _⟩ := h; exact .tup h2
  | dict kvs => rw [ThAt] at h; obtain ⟨_, a, rfl, h2⟩ := h; exact .dK h2
def isS (T t : String) : Bool := t == T || (t == "bool" && T == "int")
def isT (T : String) (d : PyData) : Bool := isS T (tyT d)
section
variable {K : PySem.W.Frag}
theorem kit_ts {T t : String} (hT : T = "int" ∨ T = "bool" ∨ T = "list" ∨ T = "tuple" ∨ T = "str") (ht : t = "NoneType" ∨ t = "bool" ∨ t = "int" ∨ t = "str" ∨ t = "list" ∨ t = "tuple" ∨ t = "dict") : PySem.W.kitOne K (.type t) (.type T) = some (isS T t) := by
  rcases hT with rfl | rfl | rfl | rfl | rfl <;> rcases ht with rfl | rfl | rfl | rfl | rfl | rfl | rfl <;>
    first
    | exact kit_ty (by decide +kernel) (by decide +kernel) (fun _ => rfl)
    | exact kit_ty (by decide +kernel) (by decide +kernel) (fun e => absurd e (by decide))
theorem tyT_one (d : PyData) : tyT d = "NoneType" ∨ tyT d = "bool" ∨ tyT d = "int" ∨ tyT d = "str" ∨ tyT d = "list" ∨ tyT d = "tuple" ∨ tyT d = "dict" := by
  cases d <;> simp [tyT]
theorem kit_int (d : PyData) : PySem.W.kitOne K (.type (tyT d)) (.type "int") = some (isT "int" d) := kit_ts (by simp) (tyT_one d)
theorem kit_bool (d : PyData) : PySem.W.kitOne K (.type (tyT d)) (.type "bool") = some (isT "bool" d) := kit_ts (by simp) (tyT_one d)
theorem kit_list (d : PyData) : PySem.W.kitOne K (.type (tyT d)) (.type "list") = some (isT "list" d) := kit_ts (by simp) (tyT_one d)
theorem kit_tuple (d : PyData) : PySem.W.kitOne K (.type (tyT d)) (.type "tuple") = some (isT "tuple" d) := kit_ts (by simp) (tyT_one d)
end
end L2
set_option Elab.async false
set_option linter.all false
set_option maxRecDepth 100000
namespace L2
open PySem PyProof.Rows
section
variable {P : Program} {w : World} {H : Hp} {h : Heap}
theorem lst_obj {a : Addr} {ys : List V} (ok : HOk P w H h) (e : H a = some (.lst ys)) : ∃ (its : List Value) (n : Nat), Vals ys its ∧ h.get? a = some { cls := .type "list", data := .seq its.toArray n } := (ok a _ e).2
theorem tup_obj {a : Addr} {ys : List V} (ok : HOk P w H h) (e : H a = some (.tup ys)) : ∃ (its : List Value) (o : Obj) (n : Nat), Vals ys its ∧ h.get? a = some o ∧ o.cls = .type "tuple" ∧ o.data = .seq its.toArray n := by
  obtain ⟨_, its, r, o, h1, h2, n, h3⟩ := ok a _ e
  exact ⟨its, o, n, r, h1, h2, h3⟩
theorem ents_reads : ∀ {l : List DictEntry} {vs : List (Key × Value)} {ps : List (Int × Int)}, Pairs (mixKind P w) l vs → KV (dV ps) vs →
    ReadsAll h (l.map (·.key)) ((dD ps).map (·.1)) [] ∧ ReadsAll h (l.map (·.val)) ((dD ps).map (·.2)) []
  | _, _, [], pr, r => by
    cases r; cases pr
    exact ⟨.nil, .nil⟩
  | _, _, (k, v) :: ps, pr, r => by
    have r' : KV ((Sum.inl k, V.int v) :: dV ps) _ := r
    cases r' with
    | cons r1 r2 =>
      cases pr with
      | cons p1 p2 p3 =>
        obtain ⟨q1, q2⟩ := ents_reads p3 r2
        obtain ⟨e1, t1, e2⟩ := r1
        rw [← e1] at p1
        obtain ⟨t, e3⟩ := Value.isInt_shape (show Value.isInt k _ = true from p1)
        refine ⟨?_, ?_⟩
        · refine ReadsAll.cons (as := []) (bs := []) (d := .int k) ?_ q1
          show Reads h (DictEntry.key _) (.int k) []
          rw [e3]; exact .int _ _
        · refine ReadsAll.cons (as := []) (bs := []) (d := .int v) ?_ q2
          show Reads h (DictEntry.val _) (.int v) []
          rw [p2, e2]; exact .int _ _
theorem ents_shown {as : List Addr} {d : Nat} : ∀ {l : List DictEntry} {vs : List (Key × Value)} {ps : List (Int × Int)}, Pairs (mixKind P w) l vs → KV (dV ps) vs → PyData.showableKv (dD ps) = true →
    ReprEntriesK P w as h d l (PyData.shownKv (dD ps))
  | _, _, [], pr, r, _ => by
    cases r; cases pr
    show ReprEntriesK P w as h d [] (PyData.shownKv [])
    rw [PyData.shownKv]; exact .nil
  | _, _, (k, v) :: ps, pr, r, hs => by
    have r' : KV ((Sum.inl k, V.int v) :: dV ps) _ := r
    have hs' : PyData.showableKv ((.int k, .int v) :: dD ps) = true := hs
    rw [PyData.showableKv, PyData.showable, PyData.showable, Bool.and_eq_true, Bool.and_eq_true] at hs'
    cases r' with
    | cons r1 r2 =>
      cases pr with
      | cons p1 p2 p3 =>
        obtain ⟨e1, t1, e2⟩ := r1
        rw [← e1] at p1
        obtain ⟨t, e3⟩ := Value.isInt_shape (show Value.isInt k _ = true from p1)
        show ReprEntriesK P w as h d _ (PyData.shownKv ((.int k, .int v) :: dD ps))
        rw [PyData.shownKv, PyData.shown, PyData.shown]
        refine .cons ?_ ?_ (ents_shown p3 r2 hs'.2)
        · rw [e3]; exact .of_is (ReprIs.int t (of_decide_eq_true hs'.1.1)) _ _ _
        · rw [p2, e2]; exact .of_is (ReprIs.int t1 (of_decide_eq_true hs'.1.2)) _ _ _
theorem depth_dD : ∀ ps : List (Int × Int), PyData.depthKv (dD ps) = 0
  | [] => by show PyData.depthKv [] = 0; rw [PyData.depthKv]
  | (k, v) :: ps => by
    show PyData.depthKv ((.int k, .int v) :: dD ps) = 0
    rw [PyData.depthKv, PyData.depth, PyData.depth, depth_dD ps]; rfl
theorem dic_obj {a : Addr} {ps : List (Int × Int)} (ok : HOk P w H h) (e : H a = some (.dK (dV ps))) : (a == sysModules) = false ∧ ∃ (o : Obj) (es : Array DictEntry) (n : Nat) (vs : List (Key × Value)), h.get? a = some o ∧ o.cls = .type "dict" ∧ o.data = .dict es n ∧ Pairs (mixKind P w) es.toList vs ∧ KV (dV ps) vs := by
  obtain ⟨_, hs, vs, r, o, es, ep, e1, ex, ed, _, pr, _⟩ := ok a _ e
  exact ⟨hs, o, es, ep, vs, e1, ex.1, ed, pr, r⟩
mutual
theorem th_reads (ok : HOk P w H h) : ∀ {d : PyData} {v : V} {u : Value}, ThAt H d v → RelV v u → ∃ as, Reads h u d as
  | .none, v, u, t, r => by
    rw [ThAt] at t; subst t
    have e : u = Value.none := r
    subst e; exact ⟨_, .none⟩
  | .bool b, v, u, t, r => by
    rw [ThAt] at t; subst t
    have e : u = Value.bool b := r
    subst e; exact ⟨_, .bool b⟩
  | .int i, v, u, t, r => by
    rw [ThAt] at t; subst t
    obtain ⟨k, rfl⟩ : ∃ k, u = Value.int i k := r
    exact ⟨_, .int i k⟩
  | .str x, v, u, t, r => by
    rw [ThAt] at t; subst t
    obtain ⟨k, rfl⟩ : ∃ k, u = Value.str x k := r
    exact ⟨_, .str x k⟩
  | .list xs, v, u, t, r => by
    rw [ThAt] at t
    obtain ⟨a, ys, rfl, ha, hx⟩ := t
    have e : u = Value.ref a := r
    subst e
    obtain ⟨its, n, rv, ho⟩ := lst_obj ok ha
    obtain ⟨as, q⟩ := ths_reads ok hx rv
    exact ⟨_, .list ho rfl rfl q⟩
  | .tuple xs, v, u, t, r => by
    rw [ThAt] at t
    obtain ⟨a, ys, rfl, ha, hx⟩ := t
    have e : u = Value.ref a := r
    subst e
    obtain ⟨its, o, n, rv, h1, h2, h3⟩ := tup_obj ok ha
    obtain ⟨as, q⟩ := ths_reads ok hx rv
    exact ⟨_, .tuple h1 h2 h3 q⟩
  | .dict kvs, v, u, t, r => by
    rw [ThAt] at t
    obtain ⟨hk, a, rfl, ha⟩ := t
    generalize unD kvs = ps at hk ha
    subst hk
    have e : u = Value.ref a := r
    subst e
    obtain ⟨_, o, es, n, vs, h1, h2, h3, h4, h5⟩ := dic_obj ok ha
    obtain ⟨q1, q2⟩ := ents_reads (h := h) h4 h5
    exact ⟨_, .dict h1 h2 h3 q1 q2⟩
theorem ths_reads (ok : HOk P w H h) : ∀ {ds : List PyData} {ys : List V} {us : List Value}, ThsAt H ds ys → Vals ys us → ∃ as, ReadsAll h us ds as
  | [], ys, us, t, r => by
    rw [ThsAt] at t; subst t
    cases r
    exact ⟨_, .nil⟩
  | d :: ds, ys, us, t, r => by
    rw [ThsAt] at t
    obtain ⟨y, zs, rfl, h1, h2⟩ := t
    cases r with
    | cons r1 r2 =>
      obtain ⟨as, q⟩ := th_reads ok h1 r1
      obtain ⟨bs, q2⟩ := ths_reads ok h2 r2
      exact ⟨_, .cons q q2⟩
end
mutual
theorem th_shown (ok : HOk P w H h) : ∀ {d : PyData} {v : V} {u : Value}, ThAt H d v → RelV v u → d.showable = true → d.shown.length ≤ sizeLine → ∃ bs, ReadAtMost h d.depth bs ∧ ReprK P w bs h d.depth u d.shown
  | .none, v, u, t, r, _, _ => by
    rw [ThAt] at t; subst t
    have e : u = Value.none := r
    subst e
    exact ⟨[], by simp [ReadAtMost], by rw [PyData.shown]; exact .of_is ReprIs.none _ _ _⟩
  | .bool b, v, u, t, r, _, _ => by
    rw [ThAt] at t; subst t
    have e : u = Value.bool b := r
    subst e
    exact ⟨[], by simp [ReadAtMost], by rw [PyData.shown]; exact .of_is (ReprIs.bool b) _ _ _⟩
  | .int i, v, u, t, r, hs, _ => by
    rw [ThAt] at t; subst t
    obtain ⟨k, rfl⟩ : ∃ k, u = Value.int i k := r
    rw [PyData.showable] at hs
    exact ⟨[], by simp [ReadAtMost], by rw [PyData.shown]; exact .of_is (ReprIs.int k (of_decide_eq_true hs)) _ _ _⟩
  | .str x, v, u, t, r, _, hz => by
    rw [ThAt] at t; subst t
    obtain ⟨k, rfl⟩ : ∃ k, u = Value.str x k := r
    rw [PyData.shown] at hz
    exact ⟨[], by simp [ReadAtMost], by rw [PyData.shown]; exact .of_is (ReprIs.str x k hz) _ _ _⟩
  | .list xs, v, u, t, r, hs, hz => by
    obtain ⟨as, rd⟩ := th_reads ok t r
    rw [ThAt] at t
    obtain ⟨a, ys, rfl, ha, hx⟩ := t
    have e : u = Value.ref a := r
    subst e
    obtain ⟨its, n, rv, ho⟩ := lst_obj ok ha
    rw [PyData.showable] at hs
    rw [PyData.shown] at hz
    obtain ⟨bs, hb, hk⟩ := ths_shown ok hx rv hs fun s hsm => Nat.le_trans (listText_mem_le hsm) hz
    have dd : (PyData.list xs).depth = PyData.depthAll xs + 1 := by rw [PyData.depth]
    refine ⟨a :: bs, ReadAtMost.cons rd (by omega) hb, ?_⟩
    rw [dd, PyData.shown]
    cases its with
    | nil =>
      cases rv
      cases xs with
      | nil => rw [PyData.shownAll, listText_nil]; exact ReprK.listEmpty ho rfl rfl
      | cons _ _ => rw [ThsAt] at hx; obtain ⟨_, _, z, _⟩ := hx; cases z
    | cons x l => exact ReprK.list ho rfl rfl (not_mem_of_deeper rd (by omega) hb) (by rw [hk.length_eq]; simp) fun i y q => hk.item i y (by simpa using q)
  | .tuple xs, v, u, t, r, hs, hz => by
    obtain ⟨as, rd⟩ := th_reads ok t r
    rw [ThAt] at t
    obtain ⟨a, ys, rfl, ha, hx⟩ := t
    have e : u = Value.ref a := r
    subst e
    obtain ⟨its, o, n, rv, h1, h2, h3⟩ := tup_obj ok ha
    rw [PyData.showable] at hs
    rw [PyData.shown] at hz
    obtain ⟨bs, hb, hk⟩ := ths_shown ok hx rv hs fun s hsm => Nat.le_trans (tupleText_mem_le hsm) hz
    have dd : (PyData.tuple xs).depth = PyData.depthAll xs + 1 := by rw [PyData.depth]
    refine ⟨a :: bs, ReadAtMost.cons rd (by omega) hb, ?_⟩
    rw [dd, PyData.shown]
    exact ReprK.tuple h1 h2 h3 (not_mem_of_deeper rd (by omega) hb) hk
  | .dict kvs, v, u, t, r, hs, hz => by
    obtain ⟨as, rd⟩ := th_reads ok t r
    rw [ThAt] at t
    obtain ⟨hk, a, rfl, ha⟩ := t
    generalize unD kvs = ps at hk ha
    subst hk
    have e : u = Value.ref a := r
    subst e
    obtain ⟨sy, o, es, n, vs, h1, h2, h3, h4, h5⟩ := dic_obj ok ha
    have dd : (PyData.dict (dD ps)).depth = 0 + 1 := by rw [PyData.depth, depth_dD]
    rw [PyData.showable] at hs
    refine ⟨[a], ReadAtMost.cons (d := .dict (dD ps)) (n := 0) rd (Nat.zero_le _) (by simp [ReadAtMost]), ?_⟩
    rw [dd, PyData.shown]
    exact ReprK.dict h1 h2 h3 sy (by simp) (ents_shown h4 h5 hs)
theorem ths_shown (ok : HOk P w H h) : ∀ {ds : List PyData} {ys : List V} {us : List Value}, ThsAt H ds ys → Vals ys us → PyData.showableAll ds = true → (∀ s ∈ PyData.shownAll ds, s.length ≤ sizeLine) → ∃ bs, ReadAtMost h (PyData.depthAll ds) bs ∧ ReprAllK P w bs h (PyData.depthAll ds) us (PyData.shownAll ds)
  | [], ys, us, t, r, _, _ => by
    rw [ThsAt] at t; subst t
    cases r
    exact ⟨[], by simp [ReadAtMost], by rw [PyData.shownAll]; exact .nil⟩
  | d :: ds, ys, us, t, r, hs, hz => by
    rw [ThsAt] at t
    obtain ⟨y, zs, rfl, h1, h2⟩ := t
    rw [PyData.showableAll, Bool.and_eq_true] at hs
    rw [PyData.shownAll] at hz
    cases r with
    | cons r1 r2 =>
      obtain ⟨b1, q1, k1⟩ := th_shown ok h1 r1 hs.1 (hz _ (.head _))
      obtain ⟨b2, q2, k2⟩ := ths_shown ok h2 r2 hs.2 fun s hsm => hz s (.tail _ hsm)
      have dd : PyData.depthAll (d :: ds) = max d.depth (PyData.depthAll ds) := by rw [PyData.depthAll]
      refine ⟨b1 ++ b2, (q1.mono (by omega)).append (q2.mono (by omega)), ?_⟩
      rw [PyData.shownAll]
      exact .cons ((k1.more fun b hb => List.mem_append_left _ hb).level_le (by omega)) (k2.more_le (fun b hb => List.mem_append_right _ hb) (by omega))
end
end
def rReprT : List V → Hp → VK → Prop := fun xs H Q => ∃ v d, xs = [v] ∧ ThAt H d v ∧ d.showable = true ∧ d.shown.length ≤ sizeLine ∧ d.depth ≤ 40 ∧ Q (.str d.shown) H
theorem call_reprT {X : Cx} (hg : X.A.guards = some []) (hu : X.A.units + 64 < cLine) : CallR X (.builtin "repr") rReprT := by
  intro pins s σ H xs us Q I r hq
  obtain ⟨v, d, rfl, t, hs, hz, hd, q⟩ := hq
  obtain ⟨u, rfl, ru⟩ := vals1 r
  obtain ⟨as, rd⟩ := th_reads I.hok t ru
  cases d with
  | none =>
    rw [ThAt] at t; subst t
    have e : u = Value.none := ru
    subst e
    rw [PyData.shown] at q
    exact P.repr_of_none ⟨.str "None", H, I.tok _, ⟨_, rfl⟩, q⟩
  | bool b =>
    rw [ThAt] at t; subst t
    have e : u = Value.bool b := ru
    subst e
    rw [PyData.shown] at q
    exact P.repr_of_bool ⟨.str _, H, I.tok _, ⟨_, rfl⟩, q⟩
  | int i =>
    rw [ThAt] at t; subst t
    obtain ⟨k, rfl⟩ : ∃ k, u = Value.int i k := ru
    rw [PyData.shown] at q
    rw [PyData.showable] at hs
    exact P.repr_of_int (of_decide_eq_true hs) ⟨.str _, H, I.tok _, ⟨_, rfl⟩, q⟩
  | str x =>
    rw [ThAt] at t; subst t
    obtain ⟨k, rfl⟩ : ∃ k, u = Value.str x k := ru
    rw [PyData.shown] at q hz
    exact P.repr_of_str ⟨.str _, H, I.tok _, ⟨_, rfl⟩, q⟩ hz
  | list xs =>
    rw [ThAt] at t
    obtain ⟨a, ys, rfl, ha, hx⟩ := t
    have e : u = Value.ref a := ru
    subst e
    obtain ⟨its, n, rv, ho⟩ := lst_obj I.hok ha
    rw [PyData.showable] at hs
    rw [PyData.shown] at hz q
    obtain ⟨bs, hb, hk⟩ := ths_shown I.hok hx rv hs fun s hsm => Nat.le_trans (listText_mem_le hsm) hz
    have dd : (PyData.list xs).depth = PyData.depthAll xs + 1 := by rw [PyData.depth]
    refine call_repr_slot (by omega) ⟨_, ho, rfl⟩ PySem.F.slot_list_repr.toG ?_
    cases its with
    | nil =>
      cases rv
      cases xs with
      | nil =>
        rw [PyData.shownAll, listText_nil] at q
        exact call_list_repr_empty ⟨_, ho, rfl⟩ ho rfl ⟨_, _, rfl, .str "[]", H, I.tok _, ⟨_, rfl⟩, q⟩
      | cons _ _ => rw [ThsAt] at hx; obtain ⟨_, _, z, _⟩ := hx; cases z
    | cons x l =>
      exact call_list_reprK ho rfl rfl (not_mem_of_deeper rd (by omega) hb) (by rw [hk.length_eq]; simp) (fun i y q => hk.item i y (by simpa using q)) (A := X.A.in1) hg (fun b _ => Clear.nil b) (by show X.A.units + 1 + (PyData.depthAll xs + 1) < cLine; omega) (fun _ _ e => e) (fun h' u tk hk => ⟨_, _, rfl, .str _, H, I.kept hk, ⟨_, rfl⟩, q⟩) hz
  | tuple xs =>
    rw [ThAt] at t
    obtain ⟨a, ys, rfl, ha, hx⟩ := t
    have e : u = Value.ref a := ru
    subst e
    obtain ⟨its, o, n, rv, h1, h2, h3⟩ := tup_obj I.hok ha
    rw [PyData.showable] at hs
    rw [PyData.shown] at hz q
    obtain ⟨bs, hb, hk⟩ := ths_shown I.hok hx rv hs fun s hsm => Nat.le_trans (tupleText_mem_le hsm) hz
    have dd : (PyData.tuple xs).depth = PyData.depthAll xs + 1 := by rw [PyData.depth]
    exact call_repr_slot (by omega) ⟨_, h1, h2⟩ PySem.F.slot_tuple_repr (call_tuple_reprK h1 h2 h3 (not_mem_of_deeper rd (by omega) hb) hk (A := X.A.in1) hg (fun b _ => Clear.nil b) (by show X.A.units + 1 + (PyData.depthAll xs + 1) < cLine; omega) (fun _ _ e => e) (fun h' u tk hk => ⟨_, _, rfl, .str _, H, I.kept hk, ⟨_, rfl⟩, q⟩) hz)
  | dict kvs =>
    rw [ThAt] at t
    obtain ⟨hk, a, rfl, ha⟩ := t
    generalize unD kvs = ps at hk ha
    subst hk
    have e : u = Value.ref a := ru
    subst e
    obtain ⟨sy, o, es, n, vs, h1, h2, h3, h4, h5⟩ := dic_obj I.hok ha
    rw [PyData.showable] at hs
    rw [PyData.shown] at q hz
    exact call_repr_slot (by omega) ⟨_, h1, h2⟩ PySem.F.slot_dict_repr (call_dict_reprK (as := []) (d := 0) h1 h2 h3 sy (by simp) (ents_shown h4 h5 hs) (A := X.A.in1) hg (fun b _ => Clear.nil b) (by show X.A.units + 1 + (0 + 1) < cLine; omega) (fun _ _ e => e) (fun h' u tk hk => ⟨_, _, rfl, .str _, H, I.kept hk, ⟨_, rfl⟩, q⟩) hz)
end L2
set_option Elab.async false
set_option linter.all false
set_option maxRecDepth 100000
namespace HT
open PySem PyProof.Rows
section
open PySem.SeqAt
open PySem.AutoSeq1 (wpAny_loadPart')
open PySem.MeetsSeq PySem.MeetsSeq2 PySem.MeetsSeq3 PySem.SeqRoads2
theorem ints_at {vs : List Value} {ns : List Int} (h : IntsAre vs ns) {i : Nat} (hi : i < ns.length) : ∃ t, vs[i]? = some (.int (ns[i]) t) := by
  induction h generalizing i with
  | nil => simp at hi
  | cons a t h ih =>
    cases i with
    | zero => exact ⟨t, rfl⟩
    | succ i =>
      obtain ⟨t', e⟩ := ih (i := i) (by simpa using hi)
      exact ⟨t', by simpa using e⟩
theorem lt_loop (l b : Addr) (items items2 : Array Value) (n n2 : Nat) (dd dd2 : Option Addr) (sl sl2 : Array (Option Value)) (ns ms : List Int) (hi : IntsAre items.toList ns) (hj : IntsAre items2.toList ms) (k : Nat) :
    ∀ i : Nat, ns.length - i = k → i ≤ ns.length → i ≤ ms.length → Meets (Builtin.«list.__eq__.loop» ⟨[.ref l, .ref b, rawInt i, rawInt 0], []⟩)
      (fun _ R s => s.heap.get? l = some { cls := .type "list", dict := dd, data := .seq items n, slots := sl } ∧ s.heap.get? b = some { cls := .type "list", dict := dd2, data := .seq items2 n2, slots := sl2 } ∧
        R (.ok (.ret (.bool (lexLt (ns.drop i) (ms.drop i))))) s) := by
  have z1 : items.size = ns.length := by rw [← hi.length]; simp
  have z2 : items2.size = ms.length := by rw [← hj.length]; simp
  induction k with
  | zero =>
    intro i hk h1 h2 prog w A R s h
    obtain ⟨hp, g, d, tk, os⟩ := s; obtain ⟨hl, hb, h⟩ := h
    have hin : i = ns.length := by omega
    wp_walk using wpAny_loadPart' hl, wpAny_loadPart' hb
    have hi1 : items[((i : Nat) : Int).toNat]? = none := by simp; omega
    have hd : ns.drop i = [] := by simp; omega
    rw [hd] at h
    rw [hi1]
    wp_walk using wpAny_loadPart' hl, wpAny_loadPart' hb
    show R (.ok (.ret (.bool (decide (items.size < items2.size))))) _
    have e : lexLt [] (ms.drop i) = decide (items.size < items2.size) := by
      cases q : ms.drop i with
      | nil =>
        rw [lexLt_nil_nil]
        have : ms.length ≤ i := by simpa using List.drop_eq_nil_iff.mp q
        exact (decide_eq_false (by omega)).symm
      | cons x y =>
        rw [lexLt_nil_cons]
        have : i < ms.length := by
          by_cases z : i < ms.length
          · exact z
          · rw [List.drop_of_length_le (by omega)] at q; cases q
        exact (decide_eq_true (by omega)).symm
    rw [← e]
    exact h
  | succ k ih =>
    intro i hk h1 h2 prog w A R s h
    obtain ⟨hp, g, d, tk, os⟩ := s; obtain ⟨hl, hb, h⟩ := h
    have hlt : i < ns.length := by omega
    obtain ⟨t, et⟩ := ints_at hi hlt
    have hi1 : items[((i : Nat) : Int).toNat]? = some (.int (ns[i]) t) := by simpa using et
    by_cases hm : i < ms.length
    · obtain ⟨u, eu⟩ := ints_at hj hm
      have hi2 : items2[((i : Nat) : Int).toNat]? = some (.int (ms[i]) u) := by simpa using eu
      wp_walk using wpAny_loadPart' hl, wpAny_loadPart' hb
      rw [List.drop_eq_getElem_cons hlt, List.drop_eq_getElem_cons hm, lexLt_cons] at h
      have hc : ((i : Int) + 1) = ((i + 1 : Nat) : Int) := by push_cast; rfl
      rw [hi1, hi2]
      obtain ⟨e, he, hiff⟩ := eqAt_int A.in1 ⟨hp, g, d, tk, os⟩ (ns[i]) t (ms[i]) u
      refine wpAny_bind (he prog w _ _ ?_)
      cases e with
      | true =>
        rw [if_pos (hiff.mp rfl)] at h
        wp_walk
        rw [hc]
        exact ⟨plainId_quiet plain_eq_loop _, codeAny_builtin entry_eq_loop (by
          rw [Around.under_plainId plain_eq_loop _]
          exact ih (i + 1) (by omega) (by omega) (by omega) prog w A R _ ⟨hl, hb, h⟩)⟩
      | false =>
        rw [if_neg (fun q => absurd (hiff.mpr q) Bool.false_ne_true)] at h
        have hri := rcLt_int A.in1 ⟨hp, g, d, tk, os⟩ (ns[i]) t (ms[i]) u prog w
        wp_walk using wpAny_loadPart' hl, wpAny_loadPart' hb
        rw [hi1, hi2]
        wp_walk using hri
        simpa using h
    · have hi2 : items2[((i : Nat) : Int).toNat]? = none := by simp; omega
      wp_walk using wpAny_loadPart' hl, wpAny_loadPart' hb
      rw [List.drop_eq_getElem_cons hlt, List.drop_of_length_le (show ms.length ≤ i by omega), lexLt_cons_nil] at h
      rw [hi1, hi2]
      wp_walk using wpAny_loadPart' hl, wpAny_loadPart' hb
      show R (.ok (.ret (.bool (decide (items.size < items2.size))))) _
      rw [decide_eq_false (by omega)]
      exact h
theorem list_lt_ints (l b : Addr) (items items2 : Array Value) (n n2 : Nat) (dd dd2 : Option Addr) (sl sl2 : Array (Option Value)) (ns ms : List Int) (hi : IntsAre items.toList ns) (hj : IntsAre items2.toList ms) :
    Meets (Builtin.«list.__lt__» ⟨[.ref l, .ref b], []⟩)
      (fun _ R s => s.heap.get? l = some { cls := .type "list", dict := dd, data := .seq items n, slots := sl } ∧ s.heap.get? b = some { cls := .type "list", dict := dd2, data := .seq items2 n2, slots := sl2 } ∧
        R (.ok (.ret (.bool (lexLt ns ms)))) s) := by
  intro prog w A R s h
  obtain ⟨hp, g, d, tk, os⟩ := s; obtain ⟨hl, hb, h⟩ := h
  have f3 := AutoSeq1.sub_list_list
  wp_walk using wpAny_loadPart' hl, wpAny_loadPart' hb
  exact ⟨plainId_quiet plain_eq_loop _, codeAny_builtin entry_eq_loop (by
    rw [Around.under_plainId plain_eq_loop _]
    exact lt_loop l b items items2 n n2 dd dd2 sl sl2 ns ms hi hj _ 0 rfl (Nat.zero_le _) (Nat.zero_le _) prog w A R _ ⟨hl, hb, by simpa using h⟩)⟩
end
section
variable {prog : Program} {w : World} {A : Around} {E : Value → Shared → Prop} {s : Shared}
theorem lt_listInts {l b : Addr} {items items2 : Array Value} {ns ms : List Int} {Q : Value → Shared → Prop} (hl : s.heap.IsList l items) (hb : s.heap.IsList b items2) (hi : IntsAre items.toList ns) (hj : IntsAre items2.toList ms)
    (hu : A.units < cLine) (h : Q (.bool (lexLt ns ms)) s) : wpAny (model prog w) A (richCompare .Lt (.ref l) (.ref b)) Q E s := by
  obtain ⟨⟨cls, dd, data, sl⟩, ho, hc, n, hd⟩ := id hl
  obtain ⟨⟨cls2, dd2, data2, sl2⟩, ho2, hc2, n2, hd2⟩ := id hb
  simp only at hc hd hc2 hd2
  subst hc hd hc2 hd2
  exact richCompare_meets_room (op := .Lt) ⟨_, ho, rfl⟩ ⟨_, ho2, rfl⟩ PySem.F.slot_list_lt PySem.F.entry_list_lt (PySem.F.args_list_lt_2 _ _) (list_lt_ints l b items items2 n n2 dd dd2 sl sl2 ns ms hi hj)
    ⟨ho, ho2, show Value.bool (lexLt ns ms) ≠ Value.notImplemented ∧ Q (.bool (lexLt ns ms)) s from ⟨(fun x => nomatch x), h⟩⟩ hu
end
end HT
namespace HT
open PySem PyProof.Rows PySem.W
def krun {α : Type} (c : Nat → Nat → Bool) : KasT α → α
  | .ret a => a
  | .ask i j k => krun c (k (c i j))
def kin {α : Type} (n : Nat) : KasT α → Bool
  | .ret _ => true
  | .ask i j k => decide (i < n) && decide (j < n) && kin n (k true) && kin n (k false)
theorem krun_wp {α : Type} {n : Nat} {c : Nat → Nat → Bool} {cmp : Nat → Nat → (Bool → Shared → Prop) → Shared → Prop} {s : Shared} {Q : α → Shared → Prop} (hc : ∀ i j C, i < n → j < n → C (c i j) s → cmp i j C s) :
    ∀ t : KasT α, kin n t = true → Q (krun c t) s → t.kasWp cmp Q s
  | .ret a, _, q => q
  | .ask i j k, h, q => by
    unfold kin at h
    simp only [Bool.and_eq_true, decide_eq_true_eq] at h
    refine hc i j _ h.1.1.1 h.1.1.2 ?_
    have q' : Q (krun c (k (c i j))) s := q
    cases e : c i j with
    | true => rw [e] at q'; exact krun_wp hc (k true) h.1.2 q'
    | false => rw [e] at q'; exact krun_wp hc (k false) h.2 q'
theorem krun_congr {α : Type} {n : Nat} {c d : Nat → Nat → Bool} (h : ∀ i j, i < n → j < n → c i j = d i j) : ∀ t : KasT α, kin n t = true → krun c t = krun d t
  | .ret a, _ => rfl
  | .ask i j k, hk => by
    unfold kin at hk
    simp only [Bool.and_eq_true, decide_eq_true_eq] at hk
    unfold krun
    rw [h i j hk.1.1.1 hk.1.1.2]
    cases d i j with
    | true => exact krun_congr h (k true) hk.1.2
    | false => exact krun_congr h (k false) hk.2
def tab (b : Nat → Nat → Bool) (i j : Nat) : Bool := if i < j then b i j else if j < i then !b j i else false
def okOut (n : Nat) (c : Nat → Nat → Bool) (p : List Nat) : Bool := p.isPerm (List.range n) && (List.range n).all fun i => (List.range n).all fun j => !decide (i < j) || c (p.getD i 0) (p.getD j 0)
def tr3 (n : Nat) (c : Nat → Nat → Bool) : Bool := (List.range n).all fun i => (List.range n).all fun j => (List.range n).all fun k => !c i j || !c j k || c i k
def half (b01 b02 b03 b12 b13 b23 : Bool) (i j : Nat) : Bool := match i, j with
  | 0, 1 => b01 | 0, 2 => b02 | 0, 3 => b03 | 1, 2 => b12 | 1, 3 => b13 | 2, 3 => b23 | _, _ => false
theorem kin2 : kin 2 (kas_sort 2) = true := by decide +kernel
theorem kin3 : kin 3 (kas_sort 3) = true := by decide +kernel
theorem kin4 : kin 4 (kas_sort 4) = true := by decide +kernel
theorem sort2 : ∀ b01 : Bool, okOut 2 (tab (half b01 true true true true true)) (krun (tab (half b01 true true true true true)) (kas_sort 2)).toList = true := by decide +kernel
theorem sort3 : ∀ b01 b02 b12 : Bool, tr3 3 (tab (half b01 b02 true b12 true true)) = true → okOut 3 (tab (half b01 b02 true b12 true true)) (krun (tab (half b01 b02 true b12 true true)) (kas_sort 3)).toList = true := by decide +kernel
theorem sort4 : ∀ b01 b02 b03 b12 b13 b23 : Bool, tr3 4 (tab (half b01 b02 b03 b12 b13 b23)) = true → okOut 4 (tab (half b01 b02 b03 b12 b13 b23)) (krun (tab (half b01 b02 b03 b12 b13 b23)) (kas_sort 4)).toList = true := by decide +kernel
theorem lexLt_irrefl : ∀ a : List Int, lexLt a a = false
  | [] => rfl
  | x :: a => by rw [lexLt_cons, if_pos rfl, lexLt_irrefl a]
theorem lexLt_flip : ∀ a b : List Int, a ≠ b → lexLt b a = !lexLt a b
  | [], [], h => absurd rfl h
  | [], _ :: _, _ => rfl
  | _ :: _, [], _ => rfl
  | x :: a, y :: b, h => by
    rw [lexLt_cons, lexLt_cons]
    by_cases e : x = y
    · subst e
      rw [if_pos rfl, if_pos rfl]
      exact lexLt_flip a b fun z => h (by rw [z])
    · rw [if_neg e, if_neg (Ne.symm e), Bool.eq_iff_iff]
      simp
      omega
theorem lexLt_trans : ∀ a b c : List Int, lexLt a b = true → lexLt b c = true → lexLt a c = true
  | [], [], _, h, _ => by rw [lexLt_nil_nil] at h; cases h
  | [], _ :: _, [], _, h => by rw [lexLt_cons_nil] at h; cases h
  | [], _ :: _, _ :: _, _, _ => rfl
  | _ :: _, [], _, h, _ => by rw [lexLt_cons_nil] at h; cases h
  | _ :: _, _ :: _, [], _, h => by rw [lexLt_cons_nil] at h; cases h
  | x :: a, y :: b, z :: c, h1, h2 => by
    rw [lexLt_cons] at h1 h2 ⊢
    by_cases e1 : x = y
    · subst e1
      rw [if_pos rfl] at h1
      by_cases e2 : x = z
      · subst e2
        rw [if_pos rfl] at h2 ⊢
        exact lexLt_trans a b c h1 h2
      · rw [if_neg e2] at h2 ⊢; exact h2
    · rw [if_neg e1] at h1
      have h1' := of_decide_eq_true h1
      by_cases e2 : y = z
      · subst e2
        rw [if_neg e1]; exact h1
      · rw [if_neg e2] at h2
        have h2' := of_decide_eq_true h2
        rw [if_neg (show x ≠ z by omega)]
        exact decide_eq_true (by omega)
theorem half_eq {n : Nat} (hn : n ≤ 4) {c : Nat → Nat → Bool} {b01 b02 b03 b12 b13 b23 : Bool} (h01 : 1 < n → b01 = c 0 1) (h02 : 2 < n → b02 = c 0 2) (h03 : 3 < n → b03 = c 0 3) (h12 : 2 < n → b12 = c 1 2) (h13 : 3 < n → b13 = c 1 3) (h23 : 3 < n → b23 = c 2 3) :
    ∀ i j, i < j → j < n → half b01 b02 b03 b12 b13 b23 i j = c i j := by
  intro i j h1 h2
  have hh : (i = 0 ∧ j = 1) ∨ (i = 0 ∧ j = 2) ∨ (i = 0 ∧ j = 3) ∨ (i = 1 ∧ j = 2) ∨ (i = 1 ∧ j = 3) ∨ (i = 2 ∧ j = 3) := by omega
  rcases hh with ⟨rfl, rfl⟩ | ⟨rfl, rfl⟩ | ⟨rfl, rfl⟩ | ⟨rfl, rfl⟩ | ⟨rfl, rfl⟩ | ⟨rfl, rfl⟩
  · exact h01 h2
  · exact h02 h2
  · exact h03 h2
  · exact h12 h2
  · exact h13 h2
  · exact h23 h2
theorem sort_ok {ls : List (List Int)} (nd : ls.Nodup) (h2 : 2 ≤ ls.length) (h4 : ls.length ≤ 4) :
    kin ls.length (kas_sort ls.length) = true ∧ okOut ls.length (fun i j => lexLt (ls.getD i []) (ls.getD j [])) (krun (fun i j => lexLt (ls.getD i []) (ls.getD j [])) (kas_sort ls.length)).toList = true := by
  generalize hc : (fun i j => lexLt (ls.getD i []) (ls.getD j [])) = c
  have cd : ∀ i j, c i j = lexLt (ls.getD i []) (ls.getD j []) := fun i j => by rw [← hc]
  have flip : ∀ i j, i < ls.length → j < ls.length → i ≠ j → c j i = !c i j := fun i j hi hj hij => by
    rw [cd, cd]
    refine lexLt_flip _ _ fun e => hij ?_
    have e1 : ls.getD i [] = ls[i] := by rw [List.getD_eq_getElem?_getD, List.getElem?_eq_getElem hi]; rfl
    have e2 : ls.getD j [] = ls[j] := by rw [List.getD_eq_getElem?_getD, List.getElem?_eq_getElem hj]; rfl
    rw [e1, e2] at e
    exact (List.getElem_inj nd).mp e
  have tabc : ∀ b : Nat → Nat → Bool, (∀ i j, i < j → j < ls.length → b i j = c i j) → ∀ i j, i < ls.length → j < ls.length → tab b i j = c i j := fun b hb i j hi hj => by
    unfold tab
    by_cases h : i < j
    · rw [if_pos h, hb i j h hj]
    · rw [if_neg h]
      by_cases h' : j < i
      · rw [if_pos h', hb j i h' hi, flip j i hj hi (by omega)]
      · rw [if_neg h']
        have : i = j := by omega
        subst this
        rw [cd, lexLt_irrefl]
  have outc : ∀ (b : Nat → Nat → Bool) (p : List Nat), (∀ i j, i < ls.length → j < ls.length → tab b i j = c i j) → okOut ls.length (tab b) p = true → okOut ls.length c p = true := fun b p hb h => by
    unfold okOut at h ⊢
    rw [Bool.and_eq_true] at h ⊢
    refine ⟨h.1, ?_⟩
    have pm := List.isPerm_iff.mp h.1
    have hl : p.length = ls.length := by rw [pm.length_eq, List.length_range]
    rw [List.all_eq_true] at h ⊢
    intro i hi
    have q := h.2 i hi
    rw [List.all_eq_true] at q ⊢
    intro j hj
    have q2 := q j hj
    have hi' := List.mem_range.mp hi
    have hj' := List.mem_range.mp hj
    have m : ∀ k, k < ls.length → p.getD k 0 < ls.length := fun k hk => by
      have e : p.getD k 0 = p[k]'(by omega) := by rw [List.getD_eq_getElem?_getD, List.getElem?_eq_getElem (by omega)]; rfl
      rw [e]
      exact List.mem_range.mp (pm.mem_iff.mp (List.getElem_mem _))
    rw [hb _ _ (m i hi') (m j hj')] at q2
    exact q2
  have trc : ∀ (b : Nat → Nat → Bool), (∀ i j, i < ls.length → j < ls.length → tab b i j = c i j) → tr3 ls.length (tab b) = true := fun b hb => by
    unfold tr3
    simp only [List.all_eq_true, List.mem_range]
    intro i hi j hj k hk
    rw [hb i j hi hj, hb j k hj hk, hb i k hi hk]
    cases e1 : c i j
    · rfl
    · cases e2 : c j k
      · rfl
      · rw [cd] at e1 e2
        rw [cd, lexLt_trans _ _ _ e1 e2]; rfl
  have hn : ls.length = 2 ∨ ls.length = 3 ∨ ls.length = 4 := by omega
  rcases hn with hn | hn | hn
  · rw [hn] at tabc outc trc ⊢
    have t := tabc (half (c 0 1) true true true true true) (half_eq (by decide) (fun _ => rfl) (fun z => by omega) (fun z => by omega) (fun z => by omega) (fun z => by omega) (fun z => by omega))
    refine ⟨kin2, ?_⟩
    rw [krun_congr (fun i j hi hj => (t i j hi hj).symm) _ kin2]
    exact outc _ _ t (sort2 _)
  · rw [hn] at tabc outc trc ⊢
    have t := tabc (half (c 0 1) (c 0 2) true (c 1 2) true true) (half_eq (by decide) (fun _ => rfl) (fun _ => rfl) (fun z => by omega) (fun _ => rfl) (fun z => by omega) (fun z => by omega))
    refine ⟨kin3, ?_⟩
    rw [krun_congr (fun i j hi hj => (t i j hi hj).symm) _ kin3]
    exact outc _ _ t (sort3 _ _ _ (trc _ t))
  · rw [hn] at tabc outc trc ⊢
    have t := tabc (half (c 0 1) (c 0 2) (c 0 3) (c 1 2) (c 1 3) (c 2 3)) (half_eq (by decide) (fun _ => rfl) (fun _ => rfl) (fun _ => rfl) (fun _ => rfl) (fun _ => rfl) (fun _ => rfl))
    refine ⟨kin4, ?_⟩
    rw [krun_congr (fun i j hi hj => (t i j hi hj).symm) _ kin4]
    exact outc _ _ t (sort4 _ _ _ _ _ _ (trc _ t))
end HT
namespace L2
open PySem PySem.Spec PyProof.Rows
section
variable {X : Cx}
def rLtL (K : PySem.W.Frag) : R2 := fun x y H Q => ∃ (a b : Addr) (ns ms : List Int), x = .ref a ∧ y = .ref b ∧ SqL K H a (ns.map V.int) ∧ SqL K H b (ms.map V.int) ∧ Q (.bl (HT.lexLt ns ms)) H
theorem k_ltL (K : PySem.W.Frag) (hu : X.A.units + 64 < cLine) (e : X.K = K := by rfl) : OpR X (compareOp .Lt) (rLtL K) := by
  subst e
  intro pins s σ H x y v u Q I rx ry h
  obtain ⟨a, b, ns, ms, rfl, rfl, ha, hb, q⟩ := h
  cases rx
  cases ry
  obtain ⟨its, r1, p1, _⟩ := I.list ha
  obtain ⟨its2, r2, p2, _⟩ := I.list hb
  exact HT.lt_listInts p1.isList p2.isList (intsAre_of r1) (intsAre_of r2) (by omega) ⟨.bl (HT.lexLt ns ms), H, I, rfl, q⟩
end
end L2
set_option Elab.async false
set_option linter.all false
set_option maxRecDepth 100000
namespace HT
open PySem PyProof.Rows PySem.W
def KW {α : Type} (c : Nat → Nat → Bool) (n : Nat) : KasT α → (α → Prop) → Prop
  | .ret a, Q => Q a
  | .ask i j k, Q => i < n ∧ j < n ∧ KW c n (k (c i j)) Q
theorem KW.bind {α β : Type} {c : Nat → Nat → Bool} {n : Nat} {f : α → KasT β} {Q : β → Prop} : ∀ {t : KasT α}, KW c n t (fun a => KW c n (f a) Q) → KW c n (t.bind f) Q
  | .ret _, h => h
  | .ask _ _ k, h => ⟨h.1, h.2.1, KW.bind (t := k _) h.2.2⟩
theorem KW.mono {α : Type} {c : Nat → Nat → Bool} {n : Nat} {Q Q' : α → Prop} (hq : ∀ a, Q a → Q' a) : ∀ {t : KasT α}, KW c n t Q → KW c n t Q'
  | .ret a, h => hq a h
  | .ask _ _ k, h => ⟨h.1, h.2.1, KW.mono hq (t := k _) h.2.2⟩
theorem KW.wp {α : Type} {n : Nat} {c : Nat → Nat → Bool} {cmp : Nat → Nat → (Bool → Shared → Prop) → Shared → Prop} {s : Shared} {Q : α → Prop} (hc : ∀ i j C, i < n → j < n → C (c i j) s → cmp i j C s) :
    ∀ t : KasT α, KW c n t Q → t.kasWp cmp (fun a s' => s' = s ∧ Q a) s
  | .ret _, h => ⟨rfl, h⟩
  | .ask i j k, h => hc i j _ h.1 h.2.1 (KW.wp hc (k (c i j)) h.2.2)
structure Ord (c : Nat → Nat → Bool) (n : Nat) : Prop where
  tr : ∀ i j k, i < n → j < n → k < n → c i j = true → c j k = true → c i k = true
  tot : ∀ i j, i < n → j < n → i ≠ j → c i j = false → c j i = true
  asy : ∀ i j, i < n → j < n → c i j = true → c j i = false
structure Pm (n : Nat) (p : Array Nat) : Prop where
  sz : p.size = n
  pm : p.toList.Perm (List.range n)
theorem Pm.lt {n : Nat} {p : Array Nat} (h : Pm n p) (i : Nat) (hi : i < n) : p.getD i 0 < n := by
  have hs := h.sz
  have e : p.getD i 0 = p[i] := by simp [Array.getD, hs, hi]
  rw [e]
  exact List.mem_range.mp (h.pm.mem_iff.mp (by simp))
theorem Pm.ne {n : Nat} {p : Array Nat} (h : Pm n p) {i j : Nat} (hi : i < n) (hj : j < n) (hij : i ≠ j) : p.getD i 0 ≠ p.getD j 0 := by
  have hs := h.sz
  have e1 : p.getD i 0 = p.toList[i]'(by simp [hs, hi]) := by simp [Array.getD, hs, hi]
  have e2 : p.getD j 0 = p.toList[j]'(by simp [hs, hj]) := by simp [Array.getD, hs, hj]
  rw [e1, e2]
  have nd : p.toList.Nodup := h.pm.nodup_iff.mpr List.nodup_range
  intro z
  exact hij ((List.getElem_inj nd).mp z)
theorem Pm.of {n : Nat} {p q : Array Nat} (h : Pm n p) (z : q.Perm p) : Pm n q := ⟨by rw [z.size_eq]; exact h.sz, (Array.perm_iff_toList_perm.mp z).trans h.pm⟩
def Up (c : Nat → Nat → Bool) (p : Array Nat) (m : Nat) : Prop := ∀ i j, i < j → j < m → c (p.getD i 0) (p.getD j 0) = true
def Dn (c : Nat → Nat → Bool) (p : Array Nat) (m : Nat) : Prop := ∀ i j, i < j → j < m → c (p.getD j 0) (p.getD i 0) = true
section
variable {c : Nat → Nat → Bool} {n : Nat}
theorem asc_ok (O : Ord c n) {p : Array Nat} (hp : Pm n p) : ∀ (f m : Nat), 1 ≤ m → m + f ≤ n → Up c p m → KW c n (kas_asc p f m) (fun r => m ≤ r ∧ r ≤ m + f ∧ Up c p r ∧ (r < m + f → c (p.getD r 0) (p.getD (r - 1) 0) = true))
  | 0, m, _, _, u => ⟨Nat.le_refl _, Nat.le_refl _, u, fun z => absurd z (Nat.lt_irrefl _)⟩
  | f + 1, m, h1, h2, u => by
    refine ⟨hp.lt m (by omega), hp.lt (m - 1) (by omega), ?_⟩
    cases e : c (p.getD m 0) (p.getD (m - 1) 0) with
    | true => exact ⟨Nat.le_refl _, by omega, u, fun _ => e⟩
    | false =>
      have hs : c (p.getD (m - 1) 0) (p.getD m 0) = true := O.tot _ _ (hp.lt m (by omega)) (hp.lt (m - 1) (by omega)) (hp.ne (by omega) (by omega) (by omega)) e
      have u' : Up c p (m + 1) := fun i j hij hj => by
        by_cases hjm : j < m
        · exact u i j hij hjm
        · have ej : j = m := by omega
          subst ej
          by_cases hi : i = j - 1
          · rw [hi]; exact hs
          · exact O.tr _ _ _ (hp.lt i (by omega)) (hp.lt (j - 1) (by omega)) (hp.lt j (by omega)) (u i (j - 1) (by omega) (by omega)) hs
      refine KW.mono (fun r h => ?_) (asc_ok O hp f (m + 1) (by omega) (by omega) u')
      exact ⟨by omega, by omega, h.2.2.1, fun z => h.2.2.2 (by omega)⟩
theorem desc_ok (O : Ord c n) {p : Array Nat} (hp : Pm n p) : ∀ (f m : Nat), 1 ≤ m → m + f ≤ n → Dn c p m → KW c n (kas_desc f p m 0) (fun r => r.1 = p ∧ r.2.2 = 0 ∧ m ≤ r.2.1 ∧ r.2.1 ≤ m + f ∧ Dn c p r.2.1)
  | 0, m, _, _, u => ⟨rfl, rfl, Nat.le_refl _, Nat.le_refl _, u⟩
  | f + 1, m, h1, h2, u => by
    refine ⟨hp.lt m (by omega), hp.lt (m - 1) (by omega), ?_⟩
    cases e : c (p.getD m 0) (p.getD (m - 1) 0) with
    | true =>
      have u' : Dn c p (m + 1) := fun i j hij hj => by
        by_cases hjm : j < m
        · exact u i j hij hjm
        · have ej : j = m := by omega
          subst ej
          by_cases hi : i = j - 1
          · rw [hi]; exact e
          · exact O.tr _ _ _ (hp.lt j (by omega)) (hp.lt (j - 1) (by omega)) (hp.lt i (by omega)) e (u i (j - 1) (by omega) (by omega))
      refine KW.mono (fun r h => ?_) (desc_ok O hp f (m + 1) (by omega) (by omega) u')
      exact ⟨h.1, h.2.1, by omega, by omega, h.2.2.2.2⟩
    | false =>
      have hs : c (p.getD (m - 1) 0) (p.getD m 0) = true := O.tot _ _ (hp.lt m (by omega)) (hp.lt (m - 1) (by omega)) (hp.ne (by omega) (by omega) (by omega)) e
      refine ⟨hp.lt (m - 1) (by omega), hp.lt m (by omega), ?_⟩
      rw [hs]
      exact ⟨rfl, rfl, Nat.le_refl _, (show m ≤ m + (f + 1) by omega), u⟩
theorem rev_getD {p : Array Nat} {m : Nat} (hm : m ≤ p.size) (k : Nat) : (kas_rev p 0 m).getD k 0 = if k < m then p.getD (m - 1 - k) 0 else p.getD k 0 := by
  have q := getElem?_mirror_all (xs := p) (i := 0) hm k
  have e : ∀ (a : Array Nat) (j : Nat), a.getD j 0 = (a[j]?).getD 0 := fun a j => by simp [Array.getD_eq_getD_getElem?]
  unfold kas_rev
  rw [e, q]
  by_cases h : k < m
  · rw [if_pos ⟨Nat.zero_le _, h⟩, if_pos h, e, Nat.zero_add]
  · rw [if_neg (by omega), if_neg h, e]
theorem tail3_ok (O : Ord c n) {p : Array Nat} (hp : Pm n p) {m : Nat} (h1 : 1 ≤ m) (h2 : m ≤ n) (u : Dn c p m) : KW c n (kas_tail3 m n p) (fun r => 1 ≤ r.1 ∧ r.1 ≤ n ∧ Pm n r.2 ∧ Up c r.2 r.1) := by
  have hr : Pm n (kas_rev p 0 m) := hp.of (mirror_perm _ _ _ _)
  have hsz : m ≤ p.size := by rw [hp.sz]; exact h2
  have u' : Up c (kas_rev p 0 m) m := fun i j hij hj => by
    rw [rev_getD hsz, rev_getD hsz, if_pos (by omega), if_pos hj]
    exact u _ _ (by omega) (by omega)
  refine KW.bind (KW.mono (fun r h => ?_) (asc_ok O hr (n - m) m h1 (by omega) u'))
  exact ⟨by omega, by omega, hr, h.2.2.1⟩
theorem count_ok (O : Ord c n) {p : Array Nat} (hp : Pm n p) (h2 : 2 ≤ n) : KW c n (kas_count n p) (fun r => 1 ≤ r.1 ∧ r.1 ≤ n ∧ Pm n r.2 ∧ Up c r.2 r.1) := by
  refine KW.bind (KW.mono (fun r h => ?_) (asc_ok O hp (n - 1) 1 (Nat.le_refl _) (by omega) (fun i j hij hj => by omega)))
  obtain ⟨h1, h3, u, st⟩ := h
  by_cases e : r = n
  · subst e
    rw [if_pos (by simp)]
    exact ⟨h1, Nat.le_refl _, hp, u⟩
  · rw [if_neg (by simpa using e)]
    by_cases hr : r > 1
    · rw [if_pos hr]
      refine ⟨hp.lt 0 (by omega), hp.lt (r - 1) (by omega), ?_⟩
      rw [u 0 (r - 1) (by omega) (by omega)]
      exact ⟨h1, by omega, hp, u⟩
    · rw [if_neg hr]
      have er : r = 1 := by omega
      subst er
      have s1 := st (by omega)
      have d : Dn c p 2 := fun i j hij hj => by
        have ei : i = 0 := by omega
        have ej : j = 1 := by omega
        subst ei; subst ej
        exact s1
      refine KW.bind (KW.mono (fun r h => ?_) (desc_ok O hp (n - 2) 2 (by omega) (by omega) d))
      obtain ⟨a1, a2, a3, a4, a5⟩ := h
      obtain ⟨q, m, z⟩ := r
      simp only at a1 a2 a3 a4 a5
      subst a1; subst a2
      show KW c n (if 0 > 0 then _ else _) _
      rw [if_neg (Nat.lt_irrefl 0)]
      exact tail3_ok O hp (show 1 ≤ m by omega) (show m ≤ n by omega) a5
theorem place_ok (O : Ord c n) {p : Array Nat} (hp : Pm n p) {k : Nat} (hk : k < n) (u : Up c p k) : ∀ (f l r : Nat), l ≤ r → r ≤ k → r - l ≤ f → (∀ i, i < l → c (p.getD i 0) (p.getD k 0) = true) → (∀ i, r ≤ i → i < k → c (p.getD k 0) (p.getD i 0) = true) →
    KW c n (kas_place p k f l r) (fun l => l ≤ k ∧ (∀ i, i < l → c (p.getD i 0) (p.getD k 0) = true) ∧ (∀ i, l ≤ i → i < k → c (p.getD k 0) (p.getD i 0) = true))
  | 0, l, r, h1, h2, h3, lo, hi => ⟨by omega, lo, fun i a b => hi i (by omega) b⟩
  | f + 1, l, r, h1, h2, h3, lo, hi => by
    unfold kas_place
    by_cases hlr : l ≥ r
    · rw [if_pos hlr]
      exact ⟨by omega, lo, fun i a b => hi i (by omega) b⟩
    · rw [if_neg hlr]
      have hm : (l + r) / 2 < k := by omega
      refine ⟨hp.lt k hk, hp.lt _ (by omega), ?_⟩
      cases e : c (p.getD k 0) (p.getD ((l + r) / 2) 0) with
      | true =>
        dsimp only
        rw [if_pos rfl]
        refine place_ok O hp hk u f l ((l + r) / 2) (by omega) (by omega) (by omega) lo fun i a b => ?_
        by_cases ei : i = (l + r) / 2
        · rw [ei]; exact e
        · exact O.tr _ _ _ (hp.lt k hk) (hp.lt _ (by omega)) (hp.lt i (by omega)) e (u _ _ (by omega) b)
      | false =>
        dsimp only
        rw [if_neg Bool.false_ne_true]
        have hs : c (p.getD ((l + r) / 2) 0) (p.getD k 0) = true := O.tot _ _ (hp.lt k hk) (hp.lt _ (by omega)) (hp.ne hk (by omega) (by omega)) e
        refine place_ok O hp hk u f ((l + r) / 2 + 1) r (by omega) h2 (by omega) (fun i a => ?_) hi
        by_cases ei : i = (l + r) / 2
        · rw [ei]; exact hs
        · exact O.tr _ _ _ (hp.lt i (by omega)) (hp.lt _ (by omega)) (hp.lt k hk) (u _ _ (by omega) (by omega)) hs
theorem bub_getD {p : Array Nat} {k l : Nat} (hk : k < p.size) (hl : l ≤ k) (i : Nat) : (bubble p k (k - l)).getD i 0 = if i = l then p.getD k 0 else if l < i ∧ i ≤ k then p.getD (i - 1) 0 else p.getD i 0 := by
  have q := getElem?_bubble hk (k - l) (by omega) i
  have e : ∀ (a : Array Nat) (j : Nat), a.getD j 0 = (a[j]?).getD 0 := fun a j => by simp [Array.getD_eq_getD_getElem?]
  rw [show k - (k - l) = l by omega] at q
  rw [e, e p k, e p (i - 1), e p i, q]
  split
  · rfl
  · split
    · rfl
    · rfl
theorem bin_ok (O : Ord c n) : ∀ (f : Nat) {p : Array Nat} {k : Nat}, Pm n p → 1 ≤ k → k + f = n → Up c p k → KW c n (kas_bin f p k) (fun q => Pm n q ∧ Up c q n)
  | 0, p, k, hp, h1, h2, u => by
    have : k = n := by omega
    subst this
    exact ⟨hp, u⟩
  | f + 1, p, k, hp, h1, h2, u => by
    refine KW.bind (KW.mono (fun l h => ?_) (place_ok O hp (show k < n by omega) u k 0 k (Nat.zero_le _) (Nat.le_refl _) (by omega) (fun i hi => by omega) (fun i a b => by omega)))
    obtain ⟨hlk, lo, hi⟩ := h
    have hks : k < p.size := by rw [hp.sz]; omega
    refine bin_ok O f (hp.of (bubble_perm _ _ _)) (by omega) (by omega) fun i j hij hj => ?_
    rw [bub_getD hks hlk, bub_getD hks hlk]
    by_cases hi1 : i = l
    · rw [if_pos hi1, if_neg (by omega), if_pos (by omega)]
      exact hi _ (by omega) (by omega)
    · rw [if_neg hi1]
      by_cases hi2 : l < i ∧ i ≤ k
      · rw [if_pos hi2, if_neg (by omega), if_pos (by omega)]
        exact u _ _ (by omega) (by omega)
      · rw [if_neg hi2]
        by_cases hj1 : j = l
        · rw [if_pos hj1]
          exact lo _ (by omega)
        · rw [if_neg hj1]
          by_cases hj2 : l < j ∧ j ≤ k
          · rw [if_pos hj2]
            exact u _ _ (by omega) (by omega)
          · rw [if_neg hj2]
            exact u _ _ (by omega) (by omega)
theorem sortG (O : Ord c n) (h2 : 2 ≤ n) : KW c n (kas_sort n) (fun p => Pm n p ∧ Up c p n) := by
  have h0 : Pm n (List.toArray (List.range n)) := ⟨by simp, by simp⟩
  refine KW.bind (KW.mono (fun r h => ?_) (count_ok O h0 h2))
  obtain ⟨h1, h3, hp, u⟩ := h
  by_cases hr : r.1 < n
  · rw [if_pos hr, Nat.max_eq_left h1]
    exact bin_ok O _ hp h1 (by omega) u
  · rw [if_neg hr]
    have : r.1 = n := by omega
    rw [this] at u
    exact ⟨hp, u⟩
end
end HT
set_option Elab.async false
set_option linter.all false
set_option maxRecDepth 100000
namespace HT
open PySem PyProof.Rows PySem.W
section
variable {prog : Program} {w : World} {A : Around} {E : Value → Shared → Prop} {s : Shared}
theorem one_lt {l b : Addr} {items items2 : Array Value} {ns ms : List Int} {Q : Bool → Shared → Prop} (hl : s.heap.IsList l items) (hb : s.heap.IsList b items2) (hi : IntsAre items.toList ns) (hj : IntsAre items2.toList ms) (hu : A.units + 1 < cLine)
    (h : Q (lexLt ns ms) s) : wpAny (model prog w) A (keyLt' oneType' (.ref l) (.ref b)) Q E s := by
  obtain ⟨⟨cls, dd, data, sl⟩, ho, hc, n, hd⟩ := id hl
  obtain ⟨⟨cls2, dd2, data2, sl2⟩, ho2, hc2, n2, hd2⟩ := id hb
  simp only at hc hd hc2 hd2
  subst hc hd hc2 hd2
  rw [keyLt'_oneType, oneLt'_eq]
  simp only [if_true]
  refine wpAny_bind (wpAny_cRoomFor (by omega) (wpAny_bind (wpAny_callSpecialIfBound?_slot (T := "list") (name := "__lt__") ⟨_, ho, rfl⟩ PySem.F.slot_list_lt
    (call_meets PySem.F.slot_list_lt ⟨_, ho, rfl⟩ PySem.F.entry_list_lt (PySem.F.args_list_lt_2 _ _) (list_lt_ints l b items items2 n n2 dd dd2 sl sl2 ns ms hi hj) ⟨ho, ho2, ?_⟩))))
  exact wpAny_truthy_bool h
theorem perm_getD {α : Type} (d : α) (zs : List α) {p : List Nat} (h : p.Perm (List.range zs.length)) : (p.map fun i => zs.getD i d).Perm zs := by
  have e : (List.range zs.length).map (fun i => zs.getD i d) = zs := by
    apply List.ext_getElem?
    intro i
    rw [List.getElem?_map]
    by_cases hi : i < zs.length
    · rw [List.getElem?_range hi, Option.map_some, List.getD_eq_getElem?_getD, List.getElem?_eq_getElem hi]; rfl
    · rw [List.getElem?_eq_none (by simpa using hi), List.getElem?_eq_none (by omega)]; rfl
  have q := h.map fun i => zs.getD i d
  rw [e] at q
  exact q
theorem sortL_tree {a : Addr} {zs : List (Addr × List Int)} {n0 : Nat} {P : Fin → Shared → Prop} (ho : s.heap.get? a = some (seqObj "list" (zs.map fun z => Value.ref z.1).toArray n0))
    (hz : ∀ z ∈ zs, z.1 ≠ a ∧ ∃ its : List Value, s.heap.IsList z.1 its.toArray ∧ IntsAre its z.2) (nd : (zs.map (·.2)).Nodup) (h4 : zs.length ≤ 4) (hu : A.units + 1 < cLine)
    (h : ∀ zs' : List (Addr × List Int), zs'.Perm zs → zs'.Pairwise (fun x y => lexLt x.2 y.2 = true) → P (.done (.ret .none)) { s with heap := sortedHeap s.heap a (zs.map fun z => Value.ref z.1) (zs'.map fun z => Value.ref z.1).toArray }) :
    wpAny (model prog w) A (Builtin.«list.sort» ⟨[.ref a], []⟩) P E s := by
  rw [list_sort_plain]
  generalize hvs : (zs.map fun z => Value.ref z.1) = vs at ho h ⊢
  have hvl : vs.length = zs.length := by rw [← hvs, List.length_map]
  have hsl : vs.length ≤ sizeLine := by rw [hvl, sizeLine_eq]; omega
  have ha : a < s.heap.objs.size := Heap.lt_size ho
  obtain ⟨e1, ho1⟩ : ∃ e1, (s.heap.update a (Obj.mapSeq fun _ => #[])).get? a = some (seqObj "list" #[] e1) := ⟨_, get?_update_seq ho (fun _ => #[])⟩
  refine wpAny_bind (listItems_at ho rfl (wpAny_bind (listUpdate_at ho rfl (wpAny_bind (seqEpoch_at ho1 rfl (wpAny_bind (wpAny_newTuple (wpAny_bind (wpAny_newList (wpAny_holding ?_) (Nat.zero_le _))) (by show vs.length ≤ _; exact hsl))))) (by rw [List.size_toArray]; exact hsl) (Nat.zero_le _))))
  generalize hG : (((s.heap.update a (Obj.mapSeq fun _ => (#[] : Array Value))).push (seqObj "tuple" vs.toArray 0)).push (seqObj "list" #[] 0)) = G
  have ho6 : G.get? a = some (seqObj "list" #[] e1) := by
    rw [← hG, Heap.get?_push_ne _ _ _ (by rw [size_push', Heap.size_update]; exact Nat.ne_of_lt (Nat.lt_succ_of_lt ha)), Heap.get?_push_ne _ _ _ (by rw [Heap.size_update]; exact Nat.ne_of_lt ha)]; exact ho1
  have keep : ∀ b o, b ≠ a → s.heap.get? b = some o → G.get? b = some o := fun b o hb e => by
    have hlt := Heap.lt_size e
    rw [← hG, Heap.get?_push_ne _ _ _ (by rw [size_push', Heap.size_update]; exact Nat.ne_of_lt (Nat.lt_succ_of_lt hlt)), Heap.get?_push_ne _ _ _ (by rw [Heap.size_update]; exact Nat.ne_of_lt hlt), Heap.get?_update_other _ _ (Ne.symm hb)]; exact e
  show wpAny (model prog w) A _ P E { s with heap := G }
  dsimp only
  by_cases h2 : vs.toArray.size < 2
  · rw [if_pos h2, if_pos h2]
    refine wpAny_bind (wpAny_pure ?_)
    rw [StateT.run_pure]
    refine wpAny_bind (wpAny_pure ?_)
    dsimp only
    have hout : (arrOf (SortSt.mk' general' (vs.toArray.zip vs.toArray) #[] 7 none)).map (·.2) = vs.toArray := by
      show (vs.toArray.zip vs.toArray).map (·.2) = vs.toArray
      apply Array.toList_inj.mp
      rw [Array.toList_map, Array.toList_zip, List.map_snd_zip (by simp)]
    rw [hout]
    refine wpAny_bind (seqEpoch_at ho6 rfl (wpAny_bind (listUpdate_at ho6 rfl ?_ (Nat.zero_le _) (by rw [List.size_toArray]; exact Nat.le_succ_of_le hsl))))
    have q := h zs (List.Perm.refl _) (by
      rw [List.size_toArray, hvl] at h2
      match zs, h2 with
      | [], _ => exact .nil
      | [_], _ => exact List.pairwise_singleton _ _)
    rw [hvs] at q
    simp only [bne_self_eq_false, Bool.false_eq_true, if_false]
    have e2 : G.update a (Obj.mapSeq fun _ => vs.toArray) = sortedHeap s.heap a vs vs.toArray := by rw [← hG]; rfl
    rw [e2]
    exact wpAny_pure q
  · rw [if_neg h2, if_neg h2]
    rw [List.size_toArray, hvl] at h2
    have ls2 : (zs.map (·.2)).length = zs.length := List.length_map ..
    obtain ⟨hkin, hok⟩ := sort_ok nd (by rw [ls2]; omega) (by rw [ls2]; exact h4)
    rw [ls2] at hkin hok
    generalize hcd : (fun i j => lexLt ((zs.map (·.2)).getD i []) ((zs.map (·.2)).getD j [])) = c at hok
    have gz : ∀ i, i < zs.length → vs.getD i Value.none = .ref (zs.getD i (0, [])).1 ∧ (zs.map (·.2)).getD i [] = (zs.getD i (0, [])).2 ∧ zs.getD i (0, []) ∈ zs := fun i hi => by
      have e : zs.getD i (0, []) = zs[i] := by rw [List.getD_eq_getElem?_getD, List.getElem?_eq_getElem hi]; rfl
      rw [e]
      refine ⟨?_, ?_, List.getElem_mem _⟩
      · rw [← hvs, List.getD_eq_getElem?_getD, List.getElem?_map, List.getElem?_eq_getElem hi]; rfl
      · rw [List.getD_eq_getElem?_getD, List.getElem?_map, List.getElem?_eq_getElem hi]; rfl
    refine wpAny_bind (kas_kind (T := .type "list") (by rw [hvl]; omega) (fun v hv => ?_) (by decide) (by decide) ?_)
    · rw [← hvs] at hv
      obtain ⟨z, hzm, rfl⟩ := List.mem_map.mp hv
      obtain ⟨hza, its, hl, _⟩ := hz z hzm
      obtain ⟨o, e, hcl, _⟩ := hl
      intro A' Q' E' s' k q
      exact wpAny_typeOf (T := "list") ⟨o, k _ _ (keep _ _ hza e), hcl⟩ q
    have est : SortSt.mk' oneType' (vs.toArray.zip vs.toArray) #[] 7 none = kas_st oneType' (pairsOf vs) (List.toArray (List.range vs.length)) := by
      have e := kas_range (pairsOf vs)
      rw [pairsOf_size] at e
      unfold kas_st; rw [e]; rfl
    have ask : (kas_sort vs.length).kasWp (kas_cmp prog w A oneType' (pairsOf vs)) (fun p s' => s' = { s with heap := G } ∧ p = krun c (kas_sort zs.length)) { s with heap := G } := by
      rw [hvl, ← kas_ask_eq]
      refine krun_wp (n := zs.length) (c := c) (fun i j C hi hj hC => ?_) _ hkin ⟨rfl, rfl⟩
      obtain ⟨a1, a2, a3⟩ := gz i hi
      obtain ⟨b1, b2, b3⟩ := gz j hj
      obtain ⟨hza, its, hl, hI⟩ := hz _ a3
      obtain ⟨hzb, its2, hl2, hI2⟩ := hz _ b3
      unfold kas_ask
      rw [a1, b1]
      refine one_lt (s := { s with heap := G }) (hl.at fun o e => keep _ o hza e) (hl2.at fun o e => keep _ o hzb e) (by simpa using hI) (by simpa using hI2) hu ?_
      rw [← hcd] at hC
      simp only [a2, b2] at hC
      exact hC
    have run := kas_runs (E := E) (Q := fun _ st' s' => s' = { s with heap := G } ∧ arrOf st' = (krun c (kas_sort zs.length)).map (kas_item (pairsOf vs)) ∧ failedOf st' = none) (by rw [hvl]; omega) (by rw [hvl]; omega)
      (fun p' st' s' a1 a2 a3 a4 => ⟨a4.1, by rw [a2, a4.2], a3⟩) ask
    rw [← est] at run
    refine wpAny_bind (wpAny_mono run ?_ fun _ _ e => e)
    rintro ⟨⟨⟩, st'⟩ s' ⟨rfl, har, hf⟩
    dsimp only
    generalize hp : krun c (kas_sort zs.length) = p at har hok
    have hout : (arrOf st').map (·.2) = ((p.toList.map fun i => zs.getD i (0, [])).map fun z => Value.ref z.1).toArray := by
      apply Array.toList_inj.mp
      rw [har, Array.map_map, Array.toList_map, List.map_map]
      refine List.map_congr_left fun i hi => ?_
      show (kas_item (pairsOf vs) i).2 = _
      rw [kas_item_eq]
      unfold okOut at hok
      rw [Bool.and_eq_true] at hok
      exact (gz i (List.mem_range.mp ((List.isPerm_iff.mp hok.1).mem_iff.mp hi))).1
    rw [hout]
    have pm : p.toList.Perm (List.range zs.length) := by
      unfold okOut at hok
      rw [Bool.and_eq_true] at hok
      exact List.isPerm_iff.mp hok.1
    have q := h (p.toList.map fun i => zs.getD i (0, [])) (perm_getD _ zs pm) (by
      rw [List.pairwise_map, List.pairwise_iff_getElem]
      intro i j hi hj hij
      have hpl : p.toList.length = zs.length := by rw [pm.length_eq, List.length_range]
      unfold okOut at hok
      simp only [Bool.and_eq_true, List.all_eq_true, List.mem_range] at hok
      have q1 := hok.2 i (by omega) j (by omega)
      rw [decide_eq_true hij] at q1
      have e1 : p.toList.getD i 0 = p.toList[i] := by rw [List.getD_eq_getElem?_getD, List.getElem?_eq_getElem hi]; rfl
      have e2 : p.toList.getD j 0 = p.toList[j] := by rw [List.getD_eq_getElem?_getD, List.getElem?_eq_getElem hj]; rfl
      rw [e1, e2, ← hcd] at q1
      have m1 := List.mem_range.mp (pm.mem_iff.mp (List.getElem_mem hi))
      have m2 := List.mem_range.mp (pm.mem_iff.mp (List.getElem_mem hj))
      rw [← (gz _ m1).2.1, ← (gz _ m2).2.1]
      simpa using q1)
    have hol : ((p.toList.map fun i => zs.getD i (0, [])).map fun z => Value.ref z.1).length = zs.length := by rw [List.length_map, List.length_map, pm.length_eq, List.length_range]
    refine wpAny_bind (seqEpoch_at ho6 rfl (wpAny_bind (listUpdate_at ho6 rfl ?_ (Nat.zero_le _) (by rw [List.size_toArray, hol]; rw [hvl] at hsl; exact Nat.le_succ_of_le hsl))))
    rw [hf]
    simp only [bne_self_eq_false, Bool.false_eq_true, if_false]
    have e2 : ∀ out : Array Value, G.update a (Obj.mapSeq fun _ => out) = sortedHeap s.heap a vs out := fun out => by rw [← hG]; rfl
    rw [e2]
    exact wpAny_pure q
theorem sortedL {l : Addr} {zs : List (Addr × List Int)} {Q : Value → Shared → Prop} (hl : s.heap.IsList l (zs.map fun z => Value.ref z.1).toArray) (hz : ∀ z ∈ zs, ∃ its : List Value, s.heap.IsList z.1 its.toArray ∧ IntsAre its z.2) (nd : (zs.map (·.2)).Nodup) (h4 : zs.length ≤ 4) (hu : A.units + 8 < cLine)
    (h : ∀ zs' : List (Addr × List Int), zs'.Perm zs → zs'.Pairwise (fun x y => lexLt x.2 y.2 = true) → Q (.ref (s.heap.objs.size + 1)) { s with heap := sortedAll s.heap (zs.map fun z => Value.ref z.1) (zs'.map fun z => Value.ref z.1).toArray }) :
    wpAny (model prog w) A (call (.builtin "sorted") [.ref l]) Q E s := by
  have hsl : (zs.map fun z => Value.ref z.1).length ≤ sizeLine := by rw [List.length_map, sizeLine_eq]; omega
  refine Calls.call_function_entry kind_sorted plain_sorted entry_sorted (args_sorted1 _) ?_
  unfold Builtin.«sorted»
  refine wpAny_bind (m := checkCount "sorted" 1 1 _) (wpAny_pure (wpAny_bind (collect_list hl (wpAny_bind (wpAny_newList ?_ hsl)) hsl)))
  generalize hB : (s.heap.push (seqObj "list" #[] 0)).update s.heap.objs.size (Obj.mapSeq (· ++ (zs.map fun z => Value.ref z.1).toArray)) = B
  have hsz : B.objs.size = s.heap.objs.size + 1 := by rw [← hB, Heap.size_update, size_push']
  have keep : ∀ b o, s.heap.get? b = some o → (B.push (seqObj "list" (zs.map fun z => Value.ref z.1).toArray 0)).get? b = some o := fun b o q => by
    have hlt : b < s.heap.objs.size := Heap.lt_size q
    rw [Heap.get?_push_ne _ _ _ (by rw [hsz]; exact Nat.ne_of_lt (Nat.lt_succ_of_lt hlt)), ← hB, Heap.get?_update_ne _ _ _ _ (Nat.ne_of_lt hlt), Heap.get?_push_ne _ _ _ (Nat.ne_of_lt hlt)]; exact q
  have hoL : (B.push (seqObj "list" (zs.map fun z => Value.ref z.1).toArray 0)).get? (s.heap.objs.size + 1) = some (seqObj "list" (zs.map fun z => Value.ref z.1).toArray 0) := by
    rw [← hsz]; exact Heap.get?_push_size _ rfl
  show wpAny _ _ _ _ _ { s with heap := B.push (seqObj "list" (zs.map fun z => Value.ref z.1).toArray 0) }
  dsimp only
  rw [hsz]
  refine wpAny_bind (wpAny_holding (wpAny_call_entry slot_list_sort ⟨_, hoL, rfl⟩ entry_list_sort (sortL_tree (A := A.in1.in1) (s := { s with heap := B.push (seqObj "list" (zs.map fun z => Value.ref z.1).toArray 0) }) hoL (fun z hzm => ?_) nd h4 (by show A.units + 1 + 1 + 1 < cLine; omega) fun zs' a1 a2 => ⟨_, rfl, ?_⟩) (args_list_sort _)))
  · obtain ⟨its, hl', hI⟩ := hz z hzm
    obtain ⟨o, e, _⟩ := id hl'
    exact ⟨Nat.ne_of_lt (Nat.lt_succ_of_lt (Heap.lt_size e)), its, hl'.at fun o e => keep _ o e, hI⟩
  · have q := h zs' a1 a2
    have e2 : sortedHeap (B.push (seqObj "list" (zs.map fun z => Value.ref z.1).toArray 0)) (s.heap.objs.size + 1) (zs.map fun z => Value.ref z.1) (zs'.map fun z => Value.ref z.1).toArray = sortedAll s.heap (zs.map fun z => Value.ref z.1) (zs'.map fun z => Value.ref z.1).toArray := by rw [← hB]; rfl
    show wpAny _ _ _ _ _ { s with heap := sortedHeap (B.push (seqObj "list" (zs.map fun z => Value.ref z.1).toArray 0)) (s.heap.objs.size + 1) (zs.map fun z => Value.ref z.1) (zs'.map fun z => Value.ref z.1).toArray }
    rw [e2]
    exact wpAny_pure ⟨_, rfl, q⟩
end
end HT
namespace L2
open PySem PySem.Spec PyProof.Rows
section
variable {X : Cx}
def rSortL (K : PySem.W.Frag) : List V → Hp → VK → Prop := fun xs H Q => ∃ (a : Addr) (zs : List (Addr × List Int)), xs = [.ref a] ∧ SqL K H a (zs.map fun z => V.ref z.1) ∧ zs.length ≤ 4 ∧ (∀ z ∈ zs, SqL K H z.1 (z.2.map V.int)) ∧ (zs.map (·.2)).Nodup ∧
  ∀ (p : Addr) (zs' : List (Addr × List Int)), H p = none → zs'.Perm zs → zs'.Pairwise (fun x y => HT.lexLt x.2 y.2 = true) → Q (.ref p) (upd H p (.lst (zs'.map fun z => V.ref z.1)))
theorem vals_refs : ∀ {zs : List (Addr × List Int)} {its : List Value}, Vals (zs.map fun z => V.ref z.1) its → its = zs.map fun z => Value.ref z.1
  | [], its, h => by cases h; rfl
  | z :: zs, its, h => by
    cases h with
    | cons r t => rw [vals_refs t]; cases r; rfl
theorem refs_vals : ∀ (zs : List (Addr × List Int)), Vals (zs.map fun z => V.ref z.1) (zs.map fun z => Value.ref z.1)
  | [] => .nil
  | z :: zs => .cons rfl (refs_vals zs)
theorem k_sortL (K : PySem.W.Frag) (hu : X.A.units + 64 < cLine) (e : X.K = K := by rfl) : CallR X (.builtin "sorted") (rSortL K) := by
  subst e
  intro pins s σ H xs us Q I r h
  obtain ⟨a, zs, rfl, ha, h4, hz, nd, q⟩ := h
  obtain ⟨u, rfl, rx⟩ := vals1 r
  cases rx
  obtain ⟨its, r1, p1, _⟩ := I.list ha
  have e1 := vals_refs r1
  subst e1
  refine HT.sortedL p1.isList (fun z hzm => ?_) nd h4 (by omega) fun zs' pm pw => ?_
  · obtain ⟨its, r2, p2, _⟩ := I.list (hz z hzm)
    exact ⟨its, p2.isList, by simpa using intsAre_of r2⟩
  · obtain ⟨c, hat⟩ := sortedAll_at s.heap (zs.map fun z => Value.ref z.1) (zs'.map fun z => Value.ref z.1).toArray
    have hfree : H (s.heap.objs.size + 1) = none := I.hok.fresh (Nat.le_succ _)
    refine ⟨.ref (s.heap.objs.size + 1), _, I.laid (t' := s.toks) (o := .lst (zs'.map fun z => V.ref z.1)) (fun b o e => sortedAll_old e) (Nat.le_succ _) ?_, rfl, q _ zs' hfree pm pw⟩
    exact ⟨by rw [List.length_map, pm.length_eq]; exact Nat.le_trans h4 (by decide), _, c, refs_vals zs', hat⟩
end
end L2
set_option Elab.async false
set_option linter.all false
set_option maxRecDepth 100000
namespace L2
open PySem PySem.Spec PyProof.Rows
section
variable {κ : Type} [DecidableEq κ]
def valV (kvs : List (κ × V)) (k : κ) : Option V := (kvs.find? fun kv => decide (kv.1 = k)).map (·.2)
def putK (kvs : List (κ × V)) (k : κ) (v : V) : List (κ × V) :=
  if (kvs.any fun kv => decide (kv.1 = k)) = true then kvs.map (fun kv => if kv.1 = k then (kv.1, v) else kv) else kvs ++ [(k, v)]
def dropK (kvs : List (κ × V)) (k : κ) : List (κ × V) := kvs.filter fun kv => decide (kv.1 ≠ k)
theorem valV_pos {p : κ × V} {r : List (κ × V)} {k : κ} (e : p.1 = k) : valV (p :: r) k = some p.2 := by simp [valV, List.find?_cons, e]
theorem valV_neg {p : κ × V} {r : List (κ × V)} {k : κ} (e : ¬ p.1 = k) : valV (p :: r) k = valV r k := by simp [valV, List.find?_cons, e]
theorem valV_any (k : κ) : ∀ kvs : List (κ × V), (kvs.any fun kv => decide (kv.1 = k)) = (valV kvs k).isSome
  | [] => rfl
  | p :: r => by
    rw [List.any_cons]
    by_cases e : p.1 = k
    · simp only [valV_pos e, decide_eq_true e, Bool.true_or, Option.isSome_some]
    · rw [valV_neg e, decide_eq_false e, Bool.false_or]; exact valV_any k r
theorem length_putK (kvs : List (κ × V)) (k : κ) (v : V) : (putK kvs k v).length ≤ kvs.length + 1 := by
  unfold putK
  split
  · rw [List.length_map]; omega
  · rw [List.length_append, List.length_cons, List.length_nil]; omega
theorem RelO.isSome_eq {o : Option V} {u : Option Value} (r : RelO o u) : o.isSome = u.isSome := by
  cases o with
  | none => cases u with
    | none => rfl
    | some _ => exact (show False from r).elim
  | some _ => cases u with
    | none => exact (show False from r).elim
    | some _ => rfl
theorem RelO.getD {o : Option V} {u : Option Value} {d : V} {d' : Value} (r : RelO o u) (rd : RelV d d') : RelV (o.getD d) (u.getD d') := by
  cases o with
  | none => cases u with
    | none => exact rd
    | some _ => exact (show False from r).elim
  | some _ => cases u with
    | none => exact (show False from r).elim
    | some _ => exact r
theorem KV.val {kvs : List (κ × V)} {vs : List (κ × Value)} (r : KV kvs vs) (k : κ) : RelO (valV kvs k) (valueAt vs k) := by
  unfold KV at r
  induction r with
  | nil => exact True.intro
  | @cons p q ps qs h t ih =>
    obtain ⟨h1, h2⟩ := h
    by_cases e : p.1 = k
    · have e' : q.1 = k := h1.symm.trans e
      have b : valueAt (q :: qs) k = some q.2 := by simp [valueAt, List.find?_cons, e']
      rw [valV_pos e, b]; exact h2
    · have e' : ¬ q.1 = k := fun z => e (h1.trans z)
      have b : valueAt (q :: qs) k = valueAt qs k := by simp [valueAt, List.find?_cons, e']
      rw [valV_neg e, b]; exact ih
theorem KV.any {kvs : List (κ × V)} {vs : List (κ × Value)} (r : KV kvs vs) (k : κ) : (kvs.any fun kv => decide (kv.1 = k)) = vs.any fun kv => decide (kv.1 = k) := by
  unfold KV at r
  induction r with
  | nil => rfl
  | cons h t ih => rw [List.any_cons, List.any_cons, ih, h.1]
theorem KV.repl {kvs : List (κ × V)} {vs : List (κ × Value)} (r : KV kvs vs) (k : κ) {y : V} {u : Value} (ry : RelV y u) :
    KV (kvs.map fun kv => if kv.1 = k then (kv.1, y) else kv) (vs.map fun kv => if kv.1 = k then (kv.1, u) else kv) := by
  unfold KV at r ⊢
  induction r with
  | nil => exact .nil
  | @cons p q ps qs h t ih =>
    rw [List.map_cons, List.map_cons]
    refine .cons ?_ ih
    obtain ⟨h1, h2⟩ := h
    by_cases e : p.1 = k
    · rw [if_pos e, if_pos (h1.symm.trans e)]; exact ⟨h1, ry⟩
    · rw [if_neg e, if_neg (fun z => e (h1.trans z))]; exact ⟨h1, h2⟩
theorem KV.put {kvs : List (κ × V)} {vs : List (κ × Value)} (r : KV kvs vs) (k : κ) {y : V} {u : Value} (ry : RelV y u) : KV (putK kvs k y) (stored vs k u) := by
  unfold putK stored
  rw [r.any k]
  by_cases e : (vs.any fun kv => decide (kv.1 = k)) = true
  · rw [if_pos e, if_pos e]; exact r.repl k ry
  · rw [if_neg e, if_neg e]; exact Paired.snoc r ⟨rfl, ry⟩
theorem KV.drop {kvs : List (κ × V)} {vs : List (κ × Value)} (r : KV kvs vs) (k : κ) : KV (dropK kvs k) (without vs k) := by
  unfold KV at r ⊢
  unfold dropK without
  induction r with
  | nil => exact .nil
  | @cons p q ps qs h t ih =>
    obtain ⟨h1, h2⟩ := h
    rw [List.filter_cons, List.filter_cons]
    by_cases e : p.1 = k
    · have a : ¬ decide (p.1 ≠ k) = true := by simp [e]
      have b : ¬ decide (q.1 ≠ k) = true := by simp [h1.symm.trans e]
      rw [if_neg a, if_neg b]; exact ih
    · have e' : ¬ q.1 = k := fun z => e (h1.trans z)
      have a : decide (p.1 ≠ k) = true := by simp [e]
      have b : decide (q.1 ≠ k) = true := by simp [e']
      rw [if_pos a, if_pos b]; exact .cons ⟨h1, h2⟩ ih
theorem KV.keys {kvs : List (κ × V)} {vs : List (κ × Value)} (r : KV kvs vs) : kvs.map (·.1) = vs.map (·.1) := by
  unfold KV at r
  induction r with
  | nil => rfl
  | cons h t ih => rw [List.map_cons, List.map_cons, ih, h.1]
theorem KV.length {kvs : List (κ × V)} {vs : List (κ × Value)} (r : KV kvs vs) : kvs.length = vs.length := Paired.length r
end
theorem kV_is {P : Program} {w : World} {k : Key} {u : Value} (r : RelV (kV k) u) : (mixKind P w).is k u = true := by
  cases k with
  | inl i => obtain ⟨t, e⟩ := (show ∃ t, u = Value.int i t from r); subst e; exact mixKind_int P w i t
  | inr x => obtain ⟨t, e⟩ := (show ∃ t, u = Value.str x t from r); subst e; exact mixKind_str P w x t
abbrev KT (H : Hp) : List (List Key × V) → List (List Key × Addr × Value) → Prop := Paired fun p q => p.1 = q.1 ∧ H q.2.1 = some (.tup (p.1.map kV)) ∧ RelV p.2 q.2.2
theorem KT.val {H : Hp} {kvs : List (List Key × V)} {xs : List (List Key × Addr × Value)} (r : KT H kvs xs) (k : List Key) : RelO (valV kvs k) ((atKey xs k).map (·.2)) := by
  induction r with
  | nil => exact True.intro
  | @cons p q ps qs h t ih =>
    obtain ⟨h1, _, h2⟩ := h
    by_cases e : p.1 = k
    · have e' : q.1 = k := h1.symm.trans e
      have b : atKey (q :: qs) k = some q.2 := by simp [atKey, List.find?_cons, e']
      rw [valV_pos e, b]; exact h2
    · have e' : ¬ q.1 = k := fun z => e (h1.trans z)
      have b : atKey (q :: qs) k = atKey qs k := by simp [atKey, List.find?_cons, e']
      rw [valV_neg e, b]; exact ih
theorem KT.repl {H : Hp} {kvs : List (List Key × V)} {xs : List (List Key × Addr × Value)} (r : KT H kvs xs) (k : List Key) {y : V} {u : Value} (ry : RelV y u) :
    KT H (kvs.map fun kv => if kv.1 = k then (kv.1, y) else kv) (xs.map (putAt k u)) := by
  induction r with
  | nil => exact .nil
  | @cons p q ps qs h t ih =>
    rw [List.map_cons, List.map_cons]
    refine .cons ?_ ih
    obtain ⟨h1, h2, h3⟩ := h
    unfold putAt
    by_cases e : p.1 = k
    · rw [if_pos e, if_pos (h1.symm.trans e)]; exact ⟨h1, h2, ry⟩
    · rw [if_neg e, if_neg (fun z => e (h1.trans z))]; exact ⟨h1, h2, h3⟩
theorem KT.put {H : Hp} {kvs : List (List Key × V)} {xs : List (List Key × Addr × Value)} (r : KT H kvs xs) (k : List Key) {b : Addr} {y : V} {u : Value} (hb : H b = some (.tup (k.map kV))) (ry : RelV y u) :
    KT H (putK kvs k y) (storedH xs k b u) := by
  have e : (kvs.any fun kv => decide (kv.1 = k)) = (atKey xs k).isSome := by
    rw [valV_any, (r.val k).isSome_eq, Option.isSome_map]
  unfold putK storedH
  rw [e]
  by_cases q : (atKey xs k).isSome = true
  · rw [if_pos q, if_pos q]; exact r.repl k ry
  · rw [if_neg q, if_neg q]; exact Paired.snoc r ⟨rfl, hb, ry⟩
theorem KT.keeps {H H' : Hp} {kvs : List (List Key × V)} {xs : List (List Key × Addr × Value)} (r : KT H kvs xs) (ht : ∀ b ys, H b = some (.tup ys) → H' b = some (.tup ys)) : KT H' kvs xs :=
  Paired.mapP r fun _ _ z => ⟨z.1, ht _ _ z.2.1, z.2.2⟩
section
variable {P : Program} {w : World} {H : Hp} {h : Heap} {a : Addr}
end
def DGet (H : Hp) (a : Addr) (y : V) (r : Option V) : Prop :=
  (∃ kvs k, Rd H a (.dK kvs) ∧ y = kV k ∧ r = valV kvs k) ∨ ∃ kvs k b, Rd H a (.dT kvs) ∧ y = .ref b ∧ H b = some (.tup (k.map kV)) ∧ r = valV kvs k
def DPut (H : Hp) (a : Addr) (y v : V) (H' : Hp) : Prop :=
  (∃ kvs k, H a = some (.dK kvs) ∧ y = kV k ∧ kvs.length < sizeLine ∧ H' = upd H a (.dK (putK kvs k v))) ∨
  ∃ kvs k b, H a = some (.dT kvs) ∧ y = .ref b ∧ H b = some (.tup (k.map kV)) ∧ kvs.length < sizeLine ∧ H' = upd H a (.dT (putK kvs k v))
theorem DGet.k {H : Hp} {a : Addr} {kvs : List (Key × V)} {k : Key} (e : H a = some (.dK kvs)) : DGet H a (kV k) (valV kvs k) := .inl ⟨kvs, k, .inl e, rfl, rfl⟩
theorem DGet.t {H : Hp} {a b : Addr} {kvs : List (List Key × V)} {k : List Key} (e : H a = some (.dT kvs)) (eb : H b = some (.tup (k.map kV))) : DGet H a (.ref b) (valV kvs k) := .inr ⟨kvs, k, b, .inl e, rfl, eb, rfl⟩
theorem DPut.k {H : Hp} {a : Addr} {kvs : List (Key × V)} {k : Key} {v : V} (e : H a = some (.dK kvs)) (hl : kvs.length < sizeLine) : DPut H a (kV k) v (upd H a (.dK (putK kvs k v))) := .inl ⟨kvs, k, e, rfl, hl, rfl⟩
theorem DPut.t {H : Hp} {a b : Addr} {kvs : List (List Key × V)} {k : List Key} {v : V} (e : H a = some (.dT kvs)) (eb : H b = some (.tup (k.map kV))) (hl : kvs.length < sizeLine) :
    DPut H a (.ref b) v (upd H a (.dT (putK kvs k v))) := .inr ⟨kvs, k, b, e, rfl, eb, hl, rfl⟩
section
variable {X : Cx} {pins : List (Addr × Obj)} {σ : St} {H : Hp} {s : Shared} {a : Addr} {y v : V} {u r : Value} {o : Option V} {A : Around} {E : Value → Shared → Prop}
theorem Inv.big (I : Inv X pins σ H s) : sysModules < s.heap.objs.size := by
  have h : mainGlobals < s.heap.objs.size := (I.mod.glob.keeps I.bk).lt
  exact Nat.lt_trans (by decide) h
theorem dk_new {P : Program} {w : World} {H' : Hp} {h' : Heap} {kvs : List (Key × V)} {vs : List (Key × Value)} (z : kvs.length ≤ sizeLine) (hd : (a == sysModules) = false) (rel : KV kvs vs) (dd : h'.DictOf (mixKind P w) a vs) :
    ObjOk P w H' h' a (.dK kvs) := ⟨z, hd, vs, rel, dd⟩
end
section
variable {X : Cx} {pins : List (Addr × Obj)} {σ : St} {H : Hp} {s : Shared} {a : Addr} {kvs : List (Key × V)} {k : Key} {u : Value} {A : Around} {E : Value → Shared → Prop}
end
section
variable {X : Cx} {o i e value : Expr} {pos pos' tpos : Pos} {td ty tv : TE}
end
theorem dk_empty {P : Program} {w : World} {H : Hp} (h : Heap) (hb : sysModules < h.objs.size) : ObjOk P w H (h.push { cls := .type "dict", data := .dict #[] }) h.objs.size (.dK []) :=
  ⟨Nat.zero_le _, beq_eq_false_iff_ne.mpr (Ne.symm (Nat.ne_of_lt hb)), [], .nil, Heap.DictOf.new h⟩
def tDNewK : TE := fun _ H Q => ∀ p, H p = none → Q (.ref p) (upd H p (.dK []))
section
variable {X : Cx} {pos : Pos}
theorem pe_dnewK : PE X (.Dict [] [] pos) tDNewK := fun pins s σ H Q I h =>
  wpAny_Dict_empty ⟨.ref s.heap.objs.size, _, I.laid (a := s.heap.objs.size) (o := .dK []) (t' := s.toks) (fun _ _ q => Heap.get?_push_of_some _ q) (Nat.le_refl _) (dk_empty s.heap I.big), rfl, h _ (I.hok.fresh (Nat.le_refl _))⟩
end
def mergeK (kvs more : List (Key × V)) : List (Key × V) := more.foldl (fun acc kv => putK acc kv.1 kv.2) kvs
theorem KV.merge : ∀ {more : List (Key × V)} {rs : List (Key × Value)} {kvs : List (Key × V)} {vs : List (Key × Value)}, KV more rs → KV kvs vs → KV (mergeK kvs more) (merged vs rs) := by
  intro more rs kvs vs r
  unfold KV at r
  induction r generalizing kvs vs with
  | nil => intro q; exact q
  | @cons p q ps qs h t ih =>
    intro r0
    have e : KV (putK kvs p.1 p.2) (stored vs q.1 q.2) := by
      have := r0.put p.1 h.2
      rw [← h.1]; exact this
    exact ih e
theorem length_mergeK : ∀ (more kvs : List (Key × V)), (mergeK kvs more).length ≤ kvs.length + more.length
  | [], kvs => by show kvs.length ≤ kvs.length + 0; omega
  | p :: r, kvs => by
    have h1 := length_mergeK r (putK kvs p.1 p.2)
    have h2 := length_putK kvs p.1 p.2
    show (mergeK (putK kvs p.1 p.2) r).length ≤ _
    rw [List.length_cons]; omega
structure M1 (X : Cx) (o : Expr) (m : Str) (apos : Pos) (e : Expr) (cpos : Pos) : Prop where
  base : attributeBase o m X.env (eval o X.env) = eval o X.env
  few : ((backTo cpos (starEach [e] X.env)).all (fun x => !x.1) && (backToKw cpos (keywordEach [] X.env)).all (fun x => x.1.isSome)
    && decide (([e] : List Expr).length + ([] : List Keyword).length + (if ([] : List Keyword).isEmpty then 0 else 1) < 30)) = true
  line : (apos.endLine == cpos.line) = true
  trees : backTo cpos (starEach [e] X.env) = [(false, eval e X.env)]
structure M2 (X : Cx) (o : Expr) (m : Str) (apos : Pos) (e f : Expr) (cpos : Pos) : Prop where
  base : attributeBase o m X.env (eval o X.env) = eval o X.env
  few : ((backTo cpos (starEach [e, f] X.env)).all (fun x => !x.1) && (backToKw cpos (keywordEach [] X.env)).all (fun x => x.1.isSome)
    && decide (([e, f] : List Expr).length + ([] : List Keyword).length + (if ([] : List Keyword).isEmpty then 0 else 1) < 30)) = true
  line : (apos.endLine == cpos.line) = true
  trees : backTo cpos (starEach [e, f] X.env) = [(false, eval e X.env), (false, eval f X.env)]
section
variable {X : Cx} {pins : List (Addr × Obj)} {σ : St} {H : Hp} {s : Shared} {a : Addr} {y d : V} {u r : Value} {o : Option V} {A : Around} {E : Value → Shared → Prop}
end
section
variable {X : Cx} {o e f : Expr} {apos cpos : Pos} {td ty tx : TE}
end
section
variable {X : Cx} {pins : List (Addr × Obj)} {σ : St} {H : Hp} {s : Shared} {a : Addr} {kvs : List (Key × V)} {A : Around} {E : Value → Shared → Prop}
end
section
variable {X : Cx} {pins : List (Addr × Obj)} {σ : St} {H : Hp} {s : Shared} {a : Addr} {y : V} {u : Value} {A : Around} {E : Value → Shared → Prop}
end
end L2
namespace L2
open PySem PySem.Spec PyProof.Rows
section
variable {X : Cx}
end
section
variable {κ : Type} [DecidableEq κ]
end
end L2
set_option Elab.async false
set_option linter.all false
set_option maxRecDepth 100000
namespace HT
open PySem PyProof.Rows PySem.W
section
variable {prog : Program} {w : World} {A : Around} {E : Value → Shared → Prop} {s : Shared}
end
end HT
set_option Elab.async false
set_option linter.all false
set_option maxRecDepth 100000
namespace HT
open PySem PyProof.Rows PySem.W
def RawD (h : Heap) (d : Addr) (ks : List Value) (ep : Nat) : Prop := ∃ (o : Obj) (es : Array DictEntry), h.get? d = some o ∧ o.ExactDict ∧ o.data = .dict es ep ∧ es.toList.map (·.key) = ks
theorem RawD.at {h h' : Heap} {d : Addr} {ks : List Value} {ep : Nat} (x : RawD h d ks ep) (e : ∀ o, h.get? d = some o → h'.get? d = some o) : RawD h' d ks ep := let ⟨o, es, ho, r⟩ := x; ⟨o, es, e _ ho, r⟩
theorem RawD.lt {h : Heap} {d : Addr} {ks : List Value} {ep : Nat} (x : RawD h d ks ep) : d < h.objs.size := let ⟨_, _, ho, _⟩ := x; Heap.lt_size ho
theorem RawD.ty {s : Shared} {d : Addr} {ks : List Value} {ep : Nat} (x : RawD s.heap d ks ep) : s.TypeIs (.ref d) "dict" := let ⟨o, _, ho, hc, _⟩ := x; ⟨o, ho, hc.1⟩
section
variable {prog : Program} {w : World} {A : Around} {E : Value → Shared → Prop} {s : Shared} {d it : Addr} {ks : List Value} {ep i : Nat}
end
end HT
namespace L2
open PySem PySem.Spec PyProof.Rows PySem.W
section
variable {X : Cx} {pins : List (Addr × Obj)} {σ : St} {H : Hp} {s : Shared}
end
section
variable {X : Cx} {pins : List (Addr × Obj)} {σ : St} {H : Hp} {s : Shared}
end
section
variable {X : Cx}
end
end L2
set_option Elab.async false
set_option linter.all false
set_option maxRecDepth 100000
namespace L2
open PySem PySem.Spec PyProof.Rows
section
variable {X : Cx} {tg : Expr}
end
end L2
set_option Elab.async false
set_option linter.all false
set_option maxRecDepth 100000
namespace L2
open PySem PySem.Spec PyProof.Rows PySem.SeqAt
section
variable {X : Cx}
end
end L2
set_option Elab.async false
set_option linter.all false
set_option maxRecDepth 100000
namespace L2
open PySem PySem.Spec PyProof.Rows PySem.SeqAt
section
variable {X : Cx}
end
end L2
set_option Elab.async false
set_option linter.all false
set_option maxRecDepth 100000
namespace L2
open PySem PySem.Spec PyProof.Rows
structure CScopeT (sc : Scope) (scope : Scope) (xs : List Str) (M : List Str) (ys : List Str) (js : List Nat) : Prop where
  kind : scope.kind = .function
  cell : ∀ y ∈ scope.names, y.2 ≠ .cell
  loc : ∀ y ∈ scope.names, y.2 = .local → scope.names.lookup y.1 = some .local
  var : ∀ x ∈ xs, scope.names.lookup x = some .local
  free : ∀ y ∈ scope.names, y.2 = .free → sc.names.lookup y.1 = some .cell ∨ sc.names.lookup y.1 = some .free
  caps : js.map (M[·]?) = ys.map some
  fr : ∀ y ∈ ys, scope.names.lookup y = some .free
  nd : (xs ++ ys).Nodup
theorem CScope.nofree {sc scope : Scope} {x : Str} {M : List Str} (kind : scope.kind = .function) (cell : ∀ y ∈ scope.names, y.2 ≠ .cell) (loc : ∀ y ∈ scope.names, y.2 = .local → scope.names.lookup y.1 = some .local) (var : scope.names.lookup x = some .local) (free : ∀ y ∈ scope.names, y.2 ≠ .free) : CScope sc scope x M [] [] :=
  ⟨kind, cell, loc, var, fun y hy e => absurd e (free y hy), rfl, by simp, by simp⟩
section
variable {X : Cx} {pins : List (Addr × Obj)} {σ : St} {H : Hp} {s : Shared}
end
section
variable {prog : Program} {w : World} {A : Around} {R : Result → Shared → Prop} {s : Shared}
end
section
variable {X : Cx} {elt iter : Expr} {ifs : List Expr} {tg : Expr} {xs : List Str} {pos : Pos} {g : TG} {scope : Scope} {ys : List Str} {js : List Nat} {wi : TI} {tt : TT} {te : TE}
end
end L2
set_option Elab.async false
set_option linter.all false
set_option maxRecDepth 100000
namespace L2
open PySem PySem.Spec PyProof.Rows
structure Mt (K : PySem.W.Frag) (C : Addr) (q x : Str) (st : Stmt) (ps : List Str) (f : Addr) (fd : FuncData) : Prop where
  fn : Fun K x q st f fd
  b : Binds K fd ps []
  m : Meth K C x f
structure Blt2 (mg : Str → Option Value) : Prop where
  n_sum : mg "sum" = none
  n_abs : mg "abs" = none
  n_zip : mg "zip" = none
  n_str : mg "str" = none
section
variable {X : Cx} {tg : Expr}
end
end L2
set_option Elab.async false
set_option linter.all false
set_option maxRecDepth 100000
namespace L2
open PySem PySem.Spec PyProof.Rows
theorem Inv.turned2 {X : Cx} {pins : List (Addr × Obj)} {σ : St} {H : Hp} {s : Shared} {h' : Heap} {e it T : Addr} {o : HO} {t' : Nat} (I : Inv X pins σ H s) (k : ∀ b o, b ≠ e → b ≠ it → s.heap.get? b = some o → h'.get? b = some o) (fe : FpOk X pins H e) (fi : FpOk X pins H it) (hT : s.heap.objs.size ≤ T)
    (new : ObjOk X.prog X.w (upd H T o) h' T o) : Inv X pins σ (upd H T o) { s with heap := h', toks := t' } := by
  have hn : H T = none := I.hok.fresh hT
  have na : ∀ b u, H b = some u → b ≠ T := fun b u e z => by rw [z, hn] at e; cases e
  have ne : ∀ b u, H b = some u → b ≠ e := fun b u q z => by rw [z, fe.1] at q; cases q
  have ni : ∀ b u, H b = some u → b ≠ it := fun b u q z => by rw [z, fi.1] at q; cases q
  have k' : ∀ b o, b ∉ [e, it] → s.heap.get? b = some o → h'.get? b = some o := fun b o hb q => k b o (fun z => hb (by simp [z])) (fun z => hb (by simp [z])) q
  refine I.step (g' := s.gens) (d' := s.drawn) (ch := [e, it]) (fun b hb => ?_) (fun b o _ _ hc q _ => k' b o hc q) (fun b o _ _ hc q _ => ⟨o.slots, k' b o hc q⟩) (fun b o hc q n => by rw [upd_ne (Nat.ne_of_lt (Nat.lt_of_lt_of_le (Heap.lt_size q) hT))]; exact n)
    (fun b o hc q => ⟨o, k' b o hc q⟩) (fun b xs q => by rw [upd_ne (na b _ q)]; exact q) (fun b o u q => by rw [upd_ne (na b _ q)]; exact q) (fun b ps q => ⟨#[], by rw [upd_ne (na b _ q), q]; simp⟩) (fun m hm => ?_) (fun b u q => ?_) I.bare
  · rcases List.mem_cons.mp hb with z | hb
    · subst z; exact ⟨fe.2.2.2.1, fe.2.1, fe.2.2.2.2.1, fe.2.2.2.2.2⟩
    · have z : b = it := by simpa using hb
      subst z; exact ⟨fi.2.2.2.1, fi.2.1, fi.2.2.2.2.1, fi.2.2.2.2.2⟩
  · obtain ⟨o, es, ep, ho, r⟩ := hm
    exact ⟨o, es, ep, k _ o (Ne.symm fe.2.1) (Ne.symm fi.2.1) ho, r⟩
  · by_cases hb : b = T
    · subst hb
      rw [upd_same] at q
      cases q
      exact new
    · rw [upd_ne hb] at q
      refine (I.hok b u q).stay (fun c v hc z => k c v ?_ ?_ z) (fun c z => by rw [upd_ne (na c _ z)]; exact z) fun c xs z => by rw [upd_ne (na c _ z)]; exact z
      · rcases hc with rfl | hc
        · exact ne _ _ q
        · exact ne _ _ hc
      · rcases hc with rfl | hc
        · exact ni _ _ q
        · exact ni _ _ hc
def Ite (K : PySem.W.Frag) (a : Addr) : It :=
  ⟨fun i H => ∃ xs x, SqL K H a xs ∧ xs[i]? = some x, fun i H v H' => ∃ T x, v = .ref T ∧ H T = none ∧ H' = upd H T (.tup [.int (i : Nat), x]) ∧ ∀ xs, SqL K H a xs → xs[i]? = some x, fun i H => ∃ xs, SqL K H a xs ∧ xs.length ≤ i⟩
theorem turn_enum {P : Program} {w : World} {K : PySem.W.Frag} {elts : List Expr} {k : Nat} {tp : Pos} (a e it : Addr) (hei : e ≠ it) : Turn P w K (.Tuple elts k tp) (Ite K a) [e, it] e (fun i h => (∃ old, IsEnum h e it i old) ∧ h.IsListIter it a i) where
  mem := by simp
  obj := fun i h st b hb => by
    obtain ⟨⟨old, he⟩, o, hi, c, d⟩ := st
    rcases List.mem_cons.mp hb with z | hb
    · subst z
      exact ⟨_, he, fun v z => by
        have z' : Data.fields _ = Data.cell v := z
        cases z'⟩
    · have z : b = it := by simpa using hb
      subst z
      exact ⟨o, hi, fun v z => by rw [d] at z; cases z⟩
  keep := fun i h h' st k => by
    obtain ⟨⟨old, he⟩, hi⟩ := st
    exact ⟨⟨old, k e (by simp) _ he⟩, hi.at fun o q => k it (by simp) o q⟩
  item := by
    intro X hP hw hK hc i pins s σ H E I hf st hg
    subst hP hw hK
    obtain ⟨xs, x, hq, hx⟩ := hg
    obtain ⟨its, rv, p, hz⟩ := I.list hq
    obtain ⟨u, hu, ru⟩ := rv.get hx
    obtain ⟨⟨old, he⟩, hi⟩ := st
    refine wpAny_pyNext_enum_item he hi p.isList (x := u) (by simpa using hu) hei fun h' ho hi' hT hsz hk => ?_
    refine ⟨_, rfl, ?_⟩
    refine wpAny_letOwnedTupleGo_enum (s := { s with heap := h', toks := s.toks + 1 }) ho fun h'' he' hs' => ?_
    have helt : e < s.heap.objs.size := Heap.lt_size he
    have hT2 : h''.get? s.heap.objs.size = some { cls := .type "tuple", data := .seq #[.int i s.toks, u] } := (hs'.2 _ (Nat.ne_of_gt helt)).trans hT
    have fe := hf e (by simp)
    have fi := hf it (by simp)
    have I1 : Inv X pins σ (upd H s.heap.objs.size (.tup [.int (i : Nat), x])) { s with heap := h'', toks := s.toks + 1 } := by
      refine I.turned2 (fun b o hb1 hb2 q => (hs'.2 b hb1).trans (hk b o hb1 hb2 q)) fe fi (Nat.le_refl _) ⟨by show 2 ≤ sizeLine; decide, [.int i s.toks, u], .cons ⟨_, rfl⟩ (.cons ru .nil), _, hT2, rfl, 0, rfl⟩
    refine ⟨.ref s.heap.objs.size, _, I1, rfl, ⟨s.heap.objs.size, x, rfl, I.hok.fresh (Nat.le_refl _), rfl, fun ys hy => by rw [I.list_inj hy hq]; exact hx⟩, ⟨⟨_, by simpa using he'⟩, hi'.at fun o q => (hs'.2 it (Ne.symm hei)).trans q⟩, fun b hb => ?_⟩
    have hbl : b < s.heap.objs.size := by
      rcases List.mem_cons.mp hb with z | hb
      · rw [z]; exact helt
      · have z : b = it := by simpa using hb
        obtain ⟨o, q, _⟩ := hi
        rw [z]; exact Heap.lt_size q
    rw [upd_ne (Nat.ne_of_lt hbl)]
    exact (hf b hb).1
  done := by
    intro X hP hw hK hc i pins s σ H E I hf st hg
    subst hP hw hK
    obtain ⟨xs, hq, hx⟩ := hg
    obtain ⟨its, rv, p, hz⟩ := I.list hq
    obtain ⟨⟨old, he⟩, hi⟩ := st
    obtain ⟨f0, f1, f2, f3, f4, f5⟩ := hf it (by simp)
    have hl := rv.length
    exact wpAny_pyNext_enum_end (I.ok.hd hc) he hi p.isList (by simp; omega) fun h' eb => ⟨rfl, I.turned (t' := s.toks) (fun b o hb q => eb b o hb q) f0 f1 f3 f4 f5⟩
  self := fun _ _ _ _ _ st h => by
    obtain ⟨⟨old, he⟩, _⟩ := st
    exact wpAny_pyIter_enum he h
section
variable {X : Cx}
def iEnum (K : PySem.W.Frag) (tl : TA) : TI := fun σ H R => tl σ H fun vs H1 => ∃ a, vs = [.ref a] ∧ (∃ xs, SqL K H1 a xs) ∧ R (Ite K a) H1
theorem pi_enum (K : PySem.W.Frag) {elts : List Expr} {k : Nat} {tp : Pos} {a : Expr} {ta : TA} {p pos : Pos} (hg : Gl X "enumerate") (hm : X.mg "enumerate" = none) (ha : PA X [a] ta) (hs : starEach [a] X.env = [(false, eval a X.env)] := by rfl) (ek : X.K = K := by rfl) :
    PI X (.Tuple elts k tp) (.Call (.Name "enumerate" p) [a] [] pos) (iEnum K ta) := by
  subst ek
  intro pins s σ H R I h
  refine Call_ (ld_blt I hg hm boot_enumerate (PyProof.Rows.callWith_type1 (thn (ha pos pins s σ H _ I h) fun us s1 ⟨vs, H1, I1, r1, q1⟩ => ?_) (by rw [hs]; rfl) (by rfl)))
  obtain ⟨l, e, ⟨xs, hq⟩, q⟩ := q1
  subst e
  cases r1 with
  | cons r rr =>
    cases rr
    cases r
    obtain ⟨its, rv, pl, hz⟩ := I1.list hq
    refine call_enumerate_list pl.isList fun h' he hi hsz hk => ?_
    refine wpAny_pyIter_enum (s := { s1 with heap := h' }) he ?_
    have I2 : Inv X pins σ H1 { s1 with heap := h' } := I1.kept (t' := s1.toks) fun b o q => hk b o q
    refine ⟨s1.heap.objs.size + 1, [s1.heap.objs.size + 1, s1.heap.objs.size], _, _, H1, rfl, I2, turn_enum l _ _ (Nat.succ_ne_self _), ⟨⟨_, he⟩, hi⟩, fun b hb => ?_, q⟩
    have hb2 : s1.heap.objs.size ≤ b := by
      rcases List.mem_cons.mp hb with z | hb
      · rw [z]; exact Nat.le_succ _
      · have z : b = s1.heap.objs.size := by simpa using hb
        rw [z]; exact Nat.le_refl _
    exact I1.fpOk hb2 (I1.hok.fresh hb2)
theorem for_enum {K : PySem.W.Frag} {a : Addr} {xs : List V} {g : TG} {tb : TS} {D : Ends} {σ : St} {H : Hp} (Pv : Nat → St → Hp → Prop) (h0 : Pv 0 σ H) (hl : ∀ i σ H, i ≤ xs.length → Pv i σ H → SqL K H a xs)
    (hs : ∀ i x σ H T, xs[i]? = some x → Pv i σ H → H T = none → g (.ref T) σ (upd H T (.tup [.int (i : Nat), x])) fun σ2 H2 => tb { D with nx := Pv (i + 1), ct := Pv (i + 1), bk := D.nx } σ2 H2) (hd : ∀ σ H, Pv xs.length σ H → D.nx σ H) :
    ∃ W : Nat → Nat → St → Hp → Prop, (∃ m, W 0 m σ H) ∧ ∀ i m σ H, W i m σ H →
      ((Ite K a).stop i H ∧ D.nx σ H) ∨ ((Ite K a).go i H ∧ ∃ N : St → Hp → Prop, (∀ σ' H', N σ' H' → ∃ m', m' < m ∧ W (i + 1) m' σ' H') ∧ ∀ x H', (Ite K a).yld i H x H' → g x σ H' fun σ2 H2 => tb { D with nx := N, ct := N, bk := D.nx } σ2 H2) := by
  refine ⟨fun i m σ H => m = xs.length - i ∧ i ≤ xs.length ∧ Pv i σ H, ⟨xs.length, by simp, Nat.zero_le _, h0⟩, ?_⟩
  rintro i m σ H ⟨rfl, hi, p⟩
  have q := hl i σ H hi p
  by_cases hlt : i < xs.length
  · have hx : xs[i]? = some xs[i] := List.getElem?_eq_getElem hlt
    refine .inr ⟨⟨xs, xs[i], q, hx⟩, Pv (i + 1), fun σ' H' p' => ⟨xs.length - (i + 1), by omega, rfl, hlt, p'⟩, fun v H' y => ?_⟩
    obtain ⟨T, x, rfl, hT, rfl, hy⟩ := y
    have e2 := hy xs q
    rw [hx] at e2
    cases e2
    exact hs i xs[i] σ H T hx p hT
  · have e : i = xs.length := by omega
    subst e
    exact .inl ⟨⟨xs, q, Nat.le_refl _⟩, hd σ H p⟩
end
end L2
set_option Elab.async false
set_option linter.all false
set_option maxRecDepth 100000
namespace L2
open PySem PySem.Spec PyProof.Rows PySem.W
def CodeO (c : Addr) (q : Str) : HO := .ext fun h => h.CodeRec (.ref c) q
def LamAt (P : Addr) (pos : Pos) (q : Str) (H : Hp) (c : Addr) : Prop := H P = some (.tbl #[rawInt pos.line, rawInt pos.col, .ref c]) ∧ H c = some (CodeO c q)
def LamTab (P : Addr) (pos : Pos) (q : Str) (H : Hp) : Prop := H P = some (.tbl #[]) ∨ ∃ c, LamAt P pos q H c
section
variable {P : Program} {w : World} {K : Frag} {mg : Str → Option Value} {base : Heap} {N ps : List Str} {k : Nat} {A : Around} {outer : List Env} {s : Shared} {H : Hp} {us : List Value} {vs : List V} {Q : VK} {E : XK} {f : Addr} {o : Obj}
  {name qual : Str} {params : Arguments} {body : Expr} {scope : Scope} {pm cdv ct : Value} {args : Args}
theorem lam_run (ho : s.heap.get? f = some o) (hd : o.data = .func (kla_fn name qual params body scope [] pm cdv ct)) (hcd : s.heap.CodeRec cdv qual) (S : FnScope N ps scope) (hr : Room (k + 1) A) (e0 : Env0 P w K mg base A outer s H)
    (hb : BindsTo s (kla_fn name qual params body scope [] pm cdv ct) args (ps.zip us)) (hl : vs.length = ps.length) (r : Vals vs us)
    (hbody : ∃ t, PE (cxOf CX0 P w K mg base N qual scope f cdv A outer s H E) body t ∧ t (start N vs) H Q) : codeAny (model P w) A (.call (.ref f) args) (CR CX0 outer P w H s Q E) s := by
  have lim : s.heap.NoLimit := e0.mod.nolimit.keeps fun b o e => (e0.bs b o e).1
  have hkind : ∀ y ∈ ps.zip us, scope.names.lookup y.1 = some .local ∨ (scope.names.lookup y.1 = some .cell ∧ ((cellsFrom (s.heap.objs.size + 1) scope.names []).lookup y.1).isSome = true) := fun ⟨n, v⟩ hy => by
    rcases S.par n (List.of_mem_zip hy).1 with q | q
    · exact .inl q
    · exact .inr ⟨q, PySem.W.cellsFrom_some _ _ _ (.inl q)⟩
  refine kla_callFunE hr.depth ho hd S.co S.gen rfl hcd (hb _ _ _ _ ?_)
  refine wpAny_newFunctionEnv_cells S.kind hkind fun env he s1 x => ?_
  subst he
  refine ⟨lim.keeps x.toInCall.keep, kla_codeExpr ?_⟩
  obtain ⟨t, ht, hq⟩ := hbody
  have I : Inv (cxOf CX0 P w K mg base N qual scope f cdv A outer s H E) [] (start N vs) H s1 := inv_start S hr.hd e0 hl r x
  refine wpAny_mono (ht [] s1 (start N vs) H _ I hq) (fun u s' hs => ?_) fun e s' hs => hs
  obtain ⟨v, H', J, rv, q⟩ := hs
  exact ⟨v, H', J.os, J.bare, J.base, J.hok, rv, q⟩
end
section
variable {X : Cx} {pins : List (Addr × Obj)} {σ : St} {H : Hp} {s : Shared} {params : Arguments} {body : Expr} {scope : Scope} {pos : Pos} {c P : Addr} {Q : Value → Shared → Prop}
theorem lam_make (I : Inv X pins σ H s) (hdef : defaultsOf params X.env = ([], [])) (hcl : closureFor scope X.env = pure []) (hcode : X.env.code = .ref c) (hK : codeHdIn X.K c P = true) (hB : X.base.BuiltinsAt X.mg P) (hgP : mainGlobals ≠ P)
    (hT : LamTab P pos (X.env.qual ++ "<lambda>") H)
    (h : ∀ (f c' : Addr) (H' : Hp) (s' : Shared) (pm ct : Value), Inv X pins σ H' s' → LamAt P pos (X.env.qual ++ "<lambda>") H' c' → s'.heap.get? f = some (kla_obj "<lambda>" (X.env.qual ++ "<lambda>") params body scope [] pm c' ct) → H' f = none → s.heap.objs.size ≤ f →
      (∀ b u, b ≠ P → H b = some u → H' b = some u) → Q (.ref f) s') :
    wpAny (model X.prog X.w) X.A (eval (.Lambda params body scope pos) X.env) Q X.xe s := by
  have C : CodeHd s.heap c P := codeHd_of_K I.kIn hK
  have hg : s.heap.Ns mainGlobals X.mg := I.mod.glob.keeps I.bk
  have hb : s.heap.BuiltinsAt X.mg P := by
    obtain ⟨bm, o, b1, b2, b3, b4, b5, b6, b7, b8⟩ := hB
    exact ⟨bm, o, b1, b2, b3, b4, I.bk _ _ b5, b6, b7, b8⟩
  refine kla_eval hdef ?_
  rcases hT with hP | ⟨c', hP, hc'⟩
  · have hPo : s.heap.get? P = some (tabObj #[]) := I.hok P _ hP
    refine kla_makeFunction hcl I.ok.glob hg hcode C hPo (show TriplesOk [] from trivial) rfl hgP hb fun c' ct h' tk hx hge hlt hrec htb => ?_
    have htb' : h'.get? P = some (tabObj #[rawInt pos.line, rawInt pos.col, .ref c']) := htb
    have hPc : P ≠ c' := fun z => by
      have := Heap.lt_size hPo
      rw [z] at this
      exact absurd (Nat.lt_of_lt_of_le this hge) (Nat.lt_irrefl _)
    have hHc : H c' = none := I.hok.fresh hge
    have old : ∀ b o, b ≠ P → s.heap.get? b = some o → (h'.push (kla_obj "<lambda>" (X.env.qual ++ "<lambda>") params body scope [] ((X.mg "__name__").getD .none) c' ct)).get? b = some o := fun b o hb e => Heap.get?_push_of_some _ (hx b o hb e)
    have nP : ∀ b, H b = none → b ≠ P := fun b n z => by rw [z, hP] at n; cases n
    have up : ∀ b u, b ≠ P → H b = some u → upd (upd H P (.tbl #[rawInt pos.line, rawInt pos.col, .ref c'])) c' (CodeO c' (X.env.qual ++ "<lambda>")) b = some u := fun b u hb e => by
      rw [upd_ne (fun z => by rw [z, hHc] at e; cases e), upd_ne hb]; exact e
    have upn : ∀ b, b ≠ P → b ≠ c' → H b = none → upd (upd H P (.tbl #[rawInt pos.line, rawInt pos.col, .ref c'])) c' (CodeO c' (X.env.qual ++ "<lambda>")) b = none := fun b h1 h2 e => by
      rw [upd_ne h2, upd_ne h1]; exact e
    have J : Inv X pins σ (upd (upd H P (.tbl #[rawInt pos.line, rawInt pos.col, .ref c'])) c' (CodeO c' (X.env.qual ++ "<lambda>"))) { s with heap := h'.push (kla_obj "<lambda>" (X.env.qual ++ "<lambda>") params body scope [] ((X.mg "__name__").getD .none) c' ct), toks := tk } := by
      refine I.un ⟨fun b o e n _ _ => old b o (nP b n) e, fun b o e n _ _ => ⟨o.slots, old b o (nP b n) e⟩, fun b o e n _ => upn b (nP b n) (Nat.ne_of_lt (Nat.lt_of_lt_of_le (Heap.lt_size e) hge)) n, fun b o e _ => ?_, fun b xs e => up b _ (fun z => by rw [z, hP] at e; cases e) e, fun b o u e => up b _ (fun z => by rw [z, hP] at e; cases e) e, fun b ps e => ?_⟩ ?_
      · by_cases hb : b = P
        · rw [hb]; exact ⟨_, Heap.get?_push_of_some _ htb'⟩
        · exact ⟨o, old b o hb e⟩
      · by_cases hb : b = P
        · rw [hb] at e ⊢
          rw [hP] at e
          cases e
          exact ⟨#[rawInt pos.line, rawInt pos.col, .ref c'], by rw [upd_ne hPc, upd_same]; rfl⟩
        · exact ⟨#[], by rw [up b _ hb e]; simp⟩
      · intro b u e
        by_cases hbc : b = c'
        · subst hbc
          rw [upd_same] at e
          cases e
          obtain ⟨c2, oc, vs, t, e1, e2, e3, e4⟩ := id hrec
          cases e1
          have q := Heap.get?_push_of_some (kla_obj "<lambda>" (X.env.qual ++ "<lambda>") params body scope [] ((X.mg "__name__").getD .none) b ct) e2
          refine ⟨⟨b, oc, vs, t, rfl, q, e3, e4⟩, ⟨oc, q⟩, fun h1 h2 ⟨c3, o3, v3, t3, a1, a2, a3, a4⟩ k => ?_⟩
          cases a1
          exact ⟨b, o3, v3, t3, rfl, k _ a2, a3, a4⟩
        · rw [upd_ne hbc] at e
          by_cases hbP : b = P
          · rw [hbP] at e ⊢
            rw [upd_same] at e
            cases e
            exact Heap.get?_push_of_some _ htb'
          · rw [upd_ne hbP] at e
            refine (I.hok b u e).stay (fun d v hd q => old d v ?_ q) (fun d q => ?_) fun d xs q => ?_
            · rcases hd with rfl | hd
              · exact hbP
              · intro z; rw [z, hP] at hd; cases hd
            · exact up d _ (fun z => by rw [z, hP] at q; cases q) q
            · exact up d _ (fun z => by rw [z, hP] at q; cases q) q
    have hsz : s.heap.objs.size ≤ h'.objs.size := Nat.le_of_lt (Nat.lt_of_le_of_lt hge hlt)
    refine h _ c' _ _ _ ct J ⟨by rw [upd_ne hPc, upd_same], upd_same⟩ (Heap.get?_push_size _ rfl) ?_ hsz up
    exact upn _ (Nat.ne_of_gt (Nat.lt_of_lt_of_le (Heap.lt_size hPo) hsz)) (Nat.ne_of_gt hlt) (I.hok.fresh hsz)
  · have hPo : s.heap.get? P = some (tabObj #[rawInt pos.line, rawInt pos.col, .ref c']) := I.hok P _ hP
    refine kla_makeFunctionHit hcl I.ok.glob hg hcode C hPo (show TriplesOk [rawInt pos.line, rawInt pos.col, .ref c'] from trivial) (cv := .ref c') ?_ hb fun ct h' tk hk hsz => ?_
    · have := codeAmong_snoc (pos := pos) (c := .ref c') [] trivial rfl
      exact this
    · exact h _ c' H _ _ ct (I.kept (t' := tk) fun b u e => Heap.get?_push_of_some _ (hk b u e)) ⟨hP, hc'⟩ (Heap.get?_push_size _ rfl) (I.hok.fresh hsz) hsz (fun b u _ e => e)
end
end L2
set_option Elab.async false
set_option linter.all false
set_option maxRecDepth 100000
namespace HT
def kLess (a b : List Int) : Bool := if a.length = b.length then lexLt a b else decide (a.length < b.length)
theorem kLess_irrefl (a : List Int) : kLess a a = false := by unfold kLess; rw [if_pos rfl, lexLt_irrefl]
theorem kLess_trans (a b c : List Int) (h1 : kLess a b = true) (h2 : kLess b c = true) : kLess a c = true := by
  unfold kLess at *
  by_cases e1 : a.length = b.length
  · rw [if_pos e1] at h1
    by_cases e2 : b.length = c.length
    · rw [if_pos e2] at h2
      rw [if_pos (e1.trans e2)]
      exact lexLt_trans a b c h1 h2
    · rw [if_neg e2] at h2
      rw [if_neg (by omega)]
      have := of_decide_eq_true h2
      exact decide_eq_true (by omega)
  · rw [if_neg e1] at h1
    have h1' := of_decide_eq_true h1
    by_cases e2 : b.length = c.length
    · rw [if_neg (by omega)]
      exact decide_eq_true (by omega)
    · rw [if_neg e2] at h2
      have := of_decide_eq_true h2
      rw [if_neg (by omega)]
      exact decide_eq_true (by omega)
theorem kLess_flip (a b : List Int) (h : a ≠ b) : kLess b a = !kLess a b := by
  unfold kLess
  by_cases e : a.length = b.length
  · rw [if_pos e, if_pos e.symm, lexLt_flip a b h]
  · rw [if_neg e, if_neg (Ne.symm e), Bool.eq_iff_iff]
    simp
    omega
theorem kOrd {ls : List (List Int)} (nd : ls.Nodup) : Ord (fun i j => kLess (ls.getD i []) (ls.getD j [])) ls.length := by
  have ge : ∀ i, (h : i < ls.length) → ls.getD i [] = ls[i] := fun i h => by rw [List.getD_eq_getElem?_getD, List.getElem?_eq_getElem h]; rfl
  refine ⟨fun i j k _ _ _ h1 h2 => kLess_trans _ _ _ h1 h2, fun i j hi hj hij h => ?_, fun i j hi hj h => ?_⟩
  · have ne : ls.getD i [] ≠ ls.getD j [] := fun z => by
      rw [ge i hi, ge j hj] at z
      exact hij ((List.getElem_inj nd).mp z)
    have := kLess_flip _ _ ne
    rw [h] at this
    exact this
  · cases e : kLess (ls.getD j []) (ls.getD i []) with
    | false => rfl
    | true =>
      have := kLess_trans _ _ _ h e
      rw [kLess_irrefl] at this
      cases this
end HT
namespace L2
open PySem PySem.Spec PyProof.Rows PySem.W
section
variable {X : Cx} {pins : List (Addr × Obj)} {σ : St} {H : Hp} {s : Shared}
theorem key_at (I : Inv X pins σ H s) {p z : Addr} {n : Int} (h : H p = some (.tup [.int n, .ref z])) : ∃ (t : Tok) (o : Obj) (m : Nat), s.heap.get? p = some o ∧ o.cls = .type "tuple" ∧ o.data = .seq #[.int n t, .ref z] m := by
  obtain ⟨_, its, r, o, e, hc, m, hd⟩ := I.hok p _ h
  cases r with
  | cons r1 r2 =>
    cases r2 with
    | cons r3 r4 =>
      cases r4
      obtain ⟨t, rfl⟩ := r1
      cases r3
      exact ⟨t, o, m, e, hc, hd⟩
theorem key_lt (I : Inv X pins σ H s) {A : Around} {p q za zb : Addr} {as bs : List Int} (hp : H p = some (.tup [.int as.length, .ref za])) (hq : H q = some (.tup [.int bs.length, .ref zb])) (ha : H za = some (.lst (as.map V.int))) (hb : H zb = some (.lst (bs.map V.int)))
    (hu : A.units + 2 < cLine) {Q : Bool → Shared → Prop} {E : Value → Shared → Prop} (h : Q (HT.kLess as bs) s) : wpAny (model X.prog X.w) A (keyLt' (tuples' true) (.ref p) (.ref q)) Q E s := by
  obtain ⟨t, o, m, e, _, hd⟩ := key_at I hp
  obtain ⟨t', o', m', e', _, hd'⟩ := key_at I hq
  refine kat_lt e hd e' hd' ?_
  refine kat_cons (wpAny_eqBool_int ?_)
  unfold HT.kLess at h
  by_cases hl : as.length = bs.length
  · rw [if_pos hl] at h
    have e1 : ((as.length : Int) == (bs.length : Int)) = true := by rw [hl]; simp
    rw [e1]
    refine kat_yes (kat_cons ?_)
    refine (tr_cmps I (A := A) 1 (t := tInts as) (u := tInts bs) (v := .ref za) (w := .ref zb) (by rw [tdep_tInts]; exact Nat.le_refl _) (TrAt.ints (SqL.of ha)) (TrAt.ints (SqL.of hb)) rfl rfl (by omega)).eq _ _ _ _ ?_
    rw [teq_ints]
    by_cases hab : as = bs
    · rw [decide_eq_true hab]
      refine kat_yes (kat_nil ?_)
      rw [hab, HT.lexLt_irrefl] at h
      exact h
    · rw [decide_eq_false hab]
      refine kat_no (kat_one _ _ ?_)
      obtain ⟨its, r1, p1, _⟩ := I.list (SqL.of ha)
      obtain ⟨its2, r2, p2, _⟩ := I.list (SqL.of hb)
      exact HT.lt_listInts p1.isList p2.isList (by simpa using intsAre_of r1) (by simpa using intsAre_of r2) (by omega) h
  · rw [if_neg hl] at h
    have e1 : ((as.length : Int) == (bs.length : Int)) = false := by simp; omega
    rw [e1]
    refine kat_no ?_
    refine oneLt_int ?_
    have : decide ((as.length : Int) < (bs.length : Int)) = decide (as.length < bs.length) := by
      rw [Bool.eq_iff_iff]; simp
    rw [this]
    exact h
end
end L2
set_option Elab.async false
set_option linter.all false
set_option maxRecDepth 100000
set_option maxHeartbeats 4000000
namespace L2
open PySem PySem.Spec PyProof.Rows PySem.W
section
variable {X : Cx} {pins : List (Addr × Obj)} {σ : St} {H : Hp} {s : Shared}
structure Late (X : Cx) (pins : List (Addr × Obj)) (n : Nat) (a : Addr) : Prop where
  s0 : X.s₀.heap.objs.size ≤ a
  lo : a ≠ X.env.locals
  ce : ∀ x c, X.env.cells.lookup x = some c → c ≠ a
  fs : a ∉ X.fs
  pn : ∀ p ∈ X.pn ++ pins, p.1 ≠ a
  ge : n ≤ a
theorem Inv.late (I : Inv X pins σ H s) {a : Addr} (h : s.heap.objs.size ≤ a) : Late X pins s.heap.objs.size a :=
  ⟨Nat.le_trans I.sz h, Nat.ne_of_gt (Nat.lt_of_lt_of_le I.lt h), fun x c e z => by
    obtain ⟨v, o, ho, _⟩ := I.cell x c e
    rw [z] at ho
    exact absurd (Nat.lt_of_lt_of_le (Heap.lt_size ho) h) (Nat.lt_irrefl _), I.nofs h, fun p hp z => by
    obtain ⟨e, _⟩ := I.pin p hp
    rw [z] at e
    exact absurd (Nat.lt_of_lt_of_le (Heap.lt_size e) h) (Nat.lt_irrefl _), h⟩
theorem Inv.tell {a : Addr} {xs : List V} {its : List Value} {n : Nat} {h' : Heap} {t' : Nat} (I : Inv X pins σ H s) {m : Nat} (L : Late X pins m a) (hn : H a = none) (k : ∀ b o, b ≠ a → s.heap.get? b = some o → h'.get? b = some o)
    (hv : Vals xs its) (hz : xs.length ≤ sizeLine) (ha : h'.get? a = some (seqObj "list" its.toArray n)) : Inv X pins σ (upd H a (.lst xs)) { s with heap := h', toks := t' } := by
  have na : ∀ b u, H b = some u → b ≠ a := fun b u e z => by rw [z, hn] at e; cases e
  refine I.step (g' := s.gens) (d' := s.drawn) (ch := [a]) (fun b hb => ?_) (fun b o _ _ hc e _ => k b o (fun z => hc (by simp [z])) e) (fun b o _ _ hc e _ => ⟨o.slots, k b o (fun z => hc (by simp [z])) e⟩) (fun b o hc e n => by rw [upd_ne (fun z => hc (by simp [z]))]; exact n)
    (fun b o hc e => ⟨o, k b o (fun z => hc (by simp [z])) e⟩) (fun b xs e => by rw [upd_ne (na b _ e)]; exact e) (fun b o u e => by rw [upd_ne (na b _ e)]; exact e) (fun b ps e => ⟨#[], by rw [upd_ne (na b _ e), e]; simp⟩) (fun m hm => ?_) (fun b u e => ?_) I.bare
  · have e : b = a := by simpa using hb
    subst e
    exact ⟨.inr L.s0, L.lo, L.ce, L.pn⟩
  · obtain ⟨o, es, ep, ho, r⟩ := hm
    exact ⟨o, es, ep, k _ o (Ne.symm L.lo) ho, r⟩
  · by_cases hb : b = a
    · subst hb
      rw [upd_same] at e
      cases e
      exact ⟨hz, its, n, hv, ha⟩
    · rw [upd_ne hb] at e
      refine (I.hok b u e).stay (fun c v hc q => k c v ?_ q) (fun c q => by rw [upd_ne (na c _ q)]; exact q) fun c xs q => by rw [upd_ne (na c _ q)]; exact q
      rcases hc with rfl | hc
      · exact hb
      · exact na c _ hc
def Keyed' (H : Hp) (zs : List (Addr × List Int)) (pl : List Addr) : Prop := ∀ j z, zs[j]? = some z → j < pl.length → ∃ p, pl[j]? = some p ∧ H p = some (.tup [.int z.2.length, .ref z.1])
theorem kat_tups (I : Inv X pins σ H s) : ∀ pl : List Addr, (∀ p ∈ pl, ∃ (n : Int) (z : Addr), H p = some (.tup [.int n, .ref z])) → ∃ fs : List Value, KatTups s.heap (pl.map Value.ref) fs ∧ fs.length = pl.length ∧ ∀ v ∈ fs, ∃ n t, v = Value.int n t
  | [], _ => ⟨[], KatTups.nil, rfl, fun v hv => by cases hv⟩
  | p :: pl, h => by
    obtain ⟨fs, h1, h2, h3⟩ := kat_tups I pl fun q hq => h q (.tail _ hq)
    obtain ⟨n, z, e⟩ := h p (.head _)
    obtain ⟨t, o, m, e1, e2, e3⟩ := key_at I e
    refine ⟨.int n t :: fs, KatTups.cons e1 e2 e3 rfl h1, by simp [h2], fun v hv => ?_⟩
    rcases List.mem_cons.mp hv with rfl | hv
    · exact ⟨n, t, rfl⟩
    · exact h3 v hv
theorem ksk_late {zs : List (Addr × List Int)} {f kS a : Addr} {fo : Obj} {e1 : Nat} {A : Around} {P : PySem.Fin → Shared → Prop} {E : Value → Shared → Prop} {n : Nat}
    (I : Inv X ((f, fo) :: (a, seqObj "list" #[] e1) :: pins) σ H s) (La : Late X pins n a) (Lk : Late X ((f, fo) :: (a, seqObj "list" #[] e1) :: pins) n kS) (hkS : s.heap.get? kS = some (seqObj "list" #[] 0)) (hkn : H kS = none)
    (hz : ∀ z ∈ zs, H z.1 = some (.lst (z.2.map V.int))) (nd : (zs.map (·.2)).Nodup) (h60 : zs.length ≤ 60) (hu : A.units + 2 < cLine)
    (turn : ∀ (H' : Hp) (s' : Shared) (pins' : List (Addr × Obj)) (z : Addr × List Int), Inv X pins' σ H' s' → (f, fo) ∈ pins' → Same H H' → z ∈ zs →
      wpAny (model X.prog X.w) A (call (.ref f) [.ref z.1]) (EP X pins' σ fun v H2 => ∃ p, v = .ref p ∧ H' p = none ∧ H2 = upd H' p (.tup [.int z.2.length, .ref z.1])) (fun _ _ => False) s')
    (done : ∀ (H' : Hp) (s' : Shared) (zs' : List (Addr × List Int)), Inv X pins σ (upd H' a (.lst (zs'.map fun z => V.ref z.1))) s' → Same H H' → H' a = none → zs'.Perm zs → zs'.Pairwise (fun x y => HT.kLess x.2 y.2 = true) → P (.done (.ret .none)) s') :
    wpAny (model X.prog X.w) A (ksk_rest a (.ref f) false (zs.map fun z => Value.ref z.1).toArray e1 (.ref kS)) P E s := by
  unfold ksk_rest
  refine wpAny_bind (wpAny_rule ?_)
  first
    | rw [List.forIn_toArray]
    | (rw [← Array.forIn_toList]; simp only [List.toList_toArray])
    | rw [← Array.forIn_toList]
  refine wpAny_bind (ksk_fold (fun i s' => ∃ (H' : Hp) (pl : List Addr) (e : Nat), Inv X ((f, fo) :: (a, seqObj "list" #[] e1) :: pins) σ H' s' ∧ s'.heap.get? kS = some (seqObj "list" (pl.map Value.ref).toArray e) ∧ H' kS = none ∧ pl.length = i ∧ Keyed' H' zs pl ∧ Same H H') (zs.map fun z => Value.ref z.1) 0 s
    ⟨H, [], 0, I, hkS, hkn, rfl, fun j z _ h => by simp at h, Same.refl _⟩ ?step ?fin)
  case step =>
    rintro j x s' hx ⟨H', pl, e, I', hk', hkn', hpl, hkeys, sm⟩
    rw [Nat.zero_add] at hpl ⊢
    rw [List.getElem?_map] at hx
    obtain ⟨z, hzj, ez⟩ := Option.map_eq_some_iff.mp hx
    subst ez
    have hzm := List.mem_of_getElem? hzj
    have hj : j < zs.length := (List.getElem?_eq_some_iff.mp hzj).1
    have I2 : Inv X ((kS, seqObj "list" (pl.map Value.ref).toArray e) :: (f, fo) :: (a, seqObj "list" #[] e1) :: pins) σ H' s' := I'.pins_of fun p hp => by
      rcases List.mem_cons.mp hp with rfl | hp
      · exact ⟨hk', hkn', Lk.lo, Lk.fs, fun v z => by cases z⟩
      · exact I'.pin p (List.mem_append_right _ hp)
    refine wpAny_bind (wpAny_attempt (wpAny_mono (turn H' s' _ z I2 (by simp) sm hzm) (fun v s'' he => ?_) fun _ _ hF => hF.elim))
    obtain ⟨v', H2, I3, rv, p, rfl, hpf, rfl⟩ := he
    cases rv
    have pk := I3.pin (kS, seqObj "list" (pl.map Value.ref).toArray e) (List.mem_append_right _ (.head _))
    have I4 : Inv X ((f, fo) :: (a, seqObj "list" #[] e1) :: pins) σ (upd H' p (.tup [.int z.2.length, .ref z.1])) s'' := I3.pins_of fun q hq => I3.pin q (List.mem_append_right _ (.tail _ hq))
    obtain ⟨c2, hc2⟩ : ∃ c2, (s''.heap.update kS (Obj.mapSeq (·.push (.ref p)))).get? kS = some (seqObj "list" ((pl.map Value.ref).toArray.push (.ref p)) c2) := ⟨_, get?_update_seq pk.1 (·.push (.ref p))⟩
    have hsl : (pl.map Value.ref).toArray.size ≤ 60 := by rw [List.size_toArray, List.length_map]; omega
    dsimp only
    refine wpAny_bind (listUpdate_at pk.1 rfl ?_ (Nat.le_trans hsl (by decide)) (by rw [Array.size_push]; exact Nat.le_trans (Nat.succ_le_succ hsl) (by decide)))
    refine wpAny_pure ⟨rfl, _, pl ++ [p], c2, I4.turned (t' := s''.toks) (fun b o hb q => ?_) pk.2.1 Lk.lo (.inr Lk.s0) Lk.ce Lk.pn, ?_, pk.2.1, by rw [List.length_append, List.length_singleton, hpl], fun i y hy hi => ?_, sm.trans (same_upd hpf)⟩
    · rw [Heap.get?_update_other _ _ (Ne.symm hb)]; exact q
    · rw [hc2]; simp
    · by_cases hlt : i < pl.length
      · obtain ⟨p', e1', e2'⟩ := hkeys i y hy hlt
        exact ⟨p', by rw [List.getElem?_append_left hlt]; exact e1', by rw [upd_ne (ne_of_none e2' hpf)]; exact e2'⟩
      · have ei : i = pl.length := by rw [List.length_append, List.length_singleton] at hi; omega
        have ej : i = j := by omega
        rw [ej, hzj] at hy
        cases hy
        exact ⟨p, by rw [ei]; simp, upd_same⟩
  case fin =>
    rintro s' ⟨H', pl, e, I', hk', hkn', hpl, hkeys, sm⟩
    rw [Nat.zero_add, List.length_map] at hpl
    try dsimp only
    refine wpAny_bind (listItems_at hk' rfl ?_)
    have ga := I'.pin (a, seqObj "list" #[] e1) (List.mem_append_right _ (.tail _ (.head _)))
    have Ip : Inv X pins σ H' s' := I'.pins_of fun q hq => I'.pin q (by
      rcases List.mem_append.mp (List.mem_append_right X.pn hq) with h | h
      · exact List.mem_append_left _ h
      · exact List.mem_append_right _ (.tail _ (.tail _ h)))
    have nka : kS ≠ a := fun z => Lk.pn (a, seqObj "list" #[] e1) (List.mem_append_right _ (.tail _ (.head _))) z.symm
    have tail : ∀ (st : SortSt) (zs' : List (Addr × List Int)), (arrOf st).map (·.2) = (zs'.map fun z => Value.ref z.1).toArray → failedOf st = none → zs'.Perm zs → zs'.Pairwise (fun x y => HT.kLess x.2 y.2 = true) →
        wpAny (model X.prog X.w) A (ksk_tail a false e1 (.ref kS) st) P E s' := by
      intro st zs' hout hfl pm pw
      have hlen : zs'.length ≤ 60 := by rw [pm.length_eq]; exact h60
      have s1 := Heap.SameBut.update s'.heap kS (Obj.mapSeq fun _ => (#[] : Array Value))
      have na1 : (s'.heap.update kS (Obj.mapSeq fun _ => (#[] : Array Value))).get? a = some (seqObj "list" #[] e1) := (s1.2 a nka.symm).trans ga.1
      obtain ⟨c2, hc2⟩ : ∃ c2, ((s'.heap.update kS (Obj.mapSeq fun _ => (#[] : Array Value))).update a (Obj.mapSeq fun _ => (zs'.map fun z => Value.ref z.1).toArray)).get? a = some (seqObj "list" (zs'.map fun z => Value.ref z.1).toArray c2) :=
        ⟨_, get?_update_seq na1 fun _ => (zs'.map fun z => Value.ref z.1).toArray⟩
      have I5 : Inv X pins σ H' { s' with heap := s'.heap.update kS (Obj.mapSeq fun _ => (#[] : Array Value)), toks := s'.toks } := Ip.turned (fun b o hb q => by rw [Heap.get?_update_other _ _ (Ne.symm hb)]; exact q) hkn' Lk.lo (.inr Lk.s0) Lk.ce (fun q hq => Lk.pn q (by
        rcases List.mem_append.mp hq with h | h
        · exact List.mem_append_left _ h
        · exact List.mem_append_right _ (.tail _ (.tail _ h))))
      have I6 := I5.tell (t' := s'.toks) (h' := (s'.heap.update kS (Obj.mapSeq fun _ => (#[] : Array Value))).update a (Obj.mapSeq fun _ => (zs'.map fun z => Value.ref z.1).toArray)) La ga.2.1 (fun b o hb q => by rw [Heap.get?_update_other _ _ (Ne.symm hb)]; exact q) (refs_vals zs') (by rw [List.length_map]; exact Nat.le_trans hlen (by decide)) hc2
      unfold ksk_tail
      try dsimp only
      refine wpAny_bind (listUpdate_at hk' rfl ?_ (by rw [List.size_toArray, List.length_map, hpl]; exact Nat.le_trans h60 (by decide)) (Nat.zero_le _))
      refine wpAny_bind (wpAny_letGo ?_)
      refine wpAny_bind (seqEpoch_at na1 rfl ?_)
      simp only [Bool.false_eq_true, if_false]
      rw [hout]
      refine wpAny_bind (listUpdate_at na1 rfl ?_ (Nat.zero_le _) (by rw [List.size_toArray, List.length_map]; exact Nat.le_trans hlen (by decide)))
      rw [hfl]
      simp only [bne_self_eq_false, Bool.false_eq_true, if_false]
      exact wpAny_pure (done H' _ zs' I6 sm ga.2.1 pm pw)
    unfold ksk_end
    try dsimp only
    simp only [Bool.false_eq_true, if_false]
    have hvl : (zs.map fun z => Value.ref z.1).toArray.size = zs.length := by rw [List.size_toArray, List.length_map]
    by_cases h2 : (zs.map fun z => Value.ref z.1).toArray.size < 2
    · rw [if_pos h2, if_pos h2]
      refine wpAny_bind (wpAny_pure ?_)
      rw [StateT.run_pure]
      refine wpAny_bind (wpAny_pure ?_)
      try dsimp only
      refine tail _ zs ?_ rfl (List.Perm.refl _) ?_
      · show (((pl.map Value.ref).toArray.zip (zs.map fun z => Value.ref z.1).toArray).map (·.2)) = _
        apply Array.toList_inj.mp
        rw [Array.toList_map, Array.toList_zip, List.map_snd_zip (by simp [hpl])]
      · rw [hvl] at h2
        match zs, h2 with
        | [], _ => exact .nil
        | [_], _ => exact List.pairwise_singleton _ _
    · rw [if_neg h2, if_neg h2]
      rw [hvl] at h2
      have hkl : (pl.map Value.ref).length = (zs.map fun z => Value.ref z.1).length := by rw [List.length_map, List.length_map, hpl]
      have hk2 : ∀ j, j < zs.length → ∃ p, pl[j]? = some p ∧ H' p = some (.tup [.int (zs.getD j (0, [])).2.length, .ref (zs.getD j (0, [])).1]) ∧ zs.getD j (0, []) ∈ zs := fun j hj => by
        have e : zs.getD j (0, []) = zs[j] := by rw [List.getD_eq_getElem?_getD, List.getElem?_eq_getElem hj]; rfl
        rw [e]
        obtain ⟨p, e1, e2⟩ := hkeys j zs[j] (List.getElem?_eq_getElem hj) (by omega)
        exact ⟨p, e1, e2, List.getElem_mem hj⟩
      obtain ⟨fs, ht, hfl, hfi⟩ := kat_tups I' pl fun p hp => by
        obtain ⟨j, hj, rfl⟩ := List.getElem_of_mem hp
        obtain ⟨p', e1, e2, _⟩ := hk2 j (by omega)
        rw [List.getElem?_eq_getElem hj] at e1
        cases e1
        exact ⟨_, _, e2⟩
      refine wpAny_bind (kat_kind (T := .type "int") ht (by omega) (fun v hv => ?_) (by decide) ?_)
      · obtain ⟨n, t, rfl⟩ := hfi v hv
        exact Looks.of_pure rfl
      have ls2 : (zs.map (·.2)).length = zs.length := List.length_map ..
      have ask : (kas_sort (zs.map fun z => Value.ref z.1).length).kasWp (kas_ask X.prog X.w A (tuples' true) (pl.map Value.ref)) (fun p s'' => s'' = s' ∧ (HT.Pm zs.length p ∧ HT.Up (fun i j => HT.kLess ((zs.map (·.2)).getD i []) ((zs.map (·.2)).getD j [])) p zs.length)) s' := by
        rw [List.length_map]
        have O := HT.kOrd nd
        rw [ls2] at O
        refine HT.KW.wp (n := zs.length) (fun i j C hi hj hC => ?_) _ (HT.sortG O (by omega))
        obtain ⟨p, e1, e2, e3⟩ := hk2 i hi
        obtain ⟨q, d1, d2, d3⟩ := hk2 j hj
        have ei : (zs.map (·.2)).getD i [] = (zs.getD i (0, [])).2 := by rw [List.getD_eq_getElem?_getD, List.getD_eq_getElem?_getD, List.getElem?_map, List.getElem?_eq_getElem hi]; rfl
        have ej : (zs.map (·.2)).getD j [] = (zs.getD j (0, [])).2 := by rw [List.getD_eq_getElem?_getD, List.getD_eq_getElem?_getD, List.getElem?_map, List.getElem?_eq_getElem hj]; rfl
        have gi : (pl.map Value.ref).getD i Value.none = .ref p := by rw [List.getD_eq_getElem?_getD, List.getElem?_map, e1]; rfl
        have gj : (pl.map Value.ref).getD j Value.none = .ref q := by rw [List.getD_eq_getElem?_getD, List.getElem?_map, d1]; rfl
        unfold kas_ask
        rw [gi, gj]
        refine key_lt I' e2 d2 (sm _ _ (hz _ e3)) (sm _ _ (hz _ d3)) hu ?_
        try dsimp only at hC
        rw [ei, ej] at hC
        exact hC
      have eT : (Value.type "int" != Value.type "tuple") = true := by decide
      rw [eT]
      refine wpAny_bind (wpAny_mono (kat_run (ks := pl.map Value.ref) (vs := zs.map fun z => Value.ref z.1) (Q := fun st' s'' => ∃ p : Array Nat, s'' = s' ∧ arrOf st' = p.map (kas_item ((pl.map Value.ref).toArray.zip (zs.map fun z => Value.ref z.1).toArray)) ∧ failedOf st' = none ∧ HT.Pm zs.length p ∧ HT.Up (fun i j => HT.kLess ((zs.map (·.2)).getD i []) ((zs.map (·.2)).getD j [])) p zs.length)
        hkl (by rw [List.length_map]; omega) (by rw [List.length_map]; omega) (fun p st' s'' _ a2 a3 a4 => ⟨p, a4.1, a2, a3, a4.2⟩) ask) ?_ fun _ _ e => e)
      rintro ⟨⟨⟩, st'⟩ s'' ⟨p, rfl, har, hfl2, hpm, hup⟩
      try dsimp only
      have hout := kat_snds hkl har
      have hpl2 : p.toList.length = zs.length := by rw [hpm.pm.length_eq, List.length_range]
      refine tail st' (p.toList.map fun i => zs.getD i (0, [])) ?_ hfl2 (HT.perm_getD _ zs hpm.pm) ?_
      · rw [hout, List.map_map]
        congr 1
        refine List.map_congr_left fun i hi => ?_
        have hi' := List.mem_range.mp (hpm.pm.mem_iff.mp hi)
        show _ = Value.ref (zs.getD i (0, [])).1
        rw [List.getD_eq_getElem?_getD, List.getD_eq_getElem?_getD, List.getElem?_map, List.getElem?_eq_getElem hi']; rfl
      · rw [List.pairwise_map, List.pairwise_iff_getElem]
        intro i j hi hj hij
        have q1 := hup i j hij (by omega)
        have e1 : p.getD i 0 = p.toList[i] := by
          have : i < p.size := by rw [hpm.sz]; omega
          simp [Array.getD, this]
        have e2 : p.getD j 0 = p.toList[j] := by
          have : j < p.size := by rw [hpm.sz]; omega
          simp [Array.getD, this]
        rw [e1, e2] at q1
        have m1 := List.mem_range.mp (hpm.pm.mem_iff.mp (List.getElem_mem hi))
        have m2 := List.mem_range.mp (hpm.pm.mem_iff.mp (List.getElem_mem hj))
        have ei : (zs.map (·.2)).getD p.toList[i] [] = (zs.getD p.toList[i] (0, [])).2 := by rw [List.getD_eq_getElem?_getD, List.getD_eq_getElem?_getD, List.getElem?_map, List.getElem?_eq_getElem m1]; rfl
        have ej : (zs.map (·.2)).getD p.toList[j] [] = (zs.getD p.toList[j] (0, [])).2 := by rw [List.getD_eq_getElem?_getD, List.getD_eq_getElem?_getD, List.getElem?_map, List.getElem?_eq_getElem m2]; rfl
        try dsimp only at q1
        rw [ei, ej] at q1
        exact q1
end
end L2
set_option Elab.async false
set_option linter.all false
set_option maxRecDepth 100000
set_option maxHeartbeats 4000000
namespace L2
open PySem PySem.Spec PyProof.Rows PySem.W
section
variable {X : Cx} {pins : List (Addr × Obj)} {σ : St} {H : Hp} {s : Shared}
theorem sorted_late {zs : List (Addr × List Int)} {f l : Addr} {fo : Obj} {Q : VK} (I : Inv X ((f, fo) :: pins) σ H s) (hl : H l = some (.lst (zs.map fun z => V.ref z.1))) (hz : ∀ z ∈ zs, H z.1 = some (.lst (z.2.map V.int))) (nd : (zs.map (·.2)).Nodup) (h60 : zs.length ≤ 60)
    (hu : X.A.in1.in1.units + 2 < cLine)
    (turn : ∀ (H' : Hp) (s' : Shared) (pins' : List (Addr × Obj)) (z : Addr × List Int), Inv X pins' σ H' s' → (f, fo) ∈ pins' → Same H H' → z ∈ zs →
      wpAny (model X.prog X.w) X.A.in1.in1 (call (.ref f) [.ref z.1]) (EP X pins' σ fun v H2 => ∃ p, v = .ref p ∧ H' p = none ∧ H2 = upd H' p (.tup [.int z.2.length, .ref z.1])) (fun _ _ => False) s')
    (q : ∀ (D : Addr) (H' : Hp) (zs' : List (Addr × List Int)), H D = none → Same H H' → H' D = none → zs'.Perm zs → zs'.Pairwise (fun x y => HT.kLess x.2 y.2 = true) → Q (.ref D) (upd H' D (.lst (zs'.map fun z => V.ref z.1)))) :
    wpAny (model X.prog X.w) X.A (call (.builtin "sorted") [.ref l] [(Str.ofString "key", .ref f)]) (EP X pins σ Q) X.xe s := by
  obtain ⟨its, r1, p1, _⟩ := I.list (SqL.of hl)
  have e1 := vals_refs r1
  subst e1
  have hvl : (zs.map fun z => Value.ref z.1).length = zs.length := List.length_map ..
  have hsl : (zs.map fun z => Value.ref z.1).length ≤ sizeLine := by rw [hvl, sizeLine_eq]; omega
  refine call_function_entry_kw kind_sorted plain_sorted entry_sorted (ksk_s1 _ _) ?_
  unfold Builtin.«sorted»
  refine wpAny_bind (m := checkCount "sorted" 1 1 _) (wpAny_pure (wpAny_bind (collect_list p1.isList (wpAny_bind (wpAny_newList ?_ hsl)) hsl)))
  generalize hB : (s.heap.push (seqObj "list" #[] 0)).update s.heap.objs.size (Obj.mapSeq (· ++ (zs.map fun z => Value.ref z.1).toArray)) = B
  have hsz : B.objs.size = s.heap.objs.size + 1 := by rw [← hB, Heap.size_update, size_push']
  have keep : ∀ b o, s.heap.get? b = some o → (B.push (seqObj "list" (zs.map fun z => Value.ref z.1).toArray 0)).get? b = some o := fun b o q => by
    have hlt : b < s.heap.objs.size := Heap.lt_size q
    rw [Heap.get?_push_ne _ _ _ (by rw [hsz]; exact Nat.ne_of_lt (Nat.lt_succ_of_lt hlt)), ← hB, Heap.get?_update_ne _ _ _ _ (Nat.ne_of_lt hlt), Heap.get?_push_ne _ _ _ (Nat.ne_of_lt hlt)]; exact q
  have hoL : (B.push (seqObj "list" (zs.map fun z => Value.ref z.1).toArray 0)).get? (s.heap.objs.size + 1) = some (seqObj "list" (zs.map fun z => Value.ref z.1).toArray 0) := by
    rw [← hsz]; exact Heap.get?_push_size _ rfl
  have hszB : (B.push (seqObj "list" (zs.map fun z => Value.ref z.1).toArray 0)).objs.size = s.heap.objs.size + 2 := by rw [size_push', hsz]
  show wpAny _ _ _ _ _ { s with heap := B.push (seqObj "list" (zs.map fun z => Value.ref z.1).toArray 0) }
  dsimp only
  rw [hsz]
  refine wpAny_bind (wpAny_holding (wpAny_call_entry_kw slot_list_sort ⟨_, hoL, rfl⟩ entry_list_sort ?body (ksk_l1 _ _)))
  case body =>
    show wpAny (model X.prog X.w) X.A.in1.in1 (Builtin.«list.sort» ⟨[.ref (s.heap.objs.size + 1)], [(Str.ofString "key", .ref f)]⟩) _ _ _
    rw [ksk_t1]
    unfold ksk_tree
    generalize hG : B.push (seqObj "list" (zs.map fun z => Value.ref z.1).toArray 0) = G at keep hoL hszB
    generalize hLd : s.heap.objs.size + 1 = L at hoL
    have hLG : L < G.objs.size := Heap.lt_size hoL
    obtain ⟨e1, ho1⟩ : ∃ e1, (G.update L (Obj.mapSeq fun _ => (#[] : Array Value))).get? L = some (seqObj "list" #[] e1) := ⟨_, get?_update_seq hoL fun _ => #[]⟩
    refine wpAny_bind (listItems_at (s := { s with heap := G }) hoL rfl ?_)
    refine wpAny_bind (listUpdate_at (s := { s with heap := G }) hoL rfl ?_ (by rw [List.size_toArray]; exact hsl) (Nat.zero_le _))
    refine wpAny_bind (seqEpoch_at ho1 rfl ?_)
    refine wpAny_bind (wpAny_newTuple ?_ (by show (zs.map fun z => Value.ref z.1).length ≤ _; exact hsl))
    refine wpAny_bind (wpAny_newList ?_ (Nat.zero_le _))
    refine wpAny_holding ?_
    generalize hM : (G.update L (Obj.mapSeq fun _ => (#[] : Array Value))).push (seqObj "tuple" (zs.map fun z => Value.ref z.1).toArray 0) = M
    have hMs : M.objs.size = s.heap.objs.size + 3 := by rw [← hM, size_push', Heap.size_update, hszB]
    have hkS : (M.push (seqObj "list" #[] 0)).get? (s.heap.objs.size + 3) = some (seqObj "list" #[] 0) := by rw [← hMs]; exact Heap.get?_push_size _ rfl
    have hL2 : (M.push (seqObj "list" #[] 0)).get? L = some (seqObj "list" #[] e1) := Heap.get?_push_of_some _ (by rw [← hM]; exact Heap.get?_push_of_some _ ho1)
    have keep2 : ∀ b o, s.heap.get? b = some o → (M.push (seqObj "list" #[] 0)).get? b = some o := fun b o q => by
      have hlt : b < s.heap.objs.size := Heap.lt_size q
      refine Heap.get?_push_of_some _ ?_
      rw [← hM]
      refine Heap.get?_push_of_some _ ?_
      rw [Heap.get?_update_ne _ _ _ _ (by rw [← hLd]; exact Nat.ne_of_lt (Nat.lt_succ_of_lt hlt))]
      exact keep b o q
    have La0 := I.late (a := L) (by rw [← hLd]; exact Nat.le_succ _)
    have Lk0 := I.late (a := s.heap.objs.size + 3) (by omega)
    have I1 : Inv X ((f, fo) :: pins) σ H { s with heap := M.push (seqObj "list" #[] 0), toks := s.toks } := I.kept keep2
    have hLn : H L = none := I.hok.fresh (by rw [← hLd]; exact Nat.le_succ _)
    have I2 : Inv X ((f, fo) :: (L, seqObj "list" #[] e1) :: pins) σ H { s with heap := M.push (seqObj "list" #[] 0), toks := s.toks } := I1.pins_of fun p hp => by
      rcases List.mem_cons.mp hp with rfl | hp
      · exact I1.pin _ (List.mem_append_right _ (.head _))
      · rcases List.mem_cons.mp hp with rfl | hp
        · exact ⟨hL2, hLn, La0.lo, La0.fs, fun v z => by cases z⟩
        · exact I1.pin p (List.mem_append_right _ (.tail _ hp))
    have La : Late X pins s.heap.objs.size L := ⟨La0.s0, La0.lo, La0.ce, La0.fs, fun p hp => La0.pn p (by
      rcases List.mem_append.mp hp with h | h
      · exact List.mem_append_left _ h
      · exact List.mem_append_right _ (.tail _ h)), La0.ge⟩
    have Lk : Late X ((f, fo) :: (L, seqObj "list" #[] e1) :: pins) s.heap.objs.size (s.heap.objs.size + 3) := ⟨Lk0.s0, Lk0.lo, Lk0.ce, Lk0.fs, fun p hp => by
      rcases List.mem_append.mp hp with h | h
      · exact Lk0.pn p (List.mem_append_left _ h)
      · rcases List.mem_cons.mp h with rfl | h
        · exact Lk0.pn _ (List.mem_append_right _ (.head _))
        · rcases List.mem_cons.mp h with rfl | h
          · show L ≠ _
            rw [← hLd]; omega
          · exact Lk0.pn p (List.mem_append_right _ (.tail _ h)), Lk0.ge⟩
    rw [hMs]
    refine ksk_late (s := { s with heap := M.push (seqObj "list" #[] 0) }) I2 La Lk hkS (I.hok.fresh (by omega)) hz nd h60 hu turn fun H' s' zs' I' sm hn pm pw => ⟨_, rfl, ?_⟩
    exact wpAny_pure ⟨_, rfl, .ref L, _, I', rfl, q L H' zs' hLn sm hn pm pw⟩
end
end L2
set_option Elab.async false
set_option linter.all false
set_option maxRecDepth 100000
set_option maxHeartbeats 4000000
namespace L2
open PySem PySem.Spec PyProof.Rows PySem.W
section
variable {X : Cx} {σ : St} {H : Hp} {s : Shared} {params : Arguments} {body : Expr} {scope : Scope} {pos lpos kpos p : Pos} {c P : Addr} {y : Str} {e : Expr} {te : TE}
theorem lam_turn {pins : List (Addr × Obj)} {f c' : Addr} {q : Str} {pm ct : Value} {k : Nat} {v : V} {u : Value} {Q : VK} (I : Inv X pins σ H s) (hf : (f, kla_obj "<lambda>" q params body scope [] pm c' ct) ∈ pins) (hL : LamAt P lpos q H c') (S : FnScope [y] [y] scope) (hr : Room (k + 1) X.A.in1.in1)
    (hb : ∀ (pm ct : Value) (u : Value), bindArgs (kla_fn "<lambda>" q params body scope [] pm (.ref c') ct) ⟨[u], []⟩ = pure [(y, u)]) (rv : RelV v u)
    (hbody : ∃ t, PE (cxOf CX0 X.prog X.w X.K X.mg X.base [y] q scope f (.ref c') X.A.in1.in1 X.stack s H E0) body t ∧ t (start [y] [v]) H Q) :
    wpAny (model X.prog X.w) X.A.in1.in1 (call (.ref f) [u]) (EP X pins σ Q) (fun _ _ => False) s := by
  have pf := I.pin _ (List.mem_append_right X.pn hf)
  have hcd : s.heap.CodeRec (.ref c') q := (I.hok c' _ hL.2).1
  refine wpAny_call (codeAny_mono (lam_run (k := k) (N := [y]) (ps := [y]) (us := [u]) (vs := [v]) (E := E0) pf.1 rfl hcd S hr I.env0.in1.in1 (BindsTo.of_eq (hb pm ct u)) rfl (.cons rv .nil) hbody) fun r s' hq => ?_)
  cases r with
  | error e => exact hq
  | ok fl =>
    cases fl with
    | ret u => exact I.after hq
    | next => exact False.elim hq
    | brk => exact False.elim hq
    | cont => exact False.elim hq
def tSortKey (P : Addr) (lpos : Pos) (q : Str) (te : TE) : TE := fun σ H Q => te σ H fun x H1 => ∃ (l : Addr) (zs : List (Addr × List Int)), x = .ref l ∧ H1 l = some (.lst (zs.map fun z => V.ref z.1)) ∧ (∀ z ∈ zs, H1 z.1 = some (.lst (z.2.map V.int))) ∧ (zs.map (·.2)).Nodup ∧ zs.length ≤ 60 ∧ LamTab P lpos q H1 ∧
  ∀ (D : Addr) (zs' : List (Addr × List Int)) (H2 : Hp), H1 D = none → H2 D = none → (∀ b u, b ≠ P → H1 b = some u → H2 b = some u) → LamTab P lpos q H2 → zs'.Perm zs → zs'.Pairwise (fun x y => HT.kLess x.2 y.2 = true) → Q (.ref D) (upd H2 D (.lst (zs'.map fun z => V.ref z.1)))
theorem pe_sortKey {k : Nat} (he : PE X e te) (hg : Gl X "sorted") (hm : X.mg "sorted" = none) (hr : Room (k + 3) X.A) (hdef : defaultsOf params X.env = ([], [])) (hcl : closureFor scope X.env = pure []) (hcode : X.env.code = .ref c) (hK : codeHdIn X.K c P = true) (hB : X.base.BuiltinsAt X.mg P) (hgP : mainGlobals ≠ P)
    (S : FnScope [y] [y] scope) (hb : ∀ (pm cd ct : Value) (u : Value), bindArgs (kla_fn "<lambda>" (X.env.qual ++ "<lambda>") params body scope [] pm cd ct) ⟨[u], []⟩ = pure [(y, u)])
    (hbody : ∀ (f c' : Addr) (s : Shared) (H : Hp) (z : Addr × List Int), H z.1 = some (.lst (z.2.map V.int)) → ∃ t, PE (cxOf CX0 X.prog X.w X.K X.mg X.base [y] (X.env.qual ++ "<lambda>") scope f (.ref c') X.A.in1.in1 X.stack s H E0) body t ∧
      t (start [y] [.ref z.1]) H fun v H2 => ∃ p, v = .ref p ∧ H p = none ∧ H2 = upd H p (.tup [.int z.2.length, .ref z.1]))
    (hs1 : starEach [e] X.env = [(false, eval e X.env)] := by rfl) :
    PE X (.Call (.Name "sorted" p) [e] [⟨some "key", .Lambda params body scope lpos, kpos⟩] pos) (tSortKey P lpos (X.env.qual ++ "<lambda>") te) := by
  intro pins s σ H Q I h
  refine wpAny_Call_Name_kw (ld_blt I hg hm boot_sorted ?_ (by decide) (by decide))
  have ha : PA X [e] (tCons te tNil) := pa_cons he pa_nil hs1
  refine callWith_kw (thn (ha pos pins s σ H (fun vs H1 => match vs with
    | [x] => ∃ (l : Addr) (zs : List (Addr × List Int)), x = .ref l ∧ H1 l = some (.lst (zs.map fun z => V.ref z.1)) ∧ (∀ z ∈ zs, H1 z.1 = some (.lst (z.2.map V.int))) ∧ (zs.map (·.2)).Nodup ∧ zs.length ≤ 60 ∧ LamTab P lpos (X.env.qual ++ "<lambda>") H1 ∧
      ∀ (D : Addr) (zs' : List (Addr × List Int)) (H2 : Hp), H1 D = none → H2 D = none → (∀ b u, b ≠ P → H1 b = some u → H2 b = some u) → LamTab P lpos (X.env.qual ++ "<lambda>") H2 → zs'.Perm zs → zs'.Pairwise (fun x y => HT.kLess x.2 y.2 = true) → Q (.ref D) (upd H2 D (.lst (zs'.map fun z => V.ref z.1)))
    | _ => False) I h) fun us s1 ⟨vs, H1, I1, r1, q1⟩ => ?_) (by rw [hs1]; rfl) (by rw [hs1]; rfl)
  match vs, q1 with
  | [x], q1 =>
    obtain ⟨l, zs, rfl, hl, hz, nd, h60, hT, q⟩ := q1
    obtain ⟨u, rfl, rx⟩ := vals1 r1
    cases rx
    show wpAny _ _ (evalAll ((do let v ← eval (.Lambda params body scope lpos) X.env; standAt pos; pure v) :: [])) _ _ s1
    refine wpAny_evalAll_cons (wpAny_bind (lam_make I1 hdef hcl hcode hK hB hgP hT fun f c' H2 s2 pm ct I2 hL hfo hfn hsz up => wpAny_bind (wpAny_standAt (wpAny_pure ?_))))
    refine wpAny_evalAll_nil ?_
    have Lf := I1.late hsz
    have I3 : Inv X ((f, kla_obj "<lambda>" (X.env.qual ++ "<lambda>") params body scope [] pm c' ct) :: pins) σ H2 s2 := I2.pins_of fun p hp => by
      rcases List.mem_cons.mp hp with rfl | hp
      · exact ⟨hfo, hfn, Lf.lo, Lf.fs, fun v z => by cases z⟩
      · exact I2.pin p (List.mem_append_right _ hp)
    have hPl : ∀ b xs, H1 b = some (.lst xs) → b ≠ P := fun b xs e z => by
      rw [z] at e
      rcases hT with t | ⟨c2, t, _⟩
      · rw [t] at e; cases e
      · rw [t] at e; cases e
    have hr2 : Room (k + 1) X.A.in1.in1 := (hr.in1).in1
    show wpAny _ _ (call (.builtin "sorted") [.ref l] [(Str.ofString "key", .ref f)]) _ _ s2
    refine sorted_late I3 (up _ _ (hPl _ _ hl) hl) (fun z hzm => up _ _ (hPl _ _ (hz z hzm)) (hz z hzm)) nd h60 (by have := hr2.units; omega) (fun H' s' pins' z I' hf sm hzm => ?_) fun D H' zs' hD sm hn pm pw => ?_
    · have hL' : LamAt P lpos (X.env.qual ++ "<lambda>") H' c' := ⟨sm _ _ hL.1, sm _ _ hL.2⟩
      exact lam_turn (v := .ref z.1) I' hf hL' S hr2 (fun pm ct u => hb pm (.ref c') ct u) rfl (hbody f c' s' H' z (sm _ _ (up _ _ (hPl _ _ (hz z hzm)) (hz z hzm))))
    · refine q D zs' H' ?_ hn (fun b u hb e => sm _ _ (up b u hb e)) (.inr ⟨c', sm _ _ hL.1, sm _ _ hL.2⟩) pm pw
      cases e : H1 D with
      | none => rfl
      | some u =>
        by_cases hDP : D = P
        · rw [hDP, hL.1] at hD; cases hD
        · rw [up D u hDP e] at hD; cases hD
end
end L2
set_option Elab.async false
set_option linter.all false
set_option maxRecDepth 100000
set_option maxHeartbeats 4000000
namespace L2
open PySem PySem.Spec PyProof.Rows PySem.W
theorem law_callP {P : Program} {w : World} {K : Frag} {mg mb : Str → Option Value} {CX : CXT} {k : Nat} {fa a c T : Addr} {fd : FuncData} {x : Str} {sp : Sp} {s₁ : Shared} {vs : List Value} {ns : List Int}
    (KX : K.In s₁.heap) (hns : s₁.heap.Ns mainGlobals mg) (hb : s₁.heap.Ns builtinsNs mb) (hbb : ∀ x : Str, x ≠ "__name__" → mb x = bootBuiltins x) (hlim : s₁.heap.NoLimit) (hg : s₁.gens = #[])
    (hBM : ∃ bm ob, mg "__builtins__" = some (.ref bm) ∧ bm ≠ builtinsNs ∧ s₁.heap.get? bm = some ob ∧ ob.cls = .type "module" ∧ ob.dict = some builtinsNs ∧ ob.data = .plain)
    (hT : s₁.heap.get? T = some (tabObj #[])) (hKT : K.lookup T = none) (hcT : codeHdIn K c T = true)
    (ha : s₁.heap.get? a = some { cls := .type "list", data := .seq vs.toArray }) (hi : IntsAre vs ns) (hl : ns.length ≤ sizeLine) (hr : Room k callerA)
    (F : ∀ base : Heap, K.In base → base.Ns mainGlobals mg → base.BuiltinsAt mg T → FnOk P w K mg base CX k fa fd [x] sp) (hbind : ∀ (s : Shared) (u : Value), BindsTo s fd ⟨[u], []⟩ [(x, u)])
    (hsp : ∀ H : Hp, H T = some (.tbl #[]) → SqL K H a (ns.map V.int) → sp [.ref a] H (fun v _ => v = .bl true) fun _ _ _ => False)
    (hCX : ∀ H e s', CX [] H s₁ (fun _ _ _ => False) e s' → False) :
    codeAny (model P w) callerA (.call (.ref fa) ⟨[.ref a], []⟩) (fun r s' => r = .ok (.ret (.bool true)) ∧ OldK s₁.heap s'.heap ∧ s'.os = s₁.os ∧ AllBare s'.gens) s₁ := by
  have rv := vals_ints hi
  have lenV := hi.length
  have tabT : s₁.heap.TableAt c T #[] := (codeHd_of_K KX hcT).tab hT
  have core : ∀ H : Hp, H T = some (.tbl #[]) → SqL K H a (ns.map V.int) → HOk P w H s₁.heap → (∀ b, H b ≠ none → b = a ∨ b = T) → (∀ b, b ≠ T → H b = none ∨ ∃ o xs, H b = some (.frz o (.lst xs))) → (∀ b, H b ≠ none → K.lookup b = none) →
      codeAny (model P w) callerA (.call (.ref fa) ⟨[.ref a], []⟩) (fun r s' => r = .ok (.ret (.bool true)) ∧ OldK s₁.heap s'.heap ∧ s'.os = s₁.os ∧ AllBare s'.gens) s₁ := by
    intro H hHT hS hok hA hO hK
    have base_of : ∀ {b : Addr} {o : Obj}, s₁.heap.get? b = some o → H b = none → (hidT s₁.heap H).get? b = some o := fun e n => hidT_get e n
    have noA : ∀ {b : Addr} {o : Obj}, s₁.heap.get? b = some o → (∀ xs n, o.data ≠ .seq xs n) → (∀ ps, o.data ≠ .fields ps) → H b = none := fun {b o} e d1 d2 => by
      cases q : H b with
      | none => rfl
      | some u =>
        rcases hA b (by rw [q]; simp) with e' | e'
        · subst e'
          rw [ha] at e; cases e
          exact absurd rfl (d1 _ _)
        · subst e'
          rw [hT] at e; cases e
          exact absurd rfl (d2 _)
    have nsK : ∀ {b : Addr} {m : Str → Option Value}, s₁.heap.Ns b m → (hidT s₁.heap H).Ns b m := fun {b m} ⟨o, es, ep, e, d, r⟩ => ⟨o, es, ep, base_of e (noA e (fun xs n z => by rw [d] at z; cases z) (fun ps z => by rw [d] at z; cases z)), d, r⟩
    have hKb : K.In (hidT s₁.heap H) := fun b o e => base_of (KX b o e) (by
      cases q : H b with
      | none => rfl
      | some u => rw [hK b (by rw [q]; simp)] at e; cases e)
    have hM : Mod K mg (hidT s₁.heap H) := ⟨hKb, nsK hns, ⟨mb, nsK hb, hbb⟩, let ⟨mc, h1, h2⟩ := hlim; ⟨mc, nsK h1, h2⟩⟩
    have hBA : (hidT s₁.heap H).BuiltinsAt mg T := by
      obtain ⟨bm, ob, b1, b2, b3, b4, b5, b6⟩ := hBM
      refine ⟨bm, ob, b1, b2, fun z => ?_, fun z => ?_, base_of b3 (noA b3 (fun xs n z => by rw [b6] at z; cases z) (fun ps z => by rw [b6] at z; cases z)), b4, b5, b6⟩
      · obtain ⟨o, es, ep, e, hd, _⟩ := hns
        rw [z, e] at b3; cases b3
        rw [hd] at b6; cases b6
      · rw [z, hT] at b3; cases b3; cases b4
    have e0 : Env0 P w K mg (hidT s₁.heap H) callerA [] s₁ H := ⟨rfl, hM, fun b o e => of_hidT e, Nat.le_of_eq (hidT_size _ _), trivial, fun b hb => absurd (show b ∈ ([] : List Addr) from hb) (by simp), hok, .of_eq hg⟩
    refine codeAny_mono ((F _ hKb (nsK hns) hBA).run callerA [] s₁ H ⟨[.ref a], []⟩ [.ref a] [.ref a] _ _ hr e0 (hbind s₁ (.ref a)) (.cons rfl .nil) (hsp H hHT hS)) fun r s' h => ?_
    cases r with
    | error e => exact (hCX H e s' h).elim
    | ok fl =>
      cases fl with
      | next => exact False.elim h
      | brk => exact False.elim h
      | cont => exact False.elim h
      | ret u =>
        obtain ⟨v, H', os, bare, un, hok', r', q⟩ := h
        have q' : v = .bl true := q
        subst q'
        obtain rfl : u = Value.bool true := r'
        have oth : ∀ b o, b ≠ T → s₁.heap.get? b = some o → s'.heap.get? b = some o := fun b o hbT e => by
          cases q : H b with
          | none => exact un.keep b o e q (by intro z; exact absurd (show b ∈ ([] : List Addr) from z) (by simp)) (by simp)
          | some u =>
            rcases hO b hbT with z | ⟨ob, xs, z⟩
            · rw [q] at z; cases z
            · have z2 := un.frzs b ob _ z
              obtain ⟨e1, _⟩ := hok b _ z
              obtain ⟨e2, _⟩ := hok' b _ z2
              rw [e] at e1; cases e1
              exact e2
        obtain ⟨more, hm⟩ := un.tbls T _ hHT
        have hTm : s'.heap.get? T = some { cls := .none, data := .fields (#[] ++ more) } := hok' T _ hm
        refine ⟨rfl, ⟨fun b o e => ?_, fun b o e => ?_⟩, os, bare⟩
        · by_cases hbT : b = T
          · subst hbT
            rw [hT] at e; cases e
            exact .inr (.inl ⟨tabT.isCodeTable, rfl, #[], more, rfl, hTm⟩)
          · exact .inl (oth b o hbT e)
        · by_cases hbT : b = T
          · subst hbT; exact ⟨_, hTm⟩
          · exact ⟨o, oth b o hbT e⟩
  have hTa : T ≠ a := fun z => by rw [z, ha] at hT; cases hT
  cases hk : K.lookup a with
  | some o =>
    have e := KX a o hk
    rw [ha] at e
    cases e
    refine core (fun b => if b = T then some (.tbl #[]) else none) (if_pos rfl) (.inr ⟨_, vs.toArray, _, hk, rfl, rfl, rfl, by rw [List.size_toArray, lenV]; exact hl, by simpa using rv⟩) (fun b u z => ?_) (fun b z => ?_) (fun b hb => .inl (if_neg hb)) fun b z => ?_
    · by_cases hb : b = T
      · have z' := (if_pos hb).symm.trans z
        cases z'
        subst hb
        exact hT
      · have z' := (if_neg hb).symm.trans z
        cases z'
    · by_cases hb : b = T
      · exact .inr hb
      · exact absurd (if_neg hb) z
    · by_cases hb : b = T
      · rw [hb]; exact hKT
      · exact absurd (if_neg hb) z
  | none =>
    refine core (fun b => if b = a then some (.frz { cls := .type "list", data := .seq vs.toArray } (.lst (ns.map V.int))) else if b = T then some (.tbl #[]) else none) (by rw [if_neg hTa, if_pos rfl]) (.inl (.inr ⟨{ cls := .type "list", data := .seq vs.toArray }, if_pos rfl⟩)) (fun b u z => ?_) (fun b z => ?_) (fun b hb => ?_) fun b z => ?_
    · by_cases hb : b = a
      · have z' := (if_pos hb).symm.trans z
        cases z'
        subst hb
        exact ⟨ha, by rw [List.length_map]; exact hl, vs, _, rv, ha⟩
      · have z' := (if_neg hb).symm.trans z
        by_cases hb2 : b = T
        · have z2 := (if_pos hb2).symm.trans z'
          cases z2
          subst hb2
          exact hT
        · have z2 := (if_neg hb2).symm.trans z'
          cases z2
    · by_cases hb : b = a
      · exact .inl hb
      · by_cases hb2 : b = T
        · exact .inr hb2
        · exact absurd (by rw [if_neg hb, if_neg hb2]) z
    · by_cases hba : b = a
      · exact .inr ⟨_, _, if_pos hba⟩
      · exact .inl (by rw [if_neg hba, if_neg hb])
    · by_cases hb : b = a
      · rw [hb]; exact hk
      · by_cases hb2 : b = T
        · rw [hb2]; exact hKT
        · exact absurd (by rw [if_neg hb, if_neg hb2]) z
theorem walkP {l : PySem.W.OpenLaw} {n k : Nat} {q : Program} {loose : List Str} {XP : (Str → Option Value) → Heap → Prop} {YP : World → Heap → Prop} {d : DefRec} {K : Params → PySem.W.Frag} {sp : World → Sp} {x : Str} {c T : Addr}
    (hn : l.most = some n) (hn2 : n ≤ sizeLine) (hdf : d.params.defaults = []) (hr : Room k callerA)
    (hY : ∀ (w : World) (h : Heap), YP w h → (K w.params).In h) (hYT : ∀ (w : World) (h : Heap), YP w h → h.get? T = some (tabObj #[])) (hKT : ∀ w : World, (K w.params).lookup T = none) (hcT : ∀ w : World, codeHdIn (K w.params) c T = true)
    (F : ∀ (w : World) (mg : Str → Option Value) (fa : Addr) (h : Heap), (K w.params).In h → h.Ns mainGlobals mg → mg d.name = some (.ref fa) →
      ∃ fd : FuncData, (∀ (s : Shared) (u : Value), BindsTo s fd ⟨[u], []⟩ [(x, u)]) ∧
        ∀ base : Heap, (K w.params).In base → base.Ns mainGlobals mg → base.BuiltinsAt mg T → FnOk l.prog w (K w.params) mg base CX0 k fa fd [x] (sp w))
    (hsp : ∀ (w : World) (H : Hp) (a : Addr) (ns : List Int), ns.length ≤ n → H T = some (.tbl #[]) → SqL (K w.params) H a (ns.map V.int) → sp w [.ref a] H (fun v _ => v = .bl true) fun _ _ _ => False) :
    PySem.W.WalkO q loose XP YP l.row.toRowW d [] (fun f vs => PySem.call f vs) := by
  refine Att.attach_call hn hdf fun w s₀ s₁ mg mb fa o pm cd doc a vs ns G Y ho hd hcd hmg hobj hints hlen hg => ?_
  have KX := hY w _ Y
  obtain ⟨fd, hb, hF⟩ := F w mg fa _ KX G.T.g hmg
  exact law_callP KX G.T.g G.T.b G.T.builtins G.T.nolimit hg G.T.bmain (hYT w _ Y) (hKT w) (hcT w) hobj hints (Nat.le_trans hlen hn2) hr hF hb (fun H hO hS => hsp w H a ns hlen hO hS) fun H e s' h => h
end L2
set_option linter.all false
namespace Lw
def figs (b n : Nat) : List Int := if h : 2 ≤ b ∧ b ≤ n then figs b (n / b) ++ [((n % b : Nat) : Int)] else [(n : Int)]
termination_by n
decreasing_by exact Nat.div_lt_self (by omega) (by omega)
theorem figs_lt {b n : Nat} (h : n < b) : figs b n = [(n : Int)] := by
  rw [figs, dif_neg (by omega)]
theorem figs_ge {b n : Nat} (h2 : 2 ≤ b) (h : b ≤ n) : figs b n = figs b (n / b) ++ [((n % b : Nat) : Int)] := by
  rw [figs, dif_pos ⟨h2, h⟩]
end Lw
set_option linter.all false
namespace Lw
structure GoodFs (b : Nat) (ns : List Int) : Prop where
  ne : ns ≠ []
  len : ns.length ≤ 200
  fig : ∀ f ∈ ns, 0 ≤ f ∧ f < b
  first : ns.head? ≠ some 0 ∨ ns.length = 1
end Lw
set_option linter.all false
namespace Lw
def hasS (st fs : List Int) : Bool := (List.range fs.length).any fun k => decide ((fs.drop k).take st.length = st)
theorem hasS_iff {st fs : List Int} (h : st ≠ []) : hasS st fs = true ↔ ∃ k, (fs.drop k).take st.length = st := by
  unfold hasS
  simp only [List.any_eq_true, List.mem_range, decide_eq_true_eq]
  constructor
  · rintro ⟨k, _, e⟩; exact ⟨k, e⟩
  · rintro ⟨k, e⟩
    refine ⟨k, ?_, e⟩
    have hl := congrArg List.length e
    rw [List.length_take, List.length_drop] at hl
    have : 0 < st.length := List.length_pos_iff.mpr h
    omega
theorem hasS_short {st fs : List Int} (h : st ≠ []) : hasS st fs = (List.range ((fs.length : Int) - st.length + 1).toNat).any fun k => decide ((fs.drop k).take st.length = st) := by
  rw [Bool.eq_iff_iff, hasS_iff h]
  simp only [List.any_eq_true, List.mem_range, decide_eq_true_eq]
  constructor
  · rintro ⟨k, e⟩
    refine ⟨k, ?_, e⟩
    have hl := congrArg List.length e
    rw [List.length_take, List.length_drop] at hl
    have : 0 < st.length := List.length_pos_iff.mpr h
    omega
  · rintro ⟨k, _, e⟩; exact ⟨k, e⟩
def lacks (ls : List (List Int)) (fs : List Int) : Bool := !ls.any fun st => hasS st fs
end Lw
set_option linter.all false
namespace Lw
end Lw
set_option linter.all false
namespace Lw
def begs (ls : List (List Int)) (fs : List Int) : Bool := ls.any fun st => decide (st.take fs.length = fs)
def tailS (ls : List (List Int)) : List Int → List Int
  | [] => []
  | x :: fs => if begs ls (x :: fs) then x :: fs else tailS ls fs
theorem tailS_skip {ls : List (List Int)} : ∀ (i : Nat) (fs : List Int), i ≤ fs.length → (∀ k, k < i → begs ls (fs.drop k) = false) → tailS ls fs = tailS ls (fs.drop i)
  | 0, _, _, _ => rfl
  | i + 1, [], h, _ => by simp at h
  | i + 1, x :: fs, h, q => by
    have h0 := q 0 (by omega)
    rw [List.drop_zero] at h0
    rw [tailS, if_neg (by rw [h0]; decide), List.drop_succ_cons]
    exact tailS_skip i fs (by simpa using h) fun k hk => by have := q (k + 1) (by omega); rwa [List.drop_succ_cons] at this
theorem tailS_here {ls : List (List Int)} {fs : List Int} (h : begs ls fs = true) : tailS ls fs = fs := by
  cases fs with
  | nil => rfl
  | cons x fs => rw [tailS, if_pos h]
theorem tailS_at {ls : List (List Int)} {fs : List Int} {i : Nat} (hi : i ≤ fs.length) (h : ∀ k, k < i → begs ls (fs.drop k) = false) (q : begs ls (fs.drop i) = true) : tailS ls fs = fs.drop i := by
  rw [tailS_skip i fs hi h, tailS_here q]
theorem tailS_none {ls : List (List Int)} {fs : List Int} (h : ∀ k, k < fs.length → begs ls (fs.drop k) = false) : tailS ls fs = [] := by
  rw [tailS_skip fs.length fs (Nat.le_refl _) h, List.drop_length]; rfl
end Lw
set_option linter.all false
namespace Lw
def isSt (ls : List (List Int)) (x : List Int) : Prop := x = [] ∨ ∃ st ∈ ls, ∃ k, 1 ≤ k ∧ k < st.length ∧ x = st.take k ∧ lacks ls x = true
structure StandsL (ls : List (List Int)) (xs : List (List Int)) : Prop where
  mem : ∀ x, x ∈ xs ↔ isSt ls x
  up : xs.Pairwise fun x y => HT.kLess x y = true
theorem isSt_len {ls : List (List Int)} (h : ∀ st ∈ ls, st.length ≤ 4) {x : List Int} (q : isSt ls x) : x.length ≤ 3 := by
  rcases q with rfl | ⟨st, hst, k, h1, h2, rfl, _⟩
  · decide
  · have := h st hst
    rw [List.length_take]; omega
end Lw
set_option linter.all false
namespace Lw
theorem begs_init {ls : List (List Int)} {y : List Int} {x : Int} (h : begs ls (y ++ [x]) = true) : begs ls y = true := by
  unfold begs at *
  rw [List.any_eq_true] at h ⊢
  obtain ⟨st, hst, q⟩ := h
  refine ⟨st, hst, decide_eq_true ?_⟩
  have q := of_decide_eq_true q
  have e := congrArg (List.take y.length) q
  rw [List.take_left, List.take_take, List.length_append] at e
  rw [Nat.min_eq_left (by omega)] at e
  exact e
theorem tailS_spec {ls : List (List Int)} : ∀ fs : List Int, ∃ j, j ≤ fs.length ∧ tailS ls fs = fs.drop j ∧ (∀ k, k < j → begs ls (fs.drop k) = false) ∧ (j < fs.length → begs ls (fs.drop j) = true)
  | [] => ⟨0, Nat.le_refl _, rfl, fun k hk => by omega, fun h => by simp at h⟩
  | x :: fs => by
    by_cases h : begs ls (x :: fs) = true
    · exact ⟨0, Nat.zero_le _, by rw [tailS, if_pos h]; rfl, fun k hk => by omega, fun _ => h⟩
    · obtain ⟨j, h1, h2, h3, h4⟩ := tailS_spec (ls := ls) fs
      refine ⟨j + 1, by rw [List.length_cons]; omega, by rw [tailS, if_neg h, h2, List.drop_succ_cons], fun k hk => ?_, fun hj => by rw [List.drop_succ_cons]; exact h4 (by rw [List.length_cons] at hj; omega)⟩
      cases k with
      | zero => rw [List.drop_zero]; simpa using h
      | succ k => rw [List.drop_succ_cons]; exact h3 k (by omega)
theorem tailS_step {ls : List (List Int)} (fs : List Int) (x : Int) : tailS ls (tailS ls fs ++ [x]) = tailS ls (fs ++ [x]) := by
  obtain ⟨j, h1, h2, h3, _⟩ := tailS_spec (ls := ls) fs
  rw [h2, tailS_skip j (fs ++ [x]) (by rw [List.length_append]; omega) (fun k hk => ?_), List.drop_append_of_le_length h1]
  rw [List.drop_append_of_le_length (by omega)]
  cases e : begs ls (fs.drop k ++ [x]) with
  | false => rfl
  | true => rw [← h3 k hk, begs_init e]
theorem hasS_drop {st fs : List Int} (ne : st ≠ []) {j : Nat} (h : hasS st (fs.drop j) = true) : hasS st fs = true := by
  rw [hasS_iff ne] at h ⊢
  obtain ⟨k, e⟩ := h
  exact ⟨j + k, by rw [← List.drop_drop]; exact e⟩
theorem lacks_drop {ls : List (List Int)} (ne : ∀ l ∈ ls, l ≠ []) {fs : List Int} (j : Nat) (h : lacks ls fs = true) : lacks ls (fs.drop j) = true := by
  unfold lacks at *
  rw [Bool.not_eq_true', List.any_eq_false] at h ⊢
  intro st hst q
  exact h st hst (hasS_drop (ne st hst) q)
theorem lacks_step {ls : List (List Int)} (ne : ∀ l ∈ ls, l ≠ []) {fs : List Int} (x : Int) (h : lacks ls fs = true) : lacks ls (tailS ls fs ++ [x]) = lacks ls (fs ++ [x]) := by
  obtain ⟨j, h1, h2, h3, _⟩ := tailS_spec (ls := ls) fs
  rw [h2, ← List.drop_append_of_le_length h1]
  rw [Bool.eq_iff_iff]
  constructor
  · intro q
    unfold lacks at *
    rw [Bool.not_eq_true', List.any_eq_false] at h q ⊢
    intro st hst hs
    rw [hasS_iff (ne st hst)] at hs
    obtain ⟨k, e⟩ := hs
    have hp : 0 < st.length := List.length_pos_iff.mpr (ne st hst)
    have hl := congrArg List.length e
    rw [List.length_take, List.length_drop, List.length_append, List.length_singleton] at hl
    by_cases hin : k + st.length ≤ fs.length
    · refine h st hst ((hasS_iff (ne st hst)).mpr ⟨k, ?_⟩)
      rw [List.drop_append_of_le_length (by omega), List.take_append_of_le_length (by rw [List.length_drop]; omega)] at e
      exact e
    · have hk : k + st.length = fs.length + 1 := by omega
      rw [List.take_of_length_le (by rw [List.length_drop, List.length_append, List.length_singleton]; omega)] at e
      by_cases hkj : j ≤ k
      · refine q st hst ((hasS_iff (ne st hst)).mpr ⟨k - j, ?_⟩)
        rw [List.drop_drop, show j + (k - j) = k by omega, e, List.take_of_length_le (Nat.le_refl _)]
      · have h3k := h3 k (by omega)
        rw [List.drop_append_of_le_length (by omega)] at e
        unfold begs at h3k
        rw [List.any_eq_false] at h3k
        refine h3k st hst (decide_eq_true ?_)
        rw [← e, List.take_left]
  · intro q
    exact lacks_drop ne j q
end Lw
set_option linter.all false
namespace Lw
theorem StandsL.first {ls xs : List (List Int)} (a : StandsL ls xs) : ∃ r, xs = [] :: r := by
  have h0 : ([] : List Int) ∈ xs := (a.mem []).mpr (.inl rfl)
  cases xs with
  | nil => cases h0
  | cons x r =>
    rcases List.mem_cons.mp h0 with e | e
    · exact ⟨r, by rw [e]⟩
    · have := (List.pairwise_cons.mp a.up).1 [] e
      unfold HT.kLess at this
      by_cases hl : x.length = ([] : List Int).length
      · have : x = [] := List.eq_nil_of_length_eq_zero hl
        exact ⟨r, by rw [this]⟩
      · rw [if_neg hl] at this
        have := of_decide_eq_true this
        simp at this
end Lw
set_option linter.all false
namespace Lw
def many (p : Nat → Bool) : Nat → Nat
  | 0 => 0
  | n + 1 => many p n + (if p n = true then 1 else 0)
def gd (ls : List (List Int)) (b n : Nat) : Bool := lacks ls (figs b n)
end Lw
set_option linter.all false
namespace Lw
end Lw
set_option linter.all false
namespace Lw
def Rep (ls : List (List Int)) (b m : Nat) (o : Option (List Int)) : Prop := (m = 0 ∧ o = none) ∨ (1 ≤ m ∧ gd ls b m = true ∧ o = some (tailS ls (figs b m)))
theorem figs_moreN {b m c : Nat} (h2 : 2 ≤ b) (h1 : 1 ≤ m) (hc : c < b) : figs b (m * b + c) = figs b m ++ [(c : Int)] := by
  have hge : b ≤ m * b + c := by
    have : 1 * b ≤ m * b := Nat.mul_le_mul_right b h1
    omega
  rw [figs_ge h2 hge]
  have e1 : (m * b + c) / b = m := by rw [Nat.add_comm, Nat.add_mul_div_right _ _ (by omega), Nat.div_eq_of_lt hc, Nat.zero_add]
  have e2 : (m * b + c) % b = c := by rw [Nat.add_comm, Nat.add_mul_mod_self_right, Nat.mod_eq_of_lt hc]
  rw [e1, e2]
theorem go_on {b m c : Nat} (h2 : 2 ≤ b) (h1 : 1 ≤ m) : 1 ≤ m * b + c := by
  have : 1 * b ≤ m * b := Nat.mul_le_mul_right b h1
  omega
theorem Rep.step {ls : List (List Int)} (ne : ∀ l ∈ ls, l ≠ []) {b m : Nat} {o : Option (List Int)} (h2 : 2 ≤ b) (R : Rep ls b m o) {c : Nat} (hc : c < b) :
    (o = none ∧ c = 0 ∧ Rep ls b (m * b + c) none) ∨ (¬ (o = none ∧ c = 0) ∧ ((lacks ls (o.getD [] ++ [(c : Int)]) = true ∧ Rep ls b (m * b + c) (some (tailS ls (o.getD [] ++ [(c : Int)])))) ∨ (lacks ls (o.getD [] ++ [(c : Int)]) = false ∧ 1 ≤ m * b + c ∧ gd ls b (m * b + c) = false))) := by
  rcases R with ⟨rfl, rfl⟩ | ⟨h1, hg, rfl⟩
  · by_cases h0 : c = 0
    · left; exact ⟨rfl, h0, .inl ⟨by rw [h0]; omega, rfl⟩⟩
    · right
      refine ⟨fun z => h0 z.2, ?_⟩
      rw [Nat.zero_mul, Nat.zero_add]
      show (lacks ls [(c : Int)] = true ∧ _) ∨ (lacks ls [(c : Int)] = false ∧ _)
      have eg : gd ls b c = lacks ls [(c : Int)] := by unfold gd; rw [figs_lt hc]
      cases hl : lacks ls [(c : Int)] with
      | true => left; exact ⟨rfl, .inr ⟨by omega, by rw [eg]; exact hl, by rw [figs_lt hc]; rfl⟩⟩
      | false => right; exact ⟨rfl, by omega, by rw [eg]; exact hl⟩
  · right
    refine ⟨fun z => (nomatch z.1), ?_⟩
    have hm : 1 ≤ m * b + c := go_on h2 h1
    show (lacks ls (tailS ls (figs b m) ++ [(c : Int)]) = true ∧ Rep ls b (m * b + c) (some (tailS ls (tailS ls (figs b m) ++ [(c : Int)])))) ∨ (lacks ls (tailS ls (figs b m) ++ [(c : Int)]) = false ∧ _)
    rw [lacks_step ne _ hg, tailS_step]
    have eg : gd ls b (m * b + c) = lacks ls (figs b m ++ [(c : Int)]) := by unfold gd; rw [figs_moreN h2 h1 hc]
    cases hl : lacks ls (figs b m ++ [(c : Int)]) with
    | true => left; exact ⟨rfl, .inr ⟨hm, by rw [eg]; exact hl, by rw [figs_moreN h2 h1 hc]⟩⟩
    | false => right; exact ⟨rfl, hm, by rw [eg]; exact hl⟩
end Lw
set_option linter.all false
namespace Lw
end Lw
set_option linter.all false
namespace Lw
end Lw
set_option linter.all false
namespace Lw
end Lw
set_option Elab.async false
set_option linter.all false
set_option maxRecDepth 100000
namespace L2
open Lw
end L2
set_option Elab.async false
set_option linter.all false
set_option maxRecDepth 100000
namespace L2
open PySem PySem.Spec PyProof.Rows
def Noted (n : Addr → Prop) (h : Heap) (e : Addr) (c : Value) : Prop :=
  ∃ (oe oT : Obj) (vs ts : Array Value) (a0 : Value) (T : Addr), h.get? e = some oe ∧ oe.cls = c ∧ oe.data = .fields vs ∧ vs[0]? = some a0 ∧ vs[1]? = some (.ref T) ∧ n T ∧ T ≠ e ∧ h.get? T = some oT ∧ oT.data = .fields ts ∧ ts[3]? = some .none
def CX1 (P : Program) (w : World) : CXT := fun outer H s E e s' =>
  ∃ (ea : Addr) (c : Value) (H' : Hp), e = .ref ea ∧ s'.os = s.os ∧ AllBare s'.gens ∧ Un (frs outer) [] H H' s.heap s'.heap ∧ HOk P w H' s'.heap ∧ s.heap.get? ea = none ∧ H' ea = none ∧
    Noted (fun T => s.heap.get? T = none ∧ H' T = none) s'.heap ea c ∧ E c none H'
def PassN (X : Cx) (Ex : St → XK) : Prop := ∀ (pins : List (Addr × Obj)) (σ : St) (H : Hp) (s : Shared) (h' : Heap) (ea : Addr) (c : Value) (vs : List Value), Inv X pins σ H s → Heap.MadeExcOf s.heap h' ea c vs → Ex σ c none H → X.xe (.ref ea) { s with heap := h' }
def PassS (X : Cx) (Ex : St → XK) : Prop := ∀ (pins : List (Addr × Obj)) (σ : St) (H : Hp) (s : Shared) (e : Value) (s' : Shared), Inv X pins σ H s → CX1 X.prog X.w X.stack H s (Ex σ) e s' → X.xe e s'
theorem FnOk.up {P : Program} {w : World} {K : PySem.W.Frag} {mg : Str → Option Value} {base : Heap} {CX : CXT} {k : Nat} {f : Addr} {fd : FuncData} {ps : List Str} {sp : Sp} (F : FnOk P w K mg base CX0 k f fd ps sp) : FnOk P w K mg base CX k f fd ps sp :=
  ⟨F.len, fun A outer s H args us vs Q E hr e0 hb hv hs => codeAny_mono (F.run A outer s H args us vs Q E hr e0 hb hv hs) fun r s' q => by
    cases r with
    | error e => exact False.elim q
    | ok fl => cases fl <;> exact q⟩
theorem ObjOk.thereO {P : Program} {w : World} {H : Hp} {h : Heap} {a : Addr} {o : HO} (x : ObjOk P w H h a o) : ∃ u, h.get? a = some u := by
  cases o with
  | lst xs => obtain ⟨_, _, _, _, e⟩ := x; exact ⟨_, e⟩
  | tup xs => obtain ⟨_, _, _, o, e, _⟩ := x; exact ⟨_, e⟩
  | dK kvs => obtain ⟨_, _, _, _, o, _, _, e, _⟩ := x; exact ⟨_, e⟩
  | dT kvs => obtain ⟨_, _, _, _, o, _, _, e, _⟩ := x; exact ⟨_, e⟩
  | set S n => obtain ⟨o, _, _, _, e, _⟩ := x; exact ⟨_, e⟩
  | ins C dx fs => obtain ⟨_, _, _, e, _⟩ := x; exact ⟨_, e⟩
  | own y => exact x
  | xd fs => obtain ⟨_, ⟨_, _, _, e, _⟩, _⟩ := x; exact ⟨_, e⟩
  | rng lo hi => obtain ⟨_, _, _, e⟩ := x; exact ⟨_, e⟩
  | frz ob u => obtain ⟨e, _⟩ := x; exact ⟨_, e⟩
  | tbl ps => exact ⟨_, (show h.get? a = some _ from x)⟩
  | met f y => exact ⟨_, (show h.get? a = some _ from x)⟩
  | ext φ => obtain ⟨_, e, _⟩ := x; exact e
theorem HOk.off {P : Program} {w : World} {H : Hp} {h : Heap} {a : Addr} (x : HOk P w H h) (e : h.get? a = none) : H a = none := by
  cases q : H a with
  | none => rfl
  | some o => obtain ⟨u, z⟩ := (x a o q).thereO; rw [e] at z; cases z
section
variable {X : Cx} {pins : List (Addr × Obj)} {σ : St} {H H' : Hp} {s s' : Shared} {h' B : Heap} {ea : Addr} {c a0 : Value}
def Holds1 (X : Cx) (H' : Hp) (s s' : Shared) (B : Heap) : Prop := ∀ b o, s'.heap.get? b = some o → ((∃ u, s.heap.get? b = some u) ∨ H' b ≠ none) → b ∉ frs X.stack → B.get? b = some o
theorem fly_free (I : Inv X pins σ H s) (un : Un (frs X.stack) [] H H' s.heap s'.heap) : ∀ b ∈ frs X.stack, H' b = none := fun b hb => by
  obtain ⟨_, o, ho, _⟩ := I.stack.mem hb
  exact un.free b o ho (I.stkFree b hb) (by simp)
theorem fly_un (I : Inv X pins σ H s) (un : Un (frs X.stack) [] H H' s.heap s'.heap) (hok : HOk X.prog X.w H' s'.heap) (hB : Holds1 X H' s s' B) (st : B.StaysIn h') (up : s'.heap.UpToSlots h') :
    Un (frs X.stack) [] H H' s.heap h' ∧ HOk X.prog X.w H' h' := by
  have fr := fly_free I un
  have sl : ∀ b o, s.heap.get? b = some o → b ∈ frs X.stack → ∃ q, h'.get? b = some { o with slots := q } := fun b o e hb => by
    obtain ⟨_, o2, ho, hd⟩ := I.stack.mem hb
    rw [e] at ho; cases ho
    obtain ⟨q, e1⟩ := un.slot b o e (I.stkFree b hb) hb (by simp)
    obtain ⟨q2, e2⟩ := up b _ e1 hd
    exact ⟨q2, e2⟩
  refine ⟨⟨fun b o e n hb _ => ?_, fun b o e _ hb _ => sl b o e hb, fun b o e n _ => un.free b o e n (by simp), fun b o e _ => ?_, un.tups, un.frzs, un.tbls⟩, fun a o e => ?_⟩
  · exact st b o (hB b o (un.keep b o e n hb (by simp)) (.inl ⟨o, e⟩) hb)
  · by_cases hb : b ∈ frs X.stack
    · obtain ⟨q, e1⟩ := sl b o e hb
      exact ⟨_, e1⟩
    · obtain ⟨o1, e1⟩ := un.there b o e (by simp)
      exact ⟨o1, st b o1 (hB b o1 e1 (.inl ⟨o, e⟩) hb)⟩
  · refine (hok a o e).stay (fun b u hc q => ?_) (fun _ q => q) fun _ _ q => q
    have nb : H' b ≠ none := by
      rcases hc with z | z
      · rw [z, e]; intro z2; cases z2
      · rw [z]; intro z2; cases z2
    exact st b u (hB b u q (.inr nb) fun hb => nb (fr b hb))
theorem fly_T (I : Inv X pins σ H s) (un : Un (frs X.stack) [] H H' s.heap s'.heap) (hok : HOk X.prog X.w H' s'.heap) (hB : Holds1 X H' s s' B) (st : B.StaysIn h') (up : s'.heap.UpToSlots h') (t : h'.TracedW B ea c a0) :
    Noted (fun T => s.heap.get? T = none ∧ H' T = none) h' ea c := by
  have fr := fly_free I un
  obtain ⟨oe, vs, T, oT, ts, he, ⟨hc, h0⟩, hd, h1, hnT, hTe, hT, hdT, h3⟩ := t
  have nF : T ∉ frs X.stack := fun hb => by
    obtain ⟨_, o, ho, hd⟩ := I.stack.mem hb
    obtain ⟨q, e1⟩ := un.slot T o ho (I.stkFree T hb) hb (by simp)
    obtain ⟨q2, e2⟩ := up T _ e1 hd
    rw [hT] at e2; cases e2
    exact hd _ hdT
  refine ⟨oe, oT, vs, ts, a0, T, he, hc, hd, h0, h1, ⟨?_, ?_⟩, hTe, hT, hdT, h3⟩
  · cases q : s.heap.get? T with
    | none => rfl
    | some o =>
      obtain ⟨o1, e1⟩ := un.there T o q (by simp)
      have := hB T o1 e1 (.inl ⟨o, q⟩) nF
      rw [hnT] at this; cases this
  · cases q : H' T with
    | none => rfl
    | some o =>
      obtain ⟨o1, e1⟩ := (hok T o q).thereO
      have := hB T o1 e1 (.inr (by rw [q]; intro z; cases z)) nF
      rw [hnT] at this; cases this
theorem fly_out {E : XK} (I : Inv X pins σ H s) (hx : X.ex = []) (os : s'.os = s.os) (bare : AllBare s'.gens) (un : Un (frs X.stack) [] H H' s.heap s'.heap) (hok : HOk X.prog X.w H' s'.heap) (n0 : s.heap.get? ea = none) (n1 : H' ea = none)
    (hB : Holds1 X H' s s' B) (st : B.StaysIn h') (t : h'.TracedW B ea c a0) (up : s'.heap.UpToSlots h') (hE : E c none H') : CX1 X.prog X.w X.outer X.H₀ X.s₀ E (.ref ea) { s' with heap := h' } := by
  obtain ⟨u1, k1⟩ := fly_un I un hok hB st up
  have J : Inv X pins σ H' { s' with heap := h' } := I.call' (ch := []) os u1 k1 bare fun b z => absurd z (by simp)
  have off : ∀ b, s.heap.get? b = none → X.s₀.heap.get? b = none := fun b e => by
    cases q : X.s₀.heap.get? b with
    | none => rfl
    | some o =>
      obtain ⟨o1, e1⟩ := I.base.there b o q (by rw [hx]; simp)
      rw [e] at e1; cases e1
  have ub := J.base
  rw [hx] at ub
  obtain ⟨oe, oT, vs, ts, a1, T, he, hc, hd, h0, h1, ⟨hn, hm⟩, r⟩ := fly_T I un hok hB st up t
  exact ⟨ea, c, H', rfl, J.os, J.bare, ub, k1, off ea n0, n1, ⟨oe, oT, vs, ts, a1, T, he, hc, hd, h0, h1, ⟨off T hn, hm⟩, r⟩, hE⟩
theorem holds_hide {Ts : List Addr} (n0 : s.heap.get? ea = none) (n1 : H' ea = none) (nT : ∀ T ∈ Ts, s.heap.get? T = none ∧ H' T = none) : Holds1 X H' s s' (PySem.W.hideAll s'.heap (ea :: (Ts ++ frs X.stack))) := fun b o e hb hf => by
  refine PySem.W.hideAll_get _ e fun hm => ?_
  have bad : ∀ a, s.heap.get? a = none → H' a = none → b ≠ a := fun a h1 h2 z => by
    subst z
    rcases hb with ⟨u, q⟩ | q
    · rw [h1] at q; cases q
    · exact q h2
  rcases List.mem_cons.mp hm with z | hm
  · exact bad ea n0 n1 z
  · rcases List.mem_append.mp hm with z | z
    · exact bad b (nT b z).1 (nT b z).2 rfl
    · exact hf z
theorem fly_frames (I : Inv X pins σ H s) (os : s'.os = s.os) (bare : AllBare s'.gens) (un : Un (frs X.stack) [] H H' s.heap s'.heap) (hok : HOk X.prog X.w H' s'.heap) {as : List Addr} (ha : ∀ b ∈ frs X.stack, b ∈ as) : s'.heap.FunFrames (PySem.W.hideAll s'.heap as) X.stack := by
  have J : Inv X pins σ H' s' := I.call' (ch := []) os un hok bare fun b z => absurd z (by simp)
  exact PySem.W.funFrames_hide J.stack fun env he b hb => ha b (List.mem_filterMap.mpr ⟨env, he, hb⟩)
theorem fly_lib (I : Inv X pins σ H s) (os : s'.os = s.os) (bare : AllBare s'.gens) (un : Un (frs X.stack) [] H H' s.heap s'.heap) (hok : HOk X.prog X.w H' s'.heap) (n0 : s.heap.get? ea = none) (n1 : H' ea = none)
    (t : Noted (fun T => s.heap.get? T = none ∧ H' T = none) s'.heap ea c) : ∃ B a0, Holds1 X H' s s' B ∧ Heap.FlyingW B X.stack ea c a0 s'.heap := by
  obtain ⟨oe, oT, vs, ts, a0, T, he, hc, hd, h0, h1, ⟨hn, hm⟩, hTe, hT, hdT, h3⟩ := t
  refine ⟨PySem.W.hideAll s'.heap (ea :: ([T] ++ frs X.stack)), a0, holds_hide n0 n1 (fun b hb => by rw [List.mem_singleton.mp hb]; exact ⟨hn, hm⟩), fun b o q => PySem.W.of_hideAll _ q, PySem.W.hideAll_none _ (by simp), fly_frames I os bare un hok (by intro b hb; simp [hb]), ?_⟩
  exact ⟨oe, vs, T, oT, ts, he, ⟨hc, h0⟩, hd, h1, PySem.W.hideAll_none _ (by simp), hTe, hT, hdT, h3⟩
end
theorem pass_call {P : Program} {w : World} {K : PySem.W.Frag} {mg : Str → Option Value} {base : Heap} {N : List Str} {qual : Str} {scope : Scope} {f : Addr} {cd : Value} {A : Around} {outer : List Env} {s₀ : Shared} {H₀ : Hp} {E : XK} :
    PassS (cxOf (CX1 P w) P w K mg base N qual scope f cd A outer s₀ H₀ E) fun _ => E := by
  intro pins σ H s e s' I hcx
  obtain ⟨ea, c, H', rfl, os, bare, un, hok, n0, n1, t, hE⟩ := hcx
  obtain ⟨B, a0, hB, fl⟩ := fly_lib I os bare un hok n0 n1 t
  show wpAny _ _ (leaving (envOfC qual scope s₀.heap.objs.size f cd) (.ref ea)) _ _ s'
  refine wpAny_leaves_onW I.ok.frames rfl fl fun h2 fl2 up => ?_
  exact fly_out I rfl os bare un hok n0 n1 hB fl2.1 fl2.2.2.2 up hE
theorem pass_new {P : Program} {w : World} {K : PySem.W.Frag} {mg : Str → Option Value} {base : Heap} {N : List Str} {qual : Str} {scope : Scope} {f : Addr} {cd : Value} {A : Around} {outer : List Env} {s₀ : Shared} {H₀ : Hp} {E : XK} :
    PassN (cxOf (CX1 P w) P w K mg base N qual scope f cd A outer s₀ H₀ E) fun _ => E := by
  intro pins σ H s h' ea c vs I hm hE
  show wpAny _ _ (leaving (envOfC qual scope s₀.heap.objs.size f cd) (.ref ea)) _ _ _
  refine wpAny_leaves_madeW (s := { s with heap := h' }) (base := PySem.W.hideAll s.heap (frs (cxOf (CX1 P w) P w K mg base N qual scope f cd A outer s₀ H₀ E).stack)) I.ok.frames rfl (fun b o q => PySem.W.of_hideAll _ q)
    (fly_frames I rfl I.bare Un.refl I.hok fun b hb => hb) hm fun h2 t fl _ _ up => ?_
  refine fly_out (s' := { s with heap := h' }) I rfl rfl I.bare (Un.kept hm.keeps) (I.hok.kept hm.keeps) hm.new (I.hok.off hm.new) (fun b o e hb hf => ?_) fl.1 fl.2.2.2 up hE
  refine PySem.W.hideAll_get _ ?_ hf
  rcases hb with ⟨u, q⟩ | q
  · have z := hm.keeps b u q
    rw [show h'.get? b = some o from e] at z; cases z; exact q
  · cases r : H b with
    | none => exact absurd r q
    | some x =>
      obtain ⟨u, q⟩ := (I.hok b x r).thereO
      have z := hm.keeps b u q
      rw [show h'.get? b = some o from e] at z; cases z; exact q
end L2
set_option Elab.async false
set_option linter.all false
set_option maxRecDepth 100000
namespace L2
open PySem PySem.Spec PyProof.Rows
abbrev veT : List Value := [.type "ValueError", .type "Exception", .type "BaseException", .type "object"]
structure ExcC (K : PySem.W.Frag) (mg : Str → Option Value) (x : Str) (C : Addr) : Prop where
  g : mg x = some (.ref C)
  ok : PySem.W.excIn K C veT "ValueError.__new__" = true
theorem exc_obj {K : PySem.W.Frag} {h : Heap} {C : Addr} {bmB : List Value} {newId : String} (X : K.In h) (q : PySem.W.excIn K C bmB newId = true) :
    ∃ (bm bs : List Value) (N : Addr) (nm qn : Str) (hd ab : Bool) (sn : List Str) (sub : List Value) (col : Option Bool) (dd : Option Addr) (k0 k1 k2 k3 k5 : Option Value) (mN : Str → Option Value),
      h.get? C = some (excClassObj nm qn C N bs bm hd sn sub ab col dd k0 k1 k2 k3 k5 newId) ∧ h.Ns N mN ∧ mN "__init__" = none ∧ OwnTail h bmB bm := by
  unfold PySem.W.excIn at q
  split at q
  · rename_i dd cd sl e
    split at q
    · rename_i C2 bm k0 k1 k2 k3 n k5 hm hs
      rw [Bool.and_eq_true, Bool.and_eq_true, Bool.and_eq_true, Bool.and_eq_true, Bool.and_eq_true] at q
      have z1 := eq_of_beq q.1.1.1.1.1
      have z2 := eq_of_beq q.1.1.1.1.2
      have z3 : cd.hasDel = false := by simpa using q.1.1.1.2
      cases cd with
      | mk nm bs mro ns qn hd sn sub ab col del =>
        cases sl with
        | mk l =>
          have hs' : l = _ := hs
          have hm' : mro = _ := hm
          have z3' : del = false := z3
          subst hs' hm' z3' z1 z2
          exact ⟨bm, bs, ns, nm, qn, hd, ab, sn, sub, col, dd, k0, k1, k2, k3, k5, _, X _ _ e, Heap.Ns.of_isNs (PySem.W.isNs_of_in X q.1.2), PySem.W.nsMap_none_of_in X q.1.2 (eq_of_beq q.2), PySem.W.tail_of_in X q.1.1.2⟩
    · cases q
  · cases q
def tRaise (c : Value) (Ex : St → XK) (t : TA) : TS := fun _ σ H => t σ H fun vs H1 => vs.length ≤ sizeLine ∧ Ex σ c none H1
theorem ps_raise {X : Cx} {x : Str} {C : Addr} {Ex : St → XK} {e : Expr} {es : List Expr} {t : TA} {np cpos pos : Pos} (O : ExcC X.K X.mg x C) (hx : PassN X Ex) (hc : X.calm = true) (ha : PA X (e :: es) t) (hg : Gl X x := by rfl) (hdb : (x == ("__debug__" : Str)) = false := by decide)
    (he : starEach (e :: es) X.env = (false, eval e X.env) :: starEach es X.env := by rfl) (hpl : (backTo cpos (starEach (e :: es) X.env)).any (·.1) = false := by rfl) : PS X (.Raise (some (.Call (.Name x np) (e :: es) [] cpos)) none pos) (tRaise (.ref C) Ex t) := by
  intro pins s σ H D I h
  obtain ⟨bm, bs, N, nm, qn, hd, ab, sn, sub, col, dd, k0, k1, k2, k3, k5, mN, hC, hN, hni, T⟩ := exc_obj (h := X.base) I.ok.mod.kin O.ok
  refine wpAny_Raise_call_subT (C := C) (nm := nm) (q := qn) (N := N) (bs := bs) (bm := bm) (hdct := hd) (sn := sn) (sub := sub) (ab := ab) (col := col) (dd := dd) (k0 := k0) (k1 := k1) (k2 := k2) (k3 := k3) (k5 := k5)
    PySem.F.excBase_ValueError (mN := mN) (T.hasType PySem.F.excBase_ValueError.hasBase) (I.ok.hd hc) hpl hni (ld_glob I hg O.g ⟨rfl, ?_⟩ hdb)
  have ha' := ha cpos pins s σ H _ I h
  rw [he] at ha' ⊢
  refine Calls.evalArgs_plain (thn ha' fun us s1 ⟨vs, H1, I1, r, hz, q⟩ => ?_)
  exact ⟨rfl, by rw [← r.length]; exact hz, I1.bk _ _ hC, hN.keeps I1.bk, T.keeps I1.bk, fun h' ea hm => hx pins σ H1 s1 h' ea (.ref C) us I1 hm q⟩
def tCallX (sp : Sp) (Ex : St → XK) (t : TA) : TE := fun σ H Q => t σ H fun vs H1 => sp vs H1 Q (Ex σ)
theorem run_fnX {X : Cx} {k : Nat} {f : Addr} {fd : FuncData} {ps : List Str} {sp : Sp} {Ex : St → XK} {pins : List (Addr × Obj)} {σ : St} {H : Hp} {s : Shared} {Q : VK} {us : List Value} {vs : List V} (F : FnOk X.prog X.w X.K X.mg X.base (CX1 X.prog X.w) k f fd ps sp) (hr : Room k X.A) (hb : Binds X.K fd ps []) (hx : PassS X Ex)
    (I : Inv X pins σ H s) (r : Vals vs us) (h : sp vs H Q (Ex σ)) : wpAny (model X.prog X.w) X.A (call (.ref f) us) (EP X pins σ Q) X.xe s := by
  have hl : us.length = ps.length := by rw [← r.length]; exact F.len _ _ _ _ h
  have hb' := hb s us I.kIn (by rw [List.append_nil]; exact hl)
  rw [List.append_nil] at hb'
  refine wpAny_call (codeAny_mono (F.run X.A X.stack s H ⟨us, []⟩ us vs Q (Ex σ) hr I.env0 hb' r h) fun r s' hq => ?_)
  cases r with
  | error e => exact hx pins σ H s e s' I hq
  | ok fl =>
    cases fl with
    | ret u => exact I.after hq
    | next => exact False.elim hq
    | brk => exact False.elim hq
    | cont => exact False.elim hq
theorem pcallX {X : Cx} {x : Str} {st : Stmt} {ps : List Str} {f : Addr} {fd : FuncData} {k : Nat} {sp : Sp} {Ex : St → XK} {e : Expr} {es : List Expr} {t : TA} {p pos : Pos} (D : Df X.K X.mg x st ps f fd) (G : FnOk X.prog X.w X.K X.mg X.base (CX1 X.prog X.w) k f fd ps sp) (hr : Room k X.A) (hx : PassS X Ex) (ha : PA X (e :: es) t) (hg : Gl X x := by rfl)
    (hdb : (x == ("__debug__" : Str)) = false := by decide) (he : starEach (e :: es) X.env = (false, eval e X.env) :: starEach es X.env := by rfl) (hpl : (backTo pos (starEach es X.env)).any (·.1) = false := by rfl) : PE X (.Call (.Name x p) (e :: es) [] pos) (tCallX sp Ex t) := by
  intro pins s σ H Q I h
  refine wpAny_Call_Name_kw (ld_glob I hg D.g ?_ hdb)
  refine PySem.W.callWith_K (h₀ := X.base) I.ok.mod.kin D.fn.kp (thn (ha pos pins s σ H _ I h) fun us s1 ⟨vs, H1, I1, r, q⟩ => ⟨I1.kIn, ?_⟩) he hpl
  exact run_fnX G hr D.b hx I1 r q
theorem Fun.ok1 {P : Program} {w : World} {K : PySem.W.Frag} {mg : Str → Option Value} {base : Heap} {x qual : Str} {st : Stmt} {f : Addr} {fd : FuncData} {N ps : List Str} {k : Nat} {sp : Sp} (F : Fun K x qual st f fd) (S : FnScope N ps (defScope st)) (len : ∀ vs H Q E, sp vs H Q E → vs.length = ps.length)
    (hbody : ∀ (cdv : Value) (A : Around) (outer : List Env) (s : Shared) (H : Hp) (vs : List V) (Q : VK) (E : XK), Room k (A.deeper (envOfC qual (defScope st) s.heap.objs.size f cdv)) → sp vs H Q E →
      ∃ t, PSs (cxOf (CX1 P w) P w K mg base N qual (defScope st) f cdv A outer s H E) (defBody st) t ∧ t { nx := fun _ H' => Q .non H', rt := Q } (start N vs) H) : FnOk P w K mg base (CX1 P w) (k + 1) f fd ps sp := by
  obtain ⟨oc, od, kV, doc, pm, an, cdv, ct, osl, rfl, lk, hcd⟩ := F.ex
  exact fn_of lk hcd S len fun A outer s H vs Q E hr hsp => hbody cdv A outer s H vs Q E hr hsp
end L2
set_option Elab.async false
set_option linter.all false
set_option maxRecDepth 100000
namespace L2
open PySem PySem.Spec PyProof.Rows Builtin Builtin.ObjectAttr Builtin.Getset_descriptor
structure ExcI (K : PySem.W.Frag) (C : Addr) : Prop where
  ga : PySem.W.findIn K (.ref C) "__getattribute__" = some (some (.builtin "BaseException.__getattribute__"))
  hk : PySem.W.findIn K (.ref C) "__getattr__" = some none
  at_ : PySem.W.findIn K (.ref C) "__class__" = some (some (.builtin "object.__class__"))
  sp : PySem.W.specialIn K (.builtin "object.__class__") "__get__" = some (some (.builtin "getset_descriptor.__get__"))
  tk : PySem.W.takesIn K (.builtin "object.__class__") = some true
  mo : PySem.W.mroIn K C (.type "object") = some true
  mb : PySem.W.mroIn K C (.type "BaseException") = some true
def ExcAt (e C : Addr) (h : Heap) : Prop := ∃ o, h.get? e = some o ∧ o.cls = .ref C
section
variable {prog : Program} {w : World} {A : Around} {K : PySem.W.Frag} {e C : Addr} {h : Heap}
theorem ExcAt.ty {M : Model} (x : ExcAt e C h) : PySem.W.Looks M h (typeOf (.ref e)) (.ref C) := by
  obtain ⟨o, h1, h2⟩ := x
  have L : PySem.W.Looks M h (typeOf (.ref e)) o.cls := (PySem.W.Looks.ld h1).andThen .now
  rw [h2] at L
  exact L
theorem exc_find {M : Model} (X : K.In h) (F : ExcI K C) : PySem.W.Looks M h (find (.ref e) (.ref C) "__class__") (.bind (.builtin "getset_descriptor.__get__") (.builtin "object.__class__")) := by
  have q3 : PySem.W.Looks M h (dataDescriptor? (some (.builtin "object.__class__")) (some (.builtin "getset_descriptor.__get__"))) (some (.builtin "getset_descriptor.__get__", .builtin "object.__class__")) := (PySem.W.looks_takesIn X F.tk).andThen .now
  have q2 : PySem.W.Looks M h (getOf (some (.builtin "object.__class__"))) (some (.builtin "getset_descriptor.__get__")) := PySem.W.looks_specialIn X F.sp
  exact (PySem.W.looks_findIn X F.at_).andThen (q2.andThen (q3.andThen (PySem.W.Looks.tag .now)))
theorem exc_classGet {R : Result → Shared → Prop} {s : Shared} {tp : Value} (X : K.In s.heap) (x : ExcAt e C s.heap) (F : ExcI K C) (q : R (.ok (.ret (.ref C))) s) : codeAny (model prog w) A (.call (.builtin "getset_descriptor.__get__") ⟨[.builtin "object.__class__", .ref e, tp], []⟩) R s := by
  cases s with
  | mk hp gn dr tk os =>
    have y0 := x.ty (M := model prog w)
    have y1 := PySem.W.looks_mroIn (M := model prog w) X F.mo
    refine codeAny_call_builtin PySem.W.KF.slot_gs.plain PySem.W.KF.entry_gs (PySem.W.KF.slot_gs.check _ _ _ _ _ _ _ _ PySem.W.KF.type_class (PySem.W.KF.args_gs _ _ _) ?_)
    unfold «getset_descriptor.__get__» descrGet
    rw [PySem.W.dga_obj]
    refine wpAny_bind (wpAny_pure ?_)
    unfold descrGetter descrCheckInstance descrNameAndClass isInstance
    simp only [PySem.W.KF.owner_class]
    repeat lk
    refine ⟨Code.quiet_builtin _ (by decide +kernel), codeAny_builtin PySem.W.KF.entry_class ?_⟩
    unfold «object.__class__» shownTypeOf
    repeat lk
    exact q
theorem exc_ga {R : Result → Shared → Prop} {s : Shared} {t : Tok} (X : K.In s.heap) (x : ExcAt e C s.heap) (F : ExcI K C) (q : R (.ok (.ret (.ref C))) s) : codeAny (model prog w) A (.call (.builtin "BaseException.__getattribute__") ⟨[.ref e, .str "__class__" t], []⟩) R s := by
  cases s with
  | mk hp gn dr tk os =>
    have y0 := x.ty (M := model prog w)
    have y3 := exc_find (M := model prog w) (e := e) X F
    have y4 := PySem.W.looks_mroIn (M := model prog w) X F.mb
    refine codeAny_call_builtin PySem.F.attr_ValueError.ga.plain PySem.F.entry_bexc_ga ?_
    have z1 : builtinKind "BaseException.__getattribute__" = some .slot := by decide +kernel
    have z2 : splitId "BaseException.__getattribute__" = some ("BaseException", "__getattribute__") := by decide +kernel
    have z3 := PySem.F.args_bexc_ga (.ref e) (.str "__class__" t)
    simp only [checkBuiltinCall, z1, z2]
    refine wpAny_bind ?_
    unfold isInstance
    refine wpAny_bind (y0.at (y4.at ?_))
    repeat (any_goals (first | assumption | wp_step))
    obtain ⟨o, h1, h2⟩ := id x
    refine wpAny_loadPart h1 (wpAny_pure ?_)
    rw [h2]
    refine wpAny_bind (y3.at ?_)
    dsimp only
    repeat (any_goals (first | assumption | with_reducible refine wpAny_holding ?_ | wp_step))
    exact exc_classGet (s := ⟨hp, gn, dr, tk, os⟩) X x F (wpAny_pure q)
theorem exc_class {E : Value → Shared → Prop} {Q : Option Value → Shared → Prop} {s : Shared} (X : K.In s.heap) (x : ExcAt e C s.heap) (F : ExcI K C) (q : Q (some (.ref C)) { s with toks := s.toks + 1 }) : wpAny (model prog w) A (getAttr? (.ref e) "__class__") Q E s := by
  cases s with
  | mk hp gn dr tk os =>
    have y0 := x.ty (M := model prog w)
    have y1 := PySem.W.looks_findIn (M := model prog w) X F.ga
    have y2 := PySem.W.looks_findIn (M := model prog w) X F.hk
    have y3 := exc_find (M := model prog w) (e := e) X F
    have y4 := PySem.W.looks_mroIn (M := model prog w) X F.mb
    unfold getAttr? getAttrBy? getAttrBy
    refine wpAny_bind (wpAny_mkText (wpAny_bind (wpAny_attempt (wpAny_holding (wpAny_bind (y0.at (wpAny_bind (y1.at ?_))))))))
    show wpAny _ _ (if (onTheHeap (.ref C) && (Value.builtin "BaseException.__getattribute__" == Value.builtin "object.__getattribute__")) = true then _ else _) _ _ _
    rw [show (Value.builtin "BaseException.__getattribute__" == Value.builtin "object.__getattribute__") = false from by decide +kernel, Bool.and_false, if_neg (by decide)]
    unfold getAttrByItsOwn hookBefore
    refine wpAny_bind ?_
    rw [if_pos (show onTheHeap (.ref C) = true from rfl)]
    refine y2.at (wpAny_bind (wpAny_attempt (wpAny_holding ?_)))
    unfold callGetattribute boundAndCalled
    rw [if_neg (by intro z; cases z)]
    refine wpAny_bind (wpAny_of_eq (PySem.F.attr_ValueError.ga.bind (.ref e)) ?_)
    exact wpAny_call (exc_ga (s := ⟨hp, gn, dr, tk + 1, os⟩) X x F (wpAny_pure (wpAny_pure q)))
theorem kitx_exc (F : ExcI K C) : PySem.W.KitX K (.ref e) (.ref C) (ExcAt e C) where
  ty := fun _ _ _ x => x.ty
  it := fun _ _ X _ => by
    have z := F.mo
    unfold PySem.W.mroIn PySem.W.clsIn at z
    split at z
    · rename_i ho
      intro A1 Q1 E1 s1 k q
      unfold isType loadHead
      exact wpAny_bind (wpAny_loadPart (k _ _ (X _ _ ho)) (wpAny_pure q))
    · cases z
  ne := fun h tp dd its n sl X htp => by
    have z := F.mo
    refine Bool.eq_false_iff.mpr fun q => ?_
    have ec : C = tp := Value.ref.inj (beq_iff_eq.mp q)
    subst ec
    unfold PySem.W.mroIn PySem.W.clsIn at z
    split at z
    · rename_i ho
      have z2 := X _ _ ho
      rw [htp] at z2
      cases z2
    · cases z
  ca := fun X x q => exc_class X x F q
def excO (e C : Addr) : HO := .ext fun h => ExcAt e C h
def rIsiX (K : PySem.W.Frag) : List V → Hp → VK → Prop := fun xs H Q => ∃ e C c cu b, xs = [.ref e, c] ∧ RelV c cu ∧ (∀ u, RelV c u → u = cu) ∧ H e = some (excO e C) ∧ ExcI K C ∧ PySem.W.kitOne K (.ref C) cu = some b ∧ Q (.bl b) H
theorem call_isiX {X : Cx} : CallR X (.builtin "isinstance") (rIsiX X.K) := by
  intro pins s σ H xs us Q I r h
  obtain ⟨e, C, c, cu, b, rfl, _, un, he, F, k, q⟩ := h
  obtain ⟨u, v, rfl, rx, rt⟩ := vals2 r
  cases (show u = Value.ref e from rx)
  cases un v rt
  have o : ObjOk X.prog X.w H s.heap e (excO e C) := I.hok e _ he
  exact PySem.W.kia_one (kitx_exc F) I.kIn o.1 k (fun z => nomatch z) fun tk => ⟨.bl b, H, I.tok tk, rfl, q⟩
theorem k_isiX {X : Cx} (K : PySem.W.Frag) (e : X.K = K := by rfl) : CallR X (.builtin "isinstance") (rIsiX K) := by subst e; exact call_isiX
end
end L2
set_option Elab.async false
set_option linter.all false
set_option maxRecDepth 100000
namespace L2
open PySem PySem.Spec PyProof.Rows
structure CatchC (K : PySem.W.Frag) (mg : Str → Option Value) (y : Str) (Ch : Addr) : Prop where
  g : mg y = some (.ref Ch)
  mb : PySem.W.mroIn K Ch (.type "BaseException") = some true
theorem exc_match {prog : Program} {w : World} {A : Around} {E : Value → Shared → Prop} {K : PySem.W.Frag} {e C Ch : Addr} {s : Shared} {b : Bool} {Q : Bool → Shared → Prop} (X : K.In s.heap) (x : ExcAt e C s.heap) (m : PySem.W.kitCls K (.ref C) (.ref Ch) = some b)
    (hb : PySem.W.mroIn K Ch (.type "BaseException") = some true) (q : Q b s) : wpAny (model prog w) A (excMatches (.ref e) (.ref Ch)) Q E s := by
  cases s with
  | mk hp gn dr tk os =>
    obtain ⟨y1, y2, y3⟩ := PySem.W.kit_cls (M := model prog w) X m
    have y0 := x.ty (M := model prog w)
    have y4 := PySem.W.looks_mroIn (M := model prog w) X hb
    have y5 := tc_notTuple
    unfold excMatches isInstance isExcClass
    repeat (first | with_reducible refine PySem.W.Looks.at (by assumption) ?_ | (with_reducible refine wpAny_of_eq y5 ?_) | with_reducible refine wpAny_bind ?_ | wp_step)
    cases b
    · exact wpAny_pure (wpAny_pure (wpAny_pure q))
    · exact wpAny_pure (wpAny_pure (wpAny_pure q))
section
variable {X : Cx} {pins : List (Addr × Obj)} {σ : St} {H H' : Hp} {s s' : Shared}
abbrev Cx.sui (X : Cx) (e : Addr) : Cx := { X with A := X.A.mark (some (.ref e)), calm := false, xe := fun _ _ => False }
theorem Inv.toSui (I : Inv X pins σ H s) (e : Addr) : Inv (X.sui e) pins σ H s :=
  ⟨⟨I.ok.mod, I.ok.kind, I.ok.glob, I.ok.blt, I.ok.above, I.ok.inj, I.ok.has, I.ok.cab, (fun z => nomatch z), I.ok.frames, I.ok.stk, I.ok.exf, I.ok.bs, I.ok.bsz, I.ok.noex, I.ok.exfs, I.ok.funs, I.ok.frf⟩, I.os, I.bare, I.base, I.loc, I.cell, I.free, I.freeC, I.pin, I.hok, I.len⟩
theorem Inv.ofSui {e : Addr} (ok : X.Ok) (I : Inv (X.sui e) pins σ H s) : Inv X pins σ H s := ⟨ok, I.os, I.bare, I.base, I.loc, I.cell, I.free, I.freeC, I.pin, I.hok, I.len⟩
abbrev Cx.body (X : Cx) (E : Value → Shared → Prop) (pn : List (Addr × Obj)) : Cx := { X with xe := E, pn := pn }
theorem Inv.toBody (I : Inv X pins σ H s) (E : Value → Shared → Prop) : Inv (X.body E (X.pn ++ pins)) [] σ H s :=
  ⟨⟨I.ok.mod, I.ok.kind, I.ok.glob, I.ok.blt, I.ok.above, I.ok.inj, I.ok.has, I.ok.cab, I.ok.hd, I.ok.frames, I.ok.stk, I.ok.exf, I.ok.bs, I.ok.bsz, I.ok.noex, I.ok.exfs, I.ok.funs, I.ok.frf⟩, I.os, I.bare, I.base, I.loc, I.cell, I.free, I.freeC, fun p hp => I.pin p (by rw [List.append_nil] at hp; exact hp), I.hok, I.len⟩
theorem Inv.ofBody {E : Value → Shared → Prop} {pins' : List (Addr × Obj)} (ok : X.Ok) (I : Inv (X.body E (X.pn ++ pins)) pins' σ H s) : Inv X pins σ H s := ⟨ok, I.os, I.bare, I.base, I.loc, I.cell, I.free, I.freeC, fun p hp => I.pin p (List.mem_append_left _ hp), I.hok, I.len⟩
theorem SP.ofBody {E : Value → Shared → Prop} {D : Ends} {f : Flow} (ok : X.Ok) (h : SP (X.body E (X.pn ++ pins)) [] D f s') : SP X pins D f s' := by
  cases f with
  | next => obtain ⟨σ', H', I, q⟩ := h; exact ⟨σ', H', I.ofBody ok, q⟩
  | brk => obtain ⟨σ', H', I, q⟩ := h; exact ⟨σ', H', I.ofBody ok, q⟩
  | cont => obtain ⟨σ', H', I, q⟩ := h; exact ⟨σ', H', I.ofBody ok, q⟩
  | ret u => obtain ⟨v, σ', H', I, r, q⟩ := h; exact ⟨v, σ', H', I.ofBody ok, r, q⟩
theorem fly_track {e C : Addr} {h' : Heap} (un : Un (frs X.stack) [] H H' s.heap h') (hok : HOk X.prog X.w H' h') (n0 : s.heap.get? e = none) (n1 : H' e = none) (x : ExcAt e C h') :
    Un (frs X.stack) [] H (upd H' e (excO e C)) s.heap h' ∧ HOk X.prog X.w (upd H' e (excO e C)) h' := by
  have ne : ∀ b o, s.heap.get? b = some o → b ≠ e := fun b o q z => by rw [z, n0] at q; cases q
  refine ⟨⟨un.keep, un.slot, fun b o q n hx => by rw [upd_ne (ne b o q)]; exact un.free b o q n hx, un.there, fun b xs q => ?_, fun b o u q => ?_, fun b ps q => ?_⟩, fun b o q => ?_⟩
  · have z := un.tups b xs q
    rw [upd_ne (ne_of_none z n1)]; exact z
  · have z := un.frzs b o u q
    rw [upd_ne (ne_of_none z n1)]; exact z
  · obtain ⟨more, z⟩ := un.tbls b ps q
    exact ⟨more, by rw [upd_ne (ne_of_none z n1)]; exact z⟩
  · by_cases hb : b = e
    · subst hb
      rw [upd_same] at q
      cases q
      obtain ⟨o, h1, h2⟩ := id x
      exact ⟨x, ⟨o, h1⟩, fun ha hb' xa ka => let ⟨o, h1, h2⟩ := xa; ⟨o, ka o h1, h2⟩⟩
    · rw [upd_ne hb] at q
      exact (hok b o q).stay (fun c u _ z => z) (fun c z => by rw [upd_ne (ne_of_none z n1)]; exact z) fun c xs z => by rw [upd_ne (ne_of_none z n1)]; exact z
theorem Inv.gone {i t : Nat} {n : Str} {h' : Heap} (I : Inv X pins σ H s) (hN : X.N.Nodup) (hi : X.N[i]? = some n) (hs : Heap.SameBut X.env.locals s.heap h') (hn : ∀ m, s.heap.Ns X.env.locals m → ∃ v, h'.Ns X.env.locals fun x => if x = n then v else m x) :
    Inv X pins (σ.set i none) H { s with heap := h', toks := t } := by
  have nl : ∀ b o, X.s₀.heap.get? b = some o → b ≠ X.env.locals := fun b o e => Nat.ne_of_lt (Nat.lt_of_lt_of_le (Heap.lt_size e) I.ok.above)
  have tr : ∀ b u, H b = some u → b ≠ X.env.locals := fun b u e z => by rw [z, I.free] at e; cases e
  obtain ⟨m, hm, hl⟩ := id I.loc
  obtain ⟨v, hv⟩ := hn m hm
  refine ⟨I.ok, I.os, I.bare, ⟨fun b o e n hb hx => (hs.2 b (nl b o e)).trans (I.base.keep b o e n hb hx), fun b o e n hb hx => ?_, I.base.free, fun b o e hx => ?_, I.base.tups, I.base.frzs, I.base.tbls⟩, ⟨_, hv, fun j y w e1 e2 e3 => ?_⟩, fun y c e => ?_, I.free, I.freeC, fun p hp => ?_, fun b u e => ?_, by rw [List.length_set]; exact I.len⟩
  · obtain ⟨sl, q⟩ := I.base.slot b o e n hb hx
    exact ⟨sl, (hs.2 b (nl b o e)).trans q⟩
  · obtain ⟨o1, q⟩ := I.base.there b o e hx
    exact ⟨o1, (hs.2 b (nl b o e)).trans q⟩
  · have hj : j ≠ i := fun z => by
      subst z
      rw [List.getElem?_set] at e2
      split at e2
      · split at e2 <;> cases e2
      · exact absurd rfl (by assumption)
    rw [List.getElem?_set_ne (Ne.symm hj)] at e2
    obtain ⟨u, r, q⟩ := hl j y w e1 e2 e3
    refine ⟨u, r, ?_⟩
    rcases q with ⟨k, z⟩ | ⟨k, c, z, zc⟩
    · refine .inl ⟨k, ?_⟩
      have ny : y ≠ n := fun z => hj (nodup_ix hN e1 (z ▸ hi))
      show (if y = n then v else m y) = some u
      rw [if_neg ny]; exact z
    · exact .inr ⟨k, c, z, zc.sameBut hs (I.cne y c z)⟩
  · obtain ⟨w, z⟩ := I.cell y c e
    exact ⟨w, z.sameBut hs (I.cne y c e)⟩
  · obtain ⟨e, n, ne, nf, d⟩ := I.pin p hp
    exact ⟨(hs.2 p.1 ne).trans e, n, ne, nf, d⟩
  · refine (I.hok b u e).stay (fun c z hc q => (hs.2 c ?_).trans q) (fun _ q => q) fun _ _ q => q
    rcases hc with z | z
    · rw [z]; exact tr b u e
    · exact tr c _ z
end
def dropE (i : Nat) (D : Ends) : Ends := { nx := fun σ H => D.nx (σ.set i none) H, rt := D.rt, bk := fun σ H => D.bk (σ.set i none) H, ct := fun σ H => D.ct (σ.set i none) H }
def xAs (K : PySem.W.Frag) (Ch : Addr) (i : Nat) (ts : TS) (D : Ends) : St → XK := fun σ c _ H => ∃ C, c = .ref C ∧ PySem.W.kitCls K (.ref C) (.ref Ch) = some true ∧ ∀ e, H e = none → ts (dropE i D) (σ.set i (some (.ref e))) (upd H e (excO e C))
def tTryAs (K : PySem.W.Frag) (Ch : Addr) (i : Nat) (tb : (St → XK) → TS) (ts : TS) : TS := fun D σ H => tb (xAs K Ch i ts D) D σ H
section
variable {X : Cx} {y n : Str} {Ch : Addr} {i : Nat} {body suite : List Stmt} {b₀ : Stmt} {tb : (St → XK) → TS} {ts : TS} {np hpos pos : Pos}
theorem ps_tryAs (O : CatchC X.K X.mg y Ch) (hstk : X.stack = X.env :: X.outer) (hfr : X.env.frame = some X.env.locals) (nd : X.N.Nodup) (hi : X.N[i]? = some n) (hloc : X.env.scope.names.lookup n = some .local)
    (hb : ∀ (E : Value → Shared → Prop) (pn : List (Addr × Obj)) (Ex : St → XK), PassS (X.body E pn) Ex → PSs (X.body E pn) body (tb Ex)) (hs : ∀ e, PSs (X.sui e) (b₀ :: suite) ts) (hg : Gl X y := by rfl) (hdb : (y == ("__debug__" : Str)) = false := by decide) :
    PS X (.Try body [.ExceptHandler (some (.Name y np)) (some n) (b₀ :: suite) hpos] [] [] pos) (tTryAs X.K Ch i tb ts) := by
  intro pins s σ H D I h
  have ok := I.ok
  refine wpAny_Try_except (wpAny_mono (hb (fun e s₁ => wpAny (model X.prog X.w) X.A (noteFrame e X.env) (fun _ s₂ => wpAny (model X.prog X.w) X.A (setFlight e none) (fun _ s₃ => wpAny (model X.prog X.w) X.A (handleBy e X.env [.ExceptHandler (some (.Name y np)) (some n) (b₀ :: suite) hpos]) (SP X pins D) X.xe s₃) X.xe s₂) X.xe s₁)
    (X.pn ++ pins) (xAs X.K Ch i ts D) ?_ [] s σ H D (I.toBody _) h) (fun f s1 q => ?_) fun _ _ z => z)
  · intro pins2 σ2 H2 s2 e s3 I2 hcx
    have I2 := I2.ofBody ok
    obtain ⟨ea, c, H3, rfl, os, bare, un, hok, n0, n1, t, C, rfl, hk, hq⟩ := hcx
    obtain ⟨B, a0, hB, fl⟩ := fly_lib I2 os bare un hok n0 n1 t
    have fl' : Heap.FlyingW B (X.env :: X.outer) ea (.ref C) a0 s3.heap := by rw [← hstk]; exact fl
    refine wpAny_looks_onW (by rw [ok.frames, hstk]) hfr fl' fun h4 held up4 => wpAny_landsW held fun h5 fl5 up5 => ?_
    obtain ⟨u5, k5⟩ := fly_un I2 un hok hB fl5.1 (up4.trans up5)
    have J5 : Inv X pins σ2 H3 { s3 with heap := h5 } := I2.call' (ch := []) os u5 k5 bare fun b z => absurd z (by simp)
    have x5 : ExcAt ea C h5 := fl5.there
    refine wpAny_handleBy_cons (codeAny_handlers_test (ld_glob (X := X.sui ea) (J5.toSui ea) hg O.g ?_ hdb)) (by intro z; cases z)
    refine exc_match J5.kIn x5 hk O.mb (codeAny_handlers_suite_as (lands_againW fl5 fun h6 fl6 up6 => ?_))
    obtain ⟨u6, k6⟩ := fly_un I2 un hok hB fl6.1 ((up4.trans up5).trans up6)
    obtain ⟨u7, k7⟩ := fly_track u6 k6 n0 n1 fl6.there
    have J7 : Inv X pins σ2 (upd H3 ea (excO ea C)) { s3 with heap := h6 } := I2.call' (ch := []) os u7 k7 bare fun b z => absurd z (by simp)
    refine store_ok (X := X.sui ea) (v := .ref ea) (J7.toSui ea) nd hi (.inl hloc) rfl (fun s8 J8 => ?_) (.inr hloc)
    refine wpAny_mono (hs ea pins s8 _ _ (dropE i D) J8 (hq ea n1)) (fun f s9 q => ?_) fun _ _ z => False.elim z
    have fin : ∀ {σ9 : St} {H9 : Hp}, Inv (X.sui ea) pins σ9 H9 s9 → (∀ s10, Inv X pins (σ9.set i none) H9 s10 → SP X pins D f s10) → wpAny (model X.prog X.w) X.A (do bindName X.env n .none; unbindBehindTheSuite X.env n hpos) (fun _ s10 => SP X pins D f s10) X.xe s9 := fun {σ9 H9} J k => by
      have J' := J.ofSui ok
      obtain ⟨m, hm, _⟩ := id J'.loc
      refine wpAny_nameGoes_keeps hloc hm (by rw [ok.kind]; rfl) fun h10 v hn hsb => k _ (J'.gone nd hi hsb fun m2 hm2 => ?_)
      refine ⟨v, ?_⟩
      have e : m2 = m := by
        obtain ⟨o1, es1, ep1, a1, b1, c1, d1⟩ := hm
        obtain ⟨o2, es2, ep2, a2, b2, c2, d2⟩ := hm2
        rw [a1] at a2; cases a2
        rw [b1] at b2; cases b2
        funext z
        rw [← d1, ← d2]
      rw [e]; exact hn
    cases f with
    | next => obtain ⟨σ9, H9, J, q⟩ := q; exact fin J fun s10 K10 => ⟨_, _, K10, q⟩
    | brk => obtain ⟨σ9, H9, J, q⟩ := q; exact fin J fun s10 K10 => ⟨_, _, K10, q⟩
    | cont => obtain ⟨σ9, H9, J, q⟩ := q; exact fin J fun s10 K10 => ⟨_, _, K10, q⟩
    | ret u => obtain ⟨v, σ9, H9, J, r, q⟩ := q; exact fin J fun s10 K10 => ⟨v, _, _, K10, r, q⟩
  · cases f with
    | next => exact wpAny_execs_nil (SP.ofBody ok q)
    | ret u => exact SP.ofBody ok q
    | brk => exact SP.ofBody ok q
    | cont => exact SP.ofBody ok q
end
end L2
set_option Elab.async false
set_option linter.all false
set_option maxRecDepth 100000
namespace L2
open PySem PyProof.Rows
structure Fit (k n : Nat) (d : PyData) : Prop where
  ls : d.leavesShort 40 = true
  sh : d.showable = true
  dp : d.depth ≤ k
  wt : d.weight ≤ n
theorem Fit.shown {k n : Nat} {d : PyData} (f : Fit k n d) (hn : n ≤ 100000) : d.shown.length ≤ sizeLine := by
  have h := PyData.shown_le 40 (by decide) d f.ls
  have := f.wt
  rw [sizeLine_eq]
  omega
def Th (H : Hp) (k n : Nat) (v : V) : Prop := ∃ d, ThAt H d v ∧ Fit k n d
theorem Th.same {H H' : Hp} {k n : Nat} {v : V} (t : Th H k n v) (m : Same H H') : Th H' k n v := let ⟨d, h, f⟩ := t; ⟨d, h.same m, f⟩
theorem Th.le {H : Hp} {k n k' n' : Nat} {v : V} (t : Th H k n v) (hk : k ≤ k') (hn : n ≤ n') : Th H k' n' v := let ⟨d, h, f⟩ := t; ⟨d, h, f.ls, f.sh, Nat.le_trans f.dp hk, Nat.le_trans f.wt hn⟩
section
variable {H : Hp} {k n : Nat}
theorem Th.non : Th H k n .non := ⟨.none, by rw [ThAt], by rw [PyData.leavesShort], by rw [PyData.showable], by rw [PyData.depth]; exact Nat.zero_le _, by rw [PyData.weight]; exact Nat.zero_le _⟩
theorem Th.bl {b : Bool} : Th H k n (.bl b) := ⟨.bool b, by rw [ThAt], by rw [PyData.leavesShort], by rw [PyData.showable], by rw [PyData.depth]; exact Nat.zero_le _, by rw [PyData.weight]; exact Nat.zero_le _⟩
theorem log2_small {m : Nat} (h : m < 10 ^ 30) : m.log2 < 100 := by
  by_cases z : m = 0
  · subst z; decide
  · exact (Nat.log2_lt z).mpr (Nat.lt_trans h (by decide))
theorem Th.int {i : Int} (h : i.natAbs < 10 ^ 30) (hn : 100 ≤ n) : Th H k n (.int i) := by
  refine ⟨.int i, by rw [ThAt], ?_, ?_, by rw [PyData.depth]; exact Nat.zero_le _, ?_⟩
  · rw [PyData.leavesShort, PyData.shown]
    refine decide_eq_true ?_
    have := int_text_length_le10 (a := i) (k := 30) (by decide) h
    rw [PySem.ofString_length]
    omega
  · rw [PyData.showable]
    exact decide_eq_true (Nat.lt_trans (log2_small h) (by decide))
  · rw [PyData.weight]
    have := log2_small h
    split <;> omega
theorem Th.str {x : Str} (h : (x.cps.toList.all fun c => decide (c < 16 ^ 8)) = true) (hn : x.cps.size ≤ n) : Th H k n (.str x) := ⟨.str x, by rw [ThAt], by rw [PyData.leavesShort]; exact h, by rw [PyData.showable], by rw [PyData.depth]; exact Nat.zero_le _, by rw [PyData.weight]; exact hn⟩
theorem Th.emp {a : Addr} (h : H a = some (.dK [])) (hk : 1 ≤ k) : Th H k n (.ref a) := ⟨.dict [], by rw [ThAt]; exact ⟨rfl, a, rfl, h⟩, by rw [PyData.leavesShort, PyData.leavesShortKv], by rw [PyData.showable, PyData.showableKv], by rw [PyData.depth, PyData.depthKv]; exact hk, by rw [PyData.weight, PyData.weightKv]; exact Nat.zero_le _⟩
theorem Th.ipair {ps : List (Int × Int)} (t : ∀ p ∈ ps, p.1.natAbs < 10 ^ 30 ∧ p.2.natAbs < 10 ^ 30) : PyData.leavesShortKv 40 (dD ps) = true ∧ PyData.showableKv (dD ps) = true ∧ PyData.weightKv (dD ps) ≤ 202 * ps.length := by
  induction ps with
  | nil =>
    show PyData.leavesShortKv 40 [] = true ∧ PyData.showableKv [] = true ∧ PyData.weightKv [] ≤ _
    rw [PyData.leavesShortKv, PyData.showableKv, PyData.weightKv]
    exact ⟨rfl, rfl, Nat.zero_le _⟩
  | cons p ps ih =>
    obtain ⟨i1, i2, i3⟩ := ih fun q hq => t q (.tail _ hq)
    obtain ⟨k, v⟩ := p
    obtain ⟨a1, a2⟩ := t (k, v) (.head _)
    obtain ⟨d1, g1, f1⟩ := Th.int (H := fun _ => none) (k := 0) (n := 100) a1 (Nat.le_refl _)
    obtain ⟨d2, g2, f2⟩ := Th.int (H := fun _ => none) (k := 0) (n := 100) a2 (Nat.le_refl _)
    have e1 : d1 = .int k := by cases d1 <;> rw [ThAt] at g1 <;> first | (obtain ⟨_, _, z, _⟩ := g1; cases z; done) | (obtain ⟨_, _, z, _⟩ := g1; cases z; done) | (cases g1; rfl) | (cases g1; done)
    have e2 : d2 = .int v := by cases d2 <;> rw [ThAt] at g2 <;> first | (obtain ⟨_, _, z, _⟩ := g2; cases z; done) | (obtain ⟨_, _, z, _⟩ := g2; cases z; done) | (cases g2; rfl) | (cases g2; done)
    subst e1 e2
    show PyData.leavesShortKv 40 ((.int k, .int v) :: dD ps) = true ∧ PyData.showableKv ((.int k, .int v) :: dD ps) = true ∧ PyData.weightKv ((.int k, .int v) :: dD ps) ≤ _
    rw [PyData.leavesShortKv, PyData.showableKv, PyData.weightKv, f1.ls, f2.ls, f1.sh, f2.sh, i1, i2]
    refine ⟨rfl, rfl, ?_⟩
    have := f1.wt
    have := f2.wt
    rw [List.length_cons]; omega
theorem ThAt.dic {a : Addr} {ps : List (Int × Int)} (h : H a = some (.dK (dV ps))) : ThAt H (.dict (dD ps)) (.ref a) := by
  rw [ThAt, unD_dD]
  exact ⟨rfl, a, rfl, h⟩
theorem Th.dic {a : Addr} {ps : List (Int × Int)} (h : H a = some (.dK (dV ps))) (hk : 1 ≤ k) (t : ∀ p ∈ ps, p.1.natAbs < 10 ^ 30 ∧ p.2.natAbs < 10 ^ 30) (hn : 202 * ps.length ≤ n) : Th H k n (.ref a) := by
  obtain ⟨h1, h2, h3⟩ := Th.ipair t
  refine ⟨.dict (dD ps), ThAt.dic h, by rw [PyData.leavesShort]; exact h1, by rw [PyData.showable]; exact h2, ?_, by rw [PyData.weight]; omega⟩
  rw [PyData.depth, depth_dD]; exact hk
theorem Ths.of : ∀ {vs : List V}, (∀ v ∈ vs, Th H k n v) → ∃ ds, ThsAt H ds vs ∧ PyData.leavesShortAll 40 ds = true ∧ PyData.showableAll ds = true ∧ PyData.depthAll ds ≤ k ∧ PyData.weightAll ds ≤ (n + 1) * vs.length
  | [], _ => ⟨[], by rw [ThsAt], by rw [PyData.leavesShortAll], by rw [PyData.showableAll], by rw [PyData.depthAll]; exact Nat.zero_le _, by rw [PyData.weightAll]; exact Nat.zero_le _⟩
  | v :: vs, h => by
    obtain ⟨d, h1, f⟩ := h v (.head _)
    obtain ⟨ds, g1, g2, g3, g4, g5⟩ := Ths.of fun v hv => h v (.tail _ hv)
    refine ⟨d :: ds, by rw [ThsAt]; exact ⟨_, _, rfl, h1, g1⟩, by rw [PyData.leavesShortAll, f.ls, g2]; rfl, by rw [PyData.showableAll, f.sh, g3]; rfl, ?_, ?_⟩
    · rw [PyData.depthAll]; have := f.dp; omega
    · rw [PyData.weightAll, List.length_cons, Nat.mul_succ]; have := f.wt; omega
theorem Th.lst {a : Addr} {vs : List V} {n' : Nat} (h : H a = some (.lst vs)) (t : ∀ v ∈ vs, Th H k n v) (hn : (n + 1) * vs.length ≤ n') : Th H (k + 1) n' (.ref a) := by
  obtain ⟨ds, g1, g2, g3, g4, g5⟩ := Ths.of t
  exact ⟨.list ds, by rw [ThAt]; exact ⟨a, vs, rfl, h, g1⟩, by rw [PyData.leavesShort]; exact g2, by rw [PyData.showable]; exact g3, by rw [PyData.depth]; omega, by rw [PyData.weight]; omega⟩
theorem Th.tup {a : Addr} {vs : List V} {n' : Nat} (h : H a = some (.tup vs)) (t : ∀ v ∈ vs, Th H k n v) (hn : (n + 1) * vs.length ≤ n') : Th H (k + 1) n' (.ref a) := by
  obtain ⟨ds, g1, g2, g3, g4, g5⟩ := Ths.of t
  exact ⟨.tuple ds, by rw [ThAt]; exact ⟨a, vs, rfl, h, g1⟩, by rw [PyData.leavesShort]; exact g2, by rw [PyData.showable]; exact g3, by rw [PyData.depth]; omega, by rw [PyData.weight]; omega⟩
theorem Th.ints {a : Addr} {ns : List Int} {n' : Nat} (h : H a = some (.lst (ns.map V.int))) (t : ∀ i ∈ ns, i.natAbs < 10 ^ 30) (hn : 101 * ns.length ≤ n') : Th H (k + 1) n' (.ref a) :=
  Th.lst (n := 100) h (fun v hv => by
    obtain ⟨i, hi, rfl⟩ := List.mem_map.mp hv
    exact Th.int (t i hi) (Nat.le_refl _)) (by rw [List.length_map]; exact hn)
end
end L2
set_option Elab.async false
set_option linter.all false
set_option maxRecDepth 100000
namespace L2
open PySem PySem.Spec PyProof.Rows
theorem pa_str {X : Cx} {x : Str} {j} {pos : Pos} {es : List Expr} {t : TA} (h : PA X es t) : PA X (.Constant (.str x) j pos :: es) (tCons (tC (.str x)) t) := pa_cons pe_str h rfl
end L2
set_option Elab.async false
set_option linter.all false
set_option maxRecDepth 100000
namespace L2
open PySem PyProof.Rows
@[irreducible] def PEI (X : Cx) (e : Expr) (t : TE) : Prop := PE X e t
@[irreducible] def PAI (X : Cx) (es : List Expr) (t : TA) : Prop := PA X es t
@[irreducible] def PSsI (X : Cx) (st : List Stmt) (t : TS) : Prop := PSs X st t
theorem PEI.o {X : Cx} {e : Expr} {t : TE} (h : PEI X e t) : PE X e t := by unfold PEI at h; exact h
theorem PAI.o {X : Cx} {es : List Expr} {t : TA} (h : PAI X es t) : PA X es t := by unfold PAI at h; exact h
theorem PSsI.o {X : Cx} {l : List Stmt} {t : TS} (h : PSsI X l t) : PSs X l t := by unfold PSsI at h; exact h
theorem pei {X : Cx} {e : Expr} {t : TE} (h : PE X e t) : PEI X e t := by unfold PEI; exact h
theorem pai {X : Cx} {es : List Expr} {t : TA} (h : PA X es t) : PAI X es t := by unfold PAI; exact h
theorem pei_int {X : Cx} {i j pos} : PEI X (.Constant (.int i) j pos) (tC (.int i)) := pei pe_int
theorem pei_lst {X : Cx} {es : List Expr} {t : TA} {pos : Pos} (h : PAI X es t) : PEI X (.List es pos) (tLst t) := pei (pe_lst h.o)
theorem pei_tup {X : Cx} {es : List Expr} {t : TA} {x1} {pos : Pos} (h : PAI X es t) : PEI X (.Tuple es x1 pos) (tTup t) := pei (pe_tup h.o)
theorem pai_nil {X : Cx} : PAI X [] tNil := pai pa_nil
theorem pai_str {X : Cx} {x : Str} {j} {pos : Pos} {es : List Expr} {t : TA} (h : PAI X es t) : PAI X (.Constant (.str x) j pos :: es) (tCons (tC (.str x)) t) := pai (pa_str h.o)
theorem pai_cons {X : Cx} {e : Expr} {es : List Expr} {te : TE} {t : TA} (ha : PEI X e te) (hr : PAI X es t) (hs : starEach (e :: es) X.env = (false, eval e X.env) :: starEach es X.env := by rfl) : PAI X (e :: es) (tCons te t) := pai (pa_cons ha.o hr.o hs)
theorem pa_consJ {X : Cx} {e : Expr} {es : List Expr} {te : TE} {t : TA} (ha : PE X e te) (hr : PAI X es t) (hs : starEach (e :: es) X.env = (false, eval e X.env) :: starEach es X.env := by rfl) : PA X (e :: es) (tCons te t) := pa_cons ha hr.o hs
theorem pe_ixI {X : Cx} {a b : Expr} {ta tb : TE} {pos : Pos} {r : R2} (hr : IxR X r) (ha : PEI X a ta) (hb : PE X b tb) (hs : PlainIx b) : PE X (.Subscript a b pos) (tOp r ta tb) := pe_ix hr ha.o hb hs
theorem ps_setI {X : Cx} {i : Nat} {x : Str} {e : Expr} {te : TE} {pos' pos : Pos} (hN : X.N.Nodup) (hi : X.N[i]? = some x) (hx : Loc X.env.scope x) (he : PEI X e te) (hs : swapsWith e (some (.Name x pos')) pos.line X.env = pure false := by rfl) (hf : X.fn x = true ∨ X.env.scope.names.lookup x = some .local := by first | exact .inl rfl | exact .inr rfl | assumption) :
    PS X (.Assign [.Name x pos'] e pos) (tAsg te (gName i)) := ps_set hN hi hx he.o hs hf
theorem pe_opJ {X : Cx} {a b : Expr} {ta tb : TE} {pos : Pos} {op : Operator} {r : R2} (ho : OpR X (binaryOp op) r) (ha : PE X a ta) (hb : PEI X b tb) : PE X (.BinOp a op b pos) (tOp r ta tb) := pe_op ho ha hb.o
end L2
set_option Elab.async false
set_option linter.all false
set_option maxRecDepth 100000
namespace L2
open PySem PyProof.Rows
structure Ty where
  p : Hp → V → Prop
  mo : ∀ {G G' : Hp} {v : V}, Same G G' → p G v → p G' v
structure View where
  v : Hp → Hp
  ok : Hp → Prop
  out : ∀ {H : Hp} {a : Addr} {o : HO}, v H a = some o → H a = some o
  new : ∀ {H : Hp} {p : Addr} (o : HO), ok H → H p = none → ok (upd H p o) ∧ Same (v H) (v (upd H p o)) ∧ v (upd H p o) p = some o
abbrev Cxt := List (Option Ty)
def Fits (Γ : Cxt) (G : Hp) (σ : St) : Prop := σ.length = Γ.length ∧ ∀ (i : Nat) (T : Ty), Γ[i]? = some (some T) → ∃ v : V, σ[i]? = some (some v) ∧ T.p G v
theorem Fits.same {Γ : Cxt} {G G' : Hp} {σ : St} (f : Fits Γ G σ) (s : Same G G') : Fits Γ G' σ := ⟨f.1, fun i T h => let ⟨v, e, q⟩ := f.2 i T h; ⟨v, e, T.mo s q⟩⟩
theorem Fits.set {Γ : Cxt} {G : Hp} {σ : St} {i : Nat} {T : Ty} {v : V} (f : Fits Γ G σ) (q : T.p G v) : Fits (Γ.set i (some T)) G (σ.set i (some v)) := by
  refine ⟨by rw [List.length_set, List.length_set, f.1], fun j T' h => ?_⟩
  rw [List.getElem?_set] at h ⊢
  by_cases e : i = j
  · rw [if_pos e] at h ⊢
    by_cases l : i < Γ.length
    · rw [if_pos l] at h
      rw [if_pos (by rw [f.1]; exact l)]
      cases h
      exact ⟨v, rfl, q⟩
    · rw [if_neg l] at h; cases h
  · rw [if_neg e] at h ⊢
    exact f.2 j T' h
theorem Fits.nil {G : Hp} : Fits [] G [] := ⟨rfl, fun i T h => by simp at h⟩
theorem Fits.cons {Γ : Cxt} {G : Hp} {σ : St} {T : Ty} {v : V} (q : T.p G v) (f : Fits Γ G σ) : Fits (some T :: Γ) G (some v :: σ) := by
  refine ⟨by rw [List.length_cons, List.length_cons, f.1], fun i T' h => ?_⟩
  cases i with
  | zero => cases h; exact ⟨v, rfl, q⟩
  | succ i => exact f.2 i T' h
theorem Fits.skip {Γ : Cxt} {G : Hp} {σ : St} {v : Option V} (f : Fits Γ G σ) : Fits (none :: Γ) G (v :: σ) := by
  refine ⟨by rw [List.length_cons, List.length_cons, f.1], fun i T' h => ?_⟩
  cases i with
  | zero => cases h
  | succ i => exact f.2 i T' h
def Tp (w : View) (Γ : Cxt) (te : TE) (T : Ty) : Prop := ∀ (σ : St) (H : Hp) (Q : VK), w.ok H → Fits Γ (w.v H) σ → (∀ v H', w.ok H' → Same (w.v H) (w.v H') → T.p (w.v H') v → Q v H') → te σ H Q
def tyTh (k n : Nat) : Ty := ⟨fun G v => Th G k n v, fun s h => h.same s⟩
def tyI (lo hi : Int) : Ty := ⟨fun _ v => ∃ i, v = .int i ∧ lo ≤ i ∧ i ≤ hi, fun _ h => h⟩
def tyLof (T : Ty) (lo hi : Nat) : Ty := ⟨fun G v => ∃ a vs, v = .ref a ∧ G a = some (.lst vs) ∧ lo ≤ vs.length ∧ vs.length ≤ hi ∧ ∀ u ∈ vs, T.p G u, fun s ⟨a, vs, h1, h2, h3, h4, h5⟩ => ⟨a, vs, h1, s _ _ h2, h3, h4, fun u hu => T.mo s (h5 u hu)⟩⟩
abbrev tyL (k n lo hi : Nat) : Ty := tyLof (tyTh k n) lo hi
def tyEq (v : V) : Ty := ⟨fun _ u => u = v, fun _ h => h⟩
def TpA (w : View) (Γ : Cxt) (ta : TA) (k n m : Nat) : Prop := ∀ (σ : St) (H : Hp) (Q : List V → Hp → Prop), w.ok H → Fits Γ (w.v H) σ → (∀ vs H', w.ok H' → Same (w.v H) (w.v H') → vs.length = m → (∀ u ∈ vs, Th (w.v H') k n u) → Q vs H') → ta σ H Q
def TpB (w : View) (Γ : Cxt) (ta : TA) (T : Ty) (m : Nat) : Prop := ∀ (σ : St) (H : Hp) (Q : List V → Hp → Prop), w.ok H → Fits Γ (w.v H) σ → (∀ vs H', w.ok H' → Same (w.v H) (w.v H') → vs.length = m → (∀ u ∈ vs, T.p (w.v H') u) → Q vs H') → ta σ H Q
def TpO (w : View) (Γ : Cxt) (to : TO) : Prop := ∀ (σ : St) (H : Hp) (Q : Option Int → Hp → Prop), w.ok H → Fits Γ (w.v H) σ → (∀ o H', w.ok H' → Same (w.v H) (w.v H') → Q o H') → to σ H Q
section
variable {w : View} {Γ : Cxt} {te ta tb : TE} {K : PySem.W.Frag} {k n m k' n' m' lo hi lo' hi' : Nat} {i j i' j' : Int}
theorem Tp.sub {T T' : Ty} (h : Tp w Γ te T) (s : ∀ G v, T.p G v → T'.p G v) : Tp w Γ te T' := fun σ H Q o f q => h σ H Q o f fun v H' o' s' t => q v H' o' s' (s _ _ t)
theorem Tp.var {x : Nat} {T : Ty} (h : Γ[x]? = some (some T)) : Tp w Γ (tVar x) T := fun σ H Q o f q => let ⟨v, e, t⟩ := f.2 x T h; ⟨v, e, q v H o (Same.refl _) t⟩
theorem Tp.non : Tp w Γ (tC .non) (tyTh 0 0) := fun σ H Q o f q => q _ H o (Same.refl _) Th.non
theorem Tp.bl {b : Bool} : Tp w Γ (tC (.bl b)) (tyTh 0 0) := fun σ H Q o f q => q _ H o (Same.refl _) Th.bl
theorem Tp.str {x : Str} (h : (x.cps.toList.all fun c => decide (c < 16 ^ 8)) = true) (hn : x.cps.size ≤ 100) : Tp w Γ (tC (.str x)) (tyTh 0 100) := fun σ H Q o f q => q _ H o (Same.refl _) (Th.str h hn)
theorem Tp.int : Tp w Γ (tC (.int i)) (tyI i i) := fun σ H Q o f q => q _ H o (Same.refl _) ⟨i, rfl, Int.le_refl _, Int.le_refl _⟩
theorem Tp.wide (h : Tp w Γ te (tyI i j)) (h1 : i' ≤ i) (h2 : j ≤ j') : Tp w Γ te (tyI i' j') := h.sub fun G v ⟨x, e, a, b⟩ => ⟨x, e, Int.le_trans h1 a, Int.le_trans b h2⟩
theorem Tp.add (ha : Tp w Γ ta (tyI i j)) (hb : Tp w Γ tb (tyI i' j')) : Tp w Γ (tOp (rI0 fun x y => .int (x + y)) ta tb) (tyI (i + i') (j + j')) := fun σ H Q o f q => ha σ H _ o f fun v H1 o1 s1 ⟨x, e1, a1, b1⟩ => hb σ H1 _ o1 (f.same s1) fun u H2 o2 s2 ⟨y, e2, a2, b2⟩ => ⟨x, y, e1, e2, q _ H2 o2 (s1.trans s2) ⟨_, rfl, by omega, by omega⟩⟩
theorem Tp.subI (ha : Tp w Γ ta (tyI i j)) (hb : Tp w Γ tb (tyI i' j')) : Tp w Γ (tOp (rI0 fun x y => .int (x - y)) ta tb) (tyI (i - j') (j - i')) := fun σ H Q o f q => ha σ H _ o f fun v H1 o1 s1 ⟨x, e1, a1, b1⟩ => hb σ H1 _ o1 (f.same s1) fun u H2 o2 s2 ⟨y, e2, a2, b2⟩ => ⟨x, y, e1, e2, q _ H2 o2 (s1.trans s2) ⟨_, rfl, by omega, by omega⟩⟩
theorem Tp.neg (ha : Tp w Γ ta (tyI i j)) : Tp w Γ (tUn (rU fun x => .int (-x)) ta) (tyI (-j) (-i)) := fun σ H Q o f q => ha σ H _ o f fun v H1 o1 s1 ⟨x, e1, a1, b1⟩ => ⟨x, e1, q _ H1 o1 s1 ⟨_, rfl, by omega, by omega⟩⟩
theorem Tp.pow {x y : Int} (c : CPow x y) : Tp w Γ (tOp (rI CPow fun i j => .int (i ^ j.toNat)) (tC (.int x)) (tC (.int y))) (tyI (x ^ y.toNat) (x ^ y.toNat)) := fun σ H Q o f q => ⟨x, y, rfl, rfl, c, q _ H o (Same.refl _) ⟨_, rfl, Int.le_refl _, Int.le_refl _⟩⟩
theorem Tp.ofI (h : Tp w Γ te (tyI i j)) (h1 : -(10 ^ 29) ≤ i := by decide) (h2 : j ≤ 10 ^ 29 := by decide) : Tp w Γ te (tyTh 0 100) := h.sub fun G v ⟨x, e, a, b⟩ => by
  rw [e]; exact Th.int (by omega) (Nat.le_refl _)
theorem Tp.ofL (h : Tp w Γ te (tyL k n lo hi)) : Tp w Γ te (tyTh (k + 1) ((n + 1) * hi)) := h.sub fun G v ⟨a, vs, e, h1, _, h2, h3⟩ => by
  rw [e]; exact Th.lst h1 h3 (Nat.mul_le_mul_left _ h2)
theorem Tp.le (h : Tp w Γ te (tyTh k n)) (hk : k ≤ k') (hn : n ≤ n') : Tp w Γ te (tyTh k' n') := h.sub fun G v t => t.le hk hn
theorem TpA.nil : TpA w Γ tNil 0 0 0 := fun σ H Q o f q => q [] H o (Same.refl _) rfl (by simp)
theorem TpA.cons {t : TA} (h : Tp w Γ te (tyTh k n)) (ht : TpA w Γ t k' n' m) : TpA w Γ (tCons te t) (max k k') (max n n') (m + 1) := fun σ H Q o f q => h σ H _ o f fun v H1 o1 s1 t1 => ht σ H1 _ o1 (f.same s1) fun vs H2 o2 s2 e2 t2 => q (v :: vs) H2 o2 (s1.trans s2) (by rw [List.length_cons, e2]) fun u hu => by
  rcases List.mem_cons.mp hu with rfl | hu
  · exact (t1.same s2).le (Nat.le_max_left _ _) (Nat.le_max_left _ _)
  · exact (t2 u hu).le (Nat.le_max_right _ _) (Nat.le_max_right _ _)
theorem small_line {x : Nat} (h : x ≤ 10000) : x ≤ sizeLine := Nat.le_trans h (by decide)
theorem Tp.lst {t : TA} (h : TpA w Γ t k n m) (hm : m ≤ 10000 := by decide) : Tp w Γ (tLst t) (tyL k n m m) := fun σ H Q o f q => h σ H _ o f fun vs H1 o1 s1 e1 t1 => ⟨small_line (by rw [e1]; exact hm), fun p hp => by
  obtain ⟨o2, s2, e2⟩ := w.new (.lst vs) o1 hp
  exact q (.ref p) _ o2 (s1.trans s2) ⟨p, vs, rfl, e2, Nat.le_of_eq e1.symm, Nat.le_of_eq e1, fun u hu => (t1 u hu).same s2⟩⟩
theorem Tp.tup {t : TA} (h : TpA w Γ t k n m) (hm : m ≤ 10000 := by decide) : Tp w Γ (tTup t) (tyTh (k + 1) ((n + 1) * m)) := fun σ H Q o f q => h σ H _ o f fun vs H1 o1 s1 e1 t1 => ⟨small_line (by rw [e1]; exact hm), fun p hp => by
  obtain ⟨o2, s2, e2⟩ := w.new (.tup vs) o1 hp
  exact q (.ref p) _ o2 (s1.trans s2) (Th.tup e2 (fun u hu => (t1 u hu).same s2) (by rw [e1]; exact Nat.le_refl _))⟩
theorem Tp.emp : Tp w Γ tDNewK (tyTh 1 0) := fun σ H Q o f q p hp => by
  obtain ⟨o2, s2, e2⟩ := w.new (.dK []) o hp
  exact q (.ref p) _ o2 s2 (Th.emp e2 (Nat.le_refl _))
theorem Tp.cat (ha : Tp w Γ ta (tyL k n lo hi)) (hb : Tp w Γ tb (tyL k' n' lo' hi')) (hm : hi + hi' ≤ 10000 := by decide) : Tp w Γ (tOp rCat ta tb) (tyL (max k k') (max n n') (lo + lo') (hi + hi')) := fun σ H Q o f q => ha σ H _ o f fun v H1 o1 s1 t1 => hb σ H1 _ o1 (f.same s1) fun u H2 o2 s2 t2 => by
  obtain ⟨a, vs, e1, g1, l1, m1, r1⟩ := (tyL k n lo hi).mo s2 t1
  obtain ⟨b, us, e2, g2, l2, m2, r2⟩ := t2
  refine ⟨a, b, vs, us, e1, e2, w.out g1, w.out g2, small_line (Nat.le_trans (Nat.add_le_add m1 m2) hm), fun p hp => ?_⟩
  obtain ⟨o3, s3, e3⟩ := w.new (.lst (vs ++ us)) o2 hp
  refine q (.ref p) _ o3 (s1.trans (s2.trans s3)) ⟨p, _, rfl, e3, by rw [List.length_append]; omega, by rw [List.length_append]; omega, fun x hx => ?_⟩
  rcases List.mem_append.mp hx with hx | hx
  · exact ((r1 x hx).same s3).le (Nat.le_max_left _ _) (Nat.le_max_left _ _)
  · exact ((r2 x hx).same s3).le (Nat.le_max_right _ _) (Nat.le_max_right _ _)
theorem mem_rep {xs : List V} {c : Nat} {x : V} (h : x ∈ (List.replicate c xs).flatten) : x ∈ xs := by
  obtain ⟨l, hl, hx⟩ := List.mem_flatten.mp h
  rw [(List.mem_replicate.mp hl).2] at hx; exact hx
theorem Tp.rep {c c' : Nat} (ha : Tp w Γ ta (tyL k n lo hi)) (hb : Tp w Γ tb (tyI c c')) (hm : hi * c' ≤ 10000 := by decide) (hc : c' ≤ 10000 := by decide) : Tp w Γ (tOp rRep ta tb) (tyL k n (lo * c) (hi * c')) := fun σ H Q o f q => ha σ H _ o f fun v H1 o1 s1 t1 => hb σ H1 _ o1 (f.same s1) fun u H2 o2 s2 ⟨y, e2, a2, b2⟩ => by
  obtain ⟨a, vs, e1, g1, l1, m1, r1⟩ := (tyL k n lo hi).mo s2 t1
  have hy : y.toNat ≤ c' := by omega
  have hz : c ≤ y.toNat := by omega
  refine ⟨a, y, vs, e1, e2, w.out g1, by omega, by omega, small_line (Nat.le_trans (Nat.mul_le_mul m1 hy) hm), fun p hp => ?_⟩
  obtain ⟨o3, s3, e3⟩ := w.new (.lst (List.replicate y.toNat vs).flatten) o2 hp
  refine q (.ref p) _ o3 (s1.trans (s2.trans s3)) ⟨p, _, rfl, e3, by rw [len_rep, Nat.mul_comm lo]; exact Nat.mul_le_mul hz l1, by rw [len_rep, Nat.mul_comm hi]; exact Nat.mul_le_mul hy m1, fun x hx => (r1 x (mem_rep hx)).same s3⟩
theorem TpO.none : TpO w Γ tNoPart := fun σ H Q o f q => q _ H o (Same.refl _)
theorem TpO.some (h : Tp w Γ te (tyI i j)) : TpO w Γ (tPart te) := fun σ H Q o f q => h σ H _ o f fun v H1 o1 s1 ⟨x, e, _⟩ => ⟨x, e, q _ H1 o1 s1⟩
theorem cutV_sub (vs : List V) (lo hi : Option Int) : (∀ v ∈ cutV vs lo hi, v ∈ vs) ∧ (cutV vs lo hi).length ≤ vs.length := by
  unfold cutV
  refine ⟨fun v hv => List.mem_of_mem_drop (List.mem_of_mem_take hv), ?_⟩
  rw [List.length_take, List.length_drop]
  omega
theorem Tp.sl {tl tu : TO} {T : Ty} (h : Tp w Γ te (tyLof T lo hi)) (hl : TpO w Γ tl) (hu : TpO w Γ tu) : Tp w Γ (tSl (rSlL K) te tl tu) (tyLof T 0 hi) := fun σ H Q o f q => h σ H _ o f fun v H1 o1 s1 t1 => hl σ H1 _ o1 (f.same s1) fun x H2 o2 s2 => hu σ H2 _ o2 ((f.same s1).same s2) fun y H3 o3 s3 => by
  obtain ⟨a, vs, e1, g1, l1, m1, r1⟩ := (tyLof T lo hi).mo (s2.trans s3) t1
  refine ⟨a, vs, e1, SqL.of (w.out g1), fun p hp => ?_⟩
  obtain ⟨o4, s4, e4⟩ := w.new (.lst (cutV vs x y)) o3 hp
  exact q (.ref p) _ o4 (s1.trans (s2.trans (s3.trans s4))) ⟨p, _, rfl, e4, Nat.zero_le _, Nat.le_trans (cutV_sub vs x y).2 m1, fun u hu => T.mo s4 (r1 u ((cutV_sub vs x y).1 u hu))⟩
theorem Tp.rev {T : Ty} (h : Tp w Γ te (tyLof T lo hi)) : Tp w Γ (rRevS K te) (tyLof T lo hi) := fun σ H Q o f q => h σ H _ o f fun v H1 o1 s1 ⟨a, vs, e1, g1, l1, m1, r1⟩ => ⟨a, vs, e1, SqL.of (w.out g1), fun p hp => by
  obtain ⟨o4, s4, e4⟩ := w.new (.lst vs.reverse) o1 hp
  exact q (.ref p) _ o4 (s1.trans s4) ⟨p, _, rfl, e4, by rw [List.length_reverse]; exact l1, by rw [List.length_reverse]; exact m1, fun u hu => T.mo s4 (r1 u (List.mem_reverse.mp hu))⟩⟩
theorem Tp.ix {T : Ty} (ha : Tp w Γ ta (tyLof T lo hi)) (hb : Tp w Γ tb (tyI 0 j)) (hj : j < lo := by decide) : Tp w Γ (tOp (rIxL K) ta tb) T := fun σ H Q o f q => ha σ H _ o f fun v H1 o1 s1 t1 => hb σ H1 _ o1 (f.same s1) fun u H2 o2 s2 ⟨y, e2, a2, b2⟩ => by
  obtain ⟨a, vs, e1, g1, l1, m1, r1⟩ := (tyLof T lo hi).mo s2 t1
  have hy : y.toNat < vs.length := by omega
  refine ⟨a, vs, y, vs[y.toNat], e1, e2, SqL.of (w.out g1), ?_, q _ H2 o2 (s1.trans s2) (r1 _ (List.getElem_mem hy))⟩
  have := atI_nat (List.getElem?_eq_getElem hy)
  rwa [show ((y.toNat : Nat) : Int) = y by omega] at this
theorem Tp.len {T : Ty} (h : Tp w Γ te (tyLof T lo hi)) : Tp w Γ (tCB (fun xs H Q => ∃ p ys, xs = [.ref p] ∧ (SqL K H p ys ∨ SqT K H p ys) ∧ Q (.int ys.length) H) (tCons te tNil)) (tyI lo hi) := fun σ H Q o f q => h σ H _ o f fun v H1 o1 s1 ⟨a, vs, e1, g1, l1, m1, r1⟩ => ⟨a, vs, by rw [e1], .inl (SqL.of (w.out g1)), q _ H1 o1 s1 ⟨_, rfl, by omega, by omega⟩⟩
theorem Tp.catT {T : Ty} (ha : Tp w Γ ta (tyLof T lo hi)) (hb : Tp w Γ tb (tyLof T lo' hi')) (hm : hi + hi' ≤ 10000 := by first | decide | omega) : Tp w Γ (tOp rCat ta tb) (tyLof T (lo + lo') (hi + hi')) := fun σ H Q o f q => ha σ H _ o f fun v H1 o1 s1 t1 => hb σ H1 _ o1 (f.same s1) fun u H2 o2 s2 t2 => by
  obtain ⟨a, vs, e1, g1, l1, m1, r1⟩ := (tyLof T lo hi).mo s2 t1
  obtain ⟨b, us, e2, g2, l2, m2, r2⟩ := t2
  refine ⟨a, b, vs, us, e1, e2, w.out g1, w.out g2, small_line (Nat.le_trans (Nat.add_le_add m1 m2) hm), fun p hp => ?_⟩
  obtain ⟨o3, s3, e3⟩ := w.new (.lst (vs ++ us)) o2 hp
  refine q (.ref p) _ o3 (s1.trans (s2.trans s3)) ⟨p, _, rfl, e3, by rw [List.length_append]; omega, by rw [List.length_append]; omega, fun x hx => ?_⟩
  rcases List.mem_append.mp hx with hx | hx
  · exact T.mo s3 (r1 x hx)
  · exact T.mo s3 (r2 x hx)
theorem TpB.nil {T : Ty} : TpB w Γ tNil T 0 := fun σ H Q o f q => q [] H o (Same.refl _) rfl (by simp)
theorem TpB.cons {T : Ty} {t : TA} (h : Tp w Γ te T) (ht : TpB w Γ t T m) : TpB w Γ (tCons te t) T (m + 1) := fun σ H Q o f q => h σ H _ o f fun v H1 o1 s1 t1 => ht σ H1 _ o1 (f.same s1) fun vs H2 o2 s2 e2 t2 => q (v :: vs) H2 o2 (s1.trans s2) (by rw [List.length_cons, e2]) fun u hu => by
  rcases List.mem_cons.mp hu with rfl | hu
  · exact T.mo s2 t1
  · exact t2 u hu
theorem Tp.lstT {T : Ty} {t : TA} (h : TpB w Γ t T m) (hm : m ≤ 10000 := by decide) : Tp w Γ (tLst t) (tyLof T m m) := fun σ H Q o f q => h σ H _ o f fun vs H1 o1 s1 e1 t1 => ⟨small_line (by rw [e1]; exact hm), fun p hp => by
  obtain ⟨o2, s2, e2⟩ := w.new (.lst vs) o1 hp
  exact q (.ref p) _ o2 (s1.trans s2) ⟨p, vs, rfl, e2, Nat.le_of_eq e1.symm, Nat.le_of_eq e1, fun u hu => T.mo s2 (t1 u hu)⟩⟩
theorem Tp.wideL {T T' : Ty} (h : Tp w Γ te (tyLof T lo hi)) (s : ∀ G v, T.p G v → T'.p G v) (h1 : lo' ≤ lo) (h2 : hi ≤ hi') : Tp w Γ te (tyLof T' lo' hi') := h.sub fun G v ⟨a, vs, e, g, l, m, r⟩ => ⟨a, vs, e, g, Nat.le_trans h1 l, Nat.le_trans m h2, fun u hu => s G u (r u hu)⟩
theorem Tp.ofLL (h : Tp w Γ te (tyLof (tyL k n lo hi) lo' hi')) : Tp w Γ te (tyL (k + 1) ((n + 1) * hi) lo' hi') := h.wideL (fun G v ⟨a, vs, e, h1, _, h2, h3⟩ => by
  rw [e]; exact Th.lst h1 h3 (Nat.mul_le_mul_left _ h2)) (Nat.le_refl _) (Nat.le_refl _)
theorem Tp.ofLI (h : Tp w Γ te (tyLof (tyI i j) lo' hi')) (h1 : -(10 ^ 29) ≤ i := by decide) (h2 : j ≤ 10 ^ 29 := by decide) : Tp w Γ te (tyL 0 100 lo' hi') := h.wideL (fun G v ⟨x, e, a, b⟩ => by rw [e]; exact Th.int (by omega) (Nat.le_refl _)) (Nat.le_refl _) (Nat.le_refl _)
theorem Tp.tupOf (h : Tp w Γ te (tyL k n lo hi)) : Tp w Γ (tCB (fun xs H Q => ∃ p ys, xs = [.ref p] ∧ ((SqL K H p ys ∧ ∀ l, H l = none → Q (.ref l) (upd H l (.tup ys))) ∨ (SqT K H p ys ∧ Q (.ref p) H))) (tCons te tNil)) (tyTh (k + 1) ((n + 1) * hi)) := fun σ H Q o f q => h σ H _ o f fun v H1 o1 s1 ⟨a, vs, e1, g1, l1, m1, r1⟩ => ⟨a, vs, by rw [e1], .inl ⟨SqL.of (w.out g1), fun p hp => by
  obtain ⟨o4, s4, e4⟩ := w.new (.tup vs) o1 hp
  exact q (.ref p) _ o4 (s1.trans s4) (Th.tup e4 (fun u hu => (r1 u hu).same s4) (Nat.mul_le_mul_left _ m1))⟩⟩
theorem Tp.compR {c : Nat} (h : Tp w [some (tyI 0 (c - 1))] te (tyTh k n)) (hc : c ≤ 10000 := by decide) : Tp w Γ (tComp (iRng1 (tCons (tC (.int c)) tNil)) [] tYes te) (tyL k n c c) := fun σ H Q o f q => ⟨c, rfl, by omega, by omega, by
  rw [Int.toNat_natCast]
  refine comp_range (lo := 0) (n := c) (fun i ys H2 => ys.length = i ∧ w.ok H2 ∧ Same (w.v H) (w.v H2) ∧ ∀ u ∈ ys, Th (w.v H2) k n u) ⟨rfl, o, Same.refl _, by simp⟩ ?_ ?_
  · rintro i ys H2 hi ⟨l2, o2, s2, r2⟩
    refine ⟨by rw [l2]; exact Nat.lt_of_lt_of_le hi (small_line hc), ?_⟩
    show te [some (.int (0 + (i : Int)))] H2 _
    refine h _ H2 _ o2 (Fits.cons ⟨_, rfl, by omega, by omega⟩ Fits.nil) fun v H3 o3 s3 t3 => ⟨by rw [List.length_append, l2]; rfl, o3, s2.trans s3, fun u hu => ?_⟩
    rcases List.mem_append.mp hu with hu | hu
    · exact (r2 u hu).same s3
    · rw [List.mem_singleton.mp hu]; exact t3
  · rintro ys H2 ⟨l2, o2, s2, r2⟩ D hD
    obtain ⟨o4, s4, e4⟩ := w.new (.lst ys) o2 hD
    exact q (.ref D) _ o4 (s2.trans s4) ⟨D, ys, rfl, e4, Nat.le_of_eq l2.symm, Nat.le_of_eq l2, fun u hu => (r2 u hu).same s4⟩⟩
end
def TpS (w : View) (Γ : Cxt) (ts : TS) (Γ' : Cxt) (T : Ty) : Prop := ∀ (D : Ends) (σ : St) (H : Hp), w.ok H → Fits Γ (w.v H) σ → (∀ σ' H', w.ok H' → Same (w.v H) (w.v H') → Fits Γ' (w.v H') σ' → D.nx σ' H') → (∀ v H', w.ok H' → Same (w.v H) (w.v H') → T.p (w.v H') v → D.rt v H') → ts D σ H
section
variable {w : View} {Γ Γ1 Γ2 : Cxt} {te : TE} {t u : TS} {T T1 : Ty}
theorem TpS.seq (h1 : TpS w Γ t Γ1 T) (h2 : TpS w Γ1 u Γ2 T) : TpS w Γ (tSeq t u) Γ2 T := fun D σ H o f qn qr => h1 _ σ H o f (fun σ1 H1 o1 s1 f1 => h2 D σ1 H1 o1 f1 (fun σ2 H2 o2 s2 f2 => qn σ2 H2 o2 (s1.trans s2) f2) (fun v H2 o2 s2 r2 => qr v H2 o2 (s1.trans s2) r2)) qr
theorem TpS.asg {i : Nat} (h : Tp w Γ te T1) : TpS w Γ (tAsg te (gName i)) (Γ.set i (some T1)) T := fun D σ H o f qn qr => h σ H _ o f fun v H1 o1 s1 t1 => qn _ H1 o1 s1 ((f.same s1).set t1)
theorem TpS.weak {Γ' : Cxt} (f : ∀ G σ, Fits Γ G σ → Fits Γ' G σ) (h : TpS w Γ' t Γ2 T) : TpS w Γ t Γ2 T := fun D σ H o g qn qr => h D σ H o (f _ _ g) qn qr
theorem TpS.sub {T' : Ty} (h : TpS w Γ t Γ2 T) (s : ∀ G v, T.p G v → T'.p G v) : TpS w Γ t Γ2 T' := fun D σ H o g qn qr => h D σ H o g qn fun v H1 o1 s1 t1 => qr v H1 o1 s1 (s _ _ t1)
theorem TpS.ret (h : Tp w Γ te T) : TpS w Γ (tRet te) Γ2 T := fun D σ H o f qn qr => h σ H _ o f qr
end
theorem TpS.go {w : View} {Γ Γ' : Cxt} {ts : TS} {T : Ty} {D : Ends} {σ : St} {H : Hp} (h : TpS w Γ ts Γ' T) (o : w.ok H) (f : Fits Γ (w.v H) σ) (qn : ∀ σ' H', w.ok H' → Same (w.v H) (w.v H') → Fits Γ' (w.v H') σ' → D.nx σ' H') (qr : ∀ v H', w.ok H' → Same (w.v H) (w.v H') → T.p (w.v H') v → D.rt v H') : ts D σ H := h D σ H o f qn qr
theorem Tp.asg2 {w : View} {Γ : Cxt} {te : TE} {T1 : Ty} {u : TS} {i : Nat} {D : Ends} {σ : St} {H : Hp} (h : Tp w Γ te T1) (o : w.ok H) (f : Fits Γ (w.v H) σ) (q : ∀ v H', w.ok H' → Same (w.v H) (w.v H') → T1.p (w.v H') v → u D (σ.set i (some v)) H') : tSeq (tAsg te (gName i)) u D σ H := h σ H _ o f q
theorem Fits.any : ∀ {G : Hp} (σ : St), Fits (σ.map fun _ => none) G σ := fun {G} σ => ⟨by rw [List.length_map], fun i T h => by rw [List.getElem?_map] at h; cases e : σ[i]? with | none => rw [e] at h; cases h | some x => rw [e] at h; cases h⟩
def tyNo : Ty := ⟨fun _ _ => False, fun _ h => h⟩
theorem Fits.no {G : Hp} {σ : St} (f : Fits [some tyNo] G σ) : False := let ⟨_, _, h⟩ := f.2 0 tyNo rfl; h
def CSub : Cxt → Cxt → Prop
  | [], [] => True
  | _ :: Γ, none :: Γ' => CSub Γ Γ'
  | some T :: Γ, some T' :: Γ' => (∀ G v, T.p G v → T'.p G v) ∧ CSub Γ Γ'
  | _, _ => False
theorem CSub.fits : ∀ {Γ Γ' : Cxt} {G : Hp} {σ : St}, CSub Γ Γ' → Fits Γ G σ → Fits Γ' G σ
  | [], [], _, _, _, f => f
  | [], _ :: _, _, _, h, _ => by simp [CSub] at h
  | _ :: _, [], _, _, h, _ => by simp [CSub] at h
  | a :: Γ, none :: Γ', G, [], h, f => by have := f.1; simp at this
  | a :: Γ, none :: Γ', G, v :: σ, h, f => Fits.skip (CSub.fits (Γ := Γ) (by rw [CSub] at h; exact h) ⟨by simpa using f.1, fun i T e => f.2 (i + 1) T e⟩)
  | none :: Γ, some T' :: Γ', G, σ, h, f => by simp [CSub] at h
  | some T :: Γ, some T' :: Γ', G, [], h, f => by have := f.1; simp at this
  | some T :: Γ, some T' :: Γ', G, v :: σ, h, f => by
    obtain ⟨u, e, q⟩ := f.2 0 T rfl
    have e : v = some u := by simpa using e
    subst e
    exact Fits.cons (h.1 _ _ q) (CSub.fits (Γ := Γ) h.2 ⟨by simpa using f.1, fun i T e => f.2 (i + 1) T e⟩)
end L2
set_option Elab.async false
set_option linter.all false
set_option maxRecDepth 100000
namespace L2
open PySem PyProof.Rows
def tyLe (vs : List V) : Ty := ⟨fun G v => ∃ a, v = .ref a ∧ G a = some (.lst vs), fun s ⟨a, e, h⟩ => ⟨a, e, s _ _ h⟩⟩
def tyX (e C : Addr) : Ty := ⟨fun G v => v = .ref e ∧ G e = some (excO e C), fun s h => ⟨h.1, s _ _ h.2⟩⟩
def idV : View := ⟨id, fun _ => True, fun h => h, fun o _ h => ⟨trivial, same_upd h, upd_same⟩⟩
def TpE (w : View) (Γ : Cxt) (ta : TA) (vs : List V) : Prop := ∀ (σ : St) (H : Hp) (Q : List V → Hp → Prop), w.ok H → Fits Γ (w.v H) σ → (∀ H', w.ok H' → Same (w.v H) (w.v H') → Q vs H') → ta σ H Q
section
variable {w : View} {Γ : Cxt} {te ta tb : TE} {K : PySem.W.Frag} {vs us : List V}
theorem TpE.nil : TpE w Γ tNil [] := fun σ H Q o f q => q H o (Same.refl _)
theorem TpE.cons {t : TA} {v : V} (h : Tp w Γ te (tyEq v)) (ht : TpE w Γ t vs) : TpE w Γ (tCons te t) (v :: vs) := fun σ H Q o f q => h σ H _ o f fun u H1 o1 s1 e1 => ht σ H1 _ o1 (f.same s1) fun H2 o2 s2 => by
  rw [show u = v from e1]; exact q H2 o2 (s1.trans s2)
theorem Tp.lstE {t : TA} (h : TpE w Γ t vs) (hm : vs.length ≤ 10000 := by first | decide | simp) : Tp w Γ (tLst t) (tyLe vs) := fun σ H Q o f q => h σ H _ o f fun H1 o1 s1 => ⟨small_line hm, fun p hp => by
  obtain ⟨o2, s2, e2⟩ := w.new (.lst vs) o1 hp
  exact q (.ref p) _ o2 (s1.trans s2) ⟨p, rfl, e2⟩⟩
theorem Tp.catE (ha : Tp w Γ ta (tyLe vs)) (hb : Tp w Γ tb (tyLe us)) (hm : vs.length + us.length ≤ 10000 := by first | decide | simp) : Tp w Γ (tOp rCat ta tb) (tyLe (vs ++ us)) := fun σ H Q o f q => ha σ H _ o f fun v H1 o1 s1 t1 => hb σ H1 _ o1 (f.same s1) fun u H2 o2 s2 t2 => by
  obtain ⟨a, e1, g1⟩ := (tyLe vs).mo s2 t1
  obtain ⟨b, e2, g2⟩ := t2
  refine ⟨a, b, vs, us, e1, e2, w.out g1, w.out g2, small_line hm, fun p hp => ?_⟩
  obtain ⟨o3, s3, e3⟩ := w.new (.lst (vs ++ us)) o2 hp
  exact q (.ref p) _ o3 (s1.trans (s2.trans s3)) ⟨p, rfl, e3⟩
theorem Tp.isiC {x : Nat} {e C N : Addr} {b : Bool} (hx : Γ[x]? = some (some (tyX e C))) (i : ExcI K C) (k : PySem.W.kitOne K (.ref C) (.ref N) = some b) : Tp w Γ (tCB (rIsiX K) (tCons (tVar x) (tCons (tC (.ref N)) tNil))) (tyEq (.bl b)) := fun σ H Q o f q => by
  obtain ⟨v, ev, rfl, he⟩ := f.2 x _ hx
  exact ⟨_, ev, e, C, _, _, _, rfl, rfl, (fun _ h => h), w.out he, i, k, q _ H o (Same.refl _) rfl⟩
theorem Tp.isiV {x : Nat} {e C : Addr} {b : Bool} {n : String} (hx : Γ[x]? = some (some (tyX e C))) (i : ExcI K C) (k : PySem.W.kitOne K (.ref C) (.type n) = some b) : Tp w Γ (tCB (rIsiX K) (tCons (tVar x) (tCons (tC (.ty n)) tNil))) (tyEq (.bl b)) := fun σ H Q o f q => by
  obtain ⟨v, ev, rfl, he⟩ := f.2 x _ hx
  exact ⟨_, ev, e, C, _, _, _, rfl, rfl, (fun _ h => h), w.out he, i, k, q _ H o (Same.refl _) rfl⟩
theorem Tp.notB {b : Bool} (h : Tp w Γ te (tyEq (.bl b))) : Tp w Γ (tNotV te) (tyEq (.bl (!b))) := fun σ H Q o f q => h σ H _ o f fun v H1 o1 s1 e => ⟨b, e, q _ H1 o1 s1 rfl⟩
end
end L2
set_option Elab.async false
set_option linter.all false
set_option maxRecDepth 100000
namespace L2
open PySem PyProof.Rows
def tyQ (k n : Nat) (P : PyData → Bool) : Ty := ⟨fun G v => ∃ d, ThAt G d v ∧ Fit k n d ∧ P d = true, fun s ⟨d, h, f, p⟩ => ⟨d, h.same s, f, p⟩⟩
def noInt : PyData → Bool
  | .int _ => false
  | _ => true
section
variable {w : View} {Γ : Cxt} {te ta tb : TE} {K : PySem.W.Frag} {k n m k' n' m' lo hi : Nat} {i j : Int} {P P' : PyData → Bool}
theorem Fit.le {d : PyData} (f : Fit k n d) (hk : k ≤ k') (hn : n ≤ n') : Fit k' n' d := ⟨f.ls, f.sh, Nat.le_trans f.dp hk, Nat.le_trans f.wt hn⟩
theorem Th.q {G : Hp} {v : V} (t : Th G k n v) (h : ∀ d, ThAt G d v → P d = true) : (tyQ k n P).p G v := let ⟨d, a, f⟩ := t; ⟨d, a, f, h d a⟩
theorem tyQ.th {G : Hp} {v : V} (t : (tyQ k n P).p G v) : Th G k n v := let ⟨d, a, f, _⟩ := t; ⟨d, a, f⟩
theorem Tp.qN (h : Tp w Γ te (tyQ k n noInt)) (hP : ∀ d, noInt d = true → P d = true) (hk : k ≤ k' := by decide) (hn : n ≤ n' := by decide) : Tp w Γ te (tyQ k' n' P) := h.sub fun G v ⟨d, a, f, p⟩ => ⟨d, a, f.le hk hn, hP d p⟩
theorem Tp.qI (h : Tp w Γ te (tyI i j)) (hP : ∀ x, i ≤ x → x ≤ j → P (.int x) = true) (h1 : -(10 ^ 29) ≤ i := by decide) (h2 : j ≤ 10 ^ 29 := by decide) (hn : 100 ≤ n' := by decide) : Tp w Γ te (tyQ k' n' P) := h.sub fun G v ⟨x, e, a, b⟩ => by
  rw [e]
  exact (Th.int (by omega) hn).q fun d t => by
    cases d <;> rw [ThAt] at t <;> first | (obtain ⟨_, _, z, _⟩ := t; cases z; done) | (obtain ⟨_, _, z, _⟩ := t; cases z; done) | (cases t; done) | (injection t with t; rw [← t]; exact hP x a b)
theorem Tp.nonN : Tp w Γ (tC .non) (tyQ 0 0 noInt) := fun σ H Q o f q => q _ H o (Same.refl _) (Th.non.q fun d t => by cases d <;> rw [ThAt] at t <;> first | rfl | cases t)
theorem Tp.blN {b : Bool} : Tp w Γ (tC (.bl b)) (tyQ 0 0 noInt) := fun σ H Q o f q => q _ H o (Same.refl _) (Th.bl.q fun d t => by cases d <;> rw [ThAt] at t <;> first | rfl | cases t)
theorem Tp.strN {x : Str} (h : (x.cps.toList.all fun c => decide (c < 16 ^ 8)) = true) (hn : x.cps.size ≤ 100) : Tp w Γ (tC (.str x)) (tyQ 0 100 noInt) := fun σ H Q o f q => q _ H o (Same.refl _) ((Th.str h hn).q fun d t => by cases d <;> rw [ThAt] at t <;> first | rfl | cases t)
theorem noInt_ref {G : Hp} {a : Addr} {d : PyData} (t : ThAt G d (.ref a)) : noInt d = true := by cases d <;> first | rfl | (rw [ThAt] at t; cases t)
theorem Tp.lN (h : Tp w Γ te (tyL k n lo hi)) : Tp w Γ te (tyQ (k + 1) ((n + 1) * hi) noInt) := h.sub fun G v ⟨a, vs, e, h1, _, h2, h3⟩ => by
  rw [e]; exact (Th.lst h1 h3 (Nat.mul_le_mul_left _ h2)).q fun d t => noInt_ref t
theorem Tp.tupN {t : TA} (h : TpA w Γ t k n m) (hm : m ≤ 10000 := by decide) : Tp w Γ (tTup t) (tyQ (k + 1) ((n + 1) * m) noInt) := fun σ H Q o f q => h σ H _ o f fun vs H1 o1 s1 e1 t1 => ⟨small_line (by rw [e1]; exact hm), fun p hp => by
  obtain ⟨o2, s2, e2⟩ := w.new (.tup vs) o1 hp
  exact q (.ref p) _ o2 (s1.trans s2) ((Th.tup e2 (fun u hu => (t1 u hu).same s2) (by rw [e1]; exact Nat.le_refl _)).q fun d t => noInt_ref t)⟩
theorem Tp.empN : Tp w Γ tDNewK (tyQ 1 0 noInt) := fun σ H Q o f q p hp => by
  obtain ⟨o2, s2, e2⟩ := w.new (.dK []) o hp
  exact q (.ref p) _ o2 s2 ((Th.emp e2 (Nat.le_refl _)).q fun d t => noInt_ref t)
end
end L2
set_option Elab.async false
set_option linter.all false
set_option maxRecDepth 100000
namespace L2
open PySem PyProof.Rows
mutual
theorem ThAt.uniq {H : Hp} : ∀ {d e : PyData} {v : V}, ThAt H d v → ThAt H e v → d = e
  | .none, e, v, h, g => by rw [ThAt] at h; subst h; cases e <;> rw [ThAt] at g <;> first | (obtain ⟨a, ys, z, _⟩ := g; cases z; done) | (obtain ⟨_, a, z, _⟩ := g; cases z; done) | rfl | (cases g; done)
  | .bool b, e, v, h, g => by rw [ThAt] at h; subst h; cases e <;> rw [ThAt] at g <;> first | (obtain ⟨a, ys, z, _⟩ := g; cases z; done) | (obtain ⟨_, a, z, _⟩ := g; cases z; done) | (cases g; rfl) | (cases g; done)
  | .int i, e, v, h, g => by rw [ThAt] at h; subst h; cases e <;> rw [ThAt] at g <;> first | (obtain ⟨a, ys, z, _⟩ := g; cases z; done) | (obtain ⟨_, a, z, _⟩ := g; cases z; done) | (cases g; rfl) | (cases g; done)
  | .str x, e, v, h, g => by rw [ThAt] at h; subst h; cases e <;> rw [ThAt] at g <;> first | (obtain ⟨a, ys, z, _⟩ := g; cases z; done) | (obtain ⟨_, a, z, _⟩ := g; cases z; done) | (cases g; rfl) | (cases g; done)
  | .list xs, e, v, h, g => by
    rw [ThAt] at h
    obtain ⟨a, ys, rfl, h2, h3⟩ := h
    cases e with
    | list xs' =>
      rw [ThAt] at g
      obtain ⟨b, zs, z, g2, g3⟩ := g
      cases z
      rw [h2] at g2; cases g2
      rw [ThsAt.uniq h3 g3]
    | tuple xs' => rw [ThAt] at g; obtain ⟨b, zs, z, g2, g3⟩ := g; cases z; rw [h2] at g2; cases g2
    | dict kvs => rw [ThAt] at g; obtain ⟨_, b, z, g2⟩ := g; cases z; rw [h2] at g2; cases g2
    | none => rw [ThAt] at g; cases g
    | bool _ => rw [ThAt] at g; cases g
    | int _ => rw [ThAt] at g; cases g
    | str _ => rw [ThAt] at g; cases g
  | .tuple xs, e, v, h, g => by
    rw [ThAt] at h
    obtain ⟨a, ys, rfl, h2, h3⟩ := h
    cases e with
    | tuple xs' =>
      rw [ThAt] at g
      obtain ⟨b, zs, z, g2, g3⟩ := g
      cases z
      rw [h2] at g2; cases g2
      rw [ThsAt.uniq h3 g3]
    | list xs' => rw [ThAt] at g; obtain ⟨b, zs, z, g2, g3⟩ := g; cases z; rw [h2] at g2; cases g2
    | dict kvs => rw [ThAt] at g; obtain ⟨_, b, z, g2⟩ := g; cases z; rw [h2] at g2; cases g2
    | none => rw [ThAt] at g; cases g
    | bool _ => rw [ThAt] at g; cases g
    | int _ => rw [ThAt] at g; cases g
    | str _ => rw [ThAt] at g; cases g
  | .dict kvs, e, v, h, g => by
    rw [ThAt] at h
    obtain ⟨h0, a, rfl, h2⟩ := h
    cases e with
    | dict kvs' =>
      rw [ThAt] at g
      obtain ⟨g0, b, z, g2⟩ := g
      cases z
      rw [h2] at g2
      have q : dV (unD kvs) = dV (unD kvs') := by injection (Option.some.inj g2)
      rw [h0, g0, dV_inj q]
    | list xs' => rw [ThAt] at g; obtain ⟨b, zs, z, g2, g3⟩ := g; cases z; rw [h2] at g2; cases g2
    | tuple xs' => rw [ThAt] at g; obtain ⟨b, zs, z, g2, g3⟩ := g; cases z; rw [h2] at g2; cases g2
    | none => rw [ThAt] at g; cases g
    | bool _ => rw [ThAt] at g; cases g
    | int _ => rw [ThAt] at g; cases g
    | str _ => rw [ThAt] at g; cases g
theorem ThsAt.uniq {H : Hp} : ∀ {ds es : List PyData} {ys : List V}, ThsAt H ds ys → ThsAt H es ys → ds = es
  | [], es, ys, h, g => by
    rw [ThsAt] at h; subst h
    cases es with
    | nil => rfl
    | cons e es => rw [ThsAt] at g; obtain ⟨y, zs, z, _⟩ := g; cases z
  | d :: ds, es, ys, h, g => by
    rw [ThsAt] at h
    obtain ⟨y, zs, rfl, h2, h3⟩ := h
    cases es with
    | nil => rw [ThsAt] at g; cases g
    | cons e es =>
      rw [ThsAt] at g
      obtain ⟨y', zs', z, g2, g3⟩ := g
      cases z
      rw [ThAt.uniq h2 g2, ThsAt.uniq h3 g3]
end
theorem Th.fit {H : Hp} {k n : Nat} {v : V} {d : PyData} (t : Th H k n v) (h : ThAt H d v) : Fit k n d := by
  obtain ⟨e, g, f⟩ := t
  rw [h.uniq g]; exact f
theorem ThsAt.map {α : Type} {H : Hp} {f : α → PyData} {g : α → V} : ∀ {xs : List α}, (∀ x ∈ xs, ThAt H (f x) (g x)) → ThsAt H (xs.map f) (xs.map g)
  | [], _ => by rw [List.map_nil, List.map_nil, ThsAt]
  | x :: xs, h => by
    rw [List.map_cons, List.map_cons, ThsAt]
    exact ⟨_, _, rfl, h x (.head _), ThsAt.map fun y hy => h y (.tail _ hy)⟩
theorem ThAt.ints {H : Hp} {a : Addr} {ns : List Int} (h : H a = some (.lst (ns.map V.int))) : ThAt H (.list (ns.map .int)) (.ref a) := by
  rw [ThAt]
  exact ⟨a, _, rfl, h, ThsAt.map fun i _ => by rw [ThAt]⟩
end L2
set_option Elab.async false
set_option linter.all false
set_option maxRecDepth 100000
namespace L2
open PySem PyProof.Rows
def shT : PyData → Nat
  | .none => 0 | .bool _ => 1 | .int _ => 2 | .str _ => 3 | .list _ => 4 | .tuple _ => 5 | .dict _ => 6
def tyS (k n s : Nat) : Ty := ⟨fun G v => ∃ d, ThAt G d v ∧ Fit k n d ∧ shT d = s, fun s ⟨d, h, f, p⟩ => ⟨d, h.same s, f, p⟩⟩
def tyD (d : PyData) : Ty := ⟨fun G v => ThAt G d v, fun s h => h.same s⟩
def tyLx (k n lo hi : Nat) (P : PyData → Bool) : Ty := ⟨fun G v => ∃ a vs, v = .ref a ∧ G a = some (.lst vs) ∧ lo ≤ vs.length ∧ vs.length ≤ hi ∧ (∀ u ∈ vs, Th G k n u) ∧ ∃ u ∈ vs, (tyQ k n P).p G u,
  fun s ⟨a, vs, h1, h2, h3, h4, h5, u, h6, h7⟩ => ⟨a, vs, h1, s _ _ h2, h3, h4, fun u hu => (h5 u hu).same s, u, h6, (tyQ _ _ P).mo s h7⟩⟩
theorem Ths.ofL {H : Hp} {vs : List V} {ds : List PyData} (h : ThsAt H ds vs) : ∀ {j : Nat} {v : V}, vs[j]? = some v → ∃ d, ds[j]? = some d ∧ ThAt H d v := fun e => h.get e
theorem ThsAt.mem {H : Hp} {vs : List V} {ds : List PyData} (h : ThsAt H ds vs) {v : V} (hv : v ∈ vs) : ∃ d ∈ ds, ThAt H d v := by
  obtain ⟨j, hj, rfl⟩ := List.mem_iff_getElem.mp hv
  obtain ⟨d, hd, t⟩ := h.get (List.getElem?_eq_getElem hj)
  exact ⟨d, List.mem_of_getElem? hd, t⟩
theorem ThsAt.back {H : Hp} : ∀ {ds : List PyData} {vs : List V}, ThsAt H ds vs → ∀ d ∈ ds, ∃ v ∈ vs, ThAt H d v
  | [], _, _, d, hd => by cases hd
  | e :: ds, vs, h, d, hd => by
    rw [ThsAt] at h
    obtain ⟨y, zs, rfl, h1, h2⟩ := h
    rcases List.mem_cons.mp hd with rfl | hd
    · exact ⟨y, .head _, h1⟩
    · obtain ⟨v, hv, t⟩ := ThsAt.back h2 d hd
      exact ⟨v, .tail _ hv, t⟩
theorem ThsAt.drop {H : Hp} : ∀ (k : Nat) {ds : List PyData} {vs : List V}, ThsAt H ds vs → ThsAt H (ds.drop k) (vs.drop k)
  | 0, _, _, h => h
  | k + 1, [], vs, h => by rw [ThsAt] at h; subst h; rw [List.drop_nil, List.drop_nil, ThsAt]
  | k + 1, d :: ds, vs, h => by
    rw [ThsAt] at h
    obtain ⟨y, zs, rfl, h1, h2⟩ := h
    exact ThsAt.drop k h2
theorem ThsAt.take {H : Hp} : ∀ (k : Nat) {ds : List PyData} {vs : List V}, ThsAt H ds vs → ThsAt H (ds.take k) (vs.take k)
  | 0, _, _, h => by rw [List.take_zero, List.take_zero, ThsAt]
  | k + 1, [], vs, h => by rw [ThsAt] at h; subst h; rw [List.take_nil, List.take_nil, ThsAt]
  | k + 1, d :: ds, vs, h => by
    rw [ThsAt] at h
    obtain ⟨y, zs, rfl, h1, h2⟩ := h
    rw [List.take_succ_cons, List.take_succ_cons, ThsAt]
    exact ⟨_, _, rfl, h1, ThsAt.take k h2⟩
theorem ThsAt.rev {H : Hp} : ∀ {ds : List PyData} {vs : List V}, ThsAt H ds vs → ThsAt H ds.reverse vs.reverse
  | [], vs, h => by rw [ThsAt] at h; subst h; rw [List.reverse_nil, List.reverse_nil, ThsAt]
  | d :: ds, vs, h => by
    rw [ThsAt] at h
    obtain ⟨y, zs, rfl, h1, h2⟩ := h
    rw [List.reverse_cons, List.reverse_cons]
    exact (ThsAt.rev h2).app (by rw [ThsAt]; exact ⟨_, _, rfl, h1, by rw [ThsAt]⟩)
theorem ThsAt.rep {H : Hp} {ds : List PyData} {vs : List V} : ∀ (c : Nat), ThsAt H ds vs → ThsAt H (List.replicate c ds).flatten (List.replicate c vs).flatten
  | 0, h => by rw [List.replicate_zero, List.replicate_zero, List.flatten_nil, List.flatten_nil, ThsAt]
  | c + 1, h => by
    rw [List.replicate_succ, List.replicate_succ, List.flatten_cons, List.flatten_cons]
    exact h.app (ThsAt.rep c h)
theorem ThAt.lst {H : Hp} {a : Addr} {ds : List PyData} {vs : List V} (h : H a = some (.lst vs)) (t : ThsAt H ds vs) : ThAt H (.list ds) (.ref a) := by rw [ThAt]; exact ⟨a, vs, rfl, h, t⟩
theorem ThAt.list_inv {H : Hp} {a : Addr} {ds : List PyData} {vs : List V} (h : H a = some (.lst vs)) (t : ThAt H (.list ds) (.ref a)) : ThsAt H ds vs := by
  rw [ThAt] at t
  obtain ⟨b, us, e, h1, h2⟩ := t
  cases e
  rw [h] at h1; cases h1
  exact h2
theorem ref_list {H : Hp} {a : Addr} {d : PyData} {vs : List V} (h : H a = some (.lst vs)) (t : ThAt H d (.ref a)) : ∃ ds, d = .list ds ∧ ThsAt H ds vs := by
  cases d with
  | list ds => exact ⟨ds, rfl, t.list_inv h⟩
  | tuple ds => rw [ThAt] at t; obtain ⟨b, us, e, h1, _⟩ := t; cases e; rw [h] at h1; cases h1
  | dict _ => rw [ThAt] at t; obtain ⟨_, b, e, h1⟩ := t; cases e; rw [h] at h1; cases h1
  | none => rw [ThAt] at t; cases t
  | bool _ => rw [ThAt] at t; cases t
  | int _ => rw [ThAt] at t; cases t
  | str _ => rw [ThAt] at t; cases t
theorem ref_tup {H : Hp} {a : Addr} {d : PyData} {vs : List V} (h : H a = some (.tup vs)) (t : ThAt H d (.ref a)) : ∃ ds, d = .tuple ds ∧ ThsAt H ds vs := by
  cases d with
  | tuple ds => rw [ThAt] at t; obtain ⟨b, us, e, h1, h2⟩ := t; cases e; rw [h] at h1; cases h1; exact ⟨ds, rfl, h2⟩
  | list ds => rw [ThAt] at t; obtain ⟨b, us, e, h1, _⟩ := t; cases e; rw [h] at h1; cases h1
  | dict _ => rw [ThAt] at t; obtain ⟨_, b, e, h1⟩ := t; cases e; rw [h] at h1; cases h1
  | none => rw [ThAt] at t; cases t
  | bool _ => rw [ThAt] at t; cases t
  | int _ => rw [ThAt] at t; cases t
  | str _ => rw [ThAt] at t; cases t
section
variable {w : View} {Γ : Cxt} {te ta tb : TE} {K : PySem.W.Frag} {k n m k' n' m' lo hi lo' hi' s : Nat} {i j : Int} {P P' : PyData → Bool} {d e : PyData}
theorem Tp.sQ (h : Tp w Γ te (tyS k n s)) (hP : ∀ d, shT d = s → P d = true) (hk : k ≤ k' := by decide) (hn : n ≤ n' := by decide) : Tp w Γ te (tyQ k' n' P) := h.sub fun G v ⟨d, a, f, p⟩ => ⟨d, a, f.le hk hn, hP d p⟩
theorem Th.sh {G : Hp} {v : V} (t : Th G k n v) (h : ∀ d, ThAt G d v → shT d = s) : (tyS k n s).p G v := let ⟨d, a, f⟩ := t; ⟨d, a, f, h d a⟩
theorem Tp.nonS : Tp w Γ (tC .non) (tyS 0 0 0) := fun σ H Q o f q => q _ H o (Same.refl _) (Th.non.sh fun d t => by rw [t.uniq (e := .none) (by rw [ThAt])]; rfl)
theorem Tp.blS {b : Bool} : Tp w Γ (tC (.bl b)) (tyS 0 0 1) := fun σ H Q o f q => q _ H o (Same.refl _) (Th.bl.sh fun d t => by rw [t.uniq (e := .bool b) (by rw [ThAt])]; rfl)
theorem Tp.strS {x : Str} (h : (x.cps.toList.all fun c => decide (c < 16 ^ 8)) = true) (hn : x.cps.size ≤ 100) : Tp w Γ (tC (.str x)) (tyS 0 100 3) := fun σ H Q o f q => q _ H o (Same.refl _) ((Th.str h hn).sh fun d t => by rw [t.uniq (e := .str x) (by rw [ThAt])]; rfl)
theorem Tp.lS (h : Tp w Γ te (tyL k n lo hi)) : Tp w Γ te (tyS (k + 1) ((n + 1) * hi) 4) := h.sub fun G v ⟨a, vs, e, h1, _, h2, h3⟩ => by
  rw [e]; exact (Th.lst h1 h3 (Nat.mul_le_mul_left _ h2)).sh fun d t => by obtain ⟨_, rfl, _⟩ := ref_list h1 t; rfl
theorem Tp.empS : Tp w Γ tDNewK (tyS 1 0 6) := fun σ H Q o f q p hp => by
  obtain ⟨o2, s2, e2⟩ := w.new (.dK []) o hp
  exact q (.ref p) _ o2 s2 ⟨.dict [], by rw [ThAt]; exact ⟨rfl, p, rfl, e2⟩, Th.fit (Th.emp e2 (Nat.le_refl _)) (by rw [ThAt]; exact ⟨rfl, p, rfl, e2⟩), rfl⟩
theorem Tp.tupOfS (h : Tp w Γ te (tyL k n lo hi)) : Tp w Γ (tCB (fun xs H Q => ∃ p ys, xs = [.ref p] ∧ ((SqL K H p ys ∧ ∀ l, H l = none → Q (.ref l) (upd H l (.tup ys))) ∨ (SqT K H p ys ∧ Q (.ref p) H))) (tCons te tNil)) (tyS (k + 1) ((n + 1) * hi) 5) := fun σ H Q o f q => h σ H _ o f fun v H1 o1 s1 ⟨a, vs, e1, g1, l1, m1, r1⟩ => ⟨a, vs, by rw [e1], .inl ⟨SqL.of (w.out g1), fun p hp => by
  obtain ⟨o4, s4, e4⟩ := w.new (.tup vs) o1 hp
  exact q (.ref p) _ o4 (s1.trans s4) ((Th.tup e4 (fun u hu => (r1 u hu).same s4) (Nat.mul_le_mul_left _ m1)).sh fun d t => by obtain ⟨_, rfl, _⟩ := ref_tup e4 t; rfl)⟩⟩
theorem Tp.oneX (h : Tp w Γ te (tyQ k n P)) : Tp w Γ (tLst (tCons te tNil)) (tyLx k n 1 1 P) := fun σ H Q o f q => h σ H _ o f fun v H1 o1 s1 t1 => ⟨small_line (by simp), fun p hp => by
  obtain ⟨o2, s2, e2⟩ := w.new (.lst [v]) o1 hp
  have t2 := (tyQ k n P).mo s2 t1
  exact q (.ref p) _ o2 (s1.trans s2) ⟨p, [v], rfl, e2, Nat.le_refl _, Nat.le_refl _, fun u hu => by rw [List.mem_singleton.mp hu]; exact tyQ.th t2, v, .head _, t2⟩⟩
theorem Tp.catXr (ha : Tp w Γ ta (tyL k n lo hi)) (hb : Tp w Γ tb (tyLx k n lo' hi' P)) (hm : hi + hi' ≤ 10000 := by decide) : Tp w Γ (tOp rCat ta tb) (tyLx k n (lo + lo') (hi + hi') P) := fun σ H Q o f q => ha σ H _ o f fun v H1 o1 s1 t1 => hb σ H1 _ o1 (f.same s1) fun u H2 o2 s2 t2 => by
  obtain ⟨a, vs, e1, g1, l1, m1, r1⟩ := (tyL k n lo hi).mo s2 t1
  obtain ⟨b, us, e2, g2, l2, m2, r2, y, hy, ty⟩ := t2
  refine ⟨a, b, vs, us, e1, e2, w.out g1, w.out g2, small_line (Nat.le_trans (Nat.add_le_add m1 m2) hm), fun p hp => ?_⟩
  obtain ⟨o3, s3, e3⟩ := w.new (.lst (vs ++ us)) o2 hp
  refine q (.ref p) _ o3 (s1.trans (s2.trans s3)) ⟨p, _, rfl, e3, by rw [List.length_append]; omega, by rw [List.length_append]; omega, fun x hx => ?_, y, List.mem_append_right _ hy, (tyQ k n P).mo s3 ty⟩
  rcases List.mem_append.mp hx with hx | hx
  · exact Th.same (r1 x hx) s3
  · exact (r2 x hx).same s3
theorem Tp.catXl (ha : Tp w Γ ta (tyLx k n lo hi P)) (hb : Tp w Γ tb (tyL k n lo' hi')) (hm : hi + hi' ≤ 10000 := by decide) : Tp w Γ (tOp rCat ta tb) (tyLx k n (lo + lo') (hi + hi') P) := fun σ H Q o f q => ha σ H _ o f fun v H1 o1 s1 t1 => hb σ H1 _ o1 (f.same s1) fun u H2 o2 s2 t2 => by
  obtain ⟨a, vs, e1, g1, l1, m1, r1, y, hy, ty⟩ := (tyLx k n lo hi P).mo s2 t1
  obtain ⟨b, us, e2, g2, l2, m2, r2⟩ := t2
  refine ⟨a, b, vs, us, e1, e2, w.out g1, w.out g2, small_line (Nat.le_trans (Nat.add_le_add m1 m2) hm), fun p hp => ?_⟩
  obtain ⟨o3, s3, e3⟩ := w.new (.lst (vs ++ us)) o2 hp
  refine q (.ref p) _ o3 (s1.trans (s2.trans s3)) ⟨p, _, rfl, e3, by rw [List.length_append]; omega, by rw [List.length_append]; omega, fun x hx => ?_, y, List.mem_append_left _ hy, (tyQ k n P).mo s3 ty⟩
  rcases List.mem_append.mp hx with hx | hx
  · exact (r1 x hx).same s3
  · exact Th.same (r2 x hx) s3
theorem Tp.lxQ (h : Tp w Γ te (tyLx k n lo hi P)) (hP : ∀ (ds : List PyData) d, d ∈ ds → P d = true → P' (.list ds) = true) (hk : k + 1 ≤ k' := by decide) (hn : (n + 1) * hi ≤ n' := by decide) : Tp w Γ te (tyQ k' n' P') := h.sub fun G v ⟨a, vs, e, h1, l1, h2, h3, y, hy, dy, ty, fy, py⟩ => by
  rw [e]; exact ((Th.lst h1 h3 (Nat.mul_le_mul_left _ h2)).le hk hn).q fun d t => by
    obtain ⟨ds, rfl, hd⟩ := ref_list h1 t
    obtain ⟨d2, hd2, t2⟩ := hd.mem hy
    exact hP ds d2 hd2 (by rw [t2.uniq ty]; exact py)
theorem Tp.leL (h : Tp w Γ te (tyL k n lo hi)) (hk : k ≤ k' := by decide) (hn : n ≤ n' := by decide) : Tp w Γ te (tyL k' n' lo hi) := h.wideL (fun _ _ t => Th.le t hk hn) (Nat.le_refl _) (Nat.le_refl _)
def TpD (w : View) (Γ : Cxt) (ta : TA) (ds : List PyData) : Prop := ∀ (σ : St) (H : Hp) (Q : List V → Hp → Prop), w.ok H → Fits Γ (w.v H) σ → (∀ vs H', w.ok H' → Same (w.v H) (w.v H') → ThsAt (w.v H') ds vs → Q vs H') → ta σ H Q
theorem TpD.nil : TpD w Γ tNil [] := fun σ H Q o f q => q [] H o (Same.refl _) (by rw [ThsAt])
theorem TpD.cons {t : TA} {ds : List PyData} (h : Tp w Γ te (tyD d)) (ht : TpD w Γ t ds) : TpD w Γ (tCons te t) (d :: ds) := fun σ H Q o f q => h σ H _ o f fun v H1 o1 s1 t1 => ht σ H1 _ o1 (f.same s1) fun vs H2 o2 s2 t2 => q (v :: vs) H2 o2 (s1.trans s2) (by rw [ThsAt]; exact ⟨_, _, rfl, ThAt.same s2 t1, t2⟩)
theorem TpS.nil {TR : Ty} : TpS w Γ tNext Γ TR := fun D σ H o f qn qr => qn σ H o (Same.refl _) f
theorem TpS.post {t : TS} {Γ1 Γ2 : Cxt} {TR : Ty} (h : TpS w Γ t Γ1 TR) (c : CSub Γ1 Γ2) : TpS w Γ t Γ2 TR := fun D σ H o f qn qr => h D σ H o f (fun σ' H' o' s' f' => qn σ' H' o' s' (c.fits f')) qr
end
end L2
set_option Elab.async false
set_option linter.all false
set_option maxRecDepth 100000
namespace PySem
open Sem (wp)
theorem list_no_keys : typeLookup (.type "list") "keys" = pure none := am_miss_of_fast (by decide +kernel)
set_option maxHeartbeats 1000000 in
theorem keys_miss_list {prog : Program} {w : World} {A : Around} {E : Value → Shared → Prop} {s : Shared} {a : Addr} {o : Obj} {xs : Array Value} {k : Nat} {Q : Option Value → Shared → Prop}
    (hx : s.heap.get? a = some o) (hc : o.cls = .type "list") (hdat : o.data = .seq xs k) (hd : o.dict = none) (hA : A.handled = none)
    (h : ∀ h' tk, (∀ b o, s.heap.get? b = some o → h'.get? b = some o) → Q none { s with heap := h', toks := tk }) :
    wpAny (model prog w) A (getAttr? (.ref a) "keys") Q E s := by
  obtain ⟨c, dct, dat, sl⟩ := o
  simp only at hc hdat hd
  subst hc hdat hd
  obtain ⟨hp, g, d, tk, os⟩ := s
  have hT : ∀ tk', (⟨hp, g, d, tk', os⟩ : Shared).TypeIs (.ref a) "list" := fun _ => ⟨_, hx, rfl⟩
  have f1 := sub_AttributeError
  have f3 := F.slot_list_getattribute.lookup
  have f4 := F.slot_list_getattribute.bind (.ref a)
  have f5 := am_list_getattr_none
  unfold getAttr? getAttrBy? getAttrBy
  repeat (any_goals (first | assumption | exact hT _ | ((with_reducible show wpAny _ _ (call (Value.builtin "list.__getattribute__") _ _) _ _ _); refine call_meets F.slot_list_getattribute (hT _) am_entry_list_getattribute (F.args_list_getattribute_2 _ _) (meets_getattribute_miss_list a xs k sl "keys" _ list_no_keys (by decide +kernel) (by decide +kernel)) ⟨hx, hA, fun h' tk' e hx' => ?_⟩) | wp_step))
  obtain ⟨t', u', he⟩ := hx'.there
  show wpAny _ _ (getattributeRaised _ _ _ _ _ _ _) _ _ _
  unfold getattributeRaised
  repeat (any_goals (first | assumption | wp_step))
  exact h _ _ hx'.of.keeps
namespace F
theorem entry_dict_update_loop : entryFor table "dict.update.loop" = some Builtin.«dict.update.loop» := entryFor_of_tree (by kernel_rfl)
theorem plain_dict_update_loop : plainId "dict.update.loop" = true := by decide +kernel
end F
def PairsIn {prog : Program} {w : World} {K : Type} [DecidableEq K] (knd : KeyKind prog w K) (h : Heap) (n : Nat) (P : Nat → Value → Prop) (kvs : List (K × Value)) (bad : List Addr) : Prop :=
  ∀ i v, i < n → P i v → ∃ T key kv, kvs[i]? = some kv ∧ v = .ref T ∧ T ∉ bad ∧ PyProof.Rows.IsTup h T #[key, kv.2] ∧ knd.is kv.1 key = true
section
variable {prog : Program} {w : World} {A : Around} {R : Result → Shared → Prop} {I : Addr} {fp wr : List Addr} {G : Array GenState → Array GenState → Prop} {n : Nat} {P : Nat → Value → Prop} {St : Nat → Shared → Prop}
variable {K : Type} [DecidableEq K] {knd : KeyKind prog w K}
set_option maxHeartbeats 2000000 in
theorem codeAny_dict_update_loop (W : WalksS prog w A.in1 I fp wr G n P St) (D : Addr) (hDf : D ∉ fp) (kvs : List (K × Value)) (hn : kvs.length = n) (hz : n ≤ sizeLine) :
    ∀ (k i : Nat) (s : Shared), n - i = k → i ≤ n → St i s → PairsIn knd s.heap n P kvs (D :: wr) →
      s.heap.DictOf knd D (merged [] (kvs.take i)) →
      (∀ s', Moved (D :: wr) G s s' → s'.heap.DictOf knd D (merged [] kvs) → R (.ok (.ret .none)) s') →
      codeAny (model prog w) A (.builtin "dict.update.loop" ⟨[.ref D, .ref I, rawInt i, .none], []⟩) R s := by
  have hDw : D ∉ wr := fun h => hDf (W.sub _ h)
  have hsub : ∀ b ∈ wr, b ∈ D :: wr := fun b hb => List.mem_cons_of_mem _ hb
  have keepD : ∀ {s s' : Shared} {xs : List (K × Value)}, Moved wr G s s' → s.heap.DictOf knd D xs → s'.heap.DictOf knd D xs := fun hm hS => by
    obtain ⟨o, es, ep, ho, rest⟩ := hS
    exact ⟨o, es, ep, hm.heap D _ hDw ho, rest⟩
  have keepP : ∀ {h h' : Heap}, (∀ b o, b ∉ D :: wr → h.get? b = some o → h'.get? b = some o) → PairsIn knd h n P kvs (D :: wr) → PairsIn knd h' n P kvs (D :: wr) := fun hk hP i v hi hv => by
    obtain ⟨T, key, kv, e1, e2, e3, ⟨o, ho, r⟩, e5⟩ := hP i v hi hv
    exact ⟨T, key, kv, e1, e2, e3, ⟨o, hk T o e3 ho, r⟩, e5⟩
  intro k
  induction k with
  | zero =>
    intro i s hk hi hst hP hS hR
    have hin : i = n := by omega
    subst hin
    refine codeAny_builtin F.entry_dict_update_loop ?_
    rw [Around.under_plainId F.plain_dict_update_loop _]
    show wpAny _ A.in1 (pyNext (.ref I) >>= _) _ _ s
    refine wpAny_bind (W.done s _ _ hst fun s' hm => ?_)
    show wpAny _ A.in1 (Builtin.Dict.addKeywords D [] >>= _) _ _ s'
    refine wpAny_bind (wpAny_pure ?_)
    show wpAny _ A.in1 (ret Value.none) _ _ s'
    refine wpAny_pure (hR s' (hm.mono hsub) ?_)
    rw [← hn, List.take_length] at hS
    exact keepD hm hS
  | succ k ih =>
    intro i s hk hi hst hP hS hR
    have hlt : i < n := by omega
    refine codeAny_builtin F.entry_dict_update_loop ?_
    rw [Around.under_plainId F.plain_dict_update_loop _]
    show wpAny _ A.in1 (pyNext (.ref I) >>= _) _ _ s
    refine wpAny_bind (W.item i s _ _ hlt hst fun v s' hPv hst' hm => ?_)
    have hP' : PairsIn knd s'.heap n P kvs (D :: wr) := keepP (fun b o hb e => hm.heap b o (fun z => hb (hsub b z)) e) hP
    obtain ⟨T, key, kv, e1, rfl, e3, ⟨o, ho, hc, m, hd⟩, e5⟩ := hP' i v hlt hPv
    have hS' := keepD hm hS
    show wpAny _ A.in1 (holding [Value.ref T] _ >>= _) _ _ s'
    refine wpAny_bind (wpAny_holding ?_)
    refine wpAny_bind (wpAny_tryCatch ?_)
    unfold Builtin.Dict.pairItems
    refine wpAny_bind (wpAny_typeOf (show s'.TypeIs (.ref T) "tuple" from ⟨o, ho, hc⟩) ?_)
    rw [if_pos (by decide)]
    refine wpAny_bind (wpAny_seqItems ho hd ?_)
    refine wpAny_pure ?_
    show wpAny _ _ (holding [key, kv.2] (dictSet D key kv.2)) _ _ _
    refine wpAny_holding ?_
    have hlen : (merged [] (kvs.take i)).length ≤ sizeLine := by
      have := merged_length_le ([] : List (K × Value)) (kvs.take i)
      rw [List.length_take, List.length_nil] at this
      omega
    refine wpAny_dictSet_pairs e5 hS' (fun h' hd' hsb => ?_) hlen
    rw [← merged_take_succ [] kvs i kv e1] at hd'
    refine wpAny_pure ⟨plainId_quiet F.plain_dict_update_loop _, ?_⟩
    have hsz : ((i : Int) + 1) = ((i + 1 : Nat) : Int) := by omega
    show codeAny _ _ (.builtin "dict.update.loop" ⟨[.ref D, .ref I, rawInt ((i : Int) + 1), .none], []⟩) _ _
    rw [hsz]
    refine ih (i + 1) _ (by omega) hlt (W.frame _ s' _ _ hst' (Nat.le_succ _) fun b hb o e => ?_) (keepP (fun b o hb e => ?_) hP') hd' fun s'' hm'' hS'' => ?_
    · rw [hsb.2 b (fun h : b = D => hDf (by rw [← h]; exact hb))]; exact e
    · rw [hsb.2 b (fun h : b = D => hb (by rw [h]; exact List.mem_cons_self))]; exact e
    · refine hR s'' (Moved.trans W.gtrans ((hm.mono hsub).then_heap (Nat.le_succ _) fun b o hb e => ?_) hm'') hS''
      rw [hsb.2 b (fun h : b = D => hb (by rw [h]; exact List.mem_cons_self))]; exact e
end
section
variable {prog : Program} {w : World} {K : Type} [DecidableEq K] {knd : KeyKind prog w K} {A : Around} {E : Value → Shared → Prop} {s : Shared}
set_option maxHeartbeats 4000000 in
theorem call_dict_pairs {l : Addr} {o : Obj} {items : Array Value} {k : Nat} {kvs : List (K × Value)} {Q : Value → Shared → Prop} (hh : A.handled = none) (ho : s.heap.get? l = some o) (hc : o.cls = .type "list") (hdat : o.data = .seq items k) (hd : o.dict = none)
    (hlen : kvs.length = items.size) (hz : items.size ≤ sizeLine) (hP : ∀ (i : Nat) (v : Value), items[i]? = some v → ∃ (T : Addr) (key : Value) (kv : K × Value), kvs[i]? = some kv ∧ v = .ref T ∧ PyProof.Rows.IsTup s.heap T #[key, kv.2] ∧ knd.is kv.1 key = true)
    (h : ∀ h' tk, h'.DictOf knd s.heap.objs.size (merged [] kvs) → (∀ b o, s.heap.get? b = some o → h'.get? b = some o) → Q (.ref s.heap.objs.size) { s with heap := h', toks := tk }) :
    wpAny (model prog w) A (call (.type "dict") [.ref l]) Q E s := by
  refine callType_codes (Q₁ := fun obj s₁ => obj = .ref s.heap.objs.size ∧ s₁ = { s with heap := s.heap.push { cls := .type "dict", data := .dict #[] } }) F.kt_called_dict (F.kt_typeCall_dict_1 _) F.entry_dict_init (kt_code_dict_new _ ⟨rfl, rfl⟩) ?_
  rintro obj s₁ ⟨rfl, rfl⟩
  have hnew : (s.heap.push { cls := .type "dict", data := .dict #[] }).DictOf knd s.heap.objs.size [] := Heap.DictOf.new s.heap
  have ho1 : (s.heap.push { cls := .type "dict", data := .dict #[] }).get? l = some o := Heap.get?_push_of_some _ ho
  refine ⟨hnew.typeIs, F.args_dict_init_2 _ _, ?_⟩
  unfold Builtin.«dict.__init__»
  refine wpAny_bind ?_
  unfold Builtin.Dict.selfAndRest
  refine wpAny_bind (wpAny_notOrdered_dict hnew.typeIs ?_)
  show wpAny _ _ (pure (s.heap.objs.size, [Value.ref l])) _ _ _
  refine wpAny_pure ?_
  show wpAny _ _ (Builtin.Dict.updateFrom "dict.__init__" s.heap.objs.size (.ref l) [] .none) _ _ _
  unfold Builtin.Dict.updateFrom
  refine wpAny_bind (wpAny_typeOf (show Shared.TypeIs { s with heap := s.heap.push { cls := .type "dict", data := .dict #[] } } (.ref l) "list" from ⟨o, ho1, hc⟩) ?_)
  rw [if_pos (by decide)]
  refine wpAny_bind ?_
  refine keys_miss_list ho1 hc hdat hd ?_ fun h1 tk1 k1 => ?_
  · simp [hh]
  rw [if_pos (show (none : Option Value).isNone = true from rfl)]
  refine wpAny_bind (wpAny_rule ?_)
  have ho2 : h1.get? l = some o := k1 _ _ ho1
  have hl1 : h1.IsList l items := ⟨o, ho2, hc, k, hdat⟩
  refine wpAny_bind (wpAny_pyIter_list hl1 ?_)
  refine wpAny_pure ⟨plainId_quiet F.plain_dict_update_loop _, ?_⟩
  have hlS : l < s.heap.objs.size := Heap.lt_size ho
  have hh3 : A.in1.in1.handled = none := by simp [hh]
  have hneI : l ≠ h1.objs.size := Nat.ne_of_lt (Heap.lt_size ho2)
  have hD1 : h1.get? s.heap.objs.size = some { cls := .type "dict", data := .dict #[] } := k1 _ _ (Heap.get?_push_size _ rfl)
  have hDI : s.heap.objs.size ≠ h1.objs.size := Nat.ne_of_lt (Heap.lt_size hD1)
  have hSf : s.heap.objs.size ∉ [h1.objs.size, l] := by
    simp only [List.mem_cons, List.not_mem_nil, or_false, not_or]
    exact ⟨hDI, Nat.ne_of_gt hlS⟩
  have hold : ∀ b o, s.heap.get? b = some o → h1.get? b = some o := fun b o e => k1 _ _ (Heap.get?_push_of_some _ e)
  refine codeAny_dict_update_loop (knd := knd) ((Walks.list hh3 h1.objs.size l hneI items).toS) s.heap.objs.size hSf kvs hlen hz (items.size - 0) 0 _ (by omega) (Nat.zero_le _)
    ⟨⟨_, Heap.get?_push_size _ rfl, rfl, rfl⟩, (hl1.push _)⟩ ?hP0 ?hS0 ?hR
  case hP0 =>
    intro i v hi hv
    obtain ⟨T, key, kv, e1, e2, ⟨ot, ht, r⟩, e4⟩ := hP i v hv
    have ht1 := hold _ _ ht
    refine ⟨T, key, kv, e1, e2, ?_, ⟨ot, Heap.get?_push_of_some _ ht1, r⟩, e4⟩
    simp only [List.mem_cons, List.not_mem_nil, or_false, not_or]
    exact ⟨Nat.ne_of_lt (Heap.lt_size ht), Nat.ne_of_lt (Heap.lt_size ht1)⟩
  case hS0 =>
    obtain ⟨od, es, ep, hod, rest⟩ := hnew
    exact ⟨od, es, ep, Heap.get?_push_of_some _ (k1 _ _ hod), rest⟩
  case hR =>
    intro s' hm hS'
    obtain ⟨h', g', d', tk', os'⟩ := s'
    have eg : g' = s.gens := hm.gens
    have ed : d' = s.drawn := hm.drawn
    have eo : os' = s.os := hm.os
    subst eg; subst ed; subst eo
    refine ⟨rfl, h h' tk' hS' fun b q e => ?_⟩
    have hb1 : b ≠ s.heap.objs.size := Nat.ne_of_lt (Heap.lt_size e)
    have hb2 : b ≠ h1.objs.size := Nat.ne_of_lt (Heap.lt_size (hold _ _ e))
    exact hm.heap b q (by simp only [List.mem_cons, List.not_mem_nil, or_false, not_or]; exact ⟨hb1, hb2⟩) (Heap.get?_push_of_some _ (hold _ _ e))
end
end PySem
set_option Elab.async false
set_option linter.all false
set_option maxRecDepth 100000
namespace L2
open PySem PySem.Spec PyProof.Rows PySem.SeqAt
section
variable {X : Cx}
abbrev PairsAt (K : PySem.W.Frag) (H : Hp) : List Addr → List (Key × V) → Prop := Paired fun t kv => SqT K H t [kV kv.1, kv.2]
def rDictP (K : PySem.W.Frag) : List V → Hp → VK → Prop := fun xs H Q => ∃ (a : Addr) (ts : List Addr) (kvs : List (Key × V)), xs = [.ref a] ∧ SqL K H a (ts.map V.ref) ∧ PairsAt K H ts kvs ∧ ∀ p, H p = none → Q (.ref p) (upd H p (.dK (mergeK [] kvs)))
theorem pairs_real {pins : List (Addr × Obj)} {s : Shared} {σ : St} {H : Hp} (I : Inv X pins σ H s) : ∀ {ts : List Addr} {kvs : List (Key × V)} {its : List Value}, PairsAt X.K H ts kvs → Vals (ts.map V.ref) its →
    ∃ rs : List (Key × Value), KV kvs rs ∧ rs.length = its.length ∧ ∀ (i : Nat) (v : Value), its[i]? = some v → ∃ (T : Addr) (key : Value) (kv : Key × Value), rs[i]? = some kv ∧ v = .ref T ∧ IsTup s.heap T #[key, kv.2] ∧ (mixKind X.prog X.w).is kv.1 key = true
  | _, _, _, .nil, r => by
    rw [List.map_nil] at r; cases r
    exact ⟨[], .nil, rfl, fun i v e => by cases e⟩
  | _, _, _, .cons (a := t) (b := kv) h q, r => by
    rw [List.map_cons] at r
    cases r with
    | cons r1 r2 =>
      obtain ⟨rs, k1, k2, k3⟩ := pairs_real I q r2
      obtain ⟨its2, rv, it, _⟩ := I.tuple h
      obtain ⟨u, w', e, ru, rw'⟩ := vals2 rv
      subst e
      cases r1
      refine ⟨(kv.1, w') :: rs, .cons ⟨rfl, rw'⟩ k1, by simp [k2], fun i v e => ?_⟩
      cases i with
      | zero => cases e; exact ⟨t, u, (kv.1, w'), rfl, rfl, it, kV_is ru⟩
      | succ i => exact k3 i v e
theorem call_dictP (hc : X.calm = true) : CallR X (.type "dict") (rDictP X.K) := by
  intro pins s σ H xs us Q I r h
  obtain ⟨a, ts, kvs, rfl, hq, hp, q⟩ := h
  obtain ⟨u, rfl, rx⟩ := vals1 r
  cases rx
  obtain ⟨its, rv, ⟨o, n, e, c, d, dat⟩, hz⟩ := I.list hq
  obtain ⟨rs, k1, k2, k3⟩ := pairs_real I hp rv
  have hl := rv.length
  rw [hl] at hz
  have hk := Paired.length k1
  have hm : (mergeK [] kvs).length ≤ sizeLine := by
    have h1 := length_mergeK kvs []
    rw [List.length_nil] at h1
    omega
  refine call_dict_pairs (knd := mixKind X.prog X.w) (kvs := rs) (I.ok.hd hc) e c dat d (by simpa using k2) (by simpa using hz) (fun i v hv => k3 i v (by simpa using hv)) fun h' tk dd k => ?_
  refine ⟨.ref s.heap.objs.size, _, I.laid (t' := tk) k (Nat.le_refl _) (dk_new hm (beq_eq_false_iff_ne.mpr (Ne.symm (Nat.ne_of_lt I.big))) (k1.merge .nil) dd), rfl, q _ (I.hok.fresh (Nat.le_refl _))⟩
theorem k_dictP (K : PySem.W.Frag) (hc : X.calm = true) (e : X.K = K := by rfl) : CallR X (.type "dict") (rDictP K) := by subst e; exact call_dictP hc
end
end L2
set_option Elab.async false
set_option linter.all false
set_option maxRecDepth 100000
namespace L2
open PySem PyProof.Rows
abbrev SmP (p : Int × Int) : Prop := p.1.natAbs < 10 ^ 30 ∧ p.2.natAbs < 10 ^ 30
theorem put_dV (ps : List (Int × Int)) (q : Int × Int) : ∃ rs, putK (dV ps) (Sum.inl q.1 : Key) (.int q.2) = dV rs ∧ ((∀ p ∈ ps, SmP p) → SmP q → ∀ r ∈ rs, SmP r) ∧ rs.length ≤ ps.length + 1 := by
  unfold putK
  split
  · refine ⟨ps.map fun p => if p.1 = q.1 then (p.1, q.2) else p, ?_, fun h hq r hr => ?_, by rw [List.length_map]; omega⟩
    · unfold dV
      rw [List.map_map, List.map_map]
      refine List.map_congr_left fun p _ => ?_
      show (if (Sum.inl p.1 : Key) = Sum.inl q.1 then ((Sum.inl p.1 : Key), V.int q.2) else (Sum.inl p.1, V.int p.2)) = _
      by_cases e : p.1 = q.1
      · rw [if_pos (by rw [e])]
        show _ = (fun p : Int × Int => ((Sum.inl p.1 : Key), V.int p.2)) (if p.1 = q.1 then (p.1, q.2) else p)
        rw [if_pos e]
      · rw [if_neg (fun z => e (Sum.inl.inj z))]
        show _ = (fun p : Int × Int => ((Sum.inl p.1 : Key), V.int p.2)) (if p.1 = q.1 then (p.1, q.2) else p)
        rw [if_neg e]
    · obtain ⟨p, hp, rfl⟩ := List.mem_map.mp hr
      by_cases e : p.1 = q.1
      · rw [if_pos e]; exact ⟨(h p hp).1, hq.2⟩
      · rw [if_neg e]; exact h p hp
  · refine ⟨ps ++ [q], by unfold dV; rw [List.map_append]; rfl, fun h hq r hr => ?_, by rw [List.length_append]; exact Nat.le_refl _⟩
    rcases List.mem_append.mp hr with hr | hr
    · exact h r hr
    · rw [List.mem_singleton.mp hr]; exact hq
theorem merge_dV : ∀ (qs ps : List (Int × Int)), ∃ rs, mergeK (dV ps) (dV qs) = dV rs ∧ ((∀ p ∈ ps, SmP p) → (∀ q ∈ qs, SmP q) → ∀ r ∈ rs, SmP r) ∧ rs.length ≤ ps.length + qs.length
  | [], ps => ⟨ps, rfl, fun h _ => h, Nat.le_refl _⟩
  | q :: qs, ps => by
    obtain ⟨rs, e1, e2, e3⟩ := put_dV ps q
    obtain ⟨us, d1, d2, d3⟩ := merge_dV qs rs
    refine ⟨us, ?_, fun h hq => d2 (e2 h (hq q (.head _))) fun x hx => hq x (.tail _ hx), by rw [List.length_cons]; omega⟩
    show mergeK (putK (dV ps) (Sum.inl q.1 : Key) (.int q.2)) (dV qs) = _
    rw [e1, d1]
abbrev PrAt (G : Hp) : List Addr → List (Int × Int) → Prop := Paired fun t p => G t = some (.tup [.int p.1, .int p.2])
theorem PrAt.same {G G' : Hp} (s : Same G G') {ts : List Addr} {ps : List (Int × Int)} (h : PrAt G ts ps) : PrAt G' ts ps := Paired.mapP h fun _ _ e => s _ _ e
theorem PrAt.app {G : Hp} : ∀ {ts us : List Addr} {ps qs : List (Int × Int)}, PrAt G ts ps → PrAt G us qs → PrAt G (ts ++ us) (ps ++ qs)
  | _, _, _, _, .nil, h => h
  | _, _, _, _, .cons r t, h => .cons r (PrAt.app t h)
def tyPr (hi : Nat) : Ty := ⟨fun G v => ∃ (a : Addr) (ts : List Addr) (ps : List (Int × Int)), v = .ref a ∧ G a = some (.lst (ts.map V.ref)) ∧ PrAt G ts ps ∧ ps.length ≤ hi ∧ ∀ p ∈ ps, SmP p, fun s ⟨a, ts, ps, h1, h2, h3, h4⟩ => ⟨a, ts, ps, h1, s _ _ h2, h3.same s, h4⟩⟩
section
variable {w : View} {Γ : Cxt} {te : TE} {K : PySem.W.Frag} {lo hi : Nat} {i j c : Int}
theorem ints_of {vs : List V} (h : ∀ u ∈ vs, ∃ x, u = V.int x ∧ i ≤ x ∧ x ≤ j) : ∃ ns : List Int, vs = ns.map V.int ∧ ∀ x ∈ ns, i ≤ x ∧ x ≤ j := by
  induction vs with
  | nil => exact ⟨[], rfl, by simp⟩
  | cons v vs ih =>
    obtain ⟨x, rfl, hx⟩ := h v (.head _)
    obtain ⟨ns, rfl, hn⟩ := ih fun u hu => h u (.tail _ hu)
    refine ⟨x :: ns, rfl, fun y hy => ?_⟩
    rcases List.mem_cons.mp hy with rfl | hy
    · exact hx
    · exact hn y hy
theorem Tp.compP {js : List Nat} (h : Tp w Γ te (tyLof (tyI i j) lo hi)) (h1 : -(10 ^ 29) ≤ i := by decide) (h2 : j ≤ 10 ^ 29 := by decide) (h3 : c.natAbs < 10 ^ 30 := by decide) (hc : hi ≤ 10000 := by decide) :
    Tp w Γ (tComp (iList K te) js tYes (tTup (tCons (tVar 0) (tCons (tC (.int c)) tNil)))) (tyPr hi) := fun σ H Q o f q => h σ H _ o f fun v H1 o1 s1 ⟨a, vs, e1, g1, l1, m1, r1⟩ => by
  obtain ⟨ns, rfl, hn⟩ := ints_of r1
  rw [List.length_map] at l1 m1
  refine ⟨a, e1, ⟨_, SqL.of (w.out g1)⟩, comp_list (K := K) (a := a) (xs := ns.map V.int) (fun i us H2 => w.ok H2 ∧ Same (w.v H1) (w.v H2) ∧ ∃ ts : List Addr, us = ts.map V.ref ∧ PrAt (w.v H2) ts ((ns.take i).map fun n => (n, c)))
    ⟨o1, Same.refl _, [], rfl, .nil⟩ (fun i us H2 _ ⟨_, s2, _⟩ => SqL.of (w.out (s2 _ _ g1))) ?_ ?_⟩
  · rintro k x us H2 hk ⟨o2, s2, ts, rfl, p2⟩
    rw [List.getElem?_map] at hk
    cases hx : ns[k]? with
    | none => rw [hx] at hk; cases hk
    | some y =>
      rw [hx] at hk
      cases hk
      have hl := Paired.length p2
      rw [List.length_map, List.length_take] at hl
      have hkn : k < ns.length := (List.getElem?_eq_some_iff.mp hx).1
      refine ⟨by rw [List.length_map, hl]; exact Nat.lt_of_lt_of_le (show min k ns.length < hi by omega) (small_line hc), ?_⟩
      unfold tYes
      dsimp only
      rw [if_pos rfl]
      refine ⟨_, rfl, small_line (show 2 ≤ 10000 by decide), fun p hp => ?_⟩
      obtain ⟨o3, s3, e3⟩ := w.new (.tup [.int y, .int c]) o2 hp
      refine ⟨o3, s2.trans s3, ts ++ [p], by rw [List.map_append]; rfl, ?_⟩
      rw [List.take_succ, hx, List.map_append]
      exact PrAt.app (p2.same s3) (.cons e3 .nil)
  · rintro us H2 ⟨o2, s2, ts, rfl, p2⟩ D hD
    rw [List.length_map, List.take_length] at p2
    obtain ⟨o4, s4, e4⟩ := w.new (.lst (ts.map V.ref)) o2 hD
    refine q (.ref D) _ o4 (s1.trans (s2.trans s4)) ⟨D, ts, _, rfl, e4, p2.same s4, by rw [List.length_map]; exact m1, fun p hp => ?_⟩
    obtain ⟨x, hx, rfl⟩ := List.mem_map.mp hp
    have := hn x hx
    exact ⟨by show x.natAbs < _; omega, h3⟩
theorem pairs_at {H : Hp} : ∀ {ts : List Addr} {ps : List (Int × Int)}, PrAt (w.v H) ts ps → PairsAt K H ts (dV ps)
  | _, _, .nil => .nil
  | _, _, .cons r t => .cons (SqT.of (w.out r)) (pairs_at t)
theorem Tp.dictS (h : Tp w Γ te (tyPr hi)) : Tp w Γ (tCB (rDictP K) (tCons te tNil)) (tyS 1 (202 * hi) 6) := fun σ H Q o f q => h σ H _ o f fun v H1 o1 s1 ⟨a, ts, ps, e1, g1, p1, m1, r1⟩ => by
  obtain ⟨rs, d1, d2, d3⟩ := merge_dV ps []
  refine ⟨a, ts, dV ps, by rw [e1], SqL.of (w.out g1), pairs_at p1, fun p hp => ?_⟩
  rw [show mergeK [] (dV ps) = dV rs from d1]
  obtain ⟨o2, s2, e2⟩ := w.new (.dK (dV rs)) o1 hp
  have t := Th.dic (k := 1) (n := 202 * hi) e2 (Nat.le_refl _) (d2 (by simp) r1) (by rw [List.length_nil] at d3; omega)
  exact q (.ref p) _ o2 (s1.trans s2) ⟨.dict (dD rs), ThAt.dic e2, t.fit (ThAt.dic e2), rfl⟩
end
theorem pe_ixK {X : Cx} {a b : Expr} {ta tb : TE} {pos : Pos} {r : R2} (hr : IxR X r) (ha : PE X a ta) (hb : PEI X b tb) (hs : PlainIx b) : PE X (.Subscript a b pos) (tOp r ta tb) := pe_ix hr ha hb.o hs
theorem ps_retI {X : Cx} {e : Expr} {te : TE} {pos : Pos} (he : PEI X e te) : PS X (.Return (some e) pos) (tRet te) := ps_ret he.o
theorem pei_ix {X : Cx} {a b : Expr} {ta tb : TE} {pos : Pos} {r : R2} (hr : IxR X r) (ha : PEI X a ta) (hb : PE X b tb) (hs : PlainIx b) : PEI X (.Subscript a b pos) (tOp r ta tb) := pei (pe_ixI hr ha hb hs)
theorem pei_ixK {X : Cx} {a b : Expr} {ta tb : TE} {pos : Pos} {r : R2} (hr : IxR X r) (ha : PE X a ta) (hb : PEI X b tb) (hs : PlainIx b) : PEI X (.Subscript a b pos) (tOp r ta tb) := pei (pe_ixK hr ha hb hs)
end L2
namespace PySem.W.Fast
def tw8304818566435714821 := ()
def tw461423086825577391 := ()
def tw4017483959643224468 := ()
def tw5724678941785917542 := ()
def tw6776900703875656818 := ()
def tw12298078628744317157 := ()
def tw11261020081162001250 := ()
def tw76058338599669163 := ()
def tw12635021015547790227 := ()
def tw4425560713604582425 := ()
def tw17885732765978053546 := ()
def tw2113869263655194843 := ()
def tw16934332036075422862 := ()
def tw7501005879745505363 := ()
def tw9576984997256209842 := ()
def tw14134889242271245442 := ()
def tw8203006126566957133 := ()
def tw5922460678277343921 := ()
def tw6310904538394060667 := ()
def tw4663017436953919184 := ()
def tw12121686261938951981 := ()
def tw4803586501150283585 := ()
def tw15869117806099540646 := ()
def tw4026236771721948341 := ()
def tw17913072443824344376 := ()
def tw12943221482314748036 := ()
def tw5324724721164633925 := ()
def tw11634534370284014159 := ()
def tw4819695815321594562 := ()
def tw1509847237422592637 := ()
def tw7144111873468225038 := ()
def tw6034866730641546149 := ()
def tw12174004881271297309 := ()
def tw17632634071130410347 := ()
def tw14383287088653902840 := ()
def tw15514891792595093384 := ()
def tw16982006981158544931 := ()
def tw5578675441568780710 := ()
def tw1762852348310522731 := ()
def tw6359023631945239325 := ()
def tw7217338317990290459 := ()
def tw17827169427638986891 := ()
def tw3958739243669589230 := ()
def tw5943769418334433517 := ()
def tw10202565338971616416 := ()
def tw17561278317943292360 := ()
def tw11563894406661002106 := ()
def tw5235276966844941504 := ()
def tw12272708176841125034 := ()
def tw6668116997926852348 := ()
def tw626835058811248943 := ()
def tw6201020520482293099 := ()
def tw4827213837323173762 := ()
def tw15120970830162850653 := ()
def tw11519817470756018501 := ()
def tw10862222958144099613 := ()
def tw12858661733093339847 := ()
def tw17800005483771947992 := ()
def tw446306911135262109 := ()
def tw15003409955937750284 := ()
def tw1991625420991968908 := ()
def tw13231798381658956101 := ()
def tw15178812386672711142 := ()
def tw15465902082837317861 := ()
def tw1627128433774927814 := ()
def tw10220898730130331371 := ()
def tw9722968129405621442 := ()
def tw6533419057219877185 := ()
def tw7546695088787479422 := ()
def tw15601968764611675017 := ()
def tw14645339523708535729 := ()
def tw7188609921748276564 := ()
def tw15259498533121318019 := ()
def tw11632505521988725200 := ()
def tw15631585124780447117 := ()
def tw8013523463751965004 := ()
def tw4746245110957060080 := ()
def tw14363292574248773273 := ()
def tw886340573503442992 := ()
def tw16296103311012861748 := ()
def tw13343467114457564751 := ()
def tw14782335610373496866 := ()
def tw5118877212169872408 := ()
def tw1366634445048076341 := ()
def tw7565095592322391173 := ()
def tw14620740263300494099 := ()
def tw5780980967980332697 := ()
def tw18046780175478488316 := ()
def tw49194535803532784 := ()
def tw5476216256054409396 := ()
def tw4026781439568932569 := ()
def tw16141507521632962472 := ()
def tw18089558833901634618 := ()
def tw16256557548193036775 := ()
def tw5682913103381136419 := ()
def tw15251412872105753392 := ()
def tw14277639413917877384 := ()
def tw3225638252396495356 := ()
def tw12246208597015881062 := ()
def tw10856998961110106474 := ()
def tw11754518688853922508 := ()
def tw7815988864504868140 := ()
def tw16244971440872390108 := ()
def tw4813790518293210898 := ()
def tw10182237461639716989 := ()
def tw14364136299086350799 := ()
def tw9112824593760795075 := ()
def tw14639334836419345736 := ()
def tw7240453751056166705 := ()
def tw1469364926019674181 := ()
def tw1538061986753311602 := ()
def tw18383430989473310196 := ()
def tw872363071739120062 := ()
def tw6644182725688197178 := ()
def tw4893588447351201720 := ()
def tw821771152393531039 := ()
def tw2391618242440027401 := ()
def tw1119160016295302932 := ()
def tw10914970970409183421 := ()
def tw16037507396269597228 := ()
def tw15006920584969107938 := ()
def tw18011467348734779127 := ()
def tw10051927869707954226 := ()
def tw17021839972770345329 := ()
def tw8301659663255334129 := ()
def tw3137196842153447857 := ()
def tw5880817667084476299 := ()
def tw7719723153746371005 := ()
def tw2679238121874330333 := ()
def tw4396712523211453741 := ()
def tw3020552409906023165 := ()
def tw18329955585086950845 := ()
def tw13497618579971183314 := ()
def tw7724876708491962282 := ()
def tw13378958562220152127 := ()
def tw7741810990260378260 := ()
def tw17030240086846774718 := ()
def tw1132698900507972170 := ()
def tw2159424845641102940 := ()
def tw5296905217510696254 := ()
def tw11545558399501707457 := ()
def tw14534080660709872427 := ()
def tw15800317685851108953 := ()
def tw17323652219140749612 := ()
def tw12815471901856456079 := ()
def tw5664163139482034443 := ()
def tw8005406342827749764 := ()
def tw11627404770345004919 := ()
def tw6818706637240719738 := ()
def tw5720154890166772387 := ()
def tw6680068094532980210 := ()
def tw5942084918220080026 := ()
def tw10890554997510681307 := ()
def tw7129455558118960821 := ()
def tw15434526890901087424 := ()
def tw1291097320151213597 := ()
def tw16923309020055051050 := ()
def tw13206783654753736983 := ()
def tw13860575523220883537 := ()
def tw17580011150167870215 := ()
def tw438056830229659947 := ()
def tw15224304991620675891 := ()
def tw762946020927466237 := ()
def tw11102075620260376874 := ()
def tw1644450939070708728 := ()
def tw7800818441994839679 := ()
def tw17436386597161967933 := ()
def tw1460118549853640670 := ()
def tw11327842833751697119 := ()
def tw6524914181265833643 := ()
def tw14055987951132238052 := ()
def tw3770729654242609597 := ()
def tw18394979334859717678 := ()
def tw1729458283458360299 := ()
def tw13066410674432613664 := ()
def tw1122887335000852189 := ()
def tw4173414371978766044 := ()
def tw7852915159116646127 := ()
def tw13812266427094698161 := ()
def tw5317796895922837674 := ()
def tw11392033858635440027 := ()
def tw2722024004936445642 := ()
def tw517356291279610683 := ()
def tw5383271679432850589 := ()
def tw7291501004724209702 := ()
def tw6892190558102078911 := ()
def tw2727364432217735491 := ()
def tw14212185497483208831 := ()
def tw8997052486312178140 := ()
def tw17144745403367246913 := ()
def tw1588518426827748902 := ()
def tw13211392431185816437 := ()
def tw10377690635385753448 := ()
def tw10007306512857722931 := ()
def tw2055962549717288369 := ()
def tw15346729889926174466 := ()
def tw18049418117786891075 := ()
def tw11100730411361748011 := ()
def tw4863595371950673765 := ()
def tw2030110767712003979 := ()
def tw6330243040789771270 := ()
def tw11555039171586737644 := ()
def tw16593536049239203943 := ()
def tw636790785891921466 := ()
def tw6399862370710482172 := ()
def tw7932649231633033749 := ()
def tw4994904986184183660 := ()
def tw6239061547721087307 := ()
def tw6542628616318004857 := ()
def tw13151059245018015121 := ()
def tw11549339850198300162 := ()
def tw4650391343269878577 := ()
def tw1327301173639590520 := ()
def tw14531254194093671310 := ()
def tw1136444440542386510 := ()
def tw17017105666126410640 := ()
def tw10026365171444194154 := ()
def tw15752477873099626736 := ()
def tw7571101433891944730 := ()
def tw5017753050830729398 := ()
def tw3978977607484975627 := ()
def tw10739223179391068425 := ()
def tw868399904400627330 := ()
def tw5904398605332605379 := ()
def tw16715864452717993469 := ()
def tw9891185394525933120 := ()
def tw3202964827408343851 := ()
def tw5683152898154792958 := ()
def tw11567624513655691416 := ()
def tw12128580273419639313 := ()
def tw14336966613373839018 := ()
def tw5898358156618880995 := ()
def tw5926461516309513037 := ()
def tw14243928026512057265 := ()
def tw14046198700857000620 := ()
def tw11609401773616504625 := ()
def tw2356165816253860695 := ()
def tw17105920072050073158 := ()
def tw8934686307368713514 := ()
def tw5295485314484923879 := ()
def tw4140846567450349128 := ()
def tw15095340083923751325 := ()
def tw5329525923980641370 := ()
def tw9098749083781181435 := ()
def tw11166527832526350708 := ()
def tw402328984845324018 := ()
def tw9171099038882771422 := ()
def tw4890494523135898333 := ()
def tw3603319542735675157 := ()
def tw1745757494716644463 := ()
def tw11341790842621294208 := ()
def tw17264239464430816350 := ()
def tw15645122581312249677 := ()
def tw13043288182627230017 := ()
def tw15799262297136313385 := ()
def tw5887385647695496265 := ()
def tw18080114166482215415 := ()
def tw9426141978799971589 := ()
def tw5610967869736456524 := ()
def tw9404342488299156419 := ()
def tw1249239489188177880 := ()
def tw2279623685940511007 := ()
def tw13726008043199963051 := ()
def tw8118916538488548522 := ()
def tw7934143396401231187 := ()
def tw8129045138041856512 := ()
def tw15188000625119054168 := ()
def tw1198277131626835696 := ()
def tw564099790719575373 := ()
def tw15151455911092976612 := ()
def tw16518348431891158166 := ()
def tw364665224154239144 := ()
def tw11962338424999529033 := ()
def tw9734215191509216381 := ()
def tw461188742116030158 := ()
def tw11271508729515034849 := ()
def tw1317948843447354534 := ()
def tw1214519117000412728 := ()
def tw3797922445116880930 := ()
def tw11032177007305119341 := ()
def tw1343629907191602236 := ()
def tw2472399320769722760 := ()
def tw14743798762947442235 := ()
def tw6819334812302635565 := ()
def tw9829424887094922324 := ()
def tw9611920284632915179 := ()
def tw18075235718163039306 := ()
def tw12134039057401089610 := ()
def tw14557599791346413862 := ()
def tw4783898742752057479 := ()
def tw10447645530649119690 := ()
def tw6294736513731037114 := ()
def tw12038811287784433679 := ()
def tw4791881458305200216 := ()
def tw12075376179024733485 := ()
def tw17157560568421319996 := ()
def tw10116347365698468771 := ()
def tw10046761997801914329 := ()
def tw3695445570600293047 := ()
def tw15850478331731001488 := ()
def tw6256521922904490468 := ()
def tw10865819049232021179 := ()
def tw7312719359927284844 := ()
def tw13861370689880764424 := ()
def tw4339187104786027691 := ()
def tw17294754062182598777 := ()
def tw5004260311648967069 := ()
def tw16756727234829505715 := ()
def tw13703897939085424544 := ()
def tw12345988535512328486 := ()
def tw1925135594600093751 := ()
def tw746290513470331863 := ()
def tw15287478057971611509 := ()
def tw11563095831188395661 := ()
def tw10024785400727087389 := ()
def tw94341730083094565 := ()
def tw12060422051760115522 := ()
def tw17453800153382664752 := ()
def tw6297787068874448541 := ()
def tw5222234471869192639 := ()
def tw10729205269757346440 := ()
def tw14649629934489564421 := ()
def tw501745500500592176 := ()
def tw14965199657733840846 := ()
def tw9376759715168726510 := ()
def tw15381989184779319780 := ()
def tw14715826114886684654 := ()
def tw18428215300268118407 := ()
def tw3797267310583895370 := ()
def tw10147619690406347513 := ()
def tw5813872692154934317 := ()
def tw11935720780199865211 := ()
def tw8522636197250160696 := ()
def tw9836964001392565647 := ()
def tw14613829623666982266 := ()
def tw10033196511054978391 := ()
def tw15457744105491501074 := ()
def tw14840165576896816411 := ()
def tw10744888762703394252 := ()
def tw5078005363468754632 := ()
def tw1694543775742540631 := ()
def tw9646619549285956531 := ()
def tw647210753020086726 := ()
def tw2076735729503269009 := ()
def tw17380632454359134012 := ()
def tw12047156132129067733 := ()
def tw16090646425470453693 := ()
def tw33537858985999404 := ()
def tw6018834231942786129 := ()
def tw3084203121521401778 := ()
def tw2117105754024009935 := ()
def tw13485283245848414629 := ()
def tw10528296025995306657 := ()
def tw9610133290661100105 := ()
def tw7441291248379502454 := ()
def tw10807461237435841816 := ()
def tw16725935245326361203 := ()
def tw7181393389603210403 := ()
def tw15194450905200095228 := ()
def tw16212083923123995156 := ()
def tw12805373570206468532 := ()
def tw17891841764340186680 := ()
def tw9298494813455053928 := ()
def tw13065609309062826216 := ()
def tw16129038750321936918 := ()
def tw7589785165226468895 := ()
def tw17714477197027767537 := ()
def tw16814470907848699108 := ()
def tw15570326536650920531 := ()
def tw777240155232921348 := ()
def tw9367530450581690810 := ()
def tw17335187156689582519 := ()
def tw2827764268549980869 := ()
def tw3225798696060719697 := ()
def tw16363036107744131477 := ()
def tw8825366284072858516 := ()
def tw12826620772805543766 := ()
def tw10818571776918046189 := ()
def tw10585171462064947654 := ()
def tw5179130492119034742 := ()
def tw11347475190640085628 := ()
def tw17233244285183119941 := ()
def tw12207439781380378747 := ()
def tw3705801370063540937 := ()
def tw1538453739613249696 := ()
def tw15556258090687344469 := ()
def tw8688039754156584371 := ()
def tw6108018433375506572 := ()
def tw14897062107104849329 := ()
def tw8569298906519115934 := ()
def tw4777424556353783861 := ()
def tw8680066923302544399 := ()
def tw10735899533623643638 := ()
def tw10873611360794729460 := ()
def tw5991224748858118811 := ()
def tw7805616948763454532 := ()
def tw7075983056099258976 := ()
def tw5426625077110626983 := ()
def tw4309217728313867784 := ()
def tw8277854262864863796 := ()
def tw9948324355215487279 := ()
def tw4449003582640186010 := ()
def tw8445299405340238279 := ()
def tw16800325569993494908 := ()
def tw10007446189647787295 := ()
def tw18379552797015001246 := ()
def tw5210782839289571880 := ()
def tw12432614485732677950 := ()
def tw6711105360677418864 := ()
def tw877218905856078966 := ()
end PySem.W.Fast
set_option Elab.async false
set_option linter.all false
set_option maxRecDepth 100000
namespace Lw
open PySem L2 PyProof.Rows
def top (i : Nat) : Stmt := PySem.Challenge.pw_lackstretch_k09_no_rules_no_stands_no_fi.main.body.getD i (.Pass ⟨0, 0, 0, 0⟩)
abbrev s_is_whole : Stmt := top 20
abbrev s_is_base : Stmt := top 21
abbrev s_is_figure : Stmt := top 22
abbrev s_are_figures : Stmt := top 23
abbrev s_is_stretch : Stmt := top 24
abbrev s_is_rising : Stmt := top 25
abbrev s_is_bad_list : Stmt := top 26
abbrev s_is_rule : Stmt := top 27
abbrev s_check_rule : Stmt := top 28
abbrev s_stands_within : Stmt := top 29
abbrev s_lacks_all : Stmt := top 30
abbrev s_begins_one : Stmt := top 32
abbrev s_longest_stand : Stmt := top 33
abbrev s_stands_of : Stmt := top 34
abbrev s_is_stand : Stmt := top 35
abbrev s_stand_behind : Stmt := top 36
abbrev s_all_stands : Stmt := top 37
abbrev s_step_from : Stmt := top 38
abbrev s__law_deck : Stmt := top 40
abbrev s__law_draw : Stmt := top 41
abbrev s__law_some_rule : Stmt := top 42
abbrev s__law_lacks : Stmt := top 43
abbrev s__law_no_base : Stmt := top 44
abbrev s__law_odd_figure : Stmt := top 45
abbrev s__law_odd_figures : Stmt := top 46
abbrev s__law_no_rule : Stmt := top 47
abbrev s__law_is_rule : Stmt := top 48
abbrev s__law_kinds : Stmt := top 49
abbrev s__law_all : Stmt := top 50
abbrev s__law_no_stand : Stmt := top 51
abbrev s__law_is_stand : Stmt := top 52
abbrev s__law_caught : Stmt := top 53
abbrev s__law_right : Stmt := top 54
abbrev s_law : Stmt := top 55
end Lw
namespace Lw
open PySem L2 PyProof.Rows
structure Deck (H : Hp) (d : Addr) (fp : List Addr) : Prop where
  ex : ∃ (pp : Addr) (qs : List Addr) (i : Int), fp = d :: pp :: qs ∧ H d = some (.lst [.ref pp, .int i]) ∧ H pp = some (.lst (qs.map V.ref)) ∧ qs ≠ [] ∧ qs.length ≤ 63 ∧ ∀ q ∈ qs, ∃ a b c : Int, H q = some (.lst [.int a, .int b, .int c])
theorem Deck.there {H : Hp} {d : Addr} {fp : List Addr} (D : Deck H d fp) : ∀ b ∈ fp, H b ≠ none := by
  obtain ⟨pp, qs, i, rfl, h1, h2, _, _, h3⟩ := D.ex
  intro b hb
  rcases List.mem_cons.mp hb with e | hb
  · rw [e, h1]; simp
  · rcases List.mem_cons.mp hb with e | hb
    · rw [e, h2]; simp
    · obtain ⟨x, y, z, e⟩ := h3 b hb
      rw [e]; simp
theorem Deck.fresh {H : Hp} {d b : Addr} {fp : List Addr} (D : Deck H d fp) (h : H b = none) : b ∉ fp := fun z => D.there b z h
theorem Deck.same {H H' : Hp} {d : Addr} {fp : List Addr} (D : Deck H d fp) (s : Same H H') : Deck H' d fp := by
  obtain ⟨pp, qs, i, rfl, h1, h2, h3, h4, h5⟩ := D.ex
  exact ⟨pp, qs, i, rfl, s _ _ h1, s _ _ h2, h3, h4, fun q hq => by obtain ⟨x, y, z, e⟩ := h5 q hq; exact ⟨x, y, z, s _ _ e⟩⟩
theorem Deck.upd {H : Hp} {d l : Addr} {o : HO} {fp : List Addr} (D : Deck H d fp) (h : l ∉ fp) : Deck (L2.upd H l o) d fp := by
  obtain ⟨pp, qs, i, rfl, h1, h2, h3, h4, h5⟩ := D.ex
  have ne : ∀ b ∈ d :: pp :: qs, b ≠ l := fun b hb z => h (z ▸ hb)
  refine ⟨pp, qs, i, rfl, ?_, ?_, h3, h4, fun q hq => ?_⟩
  · rw [upd_ne (ne d (by simp))]; exact h1
  · rw [upd_ne (ne pp (by simp))]; exact h2
  · obtain ⟨x, y, z, e⟩ := h5 q hq
    exact ⟨x, y, z, by rw [upd_ne (ne q (by simp [hq]))]; exact e⟩
section
variable {P : Program} {w : World} {K : PySem.W.Frag} {mg : Str → Option Value} {base : Heap}
def sp__law_deck (K : PySem.W.Frag) : Sp := fun vs H Q _ => ∃ (a : Addr) (ns : List Int), vs = [.ref a] ∧ SqL K H a (ns.map V.int) ∧ ns.length ≤ 63 ∧
  ∀ d fp H', Deck H' d fp → Same H H' → (∀ b ∈ fp, H b = none) → Q (.ref d) H'
theorem sc__law_deck : FnScope ["script", "pools", "k", "cell"] ["script"] (defScope s__law_deck) := ⟨rfl, rfl, rfl, by decide +kernel, rfl, by decide +kernel, by decide +kernel⟩
theorem ok__law_deck {f : Addr} {fd : FuncData} (D : Df K mg "_law_deck" s__law_deck ["script"] f fd) (T : Blt mg) : FnOk P w K mg base CX0 1 f fd ["script"] (sp__law_deck K) := by
  refine D.fn.ok sc__law_deck (fun vs H Q E h => ?_) (fun cdv A outer s H vs Q E hr h => ?_)
  · obtain ⟨a, ns, rfl, _⟩ := h; rfl
  · obtain ⟨a, ns, rfl, hS, hlen, k⟩ := h
    refine ⟨_, (pss_cons (ps_set (i := 1) sc__law_deck.nd rfl (Or.inl rfl) (pe_lst pa_nil))
      (pss_cons (ps_for PassesOwn.never rfl (pi_range1 rfl T.n_range (pa_cons (pe_callB (call_max2 rfl) (by rfl) T.n_max boot_max (pa_cons pe_int (pa_cons (pe_callB (call_min2 rfl) (by rfl) T.n_min boot_min (pa_cons pe_int (pa_cons (pe_callB call_len_seq (by rfl) T.n_len PySem.boot_len (pa_cons (pv 0) pa_nil)) pa_nil))) pa_nil))) pa_nil)) (pg_name (i := 2) sc__law_deck.nd rfl (Or.inl rfl))
        (pss_cons (ps_set (i := 3) sc__law_deck.nd rfl (Or.inl rfl) pe_int)
        (pss_cons (ps_if (pt_cmpR op_lt (pv 2) (pe_callB call_len_seq (by rfl) T.n_len PySem.boot_len (pa_cons (pv 0) pa_nil)) (nomark _))
          (pss_one (ps_set (i := 3) sc__law_deck.nd rfl (Or.inl rfl) (pe_ix ix_list (pv 0) (pv 2) (fun _ _ => rfl))))
          pss_nil)
        (pss_one (ps_expr (pe_bm PySem.F.plainAttrs_list PySem.F.slot_list_append PySem.F.type_list_append mt_append (pv 1) (pa_cons (pe_lst (pa_cons (pv 3) (pa_cons (pe_callTy call_int1 (by rfl) T.n_int boot_int (pa_cons (pe_cmpR op_ge (pv 3) (pe_op op_pow pe_int pe_int) (nomark _)) pa_nil)) (pa_cons (pe_op op_mul pe_int (pv 2)) pa_nil)))) pa_nil)))))))
      (pss_one (ps_ret (pe_lst (pa_cons (pv 1) (pa_cons pe_int pa_nil))))))), ?_⟩
    refine ⟨(by decide : 0 ≤ sizeLine), fun pp hpp => ?_⟩
    have s0 : Same H (upd H pp (.lst [])) := same_upd hpp
    refine ⟨_, rfl, a, _, rfl, .inl (s0.seq hS), 63, (ns.length : Int), by simp, 1, _, rfl, ?_⟩
    generalize hM : (if (if (ns.length : Int) < 63 then (ns.length : Int) else 63) > 1 then (if (ns.length : Int) < 63 then (ns.length : Int) else 63) else 1) = M
    have hM1 : 1 ≤ M ∧ M ≤ 63 := by
      rw [← hM]; split <;> split <;> omega
    refine ⟨M, rfl, by omega, by omega, for_range (lo := 0) (n := M.toNat) (fun i σ H2 => ∃ (qs : List Addr) (v1 v2 : Option V), σ = [some (.ref a), some (.ref pp), v1, v2] ∧ qs.length = i ∧ H2 pp = some (.lst (qs.map V.ref)) ∧ Same H H2 ∧
        (∀ q ∈ qs, H q = none ∧ ∃ a b c : Int, H2 q = some (.lst [.int a, .int b, .int c]))) ?_ ?_ ?_⟩
    · exact ⟨[], none, none, rfl, rfl, upd_same, s0, fun q hq => by cases hq⟩
    · rintro i σ H2 hi ⟨qs, v1, v2, rfl, hl, h1, sH, h2⟩
      have hS2 := sH.seq hS
      have put : ∀ (cell : Int) (p : Addr), H2 p = none → ∀ y z : Int, ∃ (qs' : List Addr) (v1 v2 : Option V), ([some (.ref a), some (.ref pp), some (.int (0 + (i : Int))), some (.int cell)] : L2.St) = [some (.ref a), some (.ref pp), v1, v2] ∧ qs'.length = i + 1 ∧ (upd (upd H2 p (.lst [.int cell, .int y, .int z])) pp (.lst (qs.map V.ref ++ [.ref p]))) pp = some (.lst (qs'.map V.ref)) ∧
          Same H (upd (upd H2 p (.lst [.int cell, .int y, .int z])) pp (.lst (qs.map V.ref ++ [.ref p]))) ∧ (∀ q ∈ qs', H q = none ∧ ∃ a b c : Int, (upd (upd H2 p (.lst [.int cell, .int y, .int z])) pp (.lst (qs.map V.ref ++ [.ref p]))) q = some (.lst [.int a, .int b, .int c])) := by
        intro cell p hp y z
        have npp : p ≠ pp := fun e => by rw [e, h1] at hp; cases hp
        refine ⟨qs ++ [p], _, _, rfl, by simp [hl], by rw [upd_same]; simp, fun b o e => ?_, fun q hq => ?_⟩
        · rw [upd_ne (ne_of_none e hpp), upd_ne (fun z => by have := sH b o e; rw [z, hp] at this; cases this)]; exact sH b o e
        · rcases List.mem_append.mp hq with hq | hq
          · obtain ⟨hn, a', b', c', e⟩ := h2 q hq
            have n1 : q ≠ pp := fun z => by
              rw [z, h1] at e
              have e' := Option.some.inj e
              injection e' with e'
              cases qs with
              | nil => cases hq
              | cons q0 qr => rw [List.map_cons] at e'; injection e' with e1 _; cases e1
            exact ⟨hn, a', b', c', by rw [upd_ne n1, upd_ne (ne_of_none e hp)]; exact e⟩
          · have e : q = p := by simpa using hq
            subst e
            exact ⟨sH.free hp, cell, y, z, by rw [upd_ne npp, upd_same]⟩
      have rest : ∀ cell : Int, ∀ D : Ends, (∀ (p : Addr), H2 p = none → ∀ y z : Int, D.nx [some (.ref a), some (.ref pp), some (.int (0 + (i : Int))), some (.int cell)] (upd (upd H2 p (.lst [.int cell, .int y, .int z])) pp (.lst (qs.map V.ref ++ [.ref p])))) → True := fun _ _ _ => trivial
      refine ⟨_, rfl, _, rfl, a, _, rfl, .inl hS2, _, _, rfl, rfl, _, rfl, ?_⟩
      have fin : ∀ (cell : Int) (p : Addr), H2 p = none → True := fun _ _ _ => trivial
      refine ite2 (fun hlt => ?_) (fun hge => ?_)
      · have hlt' : i < ns.length := by
          have := of_decide_eq_true hlt
          rw [List.length_map] at this
          omega
        refine ⟨_, rfl, _, rfl, a, _, _, .int (ns[i]), rfl, rfl, hS2, ?_, ?_⟩
        · rw [Int.zero_add]; exact atI_nat (by rw [List.getElem?_map, List.getElem?_eq_getElem hlt']; rfl)
        · refine ⟨_, rfl, .inl ⟨rfl, _, SqL.of h1⟩, _, rfl, _, rfl, _, _, rfl, rfl, ⟨by decide, by decide, by decide⟩, _, _, rfl, rfl, .inr ⟨_, rfl, _, rfl, _, _, rfl, rfl, .inl ⟨by decide, by decide⟩, (by decide : 3 ≤ sizeLine), fun p hp => ?_⟩⟩
          refine ⟨pp, _, _, rfl, rfl, ?_, ?_, put _ p hp _ _⟩
          · rw [upd_ne (fun z => by rw [← z, h1] at hp; cases hp)]; exact h1
          · rw [List.length_map, hl]; exact Nat.lt_of_lt_of_le (show i < 64 by omega) (by decide)
      · refine ⟨_, rfl, .inl ⟨rfl, _, SqL.of h1⟩, _, rfl, _, rfl, _, _, rfl, rfl, ⟨by decide, by decide, by decide⟩, _, _, rfl, rfl, .inr ⟨_, rfl, _, rfl, _, _, rfl, rfl, .inl ⟨by decide, by decide⟩, (by decide : 3 ≤ sizeLine), fun p hp => ?_⟩⟩
        refine ⟨pp, _, _, rfl, rfl, ?_, ?_, put _ p hp _ _⟩
        · rw [upd_ne (fun z => by rw [← z, h1] at hp; cases hp)]; exact h1
        · rw [List.length_map, hl]; exact Nat.lt_of_lt_of_le (show i < 64 by omega) (by decide)
    · rintro σ H2 ⟨qs, v1, v2, rfl, hl, h1, sH, h2⟩
      refine ⟨_, rfl, (by decide : 2 ≤ sizeLine), fun d hd => ?_⟩
      have nd : ∀ b o, H2 b = some o → b ≠ d := fun b o e => ne_of_none e hd
      refine k d (d :: pp :: qs) _ ⟨pp, qs, 0, rfl, upd_same, ?_, ?_, by omega, fun q hq => ?_⟩ (sH.trans (same_upd hd)) (fun b hb => ?_)
      · rw [upd_ne (nd _ _ h1)]; exact h1
      · intro z; rw [z] at hl; simp at hl; omega
      · obtain ⟨_, x, y, z, e⟩ := h2 q hq
        exact ⟨x, y, z, by rw [upd_ne (nd _ _ e)]; exact e⟩
      · rcases List.mem_cons.mp hb with e | hb
        · rw [e]; exact sH.free hd
        · rcases List.mem_cons.mp hb with e | hb
          · rw [e]; exact hpp
          · exact (h2 b hb).1
end
structure Stp (fp : List Addr) (d : Addr) (H H' : Hp) : Prop where
  dk : Deck H' d fp
  sm : Same (aw fp H) (aw fp H')
theorem Stp.refl {fp : List Addr} {d : Addr} {H : Hp} (D : Deck H d fp) : Stp fp d H H := ⟨D, Same.refl _⟩
theorem Stp.trans {fp : List Addr} {d : Addr} {H H1 H2 : Hp} (a : Stp fp d H H1) (b : Stp fp d H1 H2) : Stp fp d H H2 := ⟨b.dk, a.sm.trans b.sm⟩
theorem Stp.of {fp : List Addr} {d : Addr} {H H' : Hp} (D : Deck H d fp) (s : Same H H') : Stp fp d H H' := ⟨D.same s, s.aw fp⟩
theorem Stp.free {fp : List Addr} {d p : Addr} {H H' : Hp} (a : Stp fp d H H') (h : H' p = none) : H p = none := by
  cases e : H p with
  | none => rfl
  | some o =>
    by_cases hp : p ∈ fp
    · exact absurd h (a.dk.there p hp)
    · have z := a.sm p o (by rw [aw_out hp]; exact e)
      rw [aw_out hp, h] at z; cases z
theorem Stp.get {fp : List Addr} {d p : Addr} {H H' : Hp} {o : HO} (a : Stp fp d H H') (hp : p ∉ fp) (h : H p = some o) : H' p = some o := by
  have z := a.sm p o (by rw [aw_out hp]; exact h)
  rw [aw_out hp] at z; exact z
theorem Stp.new {fp : List Addr} {d p : Addr} {H H' : Hp} {o : HO} (a : Stp fp d H H') (h : H' p = none) : Stp fp d H (upd H' p o) := a.trans (.of a.dk (same_upd h))
section
variable {P : Program} {w : World} {K : PySem.W.Frag} {mg : Str → Option Value} {base : Heap}
def sp__law_draw : Sp := fun vs H Q _ => ∃ (d : Addr) (m : Int) (fp : List Addr), vs = [.ref d, .int m] ∧ Deck H d fp ∧ 0 < m ∧ m < 2 ^ 200 ∧
  ∀ (r : Nat) (H' : Hp), (r : Int) < m → Stp fp d H H' → Q (.int r) H'
theorem sc__law_draw : FnScope ["deck", "many", "pool", "found", "number"] ["deck", "many"] (defScope s__law_draw) := ⟨rfl, rfl, rfl, by decide +kernel, rfl, by decide +kernel, by decide +kernel⟩
theorem aw_upd_in {fp : List Addr} {H : Hp} {b : Addr} {o : HO} (h : b ∈ fp) : aw fp (upd H b o) = aw fp H := by
  funext c
  by_cases hc : c ∈ fp
  · rw [aw_in hc, aw_in hc]
  · rw [aw_out hc, aw_out hc, upd_ne (fun z : c = b => hc (by rw [z]; exact h))]
theorem ok__law_draw {f : Addr} {fd : FuncData} (D : Df K mg "_law_draw" s__law_draw ["deck", "many"] f fd) (T : Blt mg) : FnOk P w K mg base CX0 1 f fd ["deck", "many"] sp__law_draw := by
  refine D.fn.ok sc__law_draw (fun vs H Q E h => ?_) (fun cdv A outer s H vs Q E hr h => ?_)
  · obtain ⟨d, m, fp, rfl, _⟩ := h; rfl
  · obtain ⟨d, m, fp, rfl, DK, hm0, hm1, k⟩ := h
    obtain ⟨pp, qs, i, rfl, h1, h2, h3, h4, h5⟩ := DK.ex
    refine ⟨_, (pss_cons (ps_set (i := 2) sc__law_draw.nd rfl (Or.inl rfl) (pe_ix ix_list (pe_ix ix_list (pv 0) pe_int (fun _ _ => rfl)) (pe_op op_mod (pe_ix ix_list (pv 0) pe_int (fun _ _ => rfl)) (pe_callB call_len_seq (by rfl) T.n_len PySem.boot_len (pa_cons (pe_ix ix_list (pv 0) pe_int (fun _ _ => rfl)) pa_nil))) (fun _ _ => rfl)))
      (pss_cons (ps_asg (pe_op op_add (pe_ix ix_list (pv 0) pe_int (fun _ _ => rfl)) pe_int) (pg_sub (pv 0) pe_int set_list))
      (pss_cons (ps_if (PW.pt (pw_and (pt_cmpR op_eq (pe_ix ix_list (pv 2) pe_int (fun _ _ => rfl)) pe_int (nomark _)) (pw_and1 (pt_cmpR op_gt (pe_ix ix_list (pv 2) pe_int (fun _ _ => rfl)) pe_int (nomark _)))))
        (pss_cons (ps_set (i := 3) sc__law_draw.nd rfl (Or.inl rfl) (pe_op op_mod (pe_ix ix_list (pv 2) pe_int (fun _ _ => rfl)) (pv 1)))
        (pss_cons (ps_asg (pe_op op_fdivB (pe_ix ix_list (pv 2) pe_int (fun _ _ => rfl)) (pv 1)) (pg_sub (pv 2) pe_int set_list))
        (pss_one (ps_ret (pv 3)))))
        pss_nil)
      (pss_cons (ps_asg (pe_op op_add (pe_ix ix_list (pv 2) pe_int (fun _ _ => rfl)) pe_int) (pg_sub (pv 2) pe_int set_list))
      (pss_cons (ps_set (i := 4) sc__law_draw.nd rfl (Or.inl rfl) (pe_op op_mod (pe_op op_add (pe_op op_mod (pe_ix ix_list (pv 2) pe_int (fun _ _ => rfl)) pe_int) (pe_op op_mul pe_int (pe_ix ix_list (pv 2) pe_int (fun _ _ => rfl)))) pe_int))
      (pss_cons (ps_set (i := 4) sc__law_draw.nd rfl (Or.inl rfl) (pe_op op_mod (pe_op op_mul (pv 4) (pv 4)) pe_int))
      (pss_cons (ps_set (i := 4) sc__law_draw.nd rfl (Or.inl rfl) (pe_op op_mod (pe_op op_mul (pv 4) (pe_op op_add (pv 4) pe_int)) pe_int))
      (pss_one (ps_ret (pe_op op_mod (pe_op op_fdivB (pv 4) pe_int) (pv 1))))))))))), ?_⟩
    have hql : 0 < qs.length := by cases qs with | nil => exact absurd rfl h3 | cons _ _ => simp
    have hj0 : 0 ≤ i % (qs.length : Int) := Int.emod_nonneg _ (by omega)
    have hj1 : i % (qs.length : Int) < qs.length := Int.emod_lt_of_pos _ (by omega)
    obtain ⟨j, hj⟩ : ∃ j : Nat, i % (qs.length : Int) = (j : Int) := ⟨(i % (qs.length : Int)).toNat, by omega⟩
    have hjl : j < qs.length := by omega
    have hq : qs[j] ∈ qs := List.getElem_mem hjl
    generalize hqe : qs[j] = q at hq
    obtain ⟨a, b, c, hqv⟩ := h5 q hq
    have e0 : atI [V.ref pp, V.int i] 0 = some (V.ref pp) := rfl
    have e1 : atI [V.ref pp, V.int i] 1 = some (V.int i) := rfl
    refine ⟨_, rfl, d, _, _, _, rfl, rfl, SqL.of h1, e0, ?_⟩
    refine ⟨_, rfl, d, _, _, _, rfl, rfl, SqL.of h1, e1, ?_⟩
    refine ⟨_, rfl, d, _, _, _, rfl, rfl, SqL.of h1, e0, pp, _, rfl, .inl (SqL.of h2), _, _, rfl, rfl, (by rw [List.length_map]; omega), ?_⟩
    refine ⟨pp, _, _, V.ref q, rfl, rfl, SqL.of h2, ?_, ?_⟩
    · rw [List.length_map, hj]
      exact atI_nat (by rw [List.getElem?_map, List.getElem?_eq_getElem hjl, hqe]; rfl)
    refine ⟨_, rfl, d, _, _, _, rfl, rfl, SqL.of h1, e1, _, _, rfl, rfl, _, rfl, d, _, _, 1, rfl, rfl, h1, rfl, ?_⟩
    have nqd : q ≠ d := fun z => by rw [z, h1] at hqv; cases hqv
    have nqp : q ≠ pp := fun z => by
      rw [z, h2] at hqv
      injection hqv with hqv
      injection hqv with hqv
      cases qs with
      | nil => cases hq
      | cons x y => rw [List.map_cons] at hqv; injection hqv with z1 _; cases z1
    have npd : pp ≠ d := fun z => by
      rw [z, h1] at h2
      injection h2 with h2
      injection h2 with h2
      cases qs with
      | nil => cases hq
      | cons x y =>
        rw [List.map_cons] at h2
        injection h2 with _ z2
        cases y with
        | nil => cases z2
        | cons y z => rw [List.map_cons] at z2; injection z2 with z3 _; cases z3
    have hqv1 : (upd H d (.lst [V.ref pp, V.int (i + 1)])) q = some (.lst [.int a, .int b, .int c]) := by rw [upd_ne nqd]; exact hqv
    have back : ∀ a' b' c' : Int, Deck (upd (upd H d (.lst [V.ref pp, V.int (i + 1)])) q (.lst [.int a', .int b', .int c'])) d (d :: pp :: qs) := fun a' b' c' => by
      refine ⟨pp, qs, i + 1, rfl, ?_, ?_, h3, h4, fun q' hq' => ?_⟩
      · rw [upd_ne (Ne.symm nqd), upd_same]
      · rw [upd_ne (Ne.symm nqp), upd_ne npd]; exact h2
      · by_cases z : q' = q
        · subst z; exact ⟨a', b', c', upd_same⟩
        · obtain ⟨x, y, z', e⟩ := h5 q' hq'
          have n1 : q' ≠ d := fun w => by rw [w, h1] at e; cases e
          exact ⟨x, y, z', by rw [upd_ne z, upd_ne n1]; exact e⟩
    have kept : ∀ o, Same (aw (d :: pp :: qs) H) (aw (d :: pp :: qs) (upd (upd H d (.lst [V.ref pp, V.int (i + 1)])) q o)) := fun o => by
      rw [aw_upd_in (by simp [hq]), aw_upd_in (by simp)]; exact Same.refl _
    have fin : ∀ (x a' b' c' : Int), Q (.int (x % m)) (upd (upd H d (.lst [V.ref pp, V.int (i + 1)])) q (.lst [.int a', .int b', .int c'])) := fun x a' b' c' => by
      obtain ⟨r, hr⟩ := Int.eq_ofNat_of_zero_le (Int.emod_nonneg x (show m ≠ 0 by omega))
      rw [hr]
      exact k r _ (hr ▸ Int.emod_lt_of_pos x hm0) ⟨back _ _ _, kept _⟩
    refine ⟨_, rfl, q, _, _, V.int b, rfl, rfl, SqL.of hqv1, rfl, rfl, _, rfl, ?_⟩
    have rest : ∀ D : Ends, (∀ v H', D.rt v H' = Q v H') → tSeq (tAsg (tOp (rI0 fun i j => .int (i + j)) (tOp (rIxL K) (tVar 2) (tC (.int 2))) (tC (.int 1))) (gSub (tVar 2) (tC (.int 2)) rSetL))
        (tSeq (tAsg (tOp (rI (fun _ j => 0 < j) fun i j => .int (i % j)) (tOp (rI0 fun i j => .int (i + j)) (tOp (rI (fun _ j => 0 < j) fun i j => .int (i % j)) (tOp (rIxL K) (tVar 2) (tC (.int 0))) (tC (.int 99999999977))) (tOp (rI CMul fun i j => .int (i * j)) (tC (.int 700001)) (tOp (rIxL K) (tVar 2) (tC (.int 2))))) (tC (.int 99999999947))) (gName 4))
        (tSeq (tAsg (tOp (rI (fun _ j => 0 < j) fun i j => .int (i % j)) (tOp (rI CMul fun i j => .int (i * j)) (tVar 4) (tVar 4)) (tC (.int 99999999821))) (gName 4))
        (tSeq (tAsg (tOp (rI (fun _ j => 0 < j) fun i j => .int (i % j)) (tOp (rI CMul fun i j => .int (i * j)) (tVar 4) (tOp (rI0 fun i j => .int (i + j)) (tVar 4) (tC (.int 19)))) (tC (.int 9999999967))) (gName 4))
        (tRet (tOp (rI (fun _ j => 0 < j) fun i j => .int (i % j)) (tOp (rI CDivB fun i j => .int (i / j)) (tVar 4) (tC (.int 13))) (tVar 1)))))) D [some (.ref d), some (.int m), some (.ref q), none, none] (upd H d (.lst [V.ref pp, V.int (i + 1)])) := by
      intro D hD
      refine ⟨_, rfl, q, _, _, V.int c, rfl, rfl, SqL.of hqv1, rfl, _, _, rfl, rfl, _, rfl, q, _, _, 2, rfl, rfl, hqv1, rfl, ?_⟩
      have hqv2 : (upd (upd H d (.lst [V.ref pp, V.int (i + 1)])) q (.lst [.int a, .int b, .int (c + 1)])) q = some (.lst [.int a, .int b, .int (c + 1)]) := upd_same
      refine ⟨_, rfl, q, _, _, V.int a, rfl, rfl, SqL.of hqv2, rfl, _, _, rfl, rfl, (by decide : (0 : Int) < 99999999977), ?_⟩
      refine ⟨_, rfl, q, _, _, V.int (c + 1), rfl, rfl, SqL.of hqv2, rfl, _, _, rfl, rfl, .inl ⟨by decide, by decide⟩, _, _, rfl, rfl, _, _, rfl, rfl, (by decide : (0 : Int) < 99999999947), ?_⟩
      generalize hn1 : (a % 99999999977 + 700001 * (c + 1)) % 99999999947 = n1
      have n1b : 0 ≤ n1 ∧ n1 < 99999999947 := by rw [← hn1]; exact ⟨Int.emod_nonneg _ (by decide), Int.emod_lt_of_pos _ (by decide)⟩
      refine ⟨_, rfl, _, rfl, _, _, rfl, rfl, .inl ⟨by omega, by omega⟩, _, _, rfl, rfl, (by decide : (0 : Int) < 99999999821), ?_⟩
      generalize hn2 : n1 * n1 % 99999999821 = n2
      have n2b : 0 ≤ n2 ∧ n2 < 99999999821 := by rw [← hn2]; exact ⟨Int.emod_nonneg _ (by decide), Int.emod_lt_of_pos _ (by decide)⟩
      refine ⟨_, rfl, _, rfl, _, _, rfl, rfl, _, _, rfl, rfl, .inl ⟨by omega, by omega⟩, _, _, rfl, rfl, (by decide : (0 : Int) < 9999999967), ?_⟩
      generalize hn3 : n2 * (n2 + 19) % 9999999967 = n3
      refine ⟨_, rfl, _, _, rfl, rfl, ⟨by decide, by decide⟩, _, rfl, _, _, rfl, rfl, hm0, ?_⟩
      rw [hD]
      exact fin _ _ _ _
    refine ite2 (fun _ => ?_) (fun _ => ?_)
    · refine ⟨_, rfl, q, _, _, V.int a, rfl, rfl, SqL.of hqv1, rfl, _, _, rfl, rfl, _, rfl, ?_⟩
      refine ite2 (fun _ => ?_) (fun _ => ?_)
      · refine ⟨_, rfl, q, _, _, V.int a, rfl, rfl, SqL.of hqv1, rfl, _, rfl, _, _, rfl, rfl, hm0, ?_⟩
        refine ⟨_, rfl, q, _, _, V.int a, rfl, rfl, SqL.of hqv1, rfl, _, rfl, _, _, rfl, rfl, ⟨hm0, hm1⟩, _, rfl, q, _, _, 0, rfl, rfl, hqv1, rfl, ?_⟩
        refine ⟨_, rfl, ?_⟩
        exact fin _ _ _ _
      · exact rest _ (fun _ _ => rfl)
    · exact rest _ (fun _ _ => rfl)
end
end Lw
set_option Elab.async false
set_option linter.all false
set_option maxRecDepth 100000
namespace Lw
open PySem L2 PyProof.Rows
def wholeT : PyData → Bool
  | .int _ => true
  | _ => false
def intT : PyData → Int
  | .int i => i
  | _ => 0
def baseT : PyData → Bool
  | .int i => decide (2 ≤ i ∧ i ≤ 16)
  | _ => false
def figT (b : Int) : PyData → Bool
  | .int i => decide (0 ≤ i ∧ i < b)
  | _ => false
def figsT (b : Int) : PyData → Bool
  | .list xs => xs.all (figT b)
  | _ => false
def eltsT : PyData → List PyData
  | .list xs => xs
  | _ => []
def intsT (d : PyData) : List Int := (eltsT d).map intT
def stretchT (b : Int) (d : PyData) : Bool := figsT b d && decide (1 ≤ (eltsT d).length ∧ (eltsT d).length ≤ 4)
def risingL (ls : List (List Int)) : Bool := (List.range (ls.length - 1)).all fun k => HT.lexLt (ls.getD k []) (ls.getD (k + 1) [])
def badT (b : Int) : PyData → Bool
  | .list xs => decide (xs.length ≤ 4) && (xs.all (stretchT b) && risingL (xs.map intsT))
  | _ => false
def ruleT : PyData → Bool
  | .tuple [d, l] => baseT d && badT (intT d) l
  | _ => false
theorem wholeT_is (d : PyData) : wholeT d = (isT "int" d && !isT "bool" d) := by cases d <;> rfl
theorem wholeT_int {d : PyData} (h : wholeT d = true) : d = .int (intT d) := by cases d <;> first | rfl | cases h
section
variable {P : Program} {w : World} {K : PySem.W.Frag} {mg : Str → Option Value} {base : Heap}
def sp_is_whole : Sp := fun vs H Q _ => ∃ (v : V) (d : PyData), vs = [v] ∧ ThAt H d v ∧ Q (.bl (wholeT d)) H
theorem sc_is_whole : FnScope ["thing"] ["thing"] (defScope s_is_whole) := ⟨rfl, rfl, rfl, by decide +kernel, rfl, by decide +kernel, by decide +kernel⟩
theorem ok_is_whole {f : Addr} {fd : FuncData} (D : Df K mg "is_whole" s_is_whole ["thing"] f fd) (T : Blt mg) : FnOk P w K mg base CX0 1 f fd ["thing"] sp_is_whole := by
  refine D.fn.ok sc_is_whole (fun vs H Q E h => ?_) (fun cdv A outer s H vs Q E hr h => ?_)
  · obtain ⟨v, d, rfl, _⟩ := h; rfl
  · obtain ⟨v, d, rfl, hd, q⟩ := h
    refine ⟨_, (pss_one (ps_ret (pe_and (pe_callB (k_isi K) (by rfl) T.n_isinstance boot_isinstance (pa_cons (pv 0) (pa_cons (pe_bltn (v := .ty "int") rfl T.n_int boot_int rfl) pa_nil))) (pe_one (pe_not (pe_callB (k_isi K) (by rfl) T.n_isinstance boot_isinstance (pa_cons (pv 0) (pa_cons (pe_bltn (v := .ty "bool") rfl T.n_bool boot_bool rfl) pa_nil)))))))), ?_⟩
    rw [wholeT_is] at q
    refine ⟨_, rfl, _, _, _, _, rfl, hd.ty, kit_int d, _, rfl, ?_⟩
    cases h1 : isT "int" d with
    | false => rw [h1] at q; exact iteF q
    | true =>
      rw [h1, Bool.true_and] at q
      exact iteT ⟨_, rfl, _, _, _, _, rfl, hd.ty, kit_bool d, _, rfl, q⟩
def sp_is_base : Sp := fun vs H Q _ => ∃ (v : V) (d : PyData), vs = [v] ∧ ThAt H d v ∧ Q (.bl (baseT d)) H
theorem sc_is_base : FnScope ["thing"] ["thing"] (defScope s_is_base) := ⟨rfl, rfl, rfl, by decide +kernel, rfl, by decide +kernel, by decide +kernel⟩
theorem ok_is_base {f f1 : Addr} {fd fd1 : FuncData} {t1 t2 : Tok} (D : Df K mg "is_base" s_is_base ["thing"] f fd) (Dis_whole : Df K mg "is_whole" s_is_whole ["thing"] f1 fd1) (T : Blt mg) (c_LEAST_BASE : mg "LEAST_BASE" = some (.int 2 t1)) (c_GREATEST_BASE : mg "GREATEST_BASE" = some (.int 16 t2)) :
    FnOk P w K mg base CX0 2 f fd ["thing"] sp_is_base := by
  have Gis_whole : FnOk P w K mg base CX0 1 f1 fd1 ["thing"] sp_is_whole := ok_is_whole Dis_whole T
  refine D.fn.ok sc_is_base (fun vs H Q E h => ?_) (fun cdv A outer s H vs Q E hr h => ?_)
  · obtain ⟨v, d, rfl, _⟩ := h; rfl
  · obtain ⟨v, d, rfl, hd, q⟩ := h
    refine ⟨_, (pss_one (ps_ret (pe_and (pcall Dis_whole Gis_whole (hr.mono (by decide)) (pa_cons (pv 0) pa_nil)) (pe_one (pe_chain op_le op_le (pe_glob (v := .int 2) rfl c_LEAST_BASE ⟨_, rfl⟩) (pv 0) (pe_glob (v := .int 16) rfl c_GREATEST_BASE ⟨_, rfl⟩)))))), ?_⟩
    refine ⟨_, rfl, v, d, rfl, hd, _, rfl, ?_⟩
    cases hw : wholeT d with
    | false =>
      have : baseT d = false := by cases d <;> first | rfl | cases hw
      rw [this] at q
      exact iteF q
    | true =>
      have e := wholeT_int hw
      generalize intT d = i at e
      subst e
      rw [ThAt] at hd
      subst hd
      refine iteT ⟨_, rfl, _, _, rfl, rfl, _, rfl, ?_⟩
      replace q : Q (.bl (decide (2 ≤ i ∧ i ≤ 16))) H := q
      refine ite2 (fun h1 => ?_) (fun h1 => ?_)
      · have h1' : (2 : Int) ≤ i := of_decide_eq_true h1
        refine ⟨_, _, rfl, rfl, ?_⟩
        rw [show decide (2 ≤ i ∧ i ≤ 16) = decide (i ≤ 16) by simp [h1']] at q
        exact q
      · have h1' : ¬ (2 : Int) ≤ i := fun z => h1 (decide_eq_true z)
        rw [show decide (2 ≤ i ∧ i ≤ 16) = false by simp [h1']] at q
        exact q
def sp_is_figure : Sp := fun vs H Q _ => ∃ (b : Int) (v : V) (d : PyData), vs = [.int b, v] ∧ ThAt H d v ∧ Q (.bl (figT b d)) H
theorem sc_is_figure : FnScope ["base", "thing"] ["base", "thing"] (defScope s_is_figure) := ⟨rfl, rfl, rfl, by decide +kernel, rfl, by decide +kernel, by decide +kernel⟩
theorem ok_is_figure {f f1 : Addr} {fd fd1 : FuncData} (D : Df K mg "is_figure" s_is_figure ["base", "thing"] f fd) (Dis_whole : Df K mg "is_whole" s_is_whole ["thing"] f1 fd1) (T : Blt mg) : FnOk P w K mg base CX0 2 f fd ["base", "thing"] sp_is_figure := by
  have Gis_whole : FnOk P w K mg base CX0 1 f1 fd1 ["thing"] sp_is_whole := ok_is_whole Dis_whole T
  refine D.fn.ok sc_is_figure (fun vs H Q E h => ?_) (fun cdv A outer s H vs Q E hr h => ?_)
  · obtain ⟨b, v, d, rfl, _⟩ := h; rfl
  · obtain ⟨b, v, d, rfl, hd, q⟩ := h
    refine ⟨_, (pss_one (ps_ret (pe_and (pcall Dis_whole Gis_whole (hr.mono (by decide)) (pa_cons (pv 1) pa_nil)) (pe_one (pe_chain op_le op_lt pe_int (pv 1) (pv 0)))))), ?_⟩
    refine ⟨_, rfl, v, d, rfl, hd, _, rfl, ?_⟩
    cases hw : wholeT d with
    | false =>
      have : figT b d = false := by cases d <;> first | rfl | cases hw
      rw [this] at q
      exact iteF q
    | true =>
      have e := wholeT_int hw
      generalize intT d = i at e
      subst e
      rw [ThAt] at hd
      subst hd
      refine iteT ⟨_, rfl, _, _, rfl, rfl, _, rfl, ?_⟩
      replace q : Q (.bl (decide (0 ≤ i ∧ i < b))) H := q
      refine ite2 (fun h1 => ?_) (fun h1 => ?_)
      · have h1' : (0 : Int) ≤ i := of_decide_eq_true h1
        refine ⟨_, rfl, _, _, rfl, rfl, ?_⟩
        rw [show decide (0 ≤ i ∧ i < b) = decide (i < b) by simp [h1']] at q
        exact q
      · have h1' : ¬ (0 : Int) ≤ i := fun z => h1 (decide_eq_true z)
        rw [show decide (0 ≤ i ∧ i < b) = false by simp [h1']] at q
        exact q
end
end Lw
set_option Elab.async false
set_option linter.all false
set_option maxRecDepth 100000
namespace Lw
open PySem L2 PyProof.Rows
mutual
def sizT : PyData → Nat
  | .list xs => max xs.length (sizTs xs)
  | .tuple xs => max xs.length (sizTs xs)
  | _ => 0
def sizTs : List PyData → Nat
  | [] => 0
  | d :: ds => max (sizT d) (sizTs ds)
end
theorem sizTs_mem {d : PyData} : ∀ {ds : List PyData}, d ∈ ds → sizT d ≤ sizTs ds
  | e :: ds, h => by
    rw [sizTs]
    rcases List.mem_cons.mp h with rfl | h
    · omega
    · have := sizTs_mem h; omega
theorem figs_ints {H : Hp} {b : Int} : ∀ {xs : List PyData} {ys : List V}, ThsAt H xs ys → xs.all (figT b) = true → ys = (xs.map intT).map V.int
  | [], ys, h, _ => by rw [ThsAt] at h; rw [h]; rfl
  | d :: ds, ys, h, q => by
    rw [ThsAt] at h
    obtain ⟨y, zs, h1, h2, h3⟩ := h
    rw [List.all_cons, Bool.and_eq_true] at q
    have e : d = .int (intT d) := by cases d <;> first | rfl | cases q.1
    rw [e, ThAt] at h2
    rw [h1, h2, figs_ints h3 q.2]
    rfl
theorem ThAt.figs {H : Hp} {b : Int} {d : PyData} {v : V} (h : ThAt H d v) (q : figsT b d = true) : ∃ a, v = .ref a ∧ H a = some (.lst ((intsT d).map V.int)) := by
  cases d with
  | list xs =>
    rw [ThAt] at h
    obtain ⟨a, ys, h1, h2, h3⟩ := h
    exact ⟨a, h1, by rw [h2, figs_ints h3 q]; rfl⟩
  | _ => cases q
theorem isT_list {d : PyData} (h : isT "list" d = true) : ∃ xs, d = .list xs := by
  cases d <;> first | exact ⟨_, rfl⟩ | cases h
theorem isT_tuple {d : PyData} (h : isT "tuple" d = true) : ∃ xs, d = .tuple xs := by
  cases d <;> first | exact ⟨_, rfl⟩ | cases h
theorem all_mapid {α : Type} {p : α → Bool} {l : List α} : (l.map p).all id = l.all p := by rw [List.all_map]; rfl
section
variable {P : Program} {w : World} {K : PySem.W.Frag} {mg : Str → Option Value} {base : Heap}
def sp_are_figures : Sp := fun vs H Q _ => ∃ (b : Int) (v : V) (d : PyData), vs = [.int b, v] ∧ ThAt H d v ∧ sizT d ≤ 100000 ∧ ∀ H', Same H H' → Q (.bl (figsT b d)) H'
theorem sc_are_figures : FnScope ["base", "thing"] ["base", "thing"] (defScope s_are_figures) := ⟨rfl, rfl, rfl, by decide +kernel, rfl, by decide +kernel, by decide +kernel⟩
theorem ok_are_figures {f f1 : Addr} {fd fd1 : FuncData} (D : Df K mg "are_figures" s_are_figures ["base", "thing"] f fd) (Dis_figure : Df K mg "is_figure" s_is_figure ["base", "thing"] f1 fd1) (Gis_figure : FnOk P w K mg base CX0 2 f1 fd1 ["base", "thing"] sp_is_figure) (T : Blt mg) :
    FnOk P w K mg base CX0 3 f fd ["base", "thing"] sp_are_figures := by
  refine D.fn.ok sc_are_figures (fun vs H Q E h => ?_) (fun cdv A outer s H vs Q E hr h => ?_)
  · obtain ⟨b, v, d, rfl, _⟩ := h; rfl
  · obtain ⟨b, v, d, rfl, hd, hs, kk⟩ := h
    refine ⟨_, (pss_one (ps_ret (pe_and (pe_callB (k_isi K) (by rfl) T.n_isinstance boot_isinstance (pa_cons (pv 1) (pa_cons (pe_bltn (v := .ty "list") rfl T.n_list boot_list rfl) pa_nil))) (pe_one (pe_callB (k_all K rfl) (by rfl) T.n_all boot_all (pa_cons (pe_comp (show CScope (defScope s_are_figures) _ "each" ["base", "thing"] ["base"] [0] from ⟨rfl, by decide +kernel, by decide +kernel, rfl, by decide +kernel, rfl, by decide +kernel, by decide +kernel⟩) rfl (k_pi K (pv 1)) (fun _ _ _ _ => pts_nil) (fun _ _ _ _ => (pcall Dis_figure Gis_figure (hr.mono (by decide)) (pa_cons (pv 1) (pa_cons (pv 0) pa_nil))))) pa_nil)))))), ?_⟩
    refine ⟨_, rfl, _, _, _, _, rfl, hd.ty, kit_list d, _, rfl, ?_⟩
    cases hl : isT "list" d with
    | false =>
      have q := kk H (Same.refl _)
      rw [show figsT b d = false by cases d <;> first | rfl | cases hl] at q
      exact iteF q
    | true =>
      obtain ⟨xs, rfl⟩ := isT_list hl
      rw [ThAt] at hd
      obtain ⟨a, ys, rfl, ha, hx⟩ := hd
      rw [sizT] at hs
      refine iteT ⟨_, rfl, a, rfl, ⟨_, SqL.of ha⟩, comp_list (K := K) (a := a) (xs := ys) (fun i us H4 => us = ((xs.take i).map (figT b)).map V.bl ∧ H4 = H) ⟨by simp, rfl⟩ (fun i us H4 _ ⟨_, e⟩ => by rw [e]; exact SqL.of ha) ?_ ?_⟩
      · rintro j x us H4 hj ⟨rfl, rfl⟩
        obtain ⟨d, hdj, hd⟩ := hx.get hj
        refine ⟨?_, ?_⟩
        · rw [List.length_map, List.length_map, List.length_take]
          exact Nat.lt_of_le_of_lt (show min j xs.length ≤ 100000 by omega) (by decide)
        unfold tYes
        dsimp only
        rw [if_pos rfl]
        refine ⟨_, rfl, _, rfl, b, x, d, rfl, hd, ?_, rfl⟩
        rw [List.take_succ, hdj]; simp
      · rintro us H4 ⟨rfl, rfl⟩ Dd hD
        refine ⟨Dd, _, rfl, SqL.of upd_same, ?_⟩
        rw [hx.len, List.take_length, all_mapid]
        exact kk _ (same_upd hD)
def sp_is_stretch : Sp := fun vs H Q _ => ∃ (b : Int) (v : V) (d : PyData), vs = [.int b, v] ∧ ThAt H d v ∧ sizT d ≤ 100000 ∧ ∀ H', Same H H' → Q (.bl (stretchT b d)) H'
theorem sc_is_stretch : FnScope ["base", "thing"] ["base", "thing"] (defScope s_is_stretch) := ⟨rfl, rfl, rfl, by decide +kernel, rfl, by decide +kernel, by decide +kernel⟩
theorem ok_is_stretch {f f1 : Addr} {fd fd1 : FuncData} {t1 : Tok} (D : Df K mg "is_stretch" s_is_stretch ["base", "thing"] f fd) (Dare_figures : Df K mg "are_figures" s_are_figures ["base", "thing"] f1 fd1) (Gare_figures : FnOk P w K mg base CX0 3 f1 fd1 ["base", "thing"] sp_are_figures) (c_LONGEST_STRETCH : mg "LONGEST_STRETCH" = some (.int 4 t1)) (T : Blt mg) :
    FnOk P w K mg base CX0 4 f fd ["base", "thing"] sp_is_stretch := by
  refine D.fn.ok sc_is_stretch (fun vs H Q E h => ?_) (fun cdv A outer s H vs Q E hr h => ?_)
  · obtain ⟨b, v, d, rfl, _⟩ := h; rfl
  · obtain ⟨b, v, d, rfl, hd, hs, kk⟩ := h
    refine ⟨_, (pss_one (ps_ret (pe_and (pcall Dare_figures Gare_figures (hr.mono (by decide)) (pa_cons (pv 0) (pa_cons (pv 1) pa_nil))) (pe_one (pe_chain op_le op_le pe_int (pe_callB (k_len K) (by rfl) T.n_len PySem.boot_len (pa_cons (pv 1) pa_nil)) (pe_glob (v := .int 4) rfl c_LONGEST_STRETCH ⟨_, rfl⟩)))))), ?_⟩
    refine ⟨_, rfl, _, rfl, b, v, d, rfl, hd, hs, fun H1 m1 => ⟨_, rfl, ?_⟩⟩
    have q := kk H1 m1
    unfold stretchT at q
    cases hf : figsT b d with
    | false => rw [hf] at q; exact iteF q
    | true =>
      rw [hf, Bool.true_and] at q
      obtain ⟨a, rfl, ha⟩ := ThAt.figs hd hf
      refine iteT ⟨_, rfl, a, _, rfl, .inl (SqL.of (m1 _ _ ha)), _, _, rfl, rfl, _, rfl, ?_⟩
      have el : (intsT d).length = (eltsT d).length := List.length_map _
      rw [List.length_map, el]
      generalize (eltsT d).length = n at q
      by_cases h1 : 1 ≤ n
      · rw [decide_eq_true (show (1 : Int) ≤ (n : Int) by omega)]
        refine iteT ⟨_, _, rfl, rfl, ?_⟩
        rw [show decide (1 ≤ n ∧ n ≤ 4) = decide ((n : Int) ≤ 4) from decide_eq_decide.mpr ⟨fun z => by omega, fun z => ⟨h1, by omega⟩⟩] at q
        exact q
      · rw [decide_eq_false (show ¬ (1 : Int) ≤ (n : Int) by omega)]
        rw [decide_eq_false (show ¬ (1 ≤ n ∧ n ≤ 4) from fun z => h1 z.1)] at q
        exact iteF q
def sp_is_rising : Sp := fun vs H Q _ => ∃ (bl : Addr) (zs : List (Addr × List Int)), vs = [.ref bl] ∧ H bl = some (.lst (zs.map fun z => V.ref z.1)) ∧ (∀ z ∈ zs, H z.1 = some (.lst (z.2.map V.int))) ∧ zs.length ≤ 4 ∧ ∀ H', Same H H' → Q (.bl (risingL (zs.map (·.2)))) H'
theorem sc_is_rising : FnScope ["stretches"] ["stretches"] (defScope s_is_rising) := ⟨rfl, rfl, rfl, by decide +kernel, rfl, by decide +kernel, by decide +kernel⟩
theorem ok_is_rising {f : Addr} {fd : FuncData} (D : Df K mg "is_rising" s_is_rising ["stretches"] f fd) (T : Blt mg) : FnOk P w K mg base CX0 1 f fd ["stretches"] sp_is_rising := by
  refine D.fn.ok sc_is_rising (fun vs H Q E h => ?_) (fun cdv A outer s H vs Q E hr h => ?_)
  · obtain ⟨bl, zs, rfl, _⟩ := h; rfl
  · obtain ⟨bl, zs, rfl, hb, hz, h4, kk⟩ := h
    have HU := HUof hr
    refine ⟨_, (pss_one (ps_ret (pe_callB (k_all K rfl) (by rfl) T.n_all boot_all (pa_cons (pe_comp (show CScope (defScope s_is_rising) _ "k" ["stretches"] ["stretches"] [0] from ⟨rfl, by decide +kernel, by decide +kernel, rfl, by decide +kernel, rfl, by decide +kernel, by decide +kernel⟩) rfl (pi_range1 rfl T.n_range (pa_cons (pe_op op_sub (pe_callB (k_len K) (by rfl) T.n_len PySem.boot_len (pa_cons (pv 0) pa_nil)) pe_int) pa_nil)) (fun _ _ _ _ => pts_nil) (fun _ _ _ _ => (pe_cmpR (k_ltL K HU) (pe_ix (k_ixL K) (pv 1) (pv 0) (fun _ _ => rfl)) (pe_ix (k_ixL K) (pv 1) (pe_op op_add (pv 0) pe_int) (fun _ _ => rfl)) (nomark _)))) pa_nil)))), ?_⟩
    refine ⟨_, rfl, bl, _, rfl, .inl (SqL.of hb), _, _, rfl, rfl, _, rfl, ?_⟩
    rw [List.length_map]
    refine ⟨by omega, by omega, comp_range (lo := 0) (n := ((zs.length : Int) - 1).toNat) (fun i ys H4 => ys = ((List.range i).map fun k => HT.lexLt ((zs.map (·.2)).getD k []) ((zs.map (·.2)).getD (k + 1) [])).map V.bl ∧ H4 = H) ⟨by simp, rfl⟩ ?_ ?_⟩
    · rintro i ys H4 hi ⟨rfl, rfl⟩
      refine ⟨by rw [List.length_map, List.length_map, List.length_range]; exact Nat.lt_of_lt_of_le (show i < 5 by omega) (by decide), ?_⟩
      unfold tYes
      dsimp only
      rw [if_pos rfl]
      have hi0 : i < zs.length := by omega
      have hi1 : i + 1 < zs.length := by omega
      have g0 : atI (zs.map fun z => V.ref z.1) (0 + (i : Int)) = some (.ref (zs[i]).1) := by rw [Int.zero_add]; exact atI_nat (by rw [List.getElem?_map, List.getElem?_eq_getElem hi0]; rfl)
      have g1 : atI (zs.map fun z => V.ref z.1) (0 + (i : Int) + 1) = some (.ref (zs[i + 1]).1) := by rw [Int.zero_add]; exact atI_nat (j := i + 1) (by rw [List.getElem?_map, List.getElem?_eq_getElem hi1]; rfl)
      refine ⟨_, rfl, _, rfl, bl, _, _, _, rfl, rfl, SqL.of hb, g0, ?_⟩
      refine ⟨_, rfl, _, rfl, _, _, rfl, rfl, bl, _, _, _, rfl, rfl, SqL.of hb, g1, ?_⟩
      refine ⟨_, _, _, _, rfl, rfl, SqL.of (hz _ (List.getElem_mem hi0)), SqL.of (hz _ (List.getElem_mem hi1)), ?_, rfl⟩
      rw [List.range_succ]
      have e0 : (zs.map (·.2)).getD i [] = (zs[i]).2 := by simp [List.getD, List.getElem?_map, List.getElem?_eq_getElem hi0]
      have e1 : (zs.map (·.2)).getD (i + 1) [] = (zs[i + 1]).2 := by simp [List.getD, List.getElem?_map, List.getElem?_eq_getElem hi1]
      rw [List.map_append, List.map_append, List.map_singleton, List.map_singleton, e0, e1]
    · rintro ys H4 ⟨rfl, rfl⟩ Dd hD
      refine ⟨Dd, _, rfl, SqL.of upd_same, ?_⟩
      rw [all_mapid]
      have q := kk _ (same_upd hD (o := .lst (((List.range ((zs.length : Int) - 1).toNat).map fun k => HT.lexLt ((zs.map (·.2)).getD k []) ((zs.map (·.2)).getD (k + 1) [])).map V.bl)))
      unfold risingL at q
      rw [List.length_map, show zs.length - 1 = ((zs.length : Int) - 1).toNat by omega] at q
      exact q
end
end Lw
set_option Elab.async false
set_option linter.all false
set_option maxRecDepth 100000
namespace Lw
open PySem L2 PyProof.Rows
theorem stretches_at {H : Hp} {b : Int} : ∀ {xs : List PyData} {ys : List V}, ThsAt H xs ys → xs.all (stretchT b) = true → ∃ zs : List (Addr × List Int), ys = zs.map (fun z => V.ref z.1) ∧ zs.map (·.2) = xs.map intsT ∧ ∀ z ∈ zs, H z.1 = some (.lst (z.2.map V.int))
  | [], ys, h, _ => by rw [ThsAt] at h; exact ⟨[], h, rfl, by simp⟩
  | d :: ds, ys, h, q => by
    rw [ThsAt] at h
    obtain ⟨y, us, h1, h2, h3⟩ := h
    rw [List.all_cons, Bool.and_eq_true] at q
    obtain ⟨zs, e1, e2, e3⟩ := stretches_at h3 q.2
    have qf : figsT b d = true := by have := q.1; unfold stretchT at this; rw [Bool.and_eq_true] at this; exact this.1
    obtain ⟨a, ea, ha⟩ := ThAt.figs h2 qf
    refine ⟨(a, intsT d) :: zs, by rw [h1, ea, e1]; rfl, by rw [List.map_cons, List.map_cons, e2], fun z hz => ?_⟩
    rcases List.mem_cons.mp hz with rfl | hz
    · exact ha
    · exact e3 z hz
section
variable {P : Program} {w : World} {K : PySem.W.Frag} {mg : Str → Option Value} {base : Heap}
def sp_is_bad_list : Sp := fun vs H Q _ => ∃ (b : Int) (v : V) (d : PyData), vs = [.int b, v] ∧ ThAt H d v ∧ sizT d ≤ 100000 ∧ ∀ H', Same H H' → Q (.bl (badT b d)) H'
theorem sc_is_bad_list : FnScope ["base", "thing"] ["base", "thing"] (defScope s_is_bad_list) := ⟨rfl, rfl, rfl, by decide +kernel, rfl, by decide +kernel, by decide +kernel⟩
theorem ok_is_bad_list {f f1 f2 : Addr} {fd fd1 fd2 : FuncData} {t1 : Tok} (D : Df K mg "is_bad_list" s_is_bad_list ["base", "thing"] f fd) (Dis_stretch : Df K mg "is_stretch" s_is_stretch ["base", "thing"] f1 fd1) (Gis_stretch : FnOk P w K mg base CX0 4 f1 fd1 ["base", "thing"] sp_is_stretch) (Dis_rising : Df K mg "is_rising" s_is_rising ["stretches"] f2 fd2) (c_MOST_STRETCHES : mg "MOST_STRETCHES" = some (.int 4 t1)) (T : Blt mg) :
    FnOk P w K mg base CX0 5 f fd ["base", "thing"] sp_is_bad_list := by
  have Gis_rising : FnOk P w K mg base CX0 1 f2 fd2 ["stretches"] sp_is_rising := ok_is_rising Dis_rising T
  refine D.fn.ok sc_is_bad_list (fun vs H Q E h => ?_) (fun cdv A outer s H vs Q E hr h => ?_)
  · obtain ⟨b, v, d, rfl, _⟩ := h; rfl
  · obtain ⟨b, v, d, rfl, hd, hs, kk⟩ := h
    refine ⟨_, (pss_cons (ps_if (PW.pt (pw_or (pt_not (pt_val (pe_callB (k_isi K) (by rfl) T.n_isinstance boot_isinstance (pa_cons (pv 1) (pa_cons (pe_bltn (v := .ty "list") rfl T.n_list boot_list rfl) pa_nil))))) (pw_or1 (pt_cmpR op_gt (pe_callB (k_len K) (by rfl) T.n_len PySem.boot_len (pa_cons (pv 1) pa_nil)) (pe_glob (v := .int 4) rfl c_MOST_STRETCHES ⟨_, rfl⟩) (nomark _)))))
        (pss_one (ps_ret pe_bl))
        pss_nil)
      (pss_one (ps_ret (pe_and (pe_callB (k_all K rfl) (by rfl) T.n_all boot_all (pa_cons (pe_comp (show CScope (defScope s_is_bad_list) _ "each" ["base", "thing"] ["base"] [0] from ⟨rfl, by decide +kernel, by decide +kernel, rfl, by decide +kernel, rfl, by decide +kernel, by decide +kernel⟩) rfl (k_pi K (pv 1)) (fun _ _ _ _ => pts_nil) (fun _ _ _ _ => (pcall Dis_stretch Gis_stretch (hr.mono (by decide)) (pa_cons (pv 1) (pa_cons (pv 0) pa_nil))))) pa_nil)) (pe_one (pcall Dis_rising Gis_rising (hr.mono (by decide)) (pa_cons (pv 1) pa_nil))))))), ?_⟩
    refine ⟨_, rfl, _, _, _, _, rfl, hd.ty, kit_list d, _, rfl, ?_⟩
    cases hl : isT "list" d with
    | false =>
      have q := kk H (Same.refl _)
      rw [show badT b d = false by cases d <;> first | rfl | cases hl] at q
      exact iteT (iteT q)
    | true =>
      obtain ⟨xs, rfl⟩ := isT_list hl
      rw [ThAt] at hd
      obtain ⟨a, ys, rfl, ha, hx⟩ := hd
      rw [sizT] at hs
      refine iteF ⟨_, rfl, a, _, rfl, .inl (SqL.of ha), _, _, rfl, rfl, _, rfl, ?_⟩
      rw [hx.len]
      have kk' : ∀ H', Same H H' → Q (.bl (decide (xs.length ≤ 4) && (xs.all (stretchT b) && risingL (xs.map intsT)))) H' := kk
      by_cases h4 : xs.length ≤ 4
      case neg =>
        rw [decide_eq_true (show (4 : Int) < (xs.length : Int) by omega)]
        have q := kk' H (Same.refl _)
        rw [decide_eq_false h4, Bool.false_and] at q
        exact iteT q
      rw [decide_eq_false (show ¬ (4 : Int) < (xs.length : Int) by omega)]
      rw [decide_eq_true h4, Bool.true_and] at kk'
      refine iteF ⟨_, rfl, a, rfl, ⟨_, SqL.of ha⟩, comp_list (K := K) (a := a) (xs := ys) (fun i us H4 => us = ((xs.take i).map (stretchT b)).map V.bl ∧ Same H H4) ⟨by simp, Same.refl _⟩ (fun i us H4 _ ⟨_, e⟩ => SqL.of (e _ _ ha)) ?_ ?_⟩
      · rintro j x us H4 hj ⟨rfl, m4⟩
        obtain ⟨d, hdj, hd⟩ := hx.get hj
        refine ⟨?_, ?_⟩
        · rw [List.length_map, List.length_map, List.length_take]
          exact Nat.lt_of_le_of_lt (show min j xs.length ≤ 4 by omega) (by decide)
        unfold tYes
        dsimp only
        rw [if_pos rfl]
        have := sizTs_mem (List.mem_of_getElem? hdj)
        refine ⟨_, rfl, _, rfl, b, x, d, rfl, hd.same m4, by omega, fun H5 m5 => ⟨?_, m4.trans m5⟩⟩
        rw [List.take_succ, hdj]; simp
      · rintro us H4 ⟨rfl, m4⟩ Dd hD
        refine ⟨Dd, _, rfl, SqL.of upd_same, ?_⟩
        have m5 := m4.trans (same_upd hD (o := .lst (((xs.take ys.length).map (stretchT b)).map V.bl)))
        rw [hx.len, List.take_length, all_mapid] at *
        refine ⟨_, rfl, ?_⟩
        cases hst : xs.all (stretchT b) with
        | false =>
          have q := kk' _ m5
          rw [hst, Bool.false_and] at q
          exact iteF q
        | true =>
          rw [hst, Bool.true_and] at kk'
          obtain ⟨zs, e1, e2, e3⟩ := stretches_at hx hst
          refine iteT ⟨_, rfl, a, zs, rfl, by rw [← e1]; exact m5 _ _ ha, fun z hz => m5 _ _ (e3 z hz), ?_, fun H6 m6 => ?_⟩
          · have := congrArg List.length e2; rw [List.length_map, List.length_map] at this; omega
          · rw [e2]; exact kk' H6 (m5.trans m6)
def sp_is_rule : Sp := fun vs H Q _ => ∃ (v : V) (d : PyData), vs = [v] ∧ ThAt H d v ∧ sizT d ≤ 100000 ∧ ∀ H', Same H H' → Q (.bl (ruleT d)) H'
theorem sc_is_rule : FnScope ["thing"] ["thing"] (defScope s_is_rule) := ⟨rfl, rfl, rfl, by decide +kernel, rfl, by decide +kernel, by decide +kernel⟩
theorem ok_is_rule {f f1 f2 : Addr} {fd fd1 fd2 : FuncData} (D : Df K mg "is_rule" s_is_rule ["thing"] f fd) (Dis_base : Df K mg "is_base" s_is_base ["thing"] f1 fd1) (Gis_base : FnOk P w K mg base CX0 2 f1 fd1 ["thing"] sp_is_base) (Dis_bad_list : Df K mg "is_bad_list" s_is_bad_list ["base", "thing"] f2 fd2) (Gis_bad_list : FnOk P w K mg base CX0 5 f2 fd2 ["base", "thing"] sp_is_bad_list) (T : Blt mg) :
    FnOk P w K mg base CX0 6 f fd ["thing"] sp_is_rule := by
  refine D.fn.ok sc_is_rule (fun vs H Q E h => ?_) (fun cdv A outer s H vs Q E hr h => ?_)
  · obtain ⟨v, d, rfl, _⟩ := h; rfl
  · obtain ⟨v, d, rfl, hd, hs, kk⟩ := h
    refine ⟨_, (pss_cons (ps_if (PW.pt (pw_or (pt_not (pt_val (pe_callB (k_isi K) (by rfl) T.n_isinstance boot_isinstance (pa_cons (pv 0) (pa_cons (pe_bltn (v := .ty "tuple") rfl T.n_tuple boot_tuple rfl) pa_nil))))) (pw_or1 (pt_cmpR op_ne (pe_callB (k_len K) (by rfl) T.n_len PySem.boot_len (pa_cons (pv 0) pa_nil)) pe_int (nomark _)))))
        (pss_one (ps_ret pe_bl))
        pss_nil)
      (pss_one (ps_ret (pe_and (pcall Dis_base Gis_base (hr.mono (by decide)) (pa_cons (pe_ix (k_ixT K) (pv 0) pe_int (fun _ _ => rfl)) pa_nil)) (pe_one (pcall Dis_bad_list Gis_bad_list (hr.mono (by decide)) (pa_cons (pe_ix (k_ixT K) (pv 0) pe_int (fun _ _ => rfl)) (pa_cons (pe_ix (k_ixT K) (pv 0) pe_int (fun _ _ => rfl)) pa_nil)))))))), ?_⟩
    refine ⟨_, rfl, _, _, _, _, rfl, hd.ty, kit_tuple d, _, rfl, ?_⟩
    cases hl : isT "tuple" d with
    | false =>
      have q := kk H (Same.refl _)
      rw [show ruleT d = false by cases d <;> first | rfl | cases hl] at q
      exact iteT (iteT q)
    | true =>
      obtain ⟨xs, rfl⟩ := isT_tuple hl
      rw [ThAt] at hd
      obtain ⟨a, ys, rfl, ha, hx⟩ := hd
      rw [sizT] at hs
      refine iteF ⟨_, rfl, a, _, rfl, .inr (SqT.of ha), rfl, _, rfl, ?_⟩
      rw [hx.len]
      match xs, hx, hs, kk with
      | [], hx, hs, kk => exact iteT (kk H (Same.refl _))
      | [_], hx, hs, kk => exact iteT (kk H (Same.refl _))
      | _ :: _ :: _ :: t, hx, hs, kk =>
        have q : Q (.bl false) H := kk H (Same.refl _)
        rename_i d1 d2 d3
        rw [show (!decide (V.int ((d1 :: d2 :: d3 :: t).length : Nat) = V.int 2)) = true by
          rw [decide_eq_false (fun z => by injection z with z; rw [List.length_cons, List.length_cons, List.length_cons] at z; omega)]; rfl]
        exact iteT q
      | [d, e], hx, hs, kk =>
        rw [ThsAt] at hx
        obtain ⟨y, us, rfl, hd, hx⟩ := hx
        rw [ThsAt] at hx
        obtain ⟨z, ws, rfl, he, hx⟩ := hx
        rw [ThsAt] at hx
        subst hx
        rw [sizTs, sizTs, sizTs] at hs
        refine iteF ?_
        refine ⟨_, rfl, a, _, _, y, rfl, rfl, SqT.of ha, rfl, y, d, rfl, hd, _, rfl, ?_⟩
        have kk' : ∀ H', Same H H' → Q (.bl (baseT d && badT (intT d) e)) H' := kk
        cases hb : baseT d with
        | false =>
          have q := kk' H (Same.refl _)
          rw [hb, Bool.false_and] at q
          exact iteF q
        | true =>
          rw [hb, Bool.true_and] at kk'
          have ed : d = .int (intT d) := by cases d <;> first | rfl | cases hb
          have ey : y = .int (intT d) := by rw [ed, ThAt] at hd; exact hd
          subst ey
          exact iteT ⟨_, rfl, a, _, _, V.int (intT d), rfl, rfl, SqT.of ha, rfl, _, rfl, a, _, _, z, rfl, rfl, SqT.of ha, rfl, intT d, z, e, rfl, he, by omega, kk'⟩
end
end Lw
set_option Elab.async false
set_option linter.all false
set_option maxRecDepth 100000
namespace Lw
open PySem L2 PyProof.Rows
structure RuleAt (H : Hp) (r : Addr) (b : Nat) (bl : Addr) (zs : List (Addr × List Int)) : Prop where
  tu : H r = some (.tup [.int b, .ref bl])
  li : H bl = some (.lst (zs.map fun z => V.ref z.1))
  st : ∀ z ∈ zs, H z.1 = some (.lst (z.2.map V.int))
theorem RuleAt.same {H H' : Hp} {r bl : Addr} {b : Nat} {zs : List (Addr × List Int)} (R : RuleAt H r b bl zs) (s : Same H H') : RuleAt H' r b bl zs := ⟨s _ _ R.tu, s _ _ R.li, fun z hz => s _ _ (R.st z hz)⟩
structure GoodSt (b : Nat) (l : List Int) : Prop where
  ne : l ≠ []
  len : l.length ≤ 4
  fig : ∀ f ∈ l, 0 ≤ f ∧ f < b
structure GoodRule (b : Nat) (ls : List (List Int)) : Prop where
  b2 : 2 ≤ b
  b16 : b ≤ 16
  len : ls.length ≤ 4
  st : ∀ l ∈ ls, GoodSt b l
  up : ls.Pairwise fun x y => HT.lexLt x y = true
theorem cutV_upto (xs : List V) (m : Nat) : cutV xs none (some (m : Int)) = xs.take m := by
  unfold cutV
  rw [HT.sIx_nat, HT.sIx_none, List.drop_zero, Nat.sub_zero]
  by_cases h : m ≤ xs.length
  · rw [Nat.min_eq_left h]
  · rw [Nat.min_eq_right (by omega), List.take_of_length_le (Nat.le_refl _), List.take_of_length_le (by omega)]
theorem cutV_from (xs : List V) (m : Nat) : cutV xs (some (m : Int)) none = xs.drop m := by
  unfold cutV
  rw [HT.sIx_nat, HT.sIx_none]
  by_cases h : m ≤ xs.length
  · rw [Nat.min_eq_left h, List.take_of_length_le (by rw [List.length_drop]; omega)]
  · rw [Nat.min_eq_right (by omega), List.drop_of_length_le (Nat.le_refl _), List.drop_of_length_le (by omega)]; simp
theorem RuleAt.all {fp : List Addr} {r bl : Addr} {H : Hp} {b : Nat} {zs : List (Addr × List Int)} (R : RuleAt (aw fp H) r b bl zs) : RuleAt H r b bl zs := R.same (aw_same fp H)
theorem notin_any {ls : List (List Int)} {x : List Int} : ((ls.map tInts).any fun t => teq t (tInts x)) = decide (x ∈ ls) := by
  rw [Bool.eq_iff_iff]
  simp only [List.any_eq_true, List.mem_map, decide_eq_true_eq]
  constructor
  · rintro ⟨t, ⟨l, hl, rfl⟩, e⟩
    rw [teq_ints] at e
    rw [← of_decide_eq_true e]; exact hl
  · intro h
    exact ⟨tInts x, ⟨x, h, rfl⟩, teq_refl _⟩
theorem tdeps_tInts : ∀ ls : List (List Int), tdeps (ls.map tInts) ≤ 1
  | [] => by simp [tdeps]
  | l :: ls => by rw [List.map_cons, tdeps, tdep_tInts]; have := tdeps_tInts ls; omega
theorem TrsAt.lists {K : PySem.W.Frag} {H : Hp} : ∀ {zs : List (Addr × List Int)}, (∀ z ∈ zs, H z.1 = some (.lst (z.2.map V.int))) → TrsAt K H ((zs.map (·.2)).map tInts) (zs.map fun z => V.ref z.1)
  | [], _ => by rw [List.map_nil, List.map_nil, TrsAt]; rfl
  | z :: zs, h => by
    rw [List.map_cons, List.map_cons, TrsAt]
    exact ⟨_, _, rfl, TrAt.ints (SqL.of (h z List.mem_cons_self)), TrsAt.lists fun z hz => h z (List.mem_cons_of_mem _ hz)⟩
section
variable {P : Program} {w : World} {K : PySem.W.Frag} {mg : Str → Option Value} {base : Heap}
def sp__law_some_rule : Sp := fun vs H Q _ => ∃ (d : Addr) (fp : List Addr), vs = [.ref d] ∧ Deck H d fp ∧
  ∀ (r : Addr) (b : Nat) (bl : Addr) (zs : List (Addr × List Int)) (H' : Hp), Stp fp d H H' → RuleAt (aw fp H') r b bl zs → GoodRule b (zs.map (·.2)) → Q (.ref r) H'
theorem sc__law_some_rule : FnScope ["deck", "base", "few", "first", "most", "bad", "k", "one"] ["deck"] (defScope s__law_some_rule) := ⟨rfl, rfl, rfl, by decide +kernel, rfl, by decide +kernel, by decide +kernel⟩
theorem stp_aw {fp : List Addr} {d l : Addr} {H H' : Hp} (S : Stp fp d H H') : Same (aw (l :: fp) H) (aw (l :: fp) H') := fun c o e => by
  by_cases hc : c ∈ l :: fp
  · rw [aw_in hc] at e; cases e
  · rw [aw_out hc] at e ⊢
    exact S.get (fun z => hc (List.mem_cons_of_mem _ z)) e
theorem aw_upd_out {fp : List Addr} {l : Addr} {H : Hp} {o : HO} : Same (aw (l :: fp) H) (aw (l :: fp) (upd H l o)) := fun c u e => by
  by_cases hc : c ∈ l :: fp
  · rw [aw_in hc] at e; cases e
  · rw [aw_out hc] at e ⊢
    rw [upd_ne (fun z => hc (by rw [z]; simp))]; exact e
theorem ok__law_some_rule {f f1 : Addr} {fd fd1 : FuncData} (D : Df K mg "_law_some_rule" s__law_some_rule ["deck"] f fd) (D_law_draw : Df K mg "_law_draw" s__law_draw ["deck", "many"] f1 fd1) (T : Blt mg) : FnOk P w K mg base CX0 2 f fd ["deck"] sp__law_some_rule := by
  have G_law_draw : FnOk P w K mg base CX0 1 f1 fd1 ["deck", "many"] sp__law_draw := ok__law_draw D_law_draw T
  refine D.fn.ok sc__law_some_rule (fun vs H Q E h => ?_) (fun cdv A outer s H vs Q E hr h => ?_)
  · obtain ⟨d, fp, rfl, _⟩ := h; rfl
  · obtain ⟨d, fp, rfl, DK, kk⟩ := h
    have HU := HUof hr
    refine ⟨_, (pss_cons (ps_set (i := 1) sc__law_some_rule.nd rfl (Or.inl rfl) (pe_ix (k_ixL K) (pe_lst (pa_cons (pe_op op_add pe_int (pcall D_law_draw G_law_draw (hr.mono (by decide)) (pa_cons (pv 0) (pa_cons pe_int pa_nil)))) (pa_cons pe_int (pa_cons pe_int (pa_cons pe_int (pa_cons pe_int (pa_cons (pe_op op_add pe_int (pcall D_law_draw G_law_draw (hr.mono (by decide)) (pa_cons (pv 0) (pa_cons pe_int pa_nil)))) pa_nil))))))) (pcall D_law_draw G_law_draw (hr.mono (by decide)) (pa_cons (pv 0) (pa_cons pe_int pa_nil))) (fun _ _ => rfl)))
      (pss_cons (ps_set (i := 2) sc__law_some_rule.nd rfl (Or.inr rfl) (pe_callB (call_min2 rfl) (by rfl) T.n_min boot_min (pa_cons (pv 1) (pa_cons (pe_ix (k_ixL K) (pe_lst (pa_cons pe_int (pa_cons pe_int (pa_cons pe_int pa_nil)))) (pcall D_law_draw G_law_draw (hr.mono (by decide)) (pa_cons (pv 0) (pa_cons pe_int pa_nil))) (fun _ _ => rfl)) pa_nil))))
      (pss_cons (ps_set (i := 3) sc__law_some_rule.nd rfl (Or.inr rfl) (pcall D_law_draw G_law_draw (hr.mono (by decide)) (pa_cons (pv 0) (pa_cons (pe_op op_add (pe_op op_sub (pv 1) (pv 2)) pe_int) pa_nil))))
      (pss_cons (ps_set (i := 4) sc__law_some_rule.nd rfl (Or.inl rfl) (pe_ix (k_ixL K) (pe_lst (pa_cons (pe_op op_add pe_int (pcall D_law_draw G_law_draw (hr.mono (by decide)) (pa_cons (pv 0) (pa_cons pe_int pa_nil)))) (pa_cons pe_int (pa_cons pe_int (pa_cons pe_int pa_nil))))) (pcall D_law_draw G_law_draw (hr.mono (by decide)) (pa_cons (pv 0) (pa_cons pe_int pa_nil))) (fun _ _ => rfl)))
      (pss_cons (ps_set (i := 5) sc__law_some_rule.nd rfl (Or.inl rfl) (pe_lst pa_nil))
      (pss_cons (ps_for PassesOwn.never rfl (pi_range1 rfl T.n_range (pa_cons (pe_ix (k_ixL K) (pe_lst (pa_cons (pcall D_law_draw G_law_draw (hr.mono (by decide)) (pa_cons (pv 0) (pa_cons pe_int pa_nil))) (pa_cons pe_int (pa_cons pe_int (pa_cons pe_int pa_nil))))) (pcall D_law_draw G_law_draw (hr.mono (by decide)) (pa_cons (pv 0) (pa_cons pe_int pa_nil))) (fun _ _ => rfl)) pa_nil)) (pg_name (i := 6) sc__law_some_rule.nd rfl (Or.inl rfl))
        (pss_cons (ps_setComp (i := 7) (show CScope (defScope s__law_some_rule) _ "at" ["deck", "base", "few", "first", "most", "bad", "k", "one"] ["first", "deck", "few"] [3, 0, 2] from ⟨rfl, by decide +kernel, by decide +kernel, rfl, by decide +kernel, rfl, by decide +kernel, by decide +kernel⟩) rfl sc__law_some_rule.nd rfl (Or.inl rfl) (pi_range1 rfl T.n_range (pa_cons (pe_op op_add pe_int (pcall D_law_draw G_law_draw (hr.mono (by decide)) (pa_cons (pv 0) (pa_cons (pv 4) pa_nil)))) pa_nil)) (fun _ _ _ _ => pts_nil) (fun _ _ _ _ => (pe_op op_add (pv 1) (pcall D_law_draw G_law_draw (hr.mono (by decide)) (pa_cons (pv 2) (pa_cons (pv 3) pa_nil))))))
        (pss_one (ps_if (pt_cmpR (k_notInT K HU) (pv 7) (pv 5) (by with_unfolding_all rfl))
          (pss_one (ps_expr (pe_bm PySem.F.plainAttrs_list PySem.F.slot_list_append PySem.F.type_list_append mt_append (pv 5) (pa_cons (pv 7) pa_nil))))
          pss_nil))))
      (pss_one (ps_ret (pe_tup (pa_cons (pv 1) (pa_cons (pe_callB (k_sortL K HU) (by rfl) T.n_sorted boot_sorted (pa_cons (pv 5) pa_nil)) pa_nil))))))))))), ?_⟩
    refine ⟨_, rfl, d, _, fp, rfl, DK, (by decide), (by decide), fun x1 H1 hx1 S1 => ⟨_, _, rfl, rfl, ?_⟩⟩
    refine ⟨_, rfl, d, _, fp, rfl, S1.dk, (by decide), (by decide), fun x2 H2 hx2 S2 => ⟨_, _, rfl, rfl, (by show 6 ≤ sizeLine; decide), fun l1 hl1 => ?_⟩⟩
    have S12 := S1.trans S2
    have f1 := S12.dk.fresh hl1
    have S3 := S12.new hl1 (o := .lst [.int (2 + (x1 : Int)), .int 2, .int 3, .int 10, .int 16, .int (2 + (x2 : Int))])
    refine ⟨_, rfl, d, _, fp, rfl, S3.dk, (by decide), (by decide), fun x3 H4 hx3 S4 => ?_⟩
    obtain ⟨b, hb, hb2, hb16⟩ : ∃ b : Nat, atI [V.int (2 + (x1 : Int)), V.int 2, V.int 3, V.int 10, V.int 16, V.int (2 + (x2 : Int))] (x3 : Int) = some (.int b) ∧ 2 ≤ b ∧ b ≤ 16 := by
      have h6 : x3 < 6 := by omega
      match x3, h6 with
      | 0, _ => exact ⟨2 + x1, rfl, by omega, by omega⟩
      | 1, _ => exact ⟨2, rfl, by omega, by omega⟩
      | 2, _ => exact ⟨3, rfl, by omega, by omega⟩
      | 3, _ => exact ⟨10, rfl, by omega, by omega⟩
      | 4, _ => exact ⟨16, rfl, by omega, by omega⟩
      | 5, _ => exact ⟨2 + x2, rfl, by omega, by omega⟩
    refine ⟨l1, _, _, _, rfl, rfl, SqL.of (S4.get f1 upd_same), hb, ?_⟩
    have S34 := S3.trans S4
    refine ⟨_, rfl, (by show 3 ≤ sizeLine; decide), fun l2 hl2 => ?_⟩
    have f2 := S34.dk.fresh hl2
    have S5 := S34.new hl2 (o := .lst [.int 2, .int 3, .int 16])
    refine ⟨_, rfl, d, _, fp, rfl, S5.dk, (by decide), (by decide), fun x4 H6 hx4 S6 => ?_⟩
    obtain ⟨m, hm, hm2⟩ : ∃ m : Nat, atI [V.int 2, V.int 3, V.int 16] (x4 : Int) = some (.int m) ∧ 2 ≤ m := by
      have h3 : x4 < 3 := by omega
      match x4, h3 with
      | 0, _ => exact ⟨2, rfl, by omega⟩
      | 1, _ => exact ⟨3, rfl, by omega⟩
      | 2, _ => exact ⟨16, rfl, by omega⟩
    refine ⟨l2, _, _, _, rfl, rfl, SqL.of (S6.get f2 upd_same), hm, _, _, rfl, ?_⟩
    obtain ⟨few, hfew, hfew1, hfew2⟩ : ∃ few : Nat, (if (m : Int) < (b : Int) then (m : Int) else (b : Int)) = (few : Int) ∧ 2 ≤ few ∧ few ≤ b := by
      by_cases z : m < b
      · exact ⟨m, by rw [if_pos (by omega)], by omega, by omega⟩
      · exact ⟨b, by rw [if_neg (by omega)], by omega, by omega⟩
    rw [hfew]
    have S56 := S5.trans S6
    refine ⟨_, rfl, _, rfl, _, rfl, _, _, rfl, rfl, _, _, rfl, rfl, d, _, fp, rfl, S56.dk, by omega, by omega, fun x5 H7 hx5 S7 => ?_⟩
    have S57 := S56.trans S7
    refine ⟨_, rfl, d, _, fp, rfl, S57.dk, (by decide), (by decide), fun x6 H8 hx6 S8 => ⟨_, _, rfl, rfl, (by show 4 ≤ sizeLine; decide), fun l3 hl3 => ?_⟩⟩
    have S58 := S57.trans S8
    have f3 := S58.dk.fresh hl3
    have S9 := S58.new hl3 (o := .lst [.int (1 + (x6 : Int)), .int 2, .int 3, .int 4])
    refine ⟨_, rfl, d, _, fp, rfl, S9.dk, (by decide), (by decide), fun x7 H10 hx7 S10 => ?_⟩
    obtain ⟨most, hmost, hmost1, hmost2⟩ : ∃ most : Nat, atI [V.int (1 + (x6 : Int)), V.int 2, V.int 3, V.int 4] (x7 : Int) = some (.int most) ∧ 1 ≤ most ∧ most ≤ 4 := by
      have h4 : x7 < 4 := by omega
      match x7, h4 with
      | 0, _ => exact ⟨1 + x6, rfl, by omega, by omega⟩
      | 1, _ => exact ⟨2, rfl, by omega, by omega⟩
      | 2, _ => exact ⟨3, rfl, by omega, by omega⟩
      | 3, _ => exact ⟨4, rfl, by omega, by omega⟩
    refine ⟨l3, _, _, _, rfl, rfl, SqL.of (S10.get f3 upd_same), hmost, ?_⟩
    have S910 := S9.trans S10
    refine ⟨(by decide : 0 ≤ sizeLine), fun bl hbl => ?_⟩
    have fbl := S910.dk.fresh hbl
    have S11 := S910.new hbl (o := .lst [])
    refine ⟨_, rfl, d, _, fp, rfl, S11.dk, (by decide), (by decide), fun x8 H12 hx8 S12' => ⟨(by show 4 ≤ sizeLine; decide), fun l4 hl4 => ?_⟩⟩
    have S112 := S11.trans S12'
    have f4 := S112.dk.fresh hl4
    have S13 := S112.new hl4 (o := .lst [.int x8, .int 4, .int 3, .int 1])
    refine ⟨_, rfl, d, _, fp, rfl, S13.dk, (by decide), (by decide), fun x9 H14 hx9 S14 => ?_⟩
    obtain ⟨N, hN, hN4⟩ : ∃ N : Nat, atI [V.int x8, V.int 4, V.int 3, V.int 1] (x9 : Int) = some (.int N) ∧ N ≤ 4 := by
      have h4 : x9 < 4 := by omega
      match x9, h4 with
      | 0, _ => exact ⟨x8, rfl, by omega⟩
      | 1, _ => exact ⟨4, rfl, by omega⟩
      | 2, _ => exact ⟨3, rfl, by omega⟩
      | 3, _ => exact ⟨1, rfl, by omega⟩
    have S1314 := S13.trans S14
    refine ⟨l4, _, _, _, rfl, rfl, SqL.of (S14.get f4 upd_same), hN, (N : Int), rfl, by omega, by omega, for_range (lo := 0) (n := (N : Int).toNat) (fun i σ H15 => ∃ (v1 v2 : Option V) (zs : List (Addr × List Int)),
      σ = [some (.ref d), some (.int b), some (.int few), some (.int x5), some (.int most), some (.ref bl), v1, v2] ∧ zs.length ≤ i ∧ Deck H15 d fp ∧ H15 bl = some (.lst (zs.map fun z => V.ref z.1)) ∧ (∀ z ∈ zs, H15 z.1 = some (.lst (z.2.map V.int)) ∧ z.1 ∉ fp ∧ z.1 ≠ bl) ∧ (∀ l ∈ zs.map (·.2), GoodSt b l) ∧ (zs.map (·.2)).Nodup ∧ Same (aw (bl :: fp) H) (aw (bl :: fp) H15)) ⟨none, none, [], rfl, Nat.le_refl _, S1314.dk, ?_, (by simp), (by simp), (by simp), ?_⟩ ?_ ?_⟩
    · exact S14.get fbl (same_upd hl4 _ _ (S12'.get fbl upd_same))
    · exact stp_aw S1314
    · rintro i σ H15 hi ⟨v1, v2, zs, rfl, hzl, D15, hB, hZ, hG, nd, sm⟩
      refine ⟨_, rfl, _, rfl, d, _, fp, rfl, D15, by omega, by omega, fun y1 H16 hy1 S16 => ⟨_, _, rfl, rfl, (1 + (y1 : Int)), rfl, by omega, by omega, comp_range (lo := 0) (n := (1 + (y1 : Int)).toNat) (fun j ys Hc => Stp fp d H15 Hc ∧ ∃ ms : List Int, ys = ms.map V.int ∧ ms.length = j ∧ ∀ f ∈ ms, 0 ≤ f ∧ f < (b : Int)) ⟨S16, [], rfl, rfl, by simp⟩ ?_ ?_⟩⟩
      · rintro j ys Hc hj ⟨Sc, ms, rfl, hml, hmf⟩
        refine ⟨by rw [List.length_map, hml]; exact Nat.lt_of_lt_of_le (show j < 5 by omega) (by decide), ?_⟩
        unfold tYes
        dsimp only
        rw [if_pos rfl]
        refine ⟨_, rfl, _, rfl, _, rfl, d, _, fp, rfl, Sc.dk, by omega, by omega, fun y2 H17 hy2 S17 => ⟨_, _, rfl, rfl, Sc.trans S17, ms ++ [(x5 : Int) + y2], by simp, by simp [hml], fun f hf => ?_⟩⟩
        rcases List.mem_append.mp hf with hf | hf
        · exact hmf f hf
        · have e : f = (x5 : Int) + y2 := by simpa using hf
          omega
      · rintro ys Hc ⟨Sc, ms, rfl, hml, hmf⟩ p hp
        have hBc := Sc.get fbl hB
        have nbp : bl ≠ p := ne_of_none hBc hp
        have hZc : ∀ z ∈ zs, Hc z.1 = some (.lst (z.2.map V.int)) := fun z hz => Sc.get (hZ z hz).2.1 (hZ z hz).1
        have fpp := Sc.dk.fresh hp
        refine ⟨_, rfl, _, rfl, bl, _, (zs.map (·.2)).map tInts, tInts ms, rfl, SqL.of (same_upd hp _ _ hBc), TrsAt.lists (fun z hz => same_upd hp _ _ (hZc z hz)), TrAt.ints (a := p) (SqL.of upd_same), Nat.le_trans (tdeps_tInts _) (by decide), _, rfl, ?_⟩
        have sm2 : Same (aw (bl :: fp) H) (aw (bl :: fp) (upd Hc p (.lst (ms.map V.int)))) := sm.trans ((stp_aw Sc).trans ((same_upd hp).aw _))
        have D18 := Sc.dk.upd fpp (o := .lst (ms.map V.int))
        rw [if_pos rfl, notin_any]
        by_cases hin : ms ∈ zs.map (·.2)
        · rw [decide_eq_true hin]
          refine iteF ?_
          exact ⟨_, _, zs, rfl, by omega, D18, same_upd hp _ _ hBc, fun z hz => ⟨same_upd hp _ _ (hZc z hz), (hZ z hz).2⟩, hG, nd, sm2⟩
        · rw [decide_eq_false hin]
          refine iteT ?_
          refine ⟨_, rfl, .inl ⟨rfl, _, SqL.of (same_upd hp _ _ hBc)⟩, _, rfl, bl, _, _, rfl, rfl, same_upd hp _ _ hBc, by rw [List.length_map]; exact Nat.lt_of_le_of_lt (show zs.length ≤ 4 by omega) (by decide), ?_⟩
          refine ⟨_, _, zs ++ [(p, ms)], rfl, by rw [List.length_append, List.length_singleton]; omega, D18.upd fbl, by rw [upd_same]; simp, fun z hz => ?_, fun l hl => ?_, ?_, sm2.trans aw_upd_out⟩
          · rcases List.mem_append.mp hz with hz | hz
            · rw [upd_ne (hZ z hz).2.2]
              exact ⟨same_upd hp _ _ (hZc z hz), (hZ z hz).2⟩
            · have e : z = (p, ms) := by simpa using hz
              subst e
              exact ⟨by rw [upd_ne (Ne.symm nbp), upd_same], fpp, Ne.symm nbp⟩
          · rw [List.map_append] at hl
            rcases List.mem_append.mp hl with hl | hl
            · exact hG l hl
            · have e : l = ms := by simpa using hl
              subst e
              exact ⟨fun z => by rw [z] at hml; simp at hml; omega, by omega, hmf⟩
          · rw [List.map_append]
            refine List.nodup_append.mpr ⟨nd, by simp, fun x hx y hy => ?_⟩
            have e : y = ms := by simpa using hy
            rw [e]
            exact fun z => hin (z ▸ hx)
    · rintro σ H15 ⟨v1, v2, zs, rfl, hzl, D15, hB, hZ, hG, nd, sm⟩
      refine ⟨_, rfl, _, rfl, bl, zs, rfl, SqL.of hB, by omega, fun z hz => SqL.of (hZ z hz).1, nd, fun p zs' hp pm pw => ⟨(by show 2 ≤ sizeLine; decide), fun r hr => ?_⟩⟩
      have D16 := D15.same (same_upd hp (o := .lst (zs'.map fun z => V.ref z.1)))
      have npr : p ≠ r := fun z => by rw [← z, upd_same] at hr; cases hr
      refine kk r b p zs' _ ⟨D16.same (same_upd hr), fun c o e => ?_⟩ ⟨?_, ?_, fun z hz => ?_⟩ ⟨hb2, hb16, by rw [List.length_map, pm.length_eq]; omega, fun l hl => ?_, by rw [List.pairwise_map]; exact pw⟩
      · have hc : c ∉ fp := fun hc => by rw [aw_in hc] at e; cases e
        have hcb : c ≠ bl := fun z => by
          rw [aw_out hc, z, S910.free hbl] at e; cases e
        have hc2 : c ∉ bl :: fp := fun z => by
          rcases List.mem_cons.mp z with z | z
          · exact hcb z
          · exact hc z
        rw [aw_out hc] at e ⊢
        have z := sm c o (by rw [aw_out hc2]; exact e)
        rw [aw_out hc2] at z
        exact same_upd hr _ _ (same_upd hp _ _ z)
      · rw [aw_out (D16.fresh hr), upd_same]
      · rw [aw_out (D15.fresh hp), upd_ne npr, upd_same]
      · have hzm := pm.mem_iff.mp hz
        rw [aw_out (hZ z hzm).2.1]
        exact same_upd hr _ _ (same_upd hp _ _ (hZ z hzm).1)
      · obtain ⟨z, hz, rfl⟩ := List.mem_map.mp hl
        exact hG _ (List.mem_map.mpr ⟨z, pm.mem_iff.mp hz, rfl⟩)
end
section
variable {P : Program} {w : World} {K : PySem.W.Frag} {mg : Str → Option Value} {base : Heap}
theorem cutV_nat (xs : List V) (k m : Nat) : cutV xs (some (k : Int)) (some (m : Int)) = (xs.drop k).take (m - k) := by
  unfold cutV
  rw [HT.sIx_nat, HT.sIx_nat]
  by_cases hk : k ≤ xs.length
  · rw [Nat.min_eq_left hk]
    by_cases hm : m ≤ xs.length
    · rw [Nat.min_eq_left hm]
    · rw [Nat.min_eq_right (by omega), List.take_of_length_le (by rw [List.length_drop]; omega), List.take_of_length_le (by rw [List.length_drop]; omega)]
  · rw [List.drop_of_length_le (show xs.length ≤ k by omega), Nat.min_eq_right (show xs.length ≤ k by omega), List.drop_of_length_le (Nat.le_refl _)]
    simp
def sp_stands_within : Sp := fun vs H Q _ => ∃ (sa fa : Addr) (st fs : List Int), vs = [.ref sa, .ref fa] ∧ H sa = some (.lst (st.map V.int)) ∧ H fa = some (.lst (fs.map V.int)) ∧ st ≠ [] ∧ st.length ≤ 1000 ∧ fs.length ≤ 1000 ∧ ∀ H', Same H H' → Q (.bl (hasS st fs)) H'
theorem sc_stands_within : FnScope ["stretch", "figures", "size"] ["stretch", "figures"] (defScope s_stands_within) := ⟨rfl, rfl, rfl, by decide +kernel, rfl, by decide +kernel, by decide +kernel⟩
theorem ok_stands_within {f : Addr} {fd : FuncData} (D : Df K mg "stands_within" s_stands_within ["stretch", "figures"] f fd) (T : Blt mg) : FnOk P w K mg base CX0 1 f fd ["stretch", "figures"] sp_stands_within := by
  refine D.fn.ok sc_stands_within (fun vs H Q E h => ?_) (fun cdv A outer s H vs Q E hr h => ?_)
  · obtain ⟨sa, fa, st, fs, rfl, _⟩ := h; rfl
  · obtain ⟨sa, fa, st, fs, rfl, hs, hf, ne, hl1, hl2, kk⟩ := h
    have HU := HUof hr
    refine ⟨_, (pss_cons (ps_set (i := 2) sc_stands_within.nd rfl (Or.inr rfl) (pe_callB (k_len K) (by rfl) T.n_len PySem.boot_len (pa_cons (pv 0) pa_nil)))
      (pss_one (ps_ret (pe_callB (k_any K rfl) (by rfl) T.n_any boot_any (pa_cons (pe_comp (show CScope (defScope s_stands_within) _ "k" ["stretch", "figures", "size"] ["stretch", "figures", "size"] [0, 1, 2] from ⟨rfl, by decide +kernel, by decide +kernel, rfl, by decide +kernel, rfl, by decide +kernel, by decide +kernel⟩) rfl (pi_range1 rfl T.n_range (pa_cons (pe_op op_add (pe_op op_sub (pe_callB (k_len K) (by rfl) T.n_len PySem.boot_len (pa_cons (pv 1) pa_nil)) (pv 2)) pe_int) pa_nil)) (fun _ _ _ _ => pts_nil) (fun _ _ _ _ => (pe_cmpR (k_eqT K HU) (pe_slice (k_slL K) (pv 2) (po_some (pv 0)) (po_some (pe_op op_add (pv 0) (pv 3)))) (pv 1) (nomark _)))) pa_nil))))), ?_⟩
    refine ⟨_, rfl, sa, _, rfl, .inl (SqL.of hs), ?_⟩
    rw [List.length_map]
    refine ⟨_, rfl, fa, _, rfl, .inl (SqL.of hf), _, rfl, _, _, rfl, rfl, _, _, rfl, rfl, _, rfl, ?_⟩
    rw [List.length_map]
    refine ⟨by omega, by omega, comp_range (lo := 0) (n := ((fs.length : Int) - st.length + 1).toNat) (fun i ys H4 => ys = ((List.range i).map fun k => decide ((fs.drop k).take st.length = st)).map V.bl ∧ Same H H4) ⟨by simp, Same.refl _⟩ ?_ ?_⟩
    · rintro i ys H4 hi ⟨rfl, s4⟩
      refine ⟨by rw [List.length_map, List.length_map, List.length_range]; exact Nat.lt_of_lt_of_le (show i < 2000 by omega) (by decide), ?_⟩
      unfold tYes
      dsimp only
      rw [if_pos rfl]
      refine ⟨_, rfl, _, rfl, _, rfl, _, rfl, _, rfl, _, _, rfl, rfl, _, rfl, fa, _, rfl, SqL.of (s4 _ _ hf), fun p hp => ?_⟩
      have e1 : cutV (fs.map V.int) (some (0 + (i : Int))) (some (0 + (i : Int) + (st.length : Int))) = ((fs.drop i).take st.length).map V.int := by
        have e : (0 + (i : Int) + (st.length : Int)) = ((i + st.length : Nat) : Int) := by omega
        rw [e, Int.zero_add, cutV_nat, List.map_take, List.map_drop, Nat.add_sub_cancel_left]
      rw [e1]
      refine ⟨_, rfl, tInts ((fs.drop i).take st.length), tInts st, TrAt.ints (a := p) (SqL.of upd_same), TrAt.ints (a := sa) (SqL.of (same_upd hp _ _ (s4 _ _ hs))), (by rw [tdep_tInts]; decide), ?_, s4.trans (same_upd hp)⟩
      rw [List.range_succ, List.map_append, List.map_append]
      have e2 := teq_ints ((fs.drop i).take st.length) st
      show _ = _ ++ [V.bl (decide ((fs.drop i).take st.length = st))]
      rw [← e2]; rfl
    · rintro ys H4 ⟨rfl, s4⟩ Dd hD
      refine ⟨Dd, _, rfl, SqL.of upd_same, ?_⟩
      have q := kk _ (s4.trans (same_upd hD (o := .lst (((List.range ((fs.length : Int) - st.length + 1).toNat).map fun k => decide ((fs.drop k).take st.length = st)).map V.bl))))
      rw [hasS_short ne] at q
      rw [List.any_map]
      exact q
def sp_lacks_all : Sp := fun vs H Q _ => ∃ (bl fa : Addr) (zs : List (Addr × List Int)) (fs : List Int), vs = [.ref bl, .ref fa] ∧ H bl = some (.lst (zs.map fun z => V.ref z.1)) ∧ (∀ z ∈ zs, H z.1 = some (.lst (z.2.map V.int))) ∧ H fa = some (.lst (fs.map V.int)) ∧ zs.length ≤ 100 ∧ fs.length ≤ 1000 ∧ (∀ z ∈ zs, z.2 ≠ [] ∧ z.2.length ≤ 1000) ∧ ∀ H', Same H H' → Q (.bl (lacks (zs.map (·.2)) fs)) H'
theorem sc_lacks_all : FnScope ["bad", "figures"] ["bad", "figures"] (defScope s_lacks_all) := ⟨rfl, rfl, rfl, by decide +kernel, rfl, by decide +kernel, by decide +kernel⟩
theorem ok_lacks_all {f f1 : Addr} {fd fd1 : FuncData} (D : Df K mg "lacks_all" s_lacks_all ["bad", "figures"] f fd) (Dstands_within : Df K mg "stands_within" s_stands_within ["stretch", "figures"] f1 fd1) (T : Blt mg) : FnOk P w K mg base CX0 2 f fd ["bad", "figures"] sp_lacks_all := by
  have Gstands_within : FnOk P w K mg base CX0 1 f1 fd1 ["stretch", "figures"] sp_stands_within := ok_stands_within Dstands_within T
  refine D.fn.ok sc_lacks_all (fun vs H Q E h => ?_) (fun cdv A outer s H vs Q E hr h => ?_)
  · obtain ⟨bl, fa, zs, fs, rfl, _⟩ := h; rfl
  · obtain ⟨bl, fa, zs, fs, rfl, hb, hz, hf, hl1, hl2, ne, kk⟩ := h
    refine ⟨_, (pss_one (ps_ret (pe_not (pe_callB (k_any K rfl) (by rfl) T.n_any boot_any (pa_cons (pe_comp (show CScope (defScope s_lacks_all) _ "stretch" ["bad", "figures"] ["figures"] [1] from ⟨rfl, by decide +kernel, by decide +kernel, rfl, by decide +kernel, rfl, by decide +kernel, by decide +kernel⟩) rfl (k_pi K (pv 0)) (fun _ _ _ _ => pts_nil) (fun _ _ _ _ => (pcall Dstands_within Gstands_within (hr.mono (by decide)) (pa_cons (pv 0) (pa_cons (pv 1) pa_nil))))) pa_nil))))), ?_⟩
    refine ⟨_, rfl, bl, rfl, ⟨_, SqL.of hb⟩, comp_list (K := K) (a := bl) (xs := zs.map fun z => V.ref z.1) (fun i ys H4 => ys = ((zs.take i).map fun z => hasS z.2 fs).map V.bl ∧ Same H H4) ⟨by simp, Same.refl _⟩ (fun i ys H4 _ ⟨_, e⟩ => SqL.of (e _ _ hb)) ?_ ?_⟩
    · rintro j x ys H4 hx ⟨rfl, s4⟩
      rw [List.getElem?_map] at hx
      obtain ⟨z, hzj, e⟩ := Option.map_eq_some_iff.mp hx
      subst e
      have hzm := List.mem_of_getElem? hzj
      refine ⟨?_, ?_⟩
      · rw [List.length_map, List.length_map, List.length_take]
        exact Nat.lt_of_le_of_lt (Nat.le_trans (Nat.min_le_right _ _) hl1) (by decide)
      unfold tYes
      dsimp only
      rw [if_pos rfl]
      refine ⟨_, rfl, _, rfl, z.1, fa, z.2, fs, rfl, s4 _ _ (hz z hzm), s4 _ _ hf, (ne z hzm).1, (ne z hzm).2, hl2, fun H5 s5 => ⟨?_, s4.trans s5⟩⟩
      rw [List.take_succ, hzj]
      simp
    · rintro ys H4 ⟨rfl, s4⟩ Dd hD
      refine ⟨Dd, _, rfl, SqL.of upd_same, _, rfl, ?_⟩
      have q := kk _ (s4.trans (same_upd hD (o := .lst (((zs.take (zs.map fun z => V.ref z.1).length).map fun z => hasS z.2 fs).map V.bl))))
      rw [List.length_map, List.take_length] at q ⊢
      unfold lacks at q
      rw [List.any_map] at q ⊢
      exact q
end
end Lw
set_option Elab.async false
set_option linter.all false
set_option maxRecDepth 100000
namespace Lw
open PySem L2 PyProof.Rows
section
variable {P : Program} {w : World} {K : PySem.W.Frag} {mg : Str → Option Value} {base : Heap}
def sp_begins_one : Sp := fun vs H Q _ => ∃ (bl fa : Addr) (zs : List (Addr × List Int)) (fs : List Int), vs = [.ref bl, .ref fa] ∧ H bl = some (.lst (zs.map fun z => V.ref z.1)) ∧ (∀ z ∈ zs, H z.1 = some (.lst (z.2.map V.int))) ∧ H fa = some (.lst (fs.map V.int)) ∧ zs.length ≤ 100 ∧ ∀ H', Same H H' → Q (.bl (begs (zs.map (·.2)) fs)) H'
theorem sc_begins_one : FnScope ["bad", "figures"] ["bad", "figures"] (defScope s_begins_one) := ⟨rfl, rfl, rfl, by decide +kernel, rfl, by decide +kernel, by decide +kernel⟩
theorem ok_begins_one {f : Addr} {fd : FuncData} (D : Df K mg "begins_one" s_begins_one ["bad", "figures"] f fd) (T : Blt mg) : FnOk P w K mg base CX0 1 f fd ["bad", "figures"] sp_begins_one := by
  refine D.fn.ok sc_begins_one (fun vs H Q E h => ?_) (fun cdv A outer s H vs Q E hr h => ?_)
  · obtain ⟨bl, fa, zs, fs, rfl, _⟩ := h; rfl
  · obtain ⟨bl, fa, zs, fs, rfl, hb, hz, hf, hl1, kk⟩ := h
    have HU := HUof hr
    refine ⟨_, (pss_one (ps_ret (pe_callB (k_any K rfl) (by rfl) T.n_any boot_any (pa_cons (pe_comp (show CScope (defScope s_begins_one) _ "stretch" ["bad", "figures"] ["figures"] [1] from ⟨rfl, by decide +kernel, by decide +kernel, rfl, by decide +kernel, rfl, by decide +kernel, by decide +kernel⟩) rfl (k_pi K (pv 0)) (fun _ _ _ _ => pts_nil) (fun _ _ _ _ => (pe_cmpR (k_eqT K HU) (pe_slice (k_slL K) (pv 0) po_none (po_some (pe_callB (k_len K) (by rfl) T.n_len PySem.boot_len (pa_cons (pv 1) pa_nil)))) (pv 1) (nomark _)))) pa_nil)))), ?_⟩
    refine ⟨_, rfl, bl, rfl, ⟨_, SqL.of hb⟩, comp_list (K := K) (a := bl) (xs := zs.map fun z => V.ref z.1) (fun i ys H4 => ys = ((zs.take i).map fun z => decide (z.2.take fs.length = fs)).map V.bl ∧ Same H H4) ⟨by simp, Same.refl _⟩ (fun i ys H4 _ ⟨_, e⟩ => SqL.of (e _ _ hb)) ?_ ?_⟩
    · rintro j x ys H4 hx ⟨rfl, s4⟩
      rw [List.getElem?_map] at hx
      obtain ⟨z, hzj, e⟩ := Option.map_eq_some_iff.mp hx
      subst e
      have hzm := List.mem_of_getElem? hzj
      refine ⟨?_, ?_⟩
      · rw [List.length_map, List.length_map, List.length_take]
        exact Nat.lt_of_le_of_lt (Nat.le_trans (Nat.min_le_right _ _) hl1) (by decide)
      unfold tYes
      dsimp only
      rw [if_pos rfl]
      refine ⟨_, rfl, _, rfl, fa, _, rfl, .inl (SqL.of (s4 _ _ hf)), _, rfl, z.1, _, rfl, SqL.of (s4 _ _ (hz z hzm)), fun p hp => ?_⟩
      rw [List.length_map, cutV_upto, ← List.map_take]
      refine ⟨_, rfl, tInts (z.2.take fs.length), tInts fs, TrAt.ints (a := p) (SqL.of upd_same), TrAt.ints (a := fa) (SqL.of (same_upd hp _ _ (s4 _ _ hf))), (by rw [tdep_tInts]; decide), ?_, s4.trans (same_upd hp)⟩
      rw [List.take_succ, hzj]
      have e2 := teq_ints (z.2.take fs.length) fs
      show _ ++ [V.bl (teq _ _)] = _
      rw [e2]
      simp
    · rintro ys H4 ⟨rfl, s4⟩ Dd hD
      refine ⟨Dd, _, rfl, SqL.of upd_same, ?_⟩
      have q := kk _ (s4.trans (same_upd hD (o := .lst (((zs.take (zs.map fun z => V.ref z.1).length).map fun z => decide (z.2.take fs.length = fs)).map V.bl))))
      rw [List.length_map, List.take_length] at q ⊢
      unfold begs at q
      rw [List.any_map] at q ⊢
      exact q
def StandV (ls : List (List Int)) (fs : List Int) (H H' : Hp) (v : V) : Prop := (lacks ls fs = false ∧ v = .non) ∨ (lacks ls fs = true ∧ ∃ l, v = .ref l ∧ H l = none ∧ H' l = some (.lst ((tailS ls fs).map V.int)))
def sp_longest_stand : Sp := fun vs H Q _ => ∃ (bl fa : Addr) (zs : List (Addr × List Int)) (fs : List Int), vs = [.ref bl, .ref fa] ∧ H bl = some (.lst (zs.map fun z => V.ref z.1)) ∧ (∀ z ∈ zs, H z.1 = some (.lst (z.2.map V.int))) ∧ H fa = some (.lst (fs.map V.int)) ∧ zs.length ≤ 100 ∧ fs.length ≤ 1000 ∧ (∀ z ∈ zs, z.2 ≠ [] ∧ z.2.length ≤ 1000) ∧
  ∀ v H', StandV (zs.map (·.2)) fs H H' v → Same H H' → Q v H'
theorem sc_longest_stand : FnScope ["bad", "figures", "start"] ["bad", "figures"] (defScope s_longest_stand) := ⟨rfl, rfl, rfl, by decide +kernel, rfl, by decide +kernel, by decide +kernel⟩
theorem ok_longest_stand {f f1 f2 : Addr} {fd fd1 fd2 : FuncData} (D : Df K mg "longest_stand" s_longest_stand ["bad", "figures"] f fd) (Dlacks_all : Df K mg "lacks_all" s_lacks_all ["bad", "figures"] f1 fd1) (Glacks_all : FnOk P w K mg base CX0 2 f1 fd1 ["bad", "figures"] sp_lacks_all)
    (Dbegins_one : Df K mg "begins_one" s_begins_one ["bad", "figures"] f2 fd2) (T : Blt mg) : FnOk P w K mg base CX0 3 f fd ["bad", "figures"] sp_longest_stand := by
  have Gbegins_one : FnOk P w K mg base CX0 1 f2 fd2 ["bad", "figures"] sp_begins_one := ok_begins_one Dbegins_one T
  refine D.fn.ok sc_longest_stand (fun vs H Q E h => ?_) (fun cdv A outer s H vs Q E hr h => ?_)
  · obtain ⟨bl, fa, zs, fs, rfl, _⟩ := h; rfl
  · obtain ⟨bl, fa, zs, fs, rfl, hb, hz, hf, hl1, hl2, ne, kk⟩ := h
    refine ⟨_, (pss_cons (ps_if (pt_not (pt_val (pcall Dlacks_all Glacks_all (hr.mono (by decide)) (pa_cons (pv 0) (pa_cons (pv 1) pa_nil)))))
        (pss_one (ps_ret pe_non))
        pss_nil)
      (pss_cons (ps_for PassesOwn.never rfl (pi_range1 rfl T.n_range (pa_cons (pe_callB (k_len K) (by rfl) T.n_len PySem.boot_len (pa_cons (pv 1) pa_nil)) pa_nil)) (pg_name (i := 2) sc_longest_stand.nd rfl (Or.inl rfl))
        (pss_one (ps_if (pt_val (pcall Dbegins_one Gbegins_one (hr.mono (by decide)) (pa_cons (pv 0) (pa_cons (pe_slice (k_slL K) (pv 1) (po_some (pv 2)) po_none) pa_nil))))
          (pss_one (ps_ret (pe_slice (k_slL K) (pv 1) (po_some (pv 2)) po_none)))
          pss_nil)))
      (pss_one (ps_ret (pe_lst pa_nil))))), ?_⟩
    refine ⟨_, rfl, _, rfl, bl, fa, zs, fs, rfl, hb, hz, hf, hl1, hl2, ne, fun H1 s1 => ⟨_, rfl, ?_⟩⟩
    cases hL : lacks (zs.map (·.2)) fs with
    | false => exact iteT (kk _ _ (.inl ⟨hL, rfl⟩) s1)
    | true =>
      refine iteF ?_
      refine ⟨_, rfl, fa, _, rfl, .inl (SqL.of (s1 _ _ hf)), (((fs.map V.int).length : Nat) : Int), rfl, by rw [List.length_map]; omega, by rw [List.length_map]; omega, for_range (lo := 0) (n := (((fs.map V.int).length : Nat) : Int).toNat) (fun i σ H2 => ∃ v1 : Option V, σ = [some (.ref bl), some (.ref fa), v1] ∧ Same H H2 ∧ ∀ k, k < i → begs (zs.map (·.2)) (fs.drop k) = false) ⟨none, rfl, s1, fun k hk => by omega⟩ ?_ ?_⟩
      · rintro i σ H2 hi ⟨v1, rfl, s2, hno⟩
        have hi' : i < fs.length := by rw [List.length_map] at hi; omega
        refine ⟨_, rfl, _, rfl, _, rfl, _, rfl, fa, _, rfl, SqL.of (s2 _ _ hf), fun p hp => ?_⟩
        rw [Int.zero_add, cutV_from, ← List.map_drop]
        have t := s2.trans (same_upd hp (o := .lst ((fs.drop i).map V.int)))
        refine ⟨bl, p, zs, fs.drop i, rfl, t _ _ hb, fun z hzm => t _ _ (hz z hzm), upd_same, hl1, fun H3 s3 => ⟨_, rfl, ?_⟩⟩
        have t3 := t.trans s3
        cases hB : begs (zs.map (·.2)) (fs.drop i) with
        | true =>
          refine iteT ⟨_, rfl, _, rfl, _, rfl, fa, _, rfl, SqL.of (t3 _ _ hf), fun q hq => ?_⟩
          rw [cutV_from, ← List.map_drop]
          refine kk _ _ (.inr ⟨hL, q, rfl, t3.free hq, ?_⟩) (t3.trans (same_upd hq))
          rw [upd_same, tailS_at (by omega) hno hB]
        | false =>
          refine iteF ⟨_, rfl, t3, fun k hk => ?_⟩
          by_cases e : k < i
          · exact hno k e
          · have : k = i := by omega
            rw [this]; exact hB
      · rintro σ H2 ⟨v1, rfl, s2, hno⟩
        refine ⟨(by decide : 0 ≤ sizeLine), fun q hq => kk _ _ (.inr ⟨hL, q, rfl, s2.free hq, ?_⟩) (s2.trans (same_upd hq))⟩
        rw [upd_same, tailS_none (fun k hk => hno k (by rw [List.length_map]; omega))]
        rfl
end
section
variable {P : Program} {w : World} {K : PySem.W.Frag} {mg : Str → Option Value} {base : Heap} {T0 : Addr}
def lamP : Pos := ⟨80, 29, 80, 59⟩
def lamSc : Scope := match (defBody s_stands_of).getLast? with
  | some (.Return (some (.Call _ _ [⟨_, .Lambda _ _ sc _, _⟩] _)) _) => sc
  | _ => defScope s_stands_of
theorem sc_lam : FnScope ["each"] ["each"] lamSc := ⟨rfl, rfl, rfl, by decide +kernel, rfl, by decide +kernel, by decide +kernel⟩
theorem same_put {H H' : Hp} {p : Addr} {o : HO} (s : Same H H') (h : H p = none) : Same H (upd H' p o) := fun b u e => by rw [upd_ne (ne_of_none e h)]; exact s b u e
def SameL (T : Addr) (H H' : Hp) : Prop := ∀ b u, b ≠ T → H b = some u → H' b = some u
abbrev LT (T : Addr) (H : Hp) : Prop := LamTab T lamP ((("stands_of" : Str) ++ (".<locals>." : Str)) ++ ("<lambda>" : Str)) H
theorem SameL.of {T : Addr} {H H' : Hp} (s : Same H H') : SameL T H H' := fun b u _ e => s b u e
theorem SameL.trans {T : Addr} {H H1 H2 : Hp} (a : SameL T H H1) (b : SameL T H1 H2) : SameL T H H2 := fun c u h e => b c u h (a c u h e)
theorem LT.same {T : Addr} {H H' : Hp} (h : LT T H) (s : Same H H') : LT T H' := by
  rcases h with h | ⟨c, h1, h2⟩
  · exact .inl (s _ _ h)
  · exact .inr ⟨c, s _ _ h1, s _ _ h2⟩
theorem LT.lst {T : Addr} {H : Hp} (h : LT T H) {b : Addr} {xs : List V} (e : H b = some (.lst xs)) : b ≠ T := fun z => by
  rw [z] at e
  rcases h with h | ⟨c, h, _⟩
  · rw [h] at e; cases e
  · rw [h] at e; cases e
theorem LT.tup {T : Addr} {H : Hp} (h : LT T H) {b : Addr} {xs : List V} (e : H b = some (.tup xs)) : b ≠ T := fun z => by
  rw [z] at e
  rcases h with h | ⟨c, h, _⟩
  · rw [h] at e; cases e
  · rw [h] at e; cases e
theorem LT.none {T : Addr} {H : Hp} (h : LT T H) {b : Addr} (e : H b = none) : b ≠ T := fun z => by
  rw [z] at e
  rcases h with h | ⟨c, h, _⟩
  · rw [h] at e; cases e
  · rw [h] at e; cases e
def sp_stands_of (T : Addr) : Sp := fun vs H Q _ => ∃ (bl : Addr) (zs : List (Addr × List Int)), vs = [.ref bl] ∧ H bl = some (.lst (zs.map fun z => V.ref z.1)) ∧ (∀ z ∈ zs, H z.1 = some (.lst (z.2.map V.int))) ∧ zs.length ≤ 4 ∧ (∀ z ∈ zs, z.2 ≠ [] ∧ z.2.length ≤ 4) ∧ LT T H ∧
  ∀ (D : Addr) (ws : List (Addr × List Int)) (H' : Hp), H D = none → H' D = some (.lst (ws.map fun z => V.ref z.1)) → (∀ z ∈ ws, H z.1 = none ∧ H' z.1 = some (.lst (z.2.map V.int)) ∧ z.1 ≠ D) → StandsL (zs.map (·.2)) (ws.map (·.2)) → ws.length ≤ 13 → SameL T H H' → LT T H' → Q (.ref D) H'
theorem sc_stands_of : FnScope ["bad", "found", "stretch", "size", "stand"] ["bad"] (defScope s_stands_of) := ⟨rfl, rfl, rfl, by decide +kernel, rfl, by decide +kernel, by decide +kernel⟩
theorem ok_stands_of {f f1 c : Addr} {fd fd1 : FuncData} (D : Df K mg "stands_of" s_stands_of ["bad"] f fd) (hc : fd.code = .ref c) (hcT : PySem.W.codeHdIn K c T0 = true) (hBM : base.BuiltinsAt mg T0) (hgT : mainGlobals ≠ T0) (Dlacks_all : Df K mg "lacks_all" s_lacks_all ["bad", "figures"] f1 fd1) (Glacks_all : FnOk P w K mg base CX0 2 f1 fd1 ["bad", "figures"] sp_lacks_all) (T : Blt mg) :
    FnOk P w K mg base CX0 6 f fd ["bad"] (sp_stands_of T0) := by
  obtain ⟨oc, od, kV, doc, pm, an, cdv, ct, osl, rfl, lk, hcd⟩ := D.fn.ex
  obtain rfl : cdv = .ref c := hc
  refine fn_of lk hcd sc_stands_of (fun vs H Q E h => ?_) (fun A outer s H vs Q E hr h => ?_)
  · obtain ⟨bl, zs, rfl, _⟩ := h; rfl
  · obtain ⟨bl, zs, rfl, hb, hz, h4, hst, hLT, kk⟩ := h
    have HU := HUof hr
    have lam_body : ∀ (f' c' : Addr) (s' : Shared) (H' : Hp) (z : Addr × List Int), H' z.1 = some (.lst (z.2.map V.int)) → ∃ t, PE (cxOf CX0 P w K mg base ["each"] ((("stands_of" : Str) ++ (".<locals>." : Str)) ++ ("<lambda>" : Str)) lamSc f' (.ref c') (A.deeper (envOfC "stands_of" (defScope s_stands_of) s.heap.objs.size f (.ref c))).in1.in1 (envOfC "stands_of" (defScope s_stands_of) s.heap.objs.size f (.ref c) :: outer) s' H' E0)
        (match (defBody s_stands_of).getLast? with
          | some (.Return (some (.Call _ _ [⟨_, .Lambda _ b _ _, _⟩] _)) _) => b
          | _ => .Constant .none 0 ⟨0, 0, 0, 0⟩) t ∧
        t (start ["each"] [.ref z.1]) H' fun v H2 => ∃ p, v = .ref p ∧ H' p = none ∧ H2 = upd H' p (.tup [.int z.2.length, .ref z.1]) := by
      intro f' c' s' H' z hz'
      refine ⟨_, (pe_tup (pa_cons (pe_callB (k_len K) (by rfl) T.n_len PySem.boot_len (pa_cons (pv 0) pa_nil)) (pa_cons (pv 0) pa_nil))), ?_⟩
      refine ⟨_, rfl, z.1, _, rfl, .inl (SqL.of hz'), _, rfl, (by show 2 ≤ sizeLine; decide), fun p hp => ⟨p, rfl, hp, ?_⟩⟩
      rw [List.length_map]
    refine Exists.elim (?key : ∃ t, PSs (cxOf CX0 P w K mg base ["bad", "found", "stretch", "size", "stand"] "stands_of" (defScope s_stands_of) f (.ref c) A outer s H E).nox (defBody s_stands_of) t ∧ t { nx := fun _ H' => Q .non H', rt := Q } (start ["bad", "found", "stretch", "size", "stand"] [.ref bl]) H) fun t h => ⟨t, h.1.nox, h.2⟩
    refine ⟨_, (pss_cons (ps_set (i := 1) sc_stands_of.nd rfl (Or.inl rfl) (pe_lst (pa_cons (pe_lst pa_nil) pa_nil)))
      (pss_cons (ps_for PassesOwn.never rfl (k_pi K (pv 0)) (pg_name (i := 2) sc_stands_of.nd rfl (Or.inl rfl))
        (pss_one (ps_for PassesOwn.never rfl (pi_range2 rfl T.n_range (pa_cons pe_int (pa_cons (pe_callB (k_len K) (by rfl) T.n_len PySem.boot_len (pa_cons (pv 2) pa_nil)) pa_nil))) (pg_name (i := 3) sc_stands_of.nd rfl (Or.inl rfl))
          (pss_cons (ps_set (i := 4) sc_stands_of.nd rfl (Or.inl rfl) (pe_slice (k_slL K) (pv 2) po_none (po_some (pv 3))))
          (pss_one (ps_if (PW.pt (pw_and (pt_cmpR (k_notInT K HU) (pv 4) (pv 1) (by with_unfolding_all rfl)) (pw_and1 (pt_val (pcall Dlacks_all Glacks_all (hr.mono (by decide)) (pa_cons (pv 0) (pa_cons (pv 4) pa_nil)))))))
            (pss_one (ps_expr (pe_bm PySem.F.plainAttrs_list PySem.F.slot_list_append PySem.F.type_list_append mt_append (pv 1) (pa_cons (pv 4) pa_nil))))
            pss_nil))))))
      (pss_one (ps_ret (pe_sortKey (k := 1) (pv 1) rfl T.n_sorted (hr.mono (by decide)) rfl rfl rfl hcT hBM hgT sc_lam (fun _ _ _ _ => rfl) lam_body))))), ?_⟩
    have hls : ∀ st ∈ zs.map (·.2), st ≠ [] ∧ st.length ≤ 4 := fun st h => by obtain ⟨z, hz, rfl⟩ := List.mem_map.mp h; exact hst z hz
    refine ⟨(by decide : 0 ≤ sizeLine), fun e0 he0 => ⟨(by show 1 ≤ sizeLine; decide), fun fo hfo => ?_⟩⟩
    have hfoH : H fo = none := (same_upd he0).free hfo
    have nef : e0 ≠ fo := fun z => by rw [← z, upd_same] at hfo; cases hfo
    let Inv1 : List (Addr × List Int) → (List Int → Prop) → Hp → Prop := fun ws M H2 => H2 fo = some (.lst (ws.map fun z => V.ref z.1)) ∧ (∀ z ∈ ws, H z.1 = none ∧ H2 z.1 = some (.lst (z.2.map V.int)) ∧ z.1 ≠ fo) ∧ (ws.map (·.2)).Nodup ∧ (∀ x, x ∈ ws.map (·.2) ↔ M x) ∧ Same H H2
    let M1 : Nat → List Int → Prop := fun i x => x = [] ∨ ∃ z ∈ zs.take i, ∃ k, 1 ≤ k ∧ k < z.2.length ∧ x = z.2.take k ∧ lacks (zs.map (·.2)) x = true
    refine ⟨_, rfl, bl, rfl, ⟨_, SqL.of ((same_upd he0).trans (same_upd hfo) _ _ hb)⟩, for_list (K := K) (a := bl) (xs := zs.map fun z => V.ref z.1) (fun i σ H2 => ∃ (v2 v3 v4 : Option V) (ws : List (Addr × List Int)), σ = [some (.ref bl), some (.ref fo), v2, v3, v4] ∧ Inv1 ws (M1 i) H2 ∧ ws.length ≤ 1 + 3 * i)
      ⟨none, none, none, [(e0, [])], rfl, ⟨upd_same, fun z hz' => ?_, by simp, fun x => ?_, (same_upd he0).trans (same_upd hfo)⟩, by simp⟩ (fun i σ H2 _ ⟨_, _, _, _, _, ⟨_, _, _, _, e⟩, _⟩ => SqL.of (e _ _ hb)) ?_ ?_⟩
    · have e : z = (e0, []) := by simpa using hz'
      subst e
      exact ⟨he0, by rw [upd_ne nef, upd_same]; rfl, nef⟩
    · constructor
      · intro hx
        exact .inl (by simpa using hx)
      · rintro (rfl | ⟨z, hz', _⟩)
        · simp
        · simp at hz'
    · rintro i x σ H2 hx ⟨v2, v3, v4, ws, rfl, ⟨hF, hW, ndW, hM, sm⟩, hlen⟩
      rw [List.getElem?_map] at hx
      obtain ⟨z, hzj, e⟩ := Option.map_eq_some_iff.mp hx
      subst e
      have hzm := List.mem_of_getElem? hzj
      have hi4 : i < zs.length := (List.getElem?_eq_some_iff.mp hzj).1
      obtain ⟨hne, hz4⟩ := hst z hzm
      have hpos : 0 < z.2.length := List.length_pos_iff.mpr hne
      refine ⟨_, rfl, z.1, _, rfl, .inl (SqL.of (sm _ _ (hz z hzm))), 1, _, rfl, ?_, ?_⟩
      · rw [List.length_map]; omega
      rw [List.length_map]
      refine for_range (lo := 1) (n := ((z.2.length : Int) - 1).toNat) (fun j σ H3 => ∃ (v3 v4 : Option V) (ws : List (Addr × List Int)), σ = [some (.ref bl), some (.ref fo), some (.ref z.1), v3, v4] ∧ Inv1 ws (fun x => M1 i x ∨ ∃ k, 1 ≤ k ∧ k ≤ j ∧ x = z.2.take k ∧ lacks (zs.map (·.2)) x = true) H3 ∧ ws.length ≤ 1 + 3 * i + j)
        ⟨_, _, ws, rfl, ⟨hF, hW, ndW, fun x => ?_, sm⟩, hlen⟩ ?_ ?_
      · rw [hM]
        constructor
        · exact .inl
        · rintro (h | ⟨k, h1, h2, _⟩)
          · exact h
          · omega
      · rintro j σ H3 hj ⟨v3, v4, ws, rfl, ⟨hF, hW, ndW, hM, sm⟩, hlen⟩
        have hj' : j + 1 < z.2.length := by omega
        refine ⟨_, rfl, _, rfl, _, rfl, z.1, _, rfl, SqL.of (sm _ _ (hz z hzm)), fun p hp => ?_⟩
        rw [show (1 : Int) + (j : Int) = ((j + 1 : Nat) : Int) by omega, cutV_upto, ← List.map_take]
        have sm2 := sm.trans (same_upd hp (o := .lst ((z.2.take (j + 1)).map V.int)))
        have hF2 : (upd H3 p (.lst ((z.2.take (j + 1)).map V.int))) fo = some (.lst (ws.map fun z => V.ref z.1)) := same_upd hp _ _ hF
        have hW2 : ∀ y ∈ ws, H y.1 = none ∧ (upd H3 p (.lst ((z.2.take (j + 1)).map V.int))) y.1 = some (.lst (y.2.map V.int)) ∧ y.1 ≠ fo := fun y hy => ⟨(hW y hy).1, same_upd hp _ _ (hW y hy).2.1, (hW y hy).2.2⟩
        have npf : p ≠ fo := fun y => by rw [y, hF] at hp; cases hp
        have hpH : H p = none := sm.free hp
        generalize hx : z.2.take (j + 1) = x at *
        have hxl : x.length ≤ 4 := by rw [← hx, List.length_take]; omega
        have stay : (x ∈ ws.map (·.2) ∨ lacks (zs.map (·.2)) x = false) → ∀ y, y ∈ ws.map (·.2) ↔ (M1 i y ∨ ∃ k, 1 ≤ k ∧ k ≤ j + 1 ∧ y = z.2.take k ∧ lacks (zs.map (·.2)) y = true) := fun hor y => by
          constructor
          · intro hy
            rcases (hM y).mp hy with h | ⟨k, h1, h2, h3⟩
            · exact .inl h
            · exact .inr ⟨k, h1, by omega, h3⟩
          · rintro (h | ⟨k, h1, h2, h3, h4⟩)
            · exact (hM y).mpr (.inl h)
            · by_cases hk : k ≤ j
              · exact (hM y).mpr (.inr ⟨k, h1, hk, h3, h4⟩)
              · have : k = j + 1 := by omega
                rw [this, hx] at h3
                rw [h3] at h4 ⊢
                rcases hor with h | h
                · exact h
                · rw [h] at h4; cases h4
        refine ⟨_, rfl, _, rfl, fo, _, (ws.map (·.2)).map tInts, tInts x, rfl, SqL.of hF2, TrsAt.lists (fun y hy => (hW2 y hy).2.1), TrAt.ints (a := p) (SqL.of upd_same), Nat.le_trans (tdeps_tInts _) (by decide), _, rfl, ?_⟩
        rw [if_pos rfl, notin_any]
        by_cases hin : x ∈ ws.map (·.2)
        · rw [decide_eq_true hin]
          refine iteF ?_
          exact iteF ⟨_, _, ws, rfl, ⟨hF2, hW2, ndW, stay (.inl hin), sm2⟩, by omega⟩
        · rw [decide_eq_false hin]
          refine iteT ?_
          refine ⟨_, rfl, _, rfl, bl, p, zs, x, rfl, sm2 _ _ hb, fun y hy => sm2 _ _ (hz y hy), upd_same, by omega, by omega, fun y hy => ⟨(hst y hy).1, Nat.le_trans (hst y hy).2 (by decide)⟩, fun H4 s4 => ⟨_, rfl, ?_⟩⟩
          have sm4 := sm2.trans s4
          have hF4 := s4 _ _ hF2
          have hW4 : ∀ y ∈ ws, H y.1 = none ∧ H4 y.1 = some (.lst (y.2.map V.int)) ∧ y.1 ≠ fo := fun y hy => ⟨(hW2 y hy).1, s4 _ _ (hW2 y hy).2.1, (hW2 y hy).2.2⟩
          have hp4 := s4 _ _ (upd_same (H := H3) (a := p) (o := .lst (x.map V.int)))
          cases hLk : lacks (zs.map (·.2)) x with
          | false => exact iteF ⟨_, _, ws, rfl, ⟨hF4, hW4, ndW, stay (.inr hLk), sm4⟩, by omega⟩
          | true =>
            refine iteT ⟨_, rfl, .inl ⟨rfl, _, SqL.of hF4⟩, _, rfl, fo, _, _, rfl, rfl, hF4, by rw [List.length_map]; exact Nat.lt_of_le_of_lt (show ws.length ≤ 100 by omega) (by decide), ?_⟩
            refine ⟨_, _, ws ++ [(p, x)], rfl, ⟨by rw [upd_same, List.map_append]; rfl, fun y hy => ?_, ?_, fun y => ?_, same_put sm4 hfoH⟩, by rw [List.length_append, List.length_singleton]; omega⟩
            · rcases List.mem_append.mp hy with hy | hy
              · obtain ⟨a1, a2, a3⟩ := hW4 y hy
                exact ⟨a1, by rw [upd_ne a3]; exact a2, a3⟩
              · rw [List.mem_singleton.mp hy]
                exact ⟨hpH, by rw [upd_ne npf]; exact hp4, npf⟩
            · rw [List.map_append]
              refine List.nodup_append.mpr ⟨ndW, by simp, fun a ha b hb' => ?_⟩
              have e : b = x := by simpa using hb'
              rw [e]
              exact fun q => hin (q ▸ ha)
            · rw [List.map_append, List.mem_append]
              constructor
              · rintro (h | h)
                · rcases (hM y).mp h with h | ⟨k, h1, h2, h3⟩
                  · exact .inl h
                  · exact .inr ⟨k, h1, by omega, h3⟩
                · have e : y = x := by simpa using h
                  rw [e]
                  exact .inr ⟨j + 1, by omega, Nat.le_refl _, hx.symm, hLk⟩
              · rintro (h | ⟨k, h1, h2, h3, h4⟩)
                · exact .inl ((hM y).mpr (.inl h))
                · by_cases hk : k ≤ j
                  · exact .inl ((hM y).mpr (.inr ⟨k, h1, hk, h3, h4⟩))
                  · have : k = j + 1 := by omega
                    rw [this, hx] at h3
                    exact .inr (by simp [h3])
      · rintro σ H3 ⟨v3, v4, ws, rfl, ⟨hF, hW, ndW, hM, sm⟩, hlen⟩
        refine ⟨_, _, _, ws, rfl, ⟨hF, hW, ndW, fun x => ?_, sm⟩, by omega⟩
        rw [hM]
        constructor
        · rintro ((h | ⟨y, hy, h⟩) | ⟨k, h1, h2, h3⟩)
          · exact .inl h
          · exact .inr ⟨y, by rw [List.take_succ]; exact List.mem_append_left _ hy, h⟩
          · exact .inr ⟨z, by rw [List.take_succ, hzj]; simp, k, h1, by omega, h3⟩
        · rintro (h | ⟨y, hy, k, h1, h2, h3⟩)
          · exact .inl (.inl h)
          · rw [List.take_succ, hzj] at hy
            rcases List.mem_append.mp hy with hy | hy
            · exact .inl (.inr ⟨y, hy, k, h1, h2, h3⟩)
            · have e : y = z := by simpa using hy
              rw [e] at h2 h3
              exact .inr ⟨k, h1, by omega, h3⟩
    · rintro σ H2 ⟨v2, v3, v4, ws, rfl, ⟨hF, hW, ndW, hM, sm⟩, hlen⟩
      rw [List.length_map] at hM hlen
      refine ⟨_, rfl, fo, ws, rfl, hF, fun z hz' => (hW z hz').2.1, ndW, by omega, hLT.same sm, fun D ws' H3 hD hD3 up lt pm pw => ?_⟩
      have lt2 := hLT.same sm
      have inw : ∀ z ∈ ws', z ∈ ws := fun z hz' => pm.mem_iff.mp hz'
      refine kk D ws' _ (sm.free hD) upd_same (fun z hz' => ?_) ⟨fun x => ?_, by rw [List.pairwise_map]; exact pw⟩ (by rw [pm.length_eq]; omega) (fun b u hb' e => ?_) ?_
      · obtain ⟨a1, a2, a3⟩ := hW z (inw z hz')
        have n1 : z.1 ≠ D := ne_of_none a2 hD
        exact ⟨a1, by rw [upd_ne n1]; exact up _ _ (lt2.lst a2) a2, n1⟩
      · have e : x ∈ ws'.map (·.2) ↔ x ∈ ws.map (·.2) := (pm.map (·.2)).mem_iff
        rw [e, hM]
        show (x = [] ∨ _) ↔ (x = [] ∨ _)
        constructor
        · rintro (h | ⟨z, hz', k, h1, h2, h3, h4⟩)
          · exact .inl h
          · rw [List.take_length] at hz'
            exact .inr ⟨z.2, List.mem_map.mpr ⟨z, hz', rfl⟩, k, h1, h2, h3, h4⟩
        · rintro (h | ⟨st, hst', k, h1, h2, h3, h4⟩)
          · exact .inl h
          · obtain ⟨z, hz', rfl⟩ := List.mem_map.mp hst'
            exact .inr ⟨z, by rw [List.take_length]; exact hz', k, h1, h2, h3, h4⟩
      · have q := up b u hb' (sm _ _ e)
        rw [upd_ne (ne_of_none q hD3)]; exact q
      · exact LT.same (show LT T0 H3 from lt) (same_upd hD3)
end
end Lw
set_option Elab.async false
set_option linter.all false
set_option maxRecDepth 100000
namespace Lw
open PySem L2 PyProof.Rows
section
variable {P : Program} {w : World} {K : PySem.W.Frag} {mg : Str → Option Value} {base : Heap}
def sp__law_lacks : Sp := fun vs H Q _ => ∃ (bl fa : Addr) (zs : List (Addr × List Int)) (fs : List Int), vs = [.ref bl, .ref fa] ∧ H bl = some (.lst (zs.map fun z => V.ref z.1)) ∧ (∀ z ∈ zs, H z.1 = some (.lst (z.2.map V.int))) ∧ H fa = some (.lst (fs.map V.int)) ∧ zs.length ≤ 100 ∧ fs.length ≤ 1000 ∧ ∀ H', Same H H' → Q (.bl (lacks (zs.map (·.2)) fs)) H'
theorem lacks_no {ls : List (List Int)} {fs st : List Int} {k : Nat} (h : st ∈ ls) (hk : k < fs.length) (e : (fs.drop k).take st.length = st) : lacks ls fs = false := by
  unfold lacks
  have : (ls.any fun st => hasS st fs) = true := by
    rw [List.any_eq_true]
    refine ⟨st, h, ?_⟩
    unfold hasS
    rw [List.any_eq_true]
    exact ⟨k, List.mem_range.mpr hk, decide_eq_true e⟩
  rw [this]; rfl
theorem lacks_yes {ls : List (List Int)} {fs : List Int} (h : ∀ k, k < fs.length → ∀ st ∈ ls, (fs.drop k).take st.length ≠ st) : lacks ls fs = true := by
  unfold lacks
  have : (ls.any fun st => hasS st fs) = false := by
    rw [List.any_eq_false]
    intro st hst
    unfold hasS
    intro q
    rw [List.any_eq_true] at q
    obtain ⟨k, hk, e⟩ := q
    exact h k (List.mem_range.mp hk) st hst (of_decide_eq_true e)
  rw [this]; rfl
theorem sc__law_lacks : FnScope ["bad", "figures", "at", "one"] ["bad", "figures"] (defScope s__law_lacks) := ⟨rfl, rfl, rfl, by decide +kernel, rfl, by decide +kernel, by decide +kernel⟩
theorem ok__law_lacks {f : Addr} {fd : FuncData} (D : Df K mg "_law_lacks" s__law_lacks ["bad", "figures"] f fd) (T : Blt mg) : FnOk P w K mg base CX0 1 f fd ["bad", "figures"] sp__law_lacks := by
  refine D.fn.ok sc__law_lacks (fun vs H Q E h => ?_) (fun cdv A outer s H vs Q E hr h => ?_)
  · obtain ⟨bl, fa, zs, fs, rfl, _⟩ := h; rfl
  · obtain ⟨bl, fa, zs, fs, rfl, hb, hz, hf, hl1, hl2, kk⟩ := h
    have HU := HUof hr
    refine ⟨_, (pss_cons (ps_for PassesOwn.never rfl (pi_range1 rfl T.n_range (pa_cons (pe_callB (k_len K) (by rfl) T.n_len PySem.boot_len (pa_cons (pv 1) pa_nil)) pa_nil)) (pg_name (i := 2) sc__law_lacks.nd rfl (Or.inl rfl))
        (pss_one (ps_for PassesOwn.never rfl (k_pi K (pv 0)) (pg_name (i := 3) sc__law_lacks.nd rfl (Or.inl rfl))
          (pss_one (ps_if (pt_cmpR (k_eqT K HU) (pe_slice (k_slL K) (pv 1) (po_some (pv 2)) (po_some (pe_op op_add (pv 2) (pe_callB (k_len K) (by rfl) T.n_len PySem.boot_len (pa_cons (pv 3) pa_nil))))) (pv 3) (nomark _))
            (pss_one (ps_ret pe_bl))
            pss_nil)))))
      (pss_one (ps_ret pe_bl))), ?_⟩
    refine ⟨_, rfl, fa, _, rfl, .inl (SqL.of hf), (((fs.map V.int).length : Nat) : Int), rfl, by rw [List.length_map]; omega, by rw [List.length_map]; omega, for_range (lo := 0) (n := (((fs.map V.int).length : Nat) : Int).toNat) (fun i σ H2 => ∃ v1 v2 : Option V, σ = [some (.ref bl), some (.ref fa), v1, v2] ∧ Same H H2 ∧ ∀ k, k < i → ∀ z ∈ zs, (fs.drop k).take z.2.length ≠ z.2) ⟨none, none, rfl, Same.refl _, fun k hk => by omega⟩ ?_ ?_⟩
    · rintro i σ H2 hi ⟨v1, v2, rfl, s2, hno⟩
      have hi' : i < fs.length := by rw [List.length_map] at hi; omega
      refine ⟨_, rfl, bl, rfl, ⟨_, SqL.of (s2 _ _ hb)⟩, for_list (K := K) (a := bl) (xs := zs.map fun z => V.ref z.1) (fun j σ H3 => ∃ v2 : Option V, σ = [some (.ref bl), some (.ref fa), some (.int (0 + (i : Int))), v2] ∧ Same H H3 ∧ ∀ z ∈ zs.take j, (fs.drop i).take z.2.length ≠ z.2) ⟨_, rfl, s2, by simp⟩ (fun j σ H3 _ ⟨_, _, e, _⟩ => SqL.of (e _ _ hb)) ?_ ?_⟩
      · rintro j x σ H3 hx ⟨v2, rfl, s3, hno2⟩
        rw [List.getElem?_map] at hx
        obtain ⟨z, hzj, e⟩ := Option.map_eq_some_iff.mp hx
        subst e
        have hzm := List.mem_of_getElem? hzj
        refine ⟨_, rfl, _, rfl, _, rfl, _, rfl, _, rfl, z.1, _, rfl, .inl (SqL.of (s3 _ _ (hz z hzm))), _, _, rfl, rfl, _, rfl, fa, _, rfl, SqL.of (s3 _ _ hf), fun p hp => ?_⟩
        have e1 : cutV (fs.map V.int) (some (0 + (i : Int))) (some (0 + (i : Int) + (((z.2.map V.int).length : Nat) : Int))) = ((fs.drop i).take z.2.length).map V.int := by
          have e : (0 + (i : Int) + (((z.2.map V.int).length : Nat) : Int)) = ((i + z.2.length : Nat) : Int) := by rw [List.length_map]; omega
          rw [e, Int.zero_add, cutV_nat, List.map_take, List.map_drop, Nat.add_sub_cancel_left]
        rw [e1]
        refine ⟨_, rfl, tInts ((fs.drop i).take z.2.length), tInts z.2, TrAt.ints (a := p) (SqL.of upd_same), TrAt.ints (a := z.1) (SqL.of (same_upd hp _ _ (s3 _ _ (hz z hzm)))), (by rw [tdep_tInts]; decide), _, rfl, ?_⟩
        have s4 := s3.trans (same_upd hp (o := .lst (((fs.drop i).take z.2.length).map V.int)))
        show if teq (tInts ((fs.drop i).take z.2.length)) (tInts z.2) = true then _ else _
        rw [teq_ints]
        by_cases hq : (fs.drop i).take z.2.length = z.2
        · rw [decide_eq_true hq]
          refine iteT ?_
          have q := kk _ s4
          rw [lacks_no (List.mem_map.mpr ⟨z, hzm, rfl⟩) hi' hq] at q
          exact q
        · rw [decide_eq_false hq]
          refine iteF ?_
          refine ⟨_, rfl, s4, fun y hy => ?_⟩
          rw [List.take_succ, hzj] at hy
          rcases List.mem_append.mp hy with hy | hy
          · exact hno2 y hy
          · have e : y = z := by simpa using hy
            rw [e]; exact hq
      · rintro σ H3 ⟨v2, rfl, s3, hno2⟩
        rw [List.length_map, List.take_length] at hno2
        refine ⟨_, _, rfl, s3, fun k hk => ?_⟩
        by_cases hki : k < i
        · exact hno k hki
        · have : k = i := by omega
          subst this
          exact hno2
    · rintro σ H2 ⟨v1, v2, rfl, s2, hno⟩
      have q := kk _ s2
      rw [lacks_yes (ls := zs.map (·.2)) (fun k hk st hst => by
        obtain ⟨z, hz, rfl⟩ := List.mem_map.mp hst
        exact hno k (by rw [List.length_map]; omega) z hz)] at q
      exact q
end
end Lw
set_option Elab.async false
set_option linter.all false
set_option maxRecDepth 100000
namespace Lw
open PySem L2 PyProof.Rows
theorem ruleT_good {b : Nat} {ls : List (List Int)} (g : GoodRule b ls) : ruleT (.tuple [.int b, .list (ls.map fun l => .list (l.map .int))]) = true := by
  have hb : baseT (.int b) = true := decide_eq_true (by have := g.b2; have := g.b16; omega)
  have hs : ∀ l ∈ ls, stretchT b (.list (l.map .int)) = true := fun l hl => by
    have s := g.st l hl
    have h1 : figsT b (.list (l.map .int)) = true := by
      show (l.map PyData.int).all (figT b) = true
      rw [List.all_eq_true]
      intro x hx
      obtain ⟨i, hi, rfl⟩ := List.mem_map.mp hx
      exact decide_eq_true (s.fig i hi)
    have h2 : (eltsT (.list (l.map .int))).length = l.length := List.length_map ..
    unfold stretchT
    rw [h1, h2, Bool.true_and]
    exact decide_eq_true ⟨List.length_pos_iff.mpr s.ne, s.len⟩
  have hi : (ls.map fun l => PyData.list (l.map .int)).map intsT = ls := by
    rw [List.map_map]
    conv => rhs; rw [← List.map_id ls]
    refine List.map_congr_left fun l _ => ?_
    show (l.map PyData.int).map intT = l
    rw [List.map_map]
    conv => rhs; rw [← List.map_id l]
    rfl
  show (baseT (.int b) && badT b (.list (ls.map fun l => .list (l.map .int)))) = true
  rw [hb, Bool.true_and]
  show (decide ((ls.map fun l => PyData.list (l.map .int)).length ≤ 4) && ((ls.map fun l => PyData.list (l.map .int)).all (stretchT b) && risingL ((ls.map fun l => PyData.list (l.map .int)).map intsT))) = true
  rw [hi, List.length_map, decide_eq_true g.len, Bool.true_and, Bool.and_eq_true]
  refine ⟨?_, ?_⟩
  · rw [List.all_eq_true]
    intro x hx
    obtain ⟨l, hl, rfl⟩ := List.mem_map.mp hx
    exact hs l hl
  · unfold risingL
    rw [List.all_eq_true]
    intro k hk
    have hk := List.mem_range.mp hk
    rw [List.getD_eq_getElem?_getD, List.getD_eq_getElem?_getD, List.getElem?_eq_getElem (show k < ls.length by omega), List.getElem?_eq_getElem (show k + 1 < ls.length by omega)]
    exact List.pairwise_iff_getElem.mp g.up k (k + 1) (by omega) (by omega) (by omega)
theorem RuleAt.th {H : Hp} {r bl : Addr} {b : Nat} {zs : List (Addr × List Int)} (R : RuleAt H r b bl zs) : ThAt H (.tuple [.int b, .list ((zs.map (·.2)).map fun l => .list (l.map .int))]) (.ref r) := by
  rw [ThAt]
  refine ⟨r, _, rfl, R.tu, ?_⟩
  rw [ThsAt]
  refine ⟨_, _, rfl, by rw [ThAt], ?_⟩
  rw [ThsAt]
  refine ⟨_, _, rfl, ?_, by rw [ThsAt]⟩
  rw [ThAt]
  refine ⟨bl, _, rfl, R.li, ?_⟩
  rw [List.map_map]
  exact ThsAt.map fun z hz => ThAt.ints (R.st z hz)
theorem RuleAt.thing {H : Hp} {r bl : Addr} {b : Nat} {zs : List (Addr × List Int)} (R : RuleAt H r b bl zs) (g : GoodRule b (zs.map (·.2))) : ∃ d, ThAt H d (.ref r) ∧ ruleT d = true ∧ Fit 3 5000 d := by
  have h := R.th
  refine ⟨_, h, ruleT_good g, Th.fit ?_ h⟩
  have hl := g.len
  rw [List.length_map] at hl
  have b16 := g.b16
  have hz : ∀ z ∈ zs, Th H 1 404 (.ref z.1) := fun z hz => by
    have s := g.st _ (List.mem_map.mpr ⟨z, hz, rfl⟩)
    refine Th.ints (R.st z hz) (fun i hi => by have := s.fig i hi; omega) (by have := s.len; omega)
  have hb : Th H 2 1620 (.ref bl) := Th.lst R.li (fun v hv => by
    obtain ⟨z, hz', rfl⟩ := List.mem_map.mp hv
    exact hz z hz') (by rw [List.length_map]; omega)
  refine Th.tup (k := 2) (n := 1620) R.tu (fun v hv => ?_) (by show 1621 * 2 ≤ 5000; decide)
  simp only [List.mem_cons, List.not_mem_nil, or_false] at hv
  rcases hv with rfl | rfl
  · exact Th.int (by omega) (by decide)
  · exact hb
theorem stretch_of {b : Int} {d : PyData} (h : stretchT b d = true) : ∃ l : List Int, d = .list (l.map .int) ∧ l ≠ [] ∧ l.length ≤ 4 ∧ ∀ i ∈ l, 0 ≤ i ∧ i < b := by
  unfold stretchT at h
  rw [Bool.and_eq_true] at h
  obtain ⟨h1, h2⟩ := h
  have h2 := of_decide_eq_true h2
  cases d with
  | list xs =>
    have h1 : xs.all (figT b) = true := h1
    rw [List.all_eq_true] at h1
    have h2 : 1 ≤ xs.length ∧ xs.length ≤ 4 := h2
    have hx : ∀ x ∈ xs, x = .int (intT x) ∧ 0 ≤ intT x ∧ intT x < b := fun x hx => by
      have q := h1 x hx
      cases x with
      | int i => exact ⟨rfl, of_decide_eq_true q⟩
      | _ => cases q
    refine ⟨xs.map intT, ?_, fun z => ?_, by rw [List.length_map]; exact h2.2, fun i hi => ?_⟩
    · rw [List.map_map]
      conv => lhs; rw [← List.map_id xs]
      exact congrArg PyData.list (List.map_congr_left fun x hx' => (hx x hx').1)
    · have : xs.length = 0 := by rw [← List.length_map (f := intT), z]; rfl
      omega
    · obtain ⟨x, hx', rfl⟩ := List.mem_map.mp hi
      exact (hx x hx').2
  | _ => cases h1
theorem ths_lists {H : Hp} {b : Int} : ∀ {xs : List PyData} {ys : List V}, ThsAt H xs ys → xs.all (stretchT b) = true → ∃ zs : List (Addr × List Int), ys = zs.map (fun z => V.ref z.1) ∧ xs.map intsT = zs.map (·.2) ∧ (∀ z ∈ zs, H z.1 = some (.lst (z.2.map V.int))) ∧ ∀ z ∈ zs, z.2 ≠ [] ∧ z.2.length ≤ 4 ∧ ∀ i ∈ z.2, 0 ≤ i ∧ i < b
  | [], ys, h, _ => by rw [ThsAt] at h; subst h; exact ⟨[], rfl, rfl, by simp, by simp⟩
  | d :: ds, ys, h, g => by
    rw [ThsAt] at h
    obtain ⟨y, us, rfl, h1, h2⟩ := h
    rw [List.all_cons, Bool.and_eq_true] at g
    obtain ⟨zs, rfl, e, h3, h4⟩ := ths_lists h2 g.2
    obtain ⟨l, rfl, l1, l2, l3⟩ := stretch_of g.1
    rw [ThAt] at h1
    obtain ⟨a, vs, rfl, h5, h6⟩ := h1
    have ev : vs = l.map V.int := by
      clear l1 l2 l3 h5 g
      induction l generalizing vs with
      | nil => rw [List.map_nil, ThsAt] at h6; exact h6
      | cons i l ih =>
        rw [List.map_cons, ThsAt] at h6
        obtain ⟨y, us, rfl, q1, q2⟩ := h6
        rw [ThAt] at q1
        rw [q1, ih us q2]; rfl
    subst ev
    refine ⟨(a, l) :: zs, rfl, ?_, fun z hz => ?_, fun z hz => ?_⟩
    · rw [List.map_cons, List.map_cons, e]
      congr 1
      show (l.map PyData.int).map intT = l
      rw [List.map_map]
      conv => rhs; rw [← List.map_id l]
      rfl
    · rcases List.mem_cons.mp hz with rfl | hz
      · exact h5
      · exact h3 z hz
    · rcases List.mem_cons.mp hz with rfl | hz
      · exact ⟨l1, l2, l3⟩
      · exact h4 z hz
theorem rise_pair : ∀ {ls : List (List Int)}, risingL ls = true → ls.Pairwise fun x y => HT.lexLt x y = true := by
  intro ls h
  unfold risingL at h
  rw [List.all_eq_true] at h
  have nxt : ∀ k, (hk : k + 1 < ls.length) → HT.lexLt (ls[k]'(by omega)) ls[k + 1] = true := fun k hk => by
    have q := h k (List.mem_range.mpr (by omega))
    rwa [List.getD_eq_getElem?_getD, List.getD_eq_getElem?_getD, List.getElem?_eq_getElem (show k < ls.length by omega), List.getElem?_eq_getElem hk] at q
  refine List.pairwise_iff_getElem.mpr fun i j hi hj hij => ?_
  obtain ⟨n, rfl⟩ : ∃ n, j = i + 1 + n := ⟨j - (i + 1), by omega⟩
  induction n with
  | zero => exact nxt i hj
  | succ n ih => exact HT.lexLt_trans _ _ _ (ih (by omega) (by omega)) (nxt (i + 1 + n) hj)
theorem th_rule {H : Hp} {d : PyData} {v : V} (h : ThAt H d v) (hr : ruleT d = true) : ∃ (r : Addr) (b : Nat) (bl : Addr) (zs : List (Addr × List Int)), v = .ref r ∧ RuleAt H r b bl zs ∧ GoodRule b (zs.map (·.2)) := by
  have go : ∀ e l, d = .tuple [e, l] → ∃ (r : Addr) (b : Nat) (bl : Addr) (zs : List (Addr × List Int)), v = .ref r ∧ RuleAt H r b bl zs ∧ GoodRule b (zs.map (·.2)) := by
    rintro e l rfl
    have hr : (baseT e && badT (intT e) l) = true := hr
    rw [Bool.and_eq_true] at hr
    obtain ⟨h1, h2⟩ := hr
    cases e with
    | int i =>
      have h1 : 2 ≤ i ∧ i ≤ 16 := of_decide_eq_true h1
      cases l with
      | list xs =>
        have h2 : (decide (xs.length ≤ 4) && (xs.all (stretchT i) && risingL (xs.map intsT))) = true := h2
        rw [Bool.and_eq_true, Bool.and_eq_true] at h2
        obtain ⟨h3, h4, h5⟩ := h2
        have h3 := of_decide_eq_true h3
        rw [ThAt] at h
        obtain ⟨a, ys, rfl, h6, h7⟩ := h
        rw [ThsAt] at h7
        obtain ⟨y, us, rfl, h8, h7⟩ := h7
        rw [ThAt] at h8
        rw [ThsAt] at h7
        obtain ⟨z, ws, rfl, h9, h7⟩ := h7
        rw [ThsAt] at h7
        subst h7 h8
        rw [ThAt] at h9
        obtain ⟨bl, vs, rfl, g1, g2⟩ := h9
        obtain ⟨zs, rfl, e, g3, g4⟩ := ths_lists g2 h4
        rw [e] at h5
        have hn : ((i.toNat : Nat) : Int) = i := by omega
        refine ⟨a, i.toNat, bl, zs, rfl, ⟨by rw [hn]; exact h6, g1, g3⟩, ⟨by omega, by omega, ?_, fun l hl => ?_, rise_pair h5⟩⟩
        · rw [← e, List.length_map]; exact h3
        · obtain ⟨z, hz, rfl⟩ := List.mem_map.mp hl
          obtain ⟨q1, q2, q3⟩ := g4 z hz
          exact ⟨q1, q2, fun f hf => by rw [hn]; exact q3 f hf⟩
      | _ => cases h2
    | _ => cases h1
  cases d with
  | tuple xs =>
    match xs, hr with
    | [e, l], _ => exact go e l rfl
    | [], hr => cases hr
    | [_], hr => cases hr
    | _ :: _ :: _ :: _, hr => cases hr
  | _ => cases hr
section
variable {P : Program} {w : World} {K : PySem.W.Frag} {mg : Str → Option Value} {base : Heap}
def sp_check_rule (CNoRule : Addr) : Sp := fun vs H Q E => ∃ (v : V) (d : PyData), vs = [v] ∧ ThAt H d v ∧ sizT d ≤ 100000 ∧ (ruleT d = false → ∀ H', Same H H' → E (.ref CNoRule) none H') ∧ (ruleT d = true → ∀ H', Same H H' → Q .non H')
theorem sc_check_rule : FnScope ["thing"] ["thing"] (defScope s_check_rule) := ⟨rfl, rfl, rfl, by decide +kernel, rfl, by decide +kernel, by decide +kernel⟩
theorem ok_check_rule {CNoRule : Addr} {f f1 : Addr} {fd fd1 : FuncData} (D : Df K mg "check_rule" s_check_rule ["thing"] f fd) (Dis_rule : Df K mg "is_rule" s_is_rule ["thing"] f1 fd1) (Gis_rule : FnOk P w K mg base CX0 6 f1 fd1 ["thing"] sp_is_rule) (x_NoRule : ExcC K mg "NoRule" CNoRule) : FnOk P w K mg base (CX1 P w) 7 f fd ["thing"] (sp_check_rule CNoRule) := by
  refine D.fn.ok1 sc_check_rule (fun vs H Q E h => ?_) (fun cdv A outer s H vs Q E hr h => ?_)
  · obtain ⟨v, d, rfl, _⟩ := h; rfl
  · obtain ⟨v, d, rfl, hd, hs, kNo, kOk⟩ := h
    refine ⟨_, (pss_one (ps_if (pt_not (pt_val (pcall Dis_rule Gis_rule (hr.mono (by decide)) (pa_cons (pv 0) pa_nil))))
        (pss_one (ps_raise x_NoRule pass_new rfl (pa_cons pe_str pa_nil)))
        pss_nil)), ?_⟩
    refine ⟨_, rfl, v, d, rfl, hd, hs, fun H1 m1 => ⟨_, rfl, ?_⟩⟩
    cases hr : ruleT d with
    | false => exact iteT ⟨by show 1 ≤ sizeLine; decide, kNo hr _ m1⟩
    | true => exact iteF (kOk hr _ m1)
end
theorem len_wt : ∀ ds : List PyData, ds.length ≤ PyData.weightAll ds
  | [] => Nat.zero_le _
  | d :: ds => by rw [PyData.weightAll, List.length_cons]; have := len_wt ds; omega
mutual
theorem siz_wt : ∀ d : PyData, sizT d ≤ d.weight
  | .none => by rw [sizT.eq_def]; exact Nat.zero_le _
  | .bool _ => by rw [sizT.eq_def]; exact Nat.zero_le _
  | .int _ => by rw [sizT.eq_def]; exact Nat.zero_le _
  | .str _ => by rw [sizT.eq_def]; exact Nat.zero_le _
  | .list xs => by rw [sizT, PyData.weight]; have := len_wt xs; have := sizs_wt xs; omega
  | .tuple xs => by rw [sizT, PyData.weight]; have := len_wt xs; have := sizs_wt xs; omega
  | .dict _ => by rw [sizT.eq_def]; exact Nat.zero_le _
theorem sizs_wt : ∀ ds : List PyData, sizTs ds ≤ PyData.weightAll ds
  | [] => by rw [sizTs]; exact Nat.zero_le _
  | d :: ds => by rw [sizTs, PyData.weightAll]; have := siz_wt d; have := sizs_wt ds; omega
end
end Lw
set_option Elab.async false
set_option linter.all false
set_option maxRecDepth 100000
namespace Lw
open PySem L2 PyProof.Rows
def addS (ls F : List (List Int)) (x : List Int) : List (List Int) := if x ∈ F then F else if lacks ls x = true then F ++ [x] else F
def partS (ls : List (List Int)) (st : List Int) : Nat → List (List Int) → List (List Int)
  | 0, F => F
  | j + 1, F => addS ls (partS ls st j F) (st.take (j + 1))
def allF (ls : List (List Int)) (xs : List (List Int)) : List (List Int) := xs.foldl (fun F st => partS ls st (st.length - 1) F) [[]]
theorem mem_addS {ls F : List (List Int)} {x y : List Int} : y ∈ addS ls F x ↔ y ∈ F ∨ (y = x ∧ lacks ls y = true) := by
  unfold addS
  by_cases h : x ∈ F
  · rw [if_pos h]
    exact ⟨.inl, fun z => z.elim id fun z => by rw [z.1]; exact h⟩
  · rw [if_neg h]
    by_cases h2 : lacks ls x = true
    · rw [if_pos h2, List.mem_append, List.mem_singleton]
      exact ⟨fun z => z.imp id fun z => ⟨z, by rw [z]; exact h2⟩, fun z => z.imp id fun z => z.1⟩
    · rw [if_neg h2]
      exact ⟨.inl, fun z => z.elim id fun z => absurd (by rw [← z.1]; exact z.2) h2⟩
theorem mem_partS {ls F : List (List Int)} {st y : List Int} : ∀ {j : Nat}, y ∈ partS ls st j F ↔ y ∈ F ∨ ∃ k, 1 ≤ k ∧ k ≤ j ∧ y = st.take k ∧ lacks ls y = true
  | 0 => ⟨.inl, fun z => z.elim id fun ⟨k, h1, h2, _⟩ => by omega⟩
  | j + 1 => by
    rw [partS, mem_addS, mem_partS]
    constructor
    · rintro ((h | ⟨k, h1, h2, h3⟩) | ⟨h1, h2⟩)
      · exact .inl h
      · exact .inr ⟨k, h1, by omega, h3⟩
      · exact .inr ⟨j + 1, by omega, by omega, h1, h2⟩
    · rintro (h | ⟨k, h1, h2, h3, h4⟩)
      · exact .inl (.inl h)
      · by_cases hk : k ≤ j
        · exact .inl (.inr ⟨k, h1, hk, h3, h4⟩)
        · exact .inr ⟨by rw [h3]; congr 1; omega, h4⟩
theorem mem_fold {ls : List (List Int)} {y : List Int} : ∀ {xs F : List (List Int)}, y ∈ xs.foldl (fun F st => partS ls st (st.length - 1) F) F ↔ y ∈ F ∨ ∃ st ∈ xs, ∃ k, 1 ≤ k ∧ k < st.length ∧ y = st.take k ∧ lacks ls y = true
  | [], F => by simp
  | st :: xs, F => by
    rw [List.foldl_cons, mem_fold, mem_partS]
    constructor
    · rintro ((h | ⟨k, h1, h2, h3⟩) | ⟨s, hs, h⟩)
      · exact .inl h
      · exact .inr ⟨st, by simp, k, h1, by omega, h3⟩
      · exact .inr ⟨s, by simp [hs], h⟩
    · rintro (h | ⟨s, hs, k, h1, h2, h3⟩)
      · exact .inl (.inl h)
      · rcases List.mem_cons.mp hs with rfl | hs
        · exact .inl (.inr ⟨k, h1, by omega, h3⟩)
        · exact .inr ⟨s, hs, k, h1, h2, h3⟩
theorem mem_allF {ls : List (List Int)} {y : List Int} : y ∈ allF ls ls ↔ isSt ls y := by
  unfold allF isSt
  rw [mem_fold, List.mem_singleton]
section
variable {P : Program} {w : World} {K : PySem.W.Frag} {mg : Str → Option Value} {base : Heap} {T0 : Addr}
def sp__law_all : Sp := fun vs H Q _ => ∃ (bl : Addr) (zs : List (Addr × List Int)), vs = [.ref bl] ∧ H bl = some (.lst (zs.map fun z => V.ref z.1)) ∧ (∀ z ∈ zs, H z.1 = some (.lst (z.2.map V.int))) ∧ zs.length ≤ 4 ∧ (∀ z ∈ zs, z.2 ≠ [] ∧ z.2.length ≤ 4) ∧
  ∀ (D : Addr) (ws : List (Addr × List Int)) (H' : Hp), H D = none → H' D = some (.lst (ws.map fun z => V.ref z.1)) → (∀ z ∈ ws, H z.1 = none ∧ H' z.1 = some (.lst (z.2.map V.int)) ∧ z.1 ≠ D) → ws.map (·.2) = allF (zs.map (·.2)) (zs.map (·.2)) → ws.length ≤ 13 → Same H H' → Q (.ref D) H'
theorem sc__law_all : FnScope ["bad", "found", "one", "size"] ["bad"] (defScope s__law_all) := ⟨rfl, rfl, rfl, by decide +kernel, rfl, by decide +kernel, by decide +kernel⟩
theorem ok__law_all {f f1 : Addr} {fd fd1 : FuncData} (D : Df K mg "_law_all" s__law_all ["bad"] f fd) (D_law_lacks : Df K mg "_law_lacks" s__law_lacks ["bad", "figures"] f1 fd1) (T : Blt mg) : FnOk P w K mg base CX0 2 f fd ["bad"] sp__law_all := by
  have G_law_lacks : FnOk P w K mg base CX0 1 f1 fd1 ["bad", "figures"] sp__law_lacks := ok__law_lacks D_law_lacks T
  refine D.fn.ok sc__law_all (fun vs H Q E h => ?_) (fun cdv A outer s H vs Q E hr h => ?_)
  · obtain ⟨bl, zs, rfl, _⟩ := h; rfl
  · obtain ⟨bl, zs, rfl, hb, hz, h4, hst, kk⟩ := h
    have HU := HUof hr
    refine ⟨_, (pss_cons (ps_set (i := 1) sc__law_all.nd rfl (Or.inl rfl) (pe_lst (pa_cons (pe_lst pa_nil) pa_nil)))
      (pss_cons (ps_for PassesOwn.never rfl (k_pi K (pv 0)) (pg_name (i := 2) sc__law_all.nd rfl (Or.inl rfl))
        (pss_one (ps_for PassesOwn.never rfl (pi_range2 rfl T.n_range (pa_cons pe_int (pa_cons (pe_callB (k_len K) (by rfl) T.n_len PySem.boot_len (pa_cons (pv 2) pa_nil)) pa_nil))) (pg_name (i := 3) sc__law_all.nd rfl (Or.inl rfl))
          (pss_one (ps_if (PW.pt (pw_and (pt_cmpR (k_notInT K HU) (pe_slice (k_slL K) (pv 2) po_none (po_some (pv 3))) (pv 1) (by with_unfolding_all rfl)) (pw_and1 (pt_val (pcall D_law_lacks G_law_lacks (hr.mono (by decide)) (pa_cons (pv 0) (pa_cons (pe_slice (k_slL K) (pv 2) po_none (po_some (pv 3))) pa_nil)))))))
            (pss_one (ps_expr (pe_bm PySem.F.plainAttrs_list PySem.F.slot_list_append PySem.F.type_list_append mt_append (pv 1) (pa_cons (pe_slice (k_slL K) (pv 2) po_none (po_some (pv 3))) pa_nil))))
            pss_nil)))))
      (pss_one (ps_ret (pv 1))))), ?_⟩
    refine ⟨(by decide : 0 ≤ sizeLine), fun e0 he0 => ⟨(by show 1 ≤ sizeLine; decide), fun fo hfo => ?_⟩⟩
    have hfoH : H fo = none := (same_upd he0).free hfo
    have nef : e0 ≠ fo := fun z => by rw [← z, upd_same] at hfo; cases hfo
    let Inv1 : List (Addr × List Int) → List (List Int) → Hp → Prop := fun ws F H2 => H2 fo = some (.lst (ws.map fun z => V.ref z.1)) ∧ (∀ z ∈ ws, H z.1 = none ∧ H2 z.1 = some (.lst (z.2.map V.int)) ∧ z.1 ≠ fo) ∧ ws.map (·.2) = F ∧ Same H H2
    refine ⟨_, rfl, bl, rfl, ⟨_, SqL.of ((same_upd he0).trans (same_upd hfo) _ _ hb)⟩, for_list (K := K) (a := bl) (xs := zs.map fun z => V.ref z.1) (fun i σ H2 => ∃ (v2 v3 : Option V) (ws : List (Addr × List Int)), σ = [some (.ref bl), some (.ref fo), v2, v3] ∧ Inv1 ws (allF (zs.map (·.2)) ((zs.take i).map (·.2))) H2 ∧ ws.length ≤ 1 + 3 * i)
      ⟨none, none, [(e0, [])], rfl, ⟨upd_same, fun z hz' => ?_, by simp [allF], (same_upd he0).trans (same_upd hfo)⟩, by simp⟩ (fun i σ H2 _ ⟨_, _, _, _, ⟨_, _, _, e⟩, _⟩ => SqL.of (e _ _ hb)) ?_ ?_⟩
    · have e : z = (e0, []) := by simpa using hz'
      subst e
      exact ⟨he0, by rw [upd_ne nef, upd_same]; rfl, nef⟩
    · rintro i x σ H2 hx ⟨v2, v3, ws, rfl, ⟨hF, hW, hM, sm⟩, hlen⟩
      rw [List.getElem?_map] at hx
      obtain ⟨z, hzj, e⟩ := Option.map_eq_some_iff.mp hx
      subst e
      have hzm := List.mem_of_getElem? hzj
      have hi4 : i < zs.length := (List.getElem?_eq_some_iff.mp hzj).1
      obtain ⟨hne, hz4⟩ := hst z hzm
      have hpos : 0 < z.2.length := List.length_pos_iff.mpr hne
      refine ⟨_, rfl, z.1, _, rfl, .inl (SqL.of (sm _ _ (hz z hzm))), 1, _, rfl, ?_, ?_⟩
      · rw [List.length_map]; omega
      rw [List.length_map]
      refine for_range (lo := 1) (n := ((z.2.length : Int) - 1).toNat) (fun j σ H3 => ∃ (v3 : Option V) (ws : List (Addr × List Int)), σ = [some (.ref bl), some (.ref fo), some (.ref z.1), v3] ∧ Inv1 ws (partS (zs.map fun y : Addr × List Int => y.2) z.2 j (allF (zs.map fun y : Addr × List Int => y.2) ((zs.take i).map fun y : Addr × List Int => y.2))) H3 ∧ ws.length ≤ 1 + 3 * i + j)
        ⟨_, ws, rfl, ⟨hF, hW, hM, sm⟩, hlen⟩ ?_ ?_
      · rintro j σ H3 hj ⟨v3, ws, rfl, ⟨hF, hW, hM, sm⟩, hlen⟩
        have hj' : j + 1 < z.2.length := by omega
        refine ⟨_, rfl, _, rfl, _, rfl, z.1, _, rfl, SqL.of (sm _ _ (hz z hzm)), fun p hp => ?_⟩
        rw [show (1 : Int) + (j : Int) = ((j + 1 : Nat) : Int) by omega, cutV_upto, ← List.map_take]
        have sm2 := sm.trans (same_upd hp (o := .lst ((z.2.take (j + 1)).map V.int)))
        have hF2 : (upd H3 p (.lst ((z.2.take (j + 1)).map V.int))) fo = some (.lst (ws.map fun z => V.ref z.1)) := same_upd hp _ _ hF
        have hW2 : ∀ y ∈ ws, H y.1 = none ∧ (upd H3 p (.lst ((z.2.take (j + 1)).map V.int))) y.1 = some (.lst (y.2.map V.int)) ∧ y.1 ≠ fo := fun y hy => ⟨(hW y hy).1, same_upd hp _ _ (hW y hy).2.1, (hW y hy).2.2⟩
        have hP2 : (upd H3 p (.lst ((z.2.take (j + 1)).map V.int))) p = some (.lst ((z.2.take (j + 1)).map V.int)) := upd_same
        generalize upd H3 p (.lst ((z.2.take (j + 1)).map V.int)) = H4 at sm2 hF2 hW2 hP2
        rw [partS]
        generalize hx : z.2.take (j + 1) = x at *
        have hxl : x.length ≤ 4 := by rw [← hx, List.length_take]; omega
        generalize partS (zs.map (·.2)) z.2 j (allF (zs.map (·.2)) ((zs.take i).map (·.2))) = F at *
        refine ⟨_, rfl, fo, _, (ws.map (·.2)).map tInts, tInts x, rfl, SqL.of hF2, TrsAt.lists (fun y hy => (hW2 y hy).2.1), TrAt.ints (a := p) (SqL.of hP2), Nat.le_trans (tdeps_tInts _) (by decide), _, rfl, ?_⟩
        rw [if_pos rfl, notin_any]
        by_cases hin : x ∈ ws.map (·.2)
        · rw [decide_eq_true hin]
          refine iteF ?_
          exact iteF ⟨_, ws, rfl, ⟨hF2, hW2, by unfold addS; rw [← hM, if_pos hin], sm2⟩, by omega⟩
        · rw [decide_eq_false hin]
          refine iteT ?_
          refine ⟨_, rfl, _, rfl, _, rfl, _, rfl, z.1, _, rfl, SqL.of (sm2 _ _ (hz z hzm)), fun p2 hp2 => ?_⟩
          rw [cutV_upto, ← List.map_take, hx]
          have sm3 := sm2.trans (same_upd hp2 (o := .lst (x.map V.int)))
          refine ⟨bl, p2, zs, x, rfl, sm3 _ _ hb, fun y hy => sm3 _ _ (hz y hy), upd_same, by omega, by omega, fun H5 s5 => ⟨_, rfl, ?_⟩⟩
          have m45 := (same_upd hp2 (o := .lst (x.map V.int))).trans s5
          have sm5 := sm2.trans m45
          have hF5 := m45 _ _ hF2
          have hW5 : ∀ y ∈ ws, H y.1 = none ∧ H5 y.1 = some (.lst (y.2.map V.int)) ∧ y.1 ≠ fo := fun y hy => ⟨(hW2 y hy).1, m45 _ _ (hW2 y hy).2.1, (hW2 y hy).2.2⟩
          cases hLk : lacks (zs.map (·.2)) x with
          | false => exact iteF ⟨_, ws, rfl, ⟨hF5, hW5, by unfold addS; rw [← hM, if_neg hin, if_neg (by rw [hLk]; decide)], sm5⟩, by omega⟩
          | true =>
            refine iteT ⟨_, rfl, .inl ⟨rfl, _, SqL.of hF5⟩, _, rfl, _, rfl, _, rfl, z.1, _, rfl, SqL.of (sm5 _ _ (hz z hzm)), fun p3 hp3 => ?_⟩
            rw [cutV_upto, ← List.map_take, hx]
            have m6 := same_upd hp3 (o := .lst (x.map V.int))
            have npf : p3 ≠ fo := fun y => by rw [y, hF5] at hp3; cases hp3
            refine ⟨fo, _, _, rfl, rfl, m6 _ _ hF5, by rw [List.length_map]; exact Nat.lt_of_le_of_lt (show ws.length ≤ 100 by omega) (by decide), ?_⟩
            refine ⟨_, ws ++ [(p3, x)], rfl, ⟨by rw [upd_same, List.map_append]; rfl, fun y hy => ?_, by rw [List.map_append, hM]; unfold addS; rw [← hM, if_neg hin, if_pos hLk]; rfl, fun b u e => ?_⟩, by rw [List.length_append, List.length_singleton]; omega⟩
            · rcases List.mem_append.mp hy with hy | hy
              · rw [upd_ne (hW5 y hy).2.2]
                exact ⟨(hW5 y hy).1, m6 _ _ (hW5 y hy).2.1, (hW5 y hy).2.2⟩
              · have : y = (p3, x) := by simpa using hy
                subst this
                exact ⟨sm5.free hp3, by rw [upd_ne npf, upd_same], npf⟩
            · rw [upd_ne (ne_of_none e hfoH)]; exact m6 _ _ (sm5 _ _ e)
      · rintro σ H3 ⟨v3, ws, rfl, ⟨hF, hW, hM, sm⟩, hlen⟩
        refine ⟨_, _, ws, rfl, ⟨hF, hW, ?_, sm⟩, by omega⟩
        rw [hM, List.take_succ, hzj]
        simp only [Option.toList_some, List.map_append, List.map_cons, List.map_nil]
        unfold allF
        rw [List.foldl_append, show ((z.2.length : Int) - 1).toNat = z.2.length - 1 by omega]
        rfl
    · rintro σ H2 ⟨v2, v3, ws, rfl, ⟨hF, hW, hM, sm⟩, hlen⟩
      rw [List.length_map, List.take_length] at hM
      rw [List.length_map] at hlen
      exact ⟨_, rfl, kk fo ws H2 hfoH hF hW hM (by omega) sm⟩
end
end Lw
set_option Elab.async false
set_option linter.all false
set_option maxRecDepth 100000
namespace Lw
open PySem L2 PyProof.Rows
section
variable {T : Addr}
theorem Deck.sameL {H H' : Hp} {d : Addr} {fp : List Addr} (D : Deck H d fp) (lt : LT T H) (s : SameL T H H') : Deck H' d fp := by
  obtain ⟨pp, qs, i, rfl, h1, h2, h3, h4, h5⟩ := D.ex
  exact ⟨pp, qs, i, rfl, s _ _ (lt.lst h1) h1, s _ _ (lt.lst h2) h2, h3, h4, fun q hq => by obtain ⟨x, y, z, e⟩ := h5 q hq; exact ⟨x, y, z, s _ _ (lt.lst e) e⟩⟩
theorem Deck.lst {H : Hp} {d : Addr} {fp : List Addr} (D : Deck H d fp) {b : Addr} (hb : b ∈ fp) : ∃ xs, H b = some (.lst xs) := by
  obtain ⟨pp, qs, i, rfl, h1, h2, h3, h4, h5⟩ := D.ex
  rcases List.mem_cons.mp hb with e | hb
  · rw [e]; exact ⟨_, h1⟩
  · rcases List.mem_cons.mp hb with e | hb
    · rw [e]; exact ⟨_, h2⟩
    · obtain ⟨x, y, z, e⟩ := h5 b hb
      exact ⟨_, e⟩
theorem LT.away {H : Hp} {d : Addr} {fp : List Addr} (h : LT T H) (D : Deck H d fp) : LT T (aw fp H) := by
  have out : ∀ b o, H b = some o → (∀ xs, o ≠ .lst xs) → aw fp H b = some o := fun b o e n => by
    rw [aw_out (fun hb => by
      obtain ⟨xs, q⟩ := D.lst hb
      rw [e] at q
      cases q
      exact n _ rfl)]
    exact e
  rcases h with h | ⟨c, h1, h2⟩
  · exact .inl (out _ _ h (fun xs z => by cases z))
  · exact .inr ⟨c, out _ _ h1 (fun xs z => by cases z), out _ _ h2 (fun xs z => by unfold CodeO at z; cases z)⟩
theorem Stp.lt {H H' : Hp} {d : Addr} {fp : List Addr} (S : Stp fp d H H') (D : Deck H d fp) (h : LT T H) : LT T H' := ((h.away D).same S.sm).same (aw_same fp H')
theorem RuleAt.awL {fp : List Addr} {H H' : Hp} {r bl : Addr} {b : Nat} {zs : List (Addr × List Int)} (R : RuleAt (aw fp H) r b bl zs) (lt : LT T H) (s : SameL T H H') : RuleAt (aw fp H') r b bl zs := by
  have g : ∀ x o, x ≠ T → aw fp H x = some o → aw fp H' x = some o := fun x o hx e => by
    have hi : x ∉ fp := fun z => by rw [aw_in z] at e; cases e
    rw [aw_out hi] at e ⊢
    exact s _ _ hx e
  have R0 := R.all
  exact ⟨g _ _ (lt.tup R0.tu) R.tu, g _ _ (lt.lst R0.li) R.li, fun z hz => g _ _ (lt.lst (R0.st z hz)) (R.st z hz)⟩
end
theorem iteB {c : Bool} {A B : Prop} (hc : c = false) (h : B) : if c = true then A else B := by rw [hc]; exact iteF h
theorem iteA {c : Bool} {A B : Prop} (hc : c = true) (h : A) : if c = true then A else B := by rw [hc]; exact iteT h
theorem dec_ints {i j : Int} (h : ¬ i = j) : decide (V.int i = V.int j) = false := decide_eq_false (fun z => h (by injection z))
theorem LT.dk {T : Addr} {H : Hp} (h : LT T H) {b : Addr} {kvs : List (Key × V)} (e : H b = some (.dK kvs)) : b ≠ T := fun z => by
  rw [z] at e
  rcases h with h | ⟨c, h, _⟩
  · rw [h] at e; cases e
  · rw [h] at e; cases e
mutual
theorem th_sameL {T : Addr} {H H' : Hp} (lt : LT T H) (m : SameL T H H') : ∀ {d : PyData} {v : V}, ThAt H d v → ThAt H' d v
  | .none, v, h => by rw [ThAt] at h ⊢; exact h
  | .bool b, v, h => by rw [ThAt] at h ⊢; exact h
  | .int i, v, h => by rw [ThAt] at h ⊢; exact h
  | .str x, v, h => by rw [ThAt] at h ⊢; exact h
  | .list xs, v, h => by
    rw [ThAt] at h ⊢
    obtain ⟨a, ys, h1, h2, h3⟩ := h
    exact ⟨a, ys, h1, m _ _ (lt.lst h2) h2, ths_sameL lt m h3⟩
  | .tuple xs, v, h => by
    rw [ThAt] at h ⊢
    obtain ⟨a, ys, h1, h2, h3⟩ := h
    exact ⟨a, ys, h1, m _ _ (lt.tup h2) h2, ths_sameL lt m h3⟩
  | .dict kvs, v, h => by
    rw [ThAt] at h ⊢
    obtain ⟨h0, a, h1, h2⟩ := h
    exact ⟨h0, a, h1, m _ _ (lt.dk h2) h2⟩
theorem ths_sameL {T : Addr} {H H' : Hp} (lt : LT T H) (m : SameL T H H') : ∀ {ds : List PyData} {ys : List V}, ThsAt H ds ys → ThsAt H' ds ys
  | [], ys, h => by rw [ThsAt] at h ⊢; exact h
  | d :: ds, ys, h => by
    rw [ThsAt] at h ⊢
    obtain ⟨y, zs, h1, h2, h3⟩ := h
    exact ⟨y, zs, h1, th_sameL lt m h2, ths_sameL lt m h3⟩
end
theorem SameL.away {T : Addr} {H H' : Hp} (m : SameL T H H') (fp : List Addr) : SameL T (aw fp H) (aw fp H') := fun b o hb e => by
  have hi : b ∉ fp := fun z => by rw [aw_in z] at e; cases e
  rw [aw_out hi] at e ⊢
  exact m _ _ hb e
end Lw
set_option Elab.async false
set_option linter.all false
set_option maxRecDepth 100000
namespace Lw
open PySem L2 PyProof.Rows
theorem SameL.free {T : Addr} {H H' : Hp} (s : SameL T H H') (lt : LT T H') {l : Addr} (h : H' l = none) : H l = none := by
  cases e : H l with
  | none => rfl
  | some u =>
    have := s l u (lt.none h) e
    rw [h] at this; cases this
theorem RuleAt.sameL {T : Addr} {H H' : Hp} {r bl : Addr} {b : Nat} {zs : List (Addr × List Int)} (R : RuleAt H r b bl zs) (lt : LT T H) (s : SameL T H H') : RuleAt H' r b bl zs :=
  ⟨s _ _ (lt.tup R.tu) R.tu, s _ _ (lt.lst R.li) R.li, fun z hz => s _ _ (lt.lst (R.st z hz)) (R.st z hz)⟩
theorem isSt_fig {b : Nat} {ls : List (List Int)} (g : GoodRule b ls) {x : List Int} (h : isSt ls x) : x.length ≤ 3 ∧ ∀ f ∈ x, 0 ≤ f ∧ f < (b : Int) := by
  refine ⟨isSt_len (fun st h => (g.st st h).len) h, fun f hf => ?_⟩
  rcases h with rfl | ⟨st, hst, k, _, _, rfl, _⟩
  · cases hf
  · exact (g.st st hst).fig f (List.mem_of_mem_take hf)
def baseOf : PyData → Int
  | .tuple [x, _] => intT x
  | _ => 0
def badOf : PyData → List (List Int)
  | .tuple [_, .list xs] => xs.map intsT
  | _ => []
theorem ints_back (l : List Int) : intsT (.list (l.map .int)) = l := by
  show (l.map PyData.int).map intT = l
  rw [List.map_map]
  conv => rhs; rw [← List.map_id l]
  rfl
theorem rule_of {H : Hp} {d : PyData} {v : V} (hd : ThAt H d v) (hr : ruleT d = true) : ∃ (r : Addr) (b : Nat) (bl : Addr) (zs : List (Addr × List Int)), v = .ref r ∧ RuleAt H r b bl zs ∧ GoodRule b (zs.map (·.2)) ∧ baseOf d = (b : Int) ∧ badOf d = zs.map (·.2) := by
  obtain ⟨r, b, bl, zs, rfl, R, g⟩ := th_rule hd hr
  have e := hd.uniq R.th
  refine ⟨r, b, bl, zs, rfl, R, g, by rw [e]; rfl, ?_⟩
  rw [e]
  show ((zs.map (·.2)).map fun l => PyData.list (l.map .int)).map intsT = zs.map (·.2)
  rw [List.map_map]
  conv => rhs; rw [← List.map_id (zs.map (·.2))]
  exact List.map_congr_left fun l _ => ints_back l
def standT (ls : List (List Int)) (d : PyData) : Bool := isT "list" d && ((eltsT d).all wholeT && decide (intsT d ∈ allF ls ls))
theorem figsT_list {b : Int} {d : PyData} (h : figsT b d = true) : ∃ xs, d = .list xs ∧ xs.all (figT b) = true := by
  cases d <;> first | exact ⟨_, rfl, h⟩ | cases h
theorem whole_figs {b : Int} {xs : List PyData} (h : xs.all (figT b) = true) : xs.all wholeT = true := by
  rw [List.all_eq_true] at h ⊢
  intro d hd
  have := h d hd
  cases d <;> first | rfl | cases this
theorem standT_fig {b : Int} {ls : List (List Int)} {d : PyData} (h : figsT b d = true) : standT ls d = decide (intsT d ∈ allF ls ls) := by
  obtain ⟨xs, rfl, hx⟩ := figsT_list h
  unfold standT
  rw [show isT "list" (.list xs) = true from rfl, show eltsT (.list xs) = xs from rfl, whole_figs hx]
  rfl
theorem standT_no {b : Nat} {ls : List (List Int)} {d : PyData} (g : GoodRule b ls) (h : figsT b d = false) : standT ls d = false := by
  cases e : standT ls d with
  | false => rfl
  | true =>
    unfold standT at e
    rw [Bool.and_eq_true, Bool.and_eq_true] at e
    obtain ⟨e1, e2, e3⟩ := e
    obtain ⟨xs, rfl⟩ := isT_list e1
    have hs := (isSt_fig g (mem_allF.mp (of_decide_eq_true e3))).2
    have : figsT b (.list xs) = true := by
      show xs.all (figT b) = true
      rw [List.all_eq_true]
      intro d hd
      have w := List.all_eq_true.mp (show xs.all wholeT = true from e2) d hd
      have q := hs (intT d) (List.mem_map.mpr ⟨d, hd, rfl⟩)
      rw [wholeT_int w]
      exact decide_eq_true q
    rw [this] at h; cases h
section
variable {P : Program} {w : World} {K : PySem.W.Frag} {mg : Str → Option Value} {base : Heap} {T0 : Addr}
def sp_is_stand (T : Addr) : Sp := fun vs H Q _ => ∃ (r : Addr) (b : Nat) (bl : Addr) (zs : List (Addr × List Int)) (v : V) (d : PyData), vs = [.ref r, v] ∧ RuleAt H r b bl zs ∧ GoodRule b (zs.map (·.2)) ∧ ThAt H d v ∧ sizT d ≤ 100000 ∧ LT T H ∧ ∀ H', SameL T H H' → LT T H' → Q (.bl (standT (zs.map (·.2)) d)) H'
theorem sc_is_stand : FnScope ["rule", "thing"] ["rule", "thing"] (defScope s_is_stand) := ⟨rfl, rfl, rfl, by decide +kernel, rfl, by decide +kernel, by decide +kernel⟩
theorem ok_is_stand {f f1 f2 : Addr} {fd fd1 fd2 : FuncData} (D : Df K mg "is_stand" s_is_stand ["rule", "thing"] f fd) (Dare_figures : Df K mg "are_figures" s_are_figures ["base", "thing"] f1 fd1) (Gare_figures : FnOk P w K mg base CX0 3 f1 fd1 ["base", "thing"] sp_are_figures)
    (Dstands_of : Df K mg "stands_of" s_stands_of ["bad"] f2 fd2) (Gstands_of : FnOk P w K mg base CX0 6 f2 fd2 ["bad"] (sp_stands_of T0)) (T : Blt mg) : FnOk P w K mg base CX0 7 f fd ["rule", "thing"] (sp_is_stand T0) := by
  refine D.fn.ok sc_is_stand (fun vs H Q E h => ?_) (fun cdv A outer s H vs Q E hr h => ?_)
  · obtain ⟨r, b, bl, zs, v, d, rfl, _⟩ := h; rfl
  · obtain ⟨r, b, bl, zs, v, d, rfl, R, g, hd, hs, lt, kk⟩ := h
    have HU := HUof hr
    have h4 : zs.length ≤ 4 := by have := g.len; rwa [List.length_map] at this
    refine ⟨_, (pss_one (ps_ret (pe_and (pcall Dare_figures Gare_figures (hr.mono (by decide)) (pa_cons (pe_ix (k_ixT K) (pv 0) pe_int (fun _ _ => rfl)) (pa_cons (pv 1) pa_nil))) (pe_one (pe_cmpR (k_inT K HU) (pv 1) (pcall Dstands_of Gstands_of (hr.mono (by decide)) (pa_cons (pe_ix (k_ixT K) (pv 0) pe_int (fun _ _ => rfl)) pa_nil)) (by with_unfolding_all rfl)))))), ?_⟩
    refine ⟨_, rfl, r, _, _, V.int b, rfl, rfl, SqT.of R.tu, rfl, _, rfl, (b : Int), v, d, rfl, hd, hs, fun H1 s1 => ⟨_, rfl, ?_⟩⟩
    cases hf : figsT b d with
    | false =>
      have q := kk H1 (SameL.of s1) (lt.same s1)
      rw [standT_no g hf] at q
      exact iteF q
    | true =>
    refine iteT ?_
    obtain ⟨sa, rfl, ha⟩ := ThAt.figs hd hf
    have R1 := R.same s1
    have lt1 := lt.same s1
    refine ⟨_, rfl, _, rfl, r, _, _, V.ref bl, rfl, rfl, SqT.of R1.tu, rfl, bl, zs, rfl, R1.li, R1.st, h4, fun z hz => ⟨(g.st _ (List.mem_map.mpr ⟨z, hz, rfl⟩)).ne, (g.st _ (List.mem_map.mpr ⟨z, hz, rfl⟩)).len⟩, lt1, fun Dd ws H2 hD hDv hW SL hlen sm2 lt2 => ?_⟩
    have hs2 := sm2 _ _ (lt1.lst (s1 _ _ ha)) (s1 _ _ ha)
    refine ⟨Dd, _, (ws.map (·.2)).map tInts, tInts (intsT d), rfl, SqL.of hDv, TrsAt.lists (fun z hz => (hW z hz).2.1), TrAt.ints (a := sa) (SqL.of hs2), Nat.le_trans (tdeps_tInts _) (by decide), ?_⟩
    have q := kk H2 ((SameL.of s1).trans sm2) lt2
    rw [standT_fig hf, show decide (intsT d ∈ allF (zs.map (·.2)) (zs.map (·.2))) = decide (intsT d ∈ ws.map (·.2)) from decide_eq_decide.mpr (mem_allF.trans (SL.mem _).symm), ← notin_any] at q
    exact q
def sp_stand_behind (CNoRule CNoFigures : Addr) : Sp := fun vs H Q E => ∃ (v u : V) (d e : PyData), vs = [v, u] ∧ ThAt H d v ∧ ThAt H e u ∧ sizT d ≤ 100000 ∧ sizT e ≤ 100000 ∧ (ruleT d = false → ∀ H', Same H H' → E (.ref CNoRule) none H') ∧ (ruleT d = true → figsT (baseOf d) e = false → ∀ H', Same H H' → E (.ref CNoFigures) none H') ∧
  (ruleT d = true → figsT (baseOf d) e = true → (eltsT e).length ≤ 1000 ∧ ∀ v H', Same H H' → Q v H')
theorem sc_stand_behind : FnScope ["rule", "figures"] ["rule", "figures"] (defScope s_stand_behind) := ⟨rfl, rfl, rfl, by decide +kernel, rfl, by decide +kernel, by decide +kernel⟩
theorem ok_stand_behind {CNoRule CNoFigures : Addr} {f f1 f2 f3 : Addr} {fd fd1 fd2 fd3 : FuncData} (D : Df K mg "stand_behind" s_stand_behind ["rule", "figures"] f fd) (Dcheck_rule : Df K mg "check_rule" s_check_rule ["thing"] f1 fd1) (Gcheck_rule : FnOk P w K mg base (CX1 P w) 7 f1 fd1 ["thing"] (sp_check_rule CNoRule))
    (Dare_figures : Df K mg "are_figures" s_are_figures ["base", "thing"] f2 fd2) (Gare_figures : FnOk P w K mg base CX0 3 f2 fd2 ["base", "thing"] sp_are_figures) (Dlongest_stand : Df K mg "longest_stand" s_longest_stand ["bad", "figures"] f3 fd3) (Glongest_stand : FnOk P w K mg base CX0 3 f3 fd3 ["bad", "figures"] sp_longest_stand) (x_NoFigures : ExcC K mg "NoFigures" CNoFigures) (T : Blt mg) :
    FnOk P w K mg base (CX1 P w) 8 f fd ["rule", "figures"] (sp_stand_behind CNoRule CNoFigures) := by
  refine D.fn.ok1 sc_stand_behind (fun vs H Q E h => ?_) (fun cdv A outer s H vs Q E hr h => ?_)
  · obtain ⟨v, u, d, e, rfl, _⟩ := h; rfl
  · obtain ⟨v, u, d, e, rfl, hd, he, hs, hse, kR, kF, kOk⟩ := h
    refine ⟨_, (pss_cons (ps_expr (pcallX Dcheck_rule Gcheck_rule (hr.mono (by decide)) pass_call (pa_cons (pv 0) pa_nil)))
      (pss_cons (ps_if (pt_not (pt_val (pcall Dare_figures Gare_figures (hr.mono (by decide)) (pa_cons (pe_ix (k_ixT K) (pv 0) pe_int (fun _ _ => rfl)) (pa_cons (pv 1) pa_nil)))))
        (pss_one (ps_raise x_NoFigures pass_new rfl (pa_cons pe_str pa_nil)))
        pss_nil)
      (pss_one (ps_ret (pcall Dlongest_stand Glongest_stand (hr.mono (by decide)) (pa_cons (pe_ix (k_ixT K) (pv 0) pe_int (fun _ _ => rfl)) (pa_cons (pv 1) pa_nil))))))), ?_⟩
    refine ⟨_, rfl, v, d, rfl, hd, hs, kR, fun hru H1 s1 => ?_⟩
    obtain ⟨r, b, bl, zs, rfl, R, g, eb, ebad⟩ := rule_of hd hru
    have h4 : zs.length ≤ 4 := by have := g.len; rwa [List.length_map] at this
    rw [eb] at kF kOk
    have R1 := R.same s1
    refine ⟨_, rfl, r, _, _, V.int b, rfl, rfl, SqT.of R1.tu, rfl, _, rfl, (b : Int), u, e, rfl, he.same s1, hse, fun H2 s2 => ⟨_, rfl, ?_⟩⟩
    cases hf : figsT b e with
    | false => exact iteT ⟨by show 1 ≤ sizeLine; decide, kF hru hf H2 (s1.trans s2)⟩
    | true =>
    refine iteF ?_
    obtain ⟨hl, kk⟩ := kOk hru hf
    obtain ⟨fa, rfl, ha⟩ := ThAt.figs he hf
    have R2 := R1.same s2
    exact ⟨_, rfl, r, _, _, V.ref bl, rfl, rfl, SqT.of R2.tu, rfl, _, rfl, bl, fa, zs, intsT e, rfl, R2.li, R2.st, (s1.trans s2) _ _ ha, by omega, by unfold intsT; rw [List.length_map]; exact hl, fun z hz => ⟨(g.st _ (List.mem_map.mpr ⟨z, hz, rfl⟩)).ne, Nat.le_trans (g.st _ (List.mem_map.mpr ⟨z, hz, rfl⟩)).len (by decide)⟩, fun v H3 _ s3 => kk v H3 ((s1.trans s2).trans s3)⟩
def sp_all_stands (T CNoRule : Addr) : Sp := fun vs H Q E => ∃ (v : V) (d : PyData), vs = [v] ∧ ThAt H d v ∧ sizT d ≤ 100000 ∧ LT T H ∧ (ruleT d = false → ∀ H', Same H H' → E (.ref CNoRule) none H') ∧ (ruleT d = true → ∀ v H', SameL T H H' → LT T H' → Q v H')
theorem sc_all_stands : FnScope ["rule"] ["rule"] (defScope s_all_stands) := ⟨rfl, rfl, rfl, by decide +kernel, rfl, by decide +kernel, by decide +kernel⟩
theorem ok_all_stands {CNoRule : Addr} {f f1 f2 : Addr} {fd fd1 fd2 : FuncData} (D : Df K mg "all_stands" s_all_stands ["rule"] f fd) (Dcheck_rule : Df K mg "check_rule" s_check_rule ["thing"] f1 fd1) (Gcheck_rule : FnOk P w K mg base (CX1 P w) 7 f1 fd1 ["thing"] (sp_check_rule CNoRule))
    (Dstands_of : Df K mg "stands_of" s_stands_of ["bad"] f2 fd2) (Gstands_of : FnOk P w K mg base CX0 6 f2 fd2 ["bad"] (sp_stands_of T0)) (T : Blt mg) : FnOk P w K mg base (CX1 P w) 8 f fd ["rule"] (sp_all_stands T0 CNoRule) := by
  refine D.fn.ok1 sc_all_stands (fun vs H Q E h => ?_) (fun cdv A outer s H vs Q E hr h => ?_)
  · obtain ⟨v, d, rfl, _⟩ := h; rfl
  · obtain ⟨v, d, rfl, hd, hs, lt, kR, kk⟩ := h
    refine ⟨_, (pss_cons (ps_expr (pcallX Dcheck_rule Gcheck_rule (hr.mono (by decide)) pass_call (pa_cons (pv 0) pa_nil)))
      (pss_one (ps_ret (pcall Dstands_of Gstands_of (hr.mono (by decide)) (pa_cons (pe_ix (k_ixT K) (pv 0) pe_int (fun _ _ => rfl)) pa_nil))))), ?_⟩
    refine ⟨_, rfl, v, d, rfl, hd, hs, kR, fun hru H1 s1 => ?_⟩
    obtain ⟨r, b, bl, zs, rfl, R, g⟩ := th_rule hd hru
    have h4 : zs.length ≤ 4 := by have := g.len; rwa [List.length_map] at this
    have R1 := R.same s1
    have lt1 := lt.same s1
    refine ⟨_, rfl, r, _, _, V.ref bl, rfl, rfl, SqT.of R1.tu, rfl, bl, zs, rfl, R1.li, R1.st, h4, fun z hz => ⟨(g.st _ (List.mem_map.mpr ⟨z, hz, rfl⟩)).ne, (g.st _ (List.mem_map.mpr ⟨z, hz, rfl⟩)).len⟩, lt1, fun Dd ws H2 hD hDv hW SL hlen sm2 lt2 => ?_⟩
    exact kk hru _ H2 ((SameL.of s1).trans sm2) lt2
def sp_step_from (T CNoRule CNoStand CNoFigures : Addr) : Sp := fun vs H Q E => ∃ (v u y : V) (d e x : PyData), vs = [v, u, y] ∧ ThAt H d v ∧ ThAt H e u ∧ ThAt H x y ∧ sizT d ≤ 100000 ∧ sizT e ≤ 100000 ∧ LT T H ∧ (ruleT d = false → ∀ H', Same H H' → E (.ref CNoRule) none H') ∧
  (ruleT d = true → standT (badOf d) e = false → ∀ H', SameL T H H' → LT T H' → E (.ref CNoStand) none H') ∧ (ruleT d = true → standT (badOf d) e = true → figT (baseOf d) x = false → ∀ H', SameL T H H' → LT T H' → E (.ref CNoFigures) none H') ∧
  (ruleT d = true → standT (badOf d) e = true → figT (baseOf d) x = true → ∀ v H', SameL T H H' → LT T H' → Q v H')
theorem sc_step_from : FnScope ["rule", "stand", "figure"] ["rule", "stand", "figure"] (defScope s_step_from) := ⟨rfl, rfl, rfl, by decide +kernel, rfl, by decide +kernel, by decide +kernel⟩
theorem ok_step_from {CNoRule CNoStand CNoFigures : Addr} {f f1 f2 f3 f4 : Addr} {fd fd1 fd2 fd3 fd4 : FuncData} (D : Df K mg "step_from" s_step_from ["rule", "stand", "figure"] f fd) (Dcheck_rule : Df K mg "check_rule" s_check_rule ["thing"] f1 fd1) (Gcheck_rule : FnOk P w K mg base (CX1 P w) 7 f1 fd1 ["thing"] (sp_check_rule CNoRule))
    (Dis_stand : Df K mg "is_stand" s_is_stand ["rule", "thing"] f2 fd2) (Gis_stand : FnOk P w K mg base CX0 7 f2 fd2 ["rule", "thing"] (sp_is_stand T0)) (Dis_figure : Df K mg "is_figure" s_is_figure ["base", "thing"] f3 fd3) (Gis_figure : FnOk P w K mg base CX0 2 f3 fd3 ["base", "thing"] sp_is_figure)
    (Dlongest_stand : Df K mg "longest_stand" s_longest_stand ["bad", "figures"] f4 fd4) (Glongest_stand : FnOk P w K mg base CX0 3 f4 fd4 ["bad", "figures"] sp_longest_stand) (x_NoStand : ExcC K mg "NoStand" CNoStand) (x_NoFigures : ExcC K mg "NoFigures" CNoFigures) (T : Blt mg) : FnOk P w K mg base (CX1 P w) 8 f fd ["rule", "stand", "figure"] (sp_step_from T0 CNoRule CNoStand CNoFigures) := by
  refine D.fn.ok1 sc_step_from (fun vs H Q E h => ?_) (fun cdv A outer s H vs Q E hr h => ?_)
  · obtain ⟨v, u, y, d, e, x, rfl, _⟩ := h; rfl
  · obtain ⟨v, u, y, d, e, x, rfl, hd, he, hx, hs, hse, lt, kR, kS, kF, kk⟩ := h
    refine ⟨_, (pss_cons (ps_expr (pcallX Dcheck_rule Gcheck_rule (hr.mono (by decide)) pass_call (pa_cons (pv 0) pa_nil)))
      (pss_cons (ps_if (pt_not (pt_val (pcall Dis_stand Gis_stand (hr.mono (by decide)) (pa_cons (pv 0) (pa_cons (pv 1) pa_nil)))))
        (pss_one (ps_raise x_NoStand pass_new rfl (pa_cons pe_str pa_nil)))
        pss_nil)
      (pss_cons (ps_if (pt_not (pt_val (pcall Dis_figure Gis_figure (hr.mono (by decide)) (pa_cons (pe_ix (k_ixT K) (pv 0) pe_int (fun _ _ => rfl)) (pa_cons (pv 2) pa_nil)))))
        (pss_one (ps_raise x_NoFigures pass_new rfl (pa_cons pe_str pa_nil)))
        pss_nil)
      (pss_one (ps_ret (pcall Dlongest_stand Glongest_stand (hr.mono (by decide)) (pa_cons (pe_ix (k_ixT K) (pv 0) pe_int (fun _ _ => rfl)) (pa_cons (pe_op op_cat (pv 1) (pe_lst (pa_cons (pv 2) pa_nil))) pa_nil)))))))), ?_⟩
    refine ⟨_, rfl, v, d, rfl, hd, hs, kR, fun hru H1 s1 => ?_⟩
    obtain ⟨r, b, bl, zs, rfl, R, g, eb, ebad⟩ := rule_of hd hru
    have h4 : zs.length ≤ 4 := by have := g.len; rwa [List.length_map] at this
    rw [eb, ebad] at kF kk
    rw [ebad] at kS
    have R1 := R.same s1
    have lt1 := lt.same s1
    refine ⟨_, rfl, _, rfl, r, b, bl, zs, u, e, rfl, R1, g, he.same s1, hse, lt1, fun H2 sm2 lt2 => ⟨_, rfl, ?_⟩⟩
    have s02 := (SameL.of s1 (T := T0)).trans sm2
    cases hst : standT (zs.map (·.2)) e with
    | false => exact iteT ⟨by show 1 ≤ sizeLine; decide, kS hru hst H2 s02 lt2⟩
    | true =>
    refine iteF ?_
    have R2 := R1.sameL lt1 sm2
    have hx2 := th_sameL lt s02 hx
    refine ⟨_, rfl, r, _, _, V.int b, rfl, rfl, SqT.of R2.tu, rfl, _, rfl, (b : Int), y, x, rfl, hx2, _, rfl, ?_⟩
    cases hfx : figT b x with
    | false => exact iteT ⟨by show 1 ≤ sizeLine; decide, kF hru hst hfx H2 s02 lt2⟩
    | true =>
    refine iteF ?_
    have hf : figsT b e = true := by
      cases z : figsT b e with
      | true => rfl
      | false => rw [standT_no g z] at hst; cases hst
    obtain ⟨sa, rfl, ha⟩ := ThAt.figs (th_sameL lt s02 he) hf
    have hst' := hst
    rw [standT_fig hf] at hst'
    have hl3 := (isSt_fig g (mem_allF.mp (of_decide_eq_true hst'))).1
    obtain ⟨i, rfl⟩ : ∃ i, x = .int i := by cases x <;> first | exact ⟨_, rfl⟩ | cases hfx
    rw [ThAt] at hx2
    subst hx2
    generalize intsT e = xs at *
    refine ⟨_, rfl, r, _, _, V.ref bl, rfl, rfl, SqT.of R2.tu, rfl, _, rfl, _, rfl, (by show 1 ≤ sizeLine; decide), fun p1 q1 => ?_⟩
    have n1 : sa ≠ p1 := ne_of_none ha q1
    refine ⟨sa, p1, _, _, rfl, rfl, by rw [upd_ne n1]; exact ha, upd_same, by rw [List.length_map]; exact Nat.le_trans (show xs.length + 1 ≤ 100 by omega) (by decide), fun p2 q2 => ?_⟩
    have t2 := (same_upd q1 (o := .lst [V.int i])).trans (same_upd q2 (o := .lst (xs.map V.int ++ [V.int i])))
    have R3 := R2.same t2
    exact ⟨bl, p2, zs, xs ++ [i], rfl, R3.li, R3.st, by rw [upd_same, List.map_append]; rfl, by omega, by rw [List.length_append, List.length_singleton]; omega, fun z hz => ⟨(g.st _ (List.mem_map.mpr ⟨z, hz, rfl⟩)).ne, Nat.le_trans (g.st _ (List.mem_map.mpr ⟨z, hz, rfl⟩)).len (by decide)⟩, fun v H3 sv s3 => kk hru hst hfx v H3 (s02.trans (SameL.of (t2.trans s3))) (lt2.same (t2.trans s3))⟩
end
end Lw
set_option Elab.async false
set_option linter.all false
set_option maxRecDepth 100000
namespace Lw
open PySem L2 PyProof.Rows
theorem aw_newD {fp : List Addr} {d p : Addr} {H : Hp} {o : HO} (D : Deck H d fp) (h : H p = none) : aw fp (upd H p o) p = some o := by rw [aw_out (D.fresh h), upd_same]
theorem Stp.newS {fp : List Addr} {d p : Addr} {H : Hp} {o : HO} (D : Deck H d fp) (h : H p = none) : Same (aw fp H) (aw fp (upd H p o)) := ((Stp.refl D).new h).sm
def dkV (d : Addr) (fp : List Addr) : View := ⟨aw fp, fun H => Deck H d fp, fun h => aw_same _ _ _ _ h, fun o D h => ⟨((Stp.refl D).new h).dk, Stp.newS D h, aw_newD D h⟩⟩
section
variable {K : PySem.W.Frag} {d : Addr} {fp : List Addr} {Γ : Cxt} {te : TE} {lo hi : Int} {x : Nat}
theorem tp_draw (hd : Γ[x]? = some (some (tyEq (.ref d)))) (h : Tp (dkV d fp) Γ te (tyI lo hi)) (h1 : 1 ≤ lo := by first | decide | omega) (h2 : hi < 2 ^ 200 := by first | decide | omega) : Tp (dkV d fp) Γ (tCall sp__law_draw [] E0 (tCons (tVar x) (tCons te tNil))) (tyI 0 (hi - 1)) := fun σ H Q o f q => by
  obtain ⟨v, e, t⟩ := f.2 x _ hd
  refine ⟨v, e, h σ H _ o f fun u H1 o1 s1 ⟨m, e1, a1, b1⟩ => ⟨d, m, fp, by rw [show v = V.ref d from t, e1]; rfl, o1, by omega, Int.lt_of_le_of_lt b1 h2, fun r H' hr S => q _ H' S.dk (s1.trans S.sm) ⟨r, rfl, by omega, by omega⟩⟩⟩
def tyRl (b m : Nat) : Ty := ⟨fun G v => ∃ r bl, v = .ref r ∧ G r = some (.tup [.int b, .ref bl]) ∧ (tyLof (tyL 0 100 1 4) m m).p G (.ref bl), fun s ⟨r, bl, h1, h2, h3⟩ => ⟨r, bl, h1, s _ _ h2, (tyLof (tyL 0 100 1 4) _ _).mo s h3⟩⟩
theorem tyRl.of {G : Hp} {r bl : Addr} {b : Nat} {zs : List (Addr × List Int)} (R : RuleAt G r b bl zs) (g : GoodRule b (zs.map (·.2))) : (tyRl b zs.length).p G (.ref r) := by
  refine ⟨r, bl, rfl, R.tu, bl, _, rfl, R.li, by rw [List.length_map]; exact Nat.le_refl _, by rw [List.length_map]; exact Nat.le_refl _, fun u hu => ?_⟩
  obtain ⟨z, hz, rfl⟩ := List.mem_map.mp hu
  have s := g.st _ (List.mem_map.mpr ⟨z, hz, rfl⟩)
  have b16 := g.b16
  refine ⟨z.1, _, rfl, R.st z hz, by rw [List.length_map]; exact List.length_pos_iff.mpr s.ne, by rw [List.length_map]; exact s.len, fun y hy => ?_⟩
  obtain ⟨i, hi, rfl⟩ := List.mem_map.mp hy
  have := s.fig i hi
  exact Th.int (by omega) (Nat.le_refl _)
theorem tp_unp {w : View} {b m i j : Nat} {T : Ty} (h : Γ[x]? = some (some (tyRl b m))) : TpS w Γ (tAsg (tVar x) (gTup K 2 (gCons (gName i) (gCons (gName j) gNil)))) ((Γ.set i (some (tyI b b))).set j (some (tyLof (tyL 0 100 1 4) m m))) T := fun D σ H o f qn qr => by
  obtain ⟨v, e, r, bl, e1, h1, h2⟩ := f.2 x _ h
  refine ⟨v, e, r, _, e1, SqT.of (w.out h1), rfl, _, _, rfl, _, _, rfl, rfl, qn _ H o (Same.refl _) ?_⟩
  exact (f.set (T := tyI b b) ⟨b, rfl, Int.le_refl _, Int.le_refl _⟩).set h2
end
end Lw
set_option Elab.async false
set_option linter.all false
set_option maxRecDepth 100000
namespace Lw
open PySem L2 PyProof.Rows
structure XNames (mg : Str → Option Value) (CNoBase CNoNumber CNoFigures CNoRule CNoStand CNoGood CEndless CNoRules CNoStretch CTooMany CNoText CNoName CNoRow : Addr) : Prop where
  g_NoBase : mg "NoBase" = some (.ref CNoBase)
  g_NoNumber : mg "NoNumber" = some (.ref CNoNumber)
  g_NoFigures : mg "NoFigures" = some (.ref CNoFigures)
  g_NoRule : mg "NoRule" = some (.ref CNoRule)
  g_NoStand : mg "NoStand" = some (.ref CNoStand)
  g_NoGood : mg "NoGood" = some (.ref CNoGood)
  g_Endless : mg "Endless" = some (.ref CEndless)
  g_NoRules : mg "NoRules" = some (.ref CNoRules)
  g_NoStretch : mg "NoStretch" = some (.ref CNoStretch)
  g_TooMany : mg "TooMany" = some (.ref CTooMany)
  g_NoText : mg "NoText" = some (.ref CNoText)
  g_NoName : mg "NoName" = some (.ref CNoName)
  g_NoRow : mg "NoRow" = some (.ref CNoRow)
structure KindK (K : PySem.W.Frag) (C CNoBase CNoNumber CNoFigures CNoRule CNoStand CNoGood CEndless CNoRules CNoStretch CTooMany CNoText CNoName CNoRow : Addr) (k : Nat) : Prop where
  i : ExcI K C
  v : PySem.W.kitOne K (.ref C) (.type "ValueError") = some true
  k0 : PySem.W.kitOne K (.ref C) (.ref CNoBase) = some (decide (0 = k))
  k1 : PySem.W.kitOne K (.ref C) (.ref CNoNumber) = some (decide (1 = k))
  k2 : PySem.W.kitOne K (.ref C) (.ref CNoFigures) = some (decide (2 = k))
  k3 : PySem.W.kitOne K (.ref C) (.ref CNoRule) = some (decide (3 = k))
  k4 : PySem.W.kitOne K (.ref C) (.ref CNoStand) = some (decide (4 = k))
  k5 : PySem.W.kitOne K (.ref C) (.ref CNoGood) = some (decide (5 = k))
  k6 : PySem.W.kitOne K (.ref C) (.ref CEndless) = some (decide (6 = k))
  k7 : PySem.W.kitOne K (.ref C) (.ref CNoRules) = some (decide (7 = k))
  k8 : PySem.W.kitOne K (.ref C) (.ref CNoStretch) = some (decide (8 = k))
  k9 : PySem.W.kitOne K (.ref C) (.ref CTooMany) = some (decide (9 = k))
  k10 : PySem.W.kitOne K (.ref C) (.ref CNoText) = some (decide (10 = k))
  k11 : PySem.W.kitOne K (.ref C) (.ref CNoName) = some (decide (11 = k))
  k12 : PySem.W.kitOne K (.ref C) (.ref CNoRow) = some (decide (12 = k))
theorem boot_ValueError : bootBuiltins "ValueError" = some (.type "ValueError") := by decide +kernel
theorem boolsAt {K : PySem.W.Frag} {H : Hp} : ∀ {bs : List Bool}, TrsAt K H (bs.map Tr.bl) (bs.map V.bl)
  | [] => by rw [List.map_nil, List.map_nil, TrsAt]
  | b :: bs => by rw [List.map_cons, List.map_cons, TrsAt]; exact ⟨_, _, rfl, by rw [TrAt], boolsAt⟩
theorem teqs_bools : ∀ bs : List Bool, teqs (bs.map Tr.bl) (bs.map Tr.bl) = true
  | [] => by rw [List.map_nil, teqs]
  | b :: bs => by rw [List.map_cons, teqs, teqs_bools bs, teq]; simp
theorem tdeps_bools : ∀ bs : List Bool, tdeps (bs.map Tr.bl) = 0
  | [] => by rw [List.map_nil, tdeps]
  | b :: bs => by rw [List.map_cons, tdeps, tdeps_bools bs]; rfl
section
variable {P : Program} {w : World} {K : PySem.W.Frag} {mg : Str → Option Value} {base : Heap}
def sp__law_kinds (K : PySem.W.Frag) (CNoBase CNoNumber CNoFigures CNoRule CNoStand CNoGood CEndless CNoRules CNoStretch CTooMany CNoText CNoName CNoRow : Addr) : Sp := fun vs H Q _ => ∃ (e C : Addr) (k : Nat), vs = [.ref e, .int k] ∧ H e = some (excO e C) ∧ KindK K C CNoBase CNoNumber CNoFigures CNoRule CNoStand CNoGood CEndless CNoRules CNoStretch CTooMany CNoText CNoName CNoRow k ∧ k < 13 ∧ ∀ H', Same H H' → Q (.bl true) H'
theorem sc__law_kinds : FnScope ["caught", "due", "kinds"] ["caught", "due"] (defScope s__law_kinds) := ⟨rfl, rfl, rfl, by decide +kernel, rfl, by decide +kernel, by decide +kernel⟩
set_option maxHeartbeats 2000000 in
theorem ok__law_kinds {CNoBase CNoNumber CNoFigures CNoRule CNoStand CNoGood CEndless CNoRules CNoStretch CTooMany CNoText CNoName CNoRow : Addr} {f : Addr} {fd : FuncData} (D : Df K mg "_law_kinds" s__law_kinds ["caught", "due"] f fd) (XN : XNames mg CNoBase CNoNumber CNoFigures CNoRule CNoStand CNoGood CEndless CNoRules CNoStretch CTooMany CNoText CNoName CNoRow) (n_ValueError : mg "ValueError" = none) (T : Blt mg) : FnOk P w K mg base CX0 1 f fd ["caught", "due"] (sp__law_kinds K CNoBase CNoNumber CNoFigures CNoRule CNoStand CNoGood CEndless CNoRules CNoStretch CTooMany CNoText CNoName CNoRow) := by
  obtain ⟨g_NoBase, g_NoNumber, g_NoFigures, g_NoRule, g_NoStand, g_NoGood, g_Endless, g_NoRules, g_NoStretch, g_TooMany, g_NoText, g_NoName, g_NoRow⟩ := XN
  refine D.fn.ok sc__law_kinds (fun vs H Q E h => ?_) (fun cdv A outer s H vs Q E hr h => ?_)
  · obtain ⟨e, C, k, rfl, _⟩ := h; rfl
  · obtain ⟨e, C, k, rfl, he, Kd, hk, kk⟩ := h
    have HU := HUof hr
    refine ⟨_, (pss_cons (ps_set (i := 2) sc__law_kinds.nd rfl (Or.inl rfl) (pe_lst (pa_cons (pe_callB (k_isiX K) (by rfl) T.n_isinstance boot_isinstance (pa_cons (pv 0) (pa_cons (pe_glob (v := .ref CNoBase) rfl g_NoBase rfl) pa_nil))) (pa_cons (pe_callB (k_isiX K) (by rfl) T.n_isinstance boot_isinstance (pa_cons (pv 0) (pa_cons (pe_glob (v := .ref CNoNumber) rfl g_NoNumber rfl) pa_nil))) (pa_cons (pe_callB (k_isiX K) (by rfl) T.n_isinstance boot_isinstance (pa_cons (pv 0) (pa_cons (pe_glob (v := .ref CNoFigures) rfl g_NoFigures rfl) pa_nil))) pa_nil)))))
      (pss_cons (ps_set (i := 2) sc__law_kinds.nd rfl (Or.inl rfl) (pe_op op_cat (pv 2) (pe_lst (pa_cons (pe_callB (k_isiX K) (by rfl) T.n_isinstance boot_isinstance (pa_cons (pv 0) (pa_cons (pe_glob (v := .ref CNoRule) rfl g_NoRule rfl) pa_nil))) (pa_cons (pe_callB (k_isiX K) (by rfl) T.n_isinstance boot_isinstance (pa_cons (pv 0) (pa_cons (pe_glob (v := .ref CNoStand) rfl g_NoStand rfl) pa_nil))) (pa_cons (pe_callB (k_isiX K) (by rfl) T.n_isinstance boot_isinstance (pa_cons (pv 0) (pa_cons (pe_glob (v := .ref CNoGood) rfl g_NoGood rfl) pa_nil))) pa_nil))))))
      (pss_cons (ps_set (i := 2) sc__law_kinds.nd rfl (Or.inl rfl) (pe_op op_cat (pv 2) (pe_lst (pa_cons (pe_callB (k_isiX K) (by rfl) T.n_isinstance boot_isinstance (pa_cons (pv 0) (pa_cons (pe_glob (v := .ref CEndless) rfl g_Endless rfl) pa_nil))) (pa_cons (pe_callB (k_isiX K) (by rfl) T.n_isinstance boot_isinstance (pa_cons (pv 0) (pa_cons (pe_glob (v := .ref CNoRules) rfl g_NoRules rfl) pa_nil))) (pa_cons (pe_callB (k_isiX K) (by rfl) T.n_isinstance boot_isinstance (pa_cons (pv 0) (pa_cons (pe_glob (v := .ref CNoStretch) rfl g_NoStretch rfl) pa_nil))) pa_nil))))))
      (pss_cons (ps_set (i := 2) sc__law_kinds.nd rfl (Or.inl rfl) (pe_op op_cat (pv 2) (pe_lst (pa_cons (pe_callB (k_isiX K) (by rfl) T.n_isinstance boot_isinstance (pa_cons (pv 0) (pa_cons (pe_glob (v := .ref CTooMany) rfl g_TooMany rfl) pa_nil))) (pa_cons (pe_callB (k_isiX K) (by rfl) T.n_isinstance boot_isinstance (pa_cons (pv 0) (pa_cons (pe_glob (v := .ref CNoText) rfl g_NoText rfl) pa_nil))) (pa_cons (pe_callB (k_isiX K) (by rfl) T.n_isinstance boot_isinstance (pa_cons (pv 0) (pa_cons (pe_glob (v := .ref CNoName) rfl g_NoName rfl) pa_nil))) pa_nil))))))
      (pss_cons (ps_set (i := 2) sc__law_kinds.nd rfl (Or.inl rfl) (pe_op op_cat (pv 2) (pe_lst (pa_cons (pe_callB (k_isiX K) (by rfl) T.n_isinstance boot_isinstance (pa_cons (pv 0) (pa_cons (pe_glob (v := .ref CNoRow) rfl g_NoRow rfl) pa_nil))) (pa_cons (pe_not (pe_callB (k_isiX K) (by rfl) T.n_isinstance boot_isinstance (pa_cons (pv 0) (pa_cons (pe_bltn (v := .ty "ValueError") rfl n_ValueError boot_ValueError rfl) pa_nil)))) pa_nil)))))
      (pss_one (ps_ret (pe_and (pe_cmpR op_notN (pv 0) pe_non (nomark _)) (pe_one (pe_cmpR (k_eqT K HU) (pv 2) (pe_comp (show CScope (defScope s__law_kinds) _ "k" ["caught", "due", "kinds"] ["due"] [1] from ⟨rfl, by decide +kernel, by decide +kernel, rfl, by decide +kernel, rfl, by decide +kernel, by decide +kernel⟩) rfl (pi_range1 rfl T.n_range (pa_cons pe_int pa_nil)) (fun _ _ _ _ => pts_nil) (fun _ _ _ _ => (pe_cmpR op_eq (pv 0) (pv 1) (nomark _)))) (nomark _))))))))))), ?_⟩
    show tSeq _ _ _ _ _
    refine Tp.asg2 (w := idV) (Γ := [some (tyX e C), none, none]) (T1 := tyLe [V.bl (decide (0 = k)), V.bl (decide (1 = k)), V.bl (decide (2 = k))]) (Tp.lstE (TpE.cons (Tp.isiC rfl Kd.i Kd.k0) (TpE.cons (Tp.isiC rfl Kd.i Kd.k1) (TpE.cons (Tp.isiC rfl Kd.i Kd.k2) TpE.nil)))) trivial (Fits.cons ⟨rfl, he⟩ (Fits.skip (Fits.skip Fits.nil))) fun v1 H1 _ s1 t1 => ?_
    have m1 : Same H H1 := s1
    show tSeq _ _ _ _ _
    refine Tp.asg2 (w := idV) (Γ := [some (tyX e C), none, some (tyLe [V.bl (decide (0 = k)), V.bl (decide (1 = k)), V.bl (decide (2 = k))])]) (T1 := tyLe ([V.bl (decide (0 = k)), V.bl (decide (1 = k)), V.bl (decide (2 = k))] ++ [V.bl (decide (3 = k)), V.bl (decide (4 = k)), V.bl (decide (5 = k))])) (Tp.catE (Tp.var rfl) (Tp.lstE (TpE.cons (Tp.isiC rfl Kd.i Kd.k3) (TpE.cons (Tp.isiC rfl Kd.i Kd.k4) (TpE.cons (Tp.isiC rfl Kd.i Kd.k5) TpE.nil))))) trivial (Fits.cons ⟨rfl, m1 _ _ he⟩ (Fits.skip (Fits.cons t1 Fits.nil))) fun v2 H2 _ s2 t2 => ?_
    have t2 : (tyLe [V.bl (decide (0 = k)), V.bl (decide (1 = k)), V.bl (decide (2 = k)), V.bl (decide (3 = k)), V.bl (decide (4 = k)), V.bl (decide (5 = k))]).p H2 v2 := t2
    have m2 : Same H H2 := m1.trans s2
    show tSeq _ _ _ _ _
    refine Tp.asg2 (w := idV) (Γ := [some (tyX e C), none, some (tyLe [V.bl (decide (0 = k)), V.bl (decide (1 = k)), V.bl (decide (2 = k)), V.bl (decide (3 = k)), V.bl (decide (4 = k)), V.bl (decide (5 = k))])]) (T1 := tyLe ([V.bl (decide (0 = k)), V.bl (decide (1 = k)), V.bl (decide (2 = k)), V.bl (decide (3 = k)), V.bl (decide (4 = k)), V.bl (decide (5 = k))] ++ [V.bl (decide (6 = k)), V.bl (decide (7 = k)), V.bl (decide (8 = k))])) (Tp.catE (Tp.var rfl) (Tp.lstE (TpE.cons (Tp.isiC rfl Kd.i Kd.k6) (TpE.cons (Tp.isiC rfl Kd.i Kd.k7) (TpE.cons (Tp.isiC rfl Kd.i Kd.k8) TpE.nil))))) trivial (Fits.cons ⟨rfl, m2 _ _ he⟩ (Fits.skip (Fits.cons t2 Fits.nil))) fun v3 H3 _ s3 t3 => ?_
    have t3 : (tyLe [V.bl (decide (0 = k)), V.bl (decide (1 = k)), V.bl (decide (2 = k)), V.bl (decide (3 = k)), V.bl (decide (4 = k)), V.bl (decide (5 = k)), V.bl (decide (6 = k)), V.bl (decide (7 = k)), V.bl (decide (8 = k))]).p H3 v3 := t3
    have m3 : Same H H3 := m2.trans s3
    show tSeq _ _ _ _ _
    refine Tp.asg2 (w := idV) (Γ := [some (tyX e C), none, some (tyLe [V.bl (decide (0 = k)), V.bl (decide (1 = k)), V.bl (decide (2 = k)), V.bl (decide (3 = k)), V.bl (decide (4 = k)), V.bl (decide (5 = k)), V.bl (decide (6 = k)), V.bl (decide (7 = k)), V.bl (decide (8 = k))])]) (T1 := tyLe ([V.bl (decide (0 = k)), V.bl (decide (1 = k)), V.bl (decide (2 = k)), V.bl (decide (3 = k)), V.bl (decide (4 = k)), V.bl (decide (5 = k)), V.bl (decide (6 = k)), V.bl (decide (7 = k)), V.bl (decide (8 = k))] ++ [V.bl (decide (9 = k)), V.bl (decide (10 = k)), V.bl (decide (11 = k))])) (Tp.catE (Tp.var rfl) (Tp.lstE (TpE.cons (Tp.isiC rfl Kd.i Kd.k9) (TpE.cons (Tp.isiC rfl Kd.i Kd.k10) (TpE.cons (Tp.isiC rfl Kd.i Kd.k11) TpE.nil))))) trivial (Fits.cons ⟨rfl, m3 _ _ he⟩ (Fits.skip (Fits.cons t3 Fits.nil))) fun v4 H4 _ s4 t4 => ?_
    have t4 : (tyLe [V.bl (decide (0 = k)), V.bl (decide (1 = k)), V.bl (decide (2 = k)), V.bl (decide (3 = k)), V.bl (decide (4 = k)), V.bl (decide (5 = k)), V.bl (decide (6 = k)), V.bl (decide (7 = k)), V.bl (decide (8 = k)), V.bl (decide (9 = k)), V.bl (decide (10 = k)), V.bl (decide (11 = k))]).p H4 v4 := t4
    have m4 : Same H H4 := m3.trans s4
    show tSeq _ _ _ _ _
    refine Tp.asg2 (w := idV) (Γ := [some (tyX e C), none, some (tyLe [V.bl (decide (0 = k)), V.bl (decide (1 = k)), V.bl (decide (2 = k)), V.bl (decide (3 = k)), V.bl (decide (4 = k)), V.bl (decide (5 = k)), V.bl (decide (6 = k)), V.bl (decide (7 = k)), V.bl (decide (8 = k)), V.bl (decide (9 = k)), V.bl (decide (10 = k)), V.bl (decide (11 = k))])]) (T1 := tyLe ([V.bl (decide (0 = k)), V.bl (decide (1 = k)), V.bl (decide (2 = k)), V.bl (decide (3 = k)), V.bl (decide (4 = k)), V.bl (decide (5 = k)), V.bl (decide (6 = k)), V.bl (decide (7 = k)), V.bl (decide (8 = k)), V.bl (decide (9 = k)), V.bl (decide (10 = k)), V.bl (decide (11 = k))] ++ [V.bl (decide (12 = k)), V.bl (!true)])) (Tp.catE (Tp.var rfl) (Tp.lstE (TpE.cons (Tp.isiC rfl Kd.i Kd.k12) (TpE.cons (Tp.notB (Tp.isiV rfl Kd.i Kd.v)) TpE.nil)))) trivial (Fits.cons ⟨rfl, m4 _ _ he⟩ (Fits.skip (Fits.cons t4 Fits.nil))) fun v5 H5 _ s5 t5 => ?_
    have t5 : (tyLe [V.bl (decide (0 = k)), V.bl (decide (1 = k)), V.bl (decide (2 = k)), V.bl (decide (3 = k)), V.bl (decide (4 = k)), V.bl (decide (5 = k)), V.bl (decide (6 = k)), V.bl (decide (7 = k)), V.bl (decide (8 = k)), V.bl (decide (9 = k)), V.bl (decide (10 = k)), V.bl (decide (11 = k)), V.bl (decide (12 = k)), V.bl (!true)]).p H5 v5 := t5
    have m5 : Same H H5 := m4.trans s5
    obtain ⟨l5, rfl, h5⟩ := t5
    have e5 : [V.bl (decide (0 = k)), V.bl (decide (1 = k)), V.bl (decide (2 = k)), V.bl (decide (3 = k)), V.bl (decide (4 = k)), V.bl (decide (5 = k)), V.bl (decide (6 = k)), V.bl (decide (7 = k)), V.bl (decide (8 = k)), V.bl (decide (9 = k)), V.bl (decide (10 = k)), V.bl (decide (11 = k)), V.bl (decide (12 = k)), V.bl (!true)] = ((List.range 14).map fun j => decide (j = k)).map V.bl := by
      show _ = [V.bl (decide (0 = k)), V.bl (decide (1 = k)), V.bl (decide (2 = k)), V.bl (decide (3 = k)), V.bl (decide (4 = k)), V.bl (decide (5 = k)), V.bl (decide (6 = k)), V.bl (decide (7 = k)), V.bl (decide (8 = k)), V.bl (decide (9 = k)), V.bl (decide (10 = k)), V.bl (decide (11 = k)), V.bl (decide (12 = k)), V.bl (decide (13 = k))]
      rw [decide_eq_false (show ¬ 13 = k by omega)]
      rfl
    rw [e5] at h5
    have h5 : H5 l5 = some (.lst (((List.range 14).map fun j => decide (j = k)).map V.bl)) := h5
    refine ⟨_, rfl, rfl, _, rfl, iteT ?_⟩
    refine ⟨_, rfl, 14, rfl, by decide, by decide, comp_range (lo := 0) (n := (14 : Int).toNat) (fun i ys H6 => ys = ((List.range i).map fun j => decide (j = k)).map V.bl ∧ H6 = H5) ⟨rfl, rfl⟩ ?_ ?_⟩
    · rintro i ys H6 hi ⟨rfl, rfl⟩
      have hi : i < 14 := hi
      refine ⟨by rw [List.length_map, List.length_map, List.length_range]; exact Nat.lt_of_lt_of_le hi (by decide), ?_⟩
      unfold tYes
      dsimp only
      rw [if_pos rfl]
      refine ⟨_, rfl, _, rfl, rfl, ?_, rfl⟩
      rw [List.range_succ, List.map_append, List.map_append]
      have e : decide (V.int (0 + (i : Int)) = V.int (k : Int)) = decide (i = k) := decide_eq_decide.mpr ⟨fun z => by injection z with z; omega, fun z => by rw [z, Int.zero_add]⟩
      rw [e]; rfl
    · rintro ys H6 ⟨rfl, rfl⟩ Dd hD
      have mD := same_upd hD (o := .lst (((List.range (14 : Int).toNat).map fun j => decide (j = k)).map V.bl))
      refine ⟨.lst (((List.range 14).map fun j => decide (j = k)).map Tr.bl), .lst (((List.range 14).map fun j => decide (j = k)).map Tr.bl), ?_, ?_, ?_, ?_⟩
      · rw [TrAt]; exact ⟨l5, _, rfl, SqL.of (mD _ _ h5), boolsAt⟩
      · rw [TrAt]; exact ⟨Dd, _, rfl, SqL.of upd_same, boolsAt⟩
      · rw [tdep, tdeps_bools]; decide
      · have q := kk _ (m5.trans mD)
        rw [← show teq (.lst (((List.range 14).map fun j => decide (j = k)).map Tr.bl)) (.lst (((List.range 14).map fun j => decide (j = k)).map Tr.bl)) = true by rw [teq]; exact teqs_bools _] at q
        exact q
end
end Lw
set_option Elab.async false
set_option linter.all false
set_option maxRecDepth 100000
namespace Lw
open PySem L2 PyProof.Rows
theorem whole_ints_at {H : Hp} : ∀ {xs : List PyData} {ys : List V}, ThsAt H xs ys → xs.all wholeT = true → ys = (xs.map intT).map V.int
  | [], ys, h, _ => by rw [ThsAt] at h; rw [h]; rfl
  | d :: ds, ys, h, q => by
    rw [ThsAt] at h
    obtain ⟨y, zs, h1, h2, h3⟩ := h
    rw [List.all_cons, Bool.and_eq_true] at q
    have e : d = .int (intT d) := wholeT_int q.1
    rw [e, ThAt] at h2
    rw [h1, h2, whole_ints_at h3 q.2]
    rfl
theorem bools_any : ∀ bs : List Bool, ((bs.map Tr.bl).any fun t => teq t (.bl false)) = !bs.all id
  | [] => rfl
  | b :: bs => by
    rw [List.map_cons, List.any_cons, bools_any bs, List.all_cons, teq]
    cases b <;> simp
section
variable {P : Program} {w : World} {K : PySem.W.Frag} {mg : Str → Option Value} {base : Heap}
def sp__law_is_stand : Sp := fun vs H Q _ => ∃ (r : Addr) (b : Nat) (bl : Addr) (zs : List (Addr × List Int)) (v : V) (d : PyData), vs = [.ref r, v] ∧ RuleAt H r b bl zs ∧ GoodRule b (zs.map (·.2)) ∧ ThAt H d v ∧ sizT d ≤ 100000 ∧ ∀ H', Same H H' → Q (.bl (standT (zs.map (·.2)) d)) H'
theorem sc__law_is_stand : FnScope ["rule", "thing", "kinds"] ["rule", "thing"] (defScope s__law_is_stand) := ⟨rfl, rfl, rfl, by decide +kernel, rfl, by decide +kernel, by decide +kernel⟩
theorem ok__law_is_stand {f f1 : Addr} {fd fd1 : FuncData} (D : Df K mg "_law_is_stand" s__law_is_stand ["rule", "thing"] f fd) (D_law_all : Df K mg "_law_all" s__law_all ["bad"] f1 fd1) (G_law_all : FnOk P w K mg base CX0 2 f1 fd1 ["bad"] sp__law_all) (T : Blt mg) : FnOk P w K mg base CX0 3 f fd ["rule", "thing"] sp__law_is_stand := by
  refine D.fn.ok sc__law_is_stand (fun vs H Q E h => ?_) (fun cdv A outer s H vs Q E hr h => ?_)
  · obtain ⟨r, b, bl, zs, v, d, rfl, _⟩ := h; rfl
  · obtain ⟨r, b, bl, zs, v, d, rfl, R, g, hd, hs, kk⟩ := h
    have HU := HUof hr
    have h4 : zs.length ≤ 4 := by have := g.len; rwa [List.length_map] at this
    refine ⟨_, (pss_cons (ps_if (pt_not (pt_val (pe_callB (k_isi K) (by rfl) T.n_isinstance boot_isinstance (pa_cons (pv 1) (pa_cons (pe_bltn (v := .ty "list") rfl T.n_list boot_list rfl) pa_nil)))))
        (pss_one (ps_ret pe_bl))
        pss_nil)
      (pss_cons (ps_setComp (i := 2) (show CScope (defScope s__law_is_stand) _ "one" ["rule", "thing", "kinds"] [] [] from ⟨rfl, by decide +kernel, by decide +kernel, rfl, by decide +kernel, rfl, by decide +kernel, by decide +kernel⟩) rfl sc__law_is_stand.nd rfl (Or.inl rfl) (k_pi K (pv 1)) (fun _ _ _ _ => pts_nil) (fun _ _ _ _ => (pe_and (pe_callB (k_isi K) (by rfl) T.n_isinstance boot_isinstance (pa_cons (pv 0) (pa_cons (pe_bltn (v := .ty "int") rfl T.n_int boot_int rfl) pa_nil))) (pe_one (pe_not (pe_callB (k_isi K) (by rfl) T.n_isinstance boot_isinstance (pa_cons (pv 0) (pa_cons (pe_bltn (v := .ty "bool") rfl T.n_bool boot_bool rfl) pa_nil))))))))
      (pss_one (ps_ret (pe_and (pe_cmpR (k_notInT K HU) pe_bl (pv 2) (by with_unfolding_all rfl)) (pe_one (pe_cmpR (k_inT K HU) (pv 1) (pcall D_law_all G_law_all (hr.mono (by decide)) (pa_cons (pe_ix (k_ixT K) (pv 0) pe_int (fun _ _ => rfl)) pa_nil)) (by with_unfolding_all rfl)))))))), ?_⟩
    refine ⟨_, rfl, _, _, _, _, rfl, hd.ty, kit_list d, _, rfl, ?_⟩
    cases hl : isT "list" d with
    | false =>
      have q := kk H (Same.refl _)
      rw [show standT (zs.map (·.2)) d = false by unfold standT; rw [hl]; rfl] at q
      exact iteT q
    | true =>
    obtain ⟨xs, rfl⟩ := isT_list hl
    rw [ThAt] at hd
    obtain ⟨a, ys, rfl, ha, hx⟩ := hd
    rw [sizT] at hs
    have eS : standT (zs.map (·.2)) (.list xs) = (xs.all wholeT && decide (xs.map intT ∈ allF (zs.map (·.2)) (zs.map (·.2)))) := rfl
    refine iteF ⟨_, rfl, a, rfl, ⟨_, SqL.of ha⟩, comp_list (K := K) (a := a) (xs := ys) (fun i us H4 => us = ((xs.take i).map wholeT).map V.bl ∧ H4 = H) ⟨by simp, rfl⟩ (fun i us H4 _ ⟨_, e⟩ => by rw [e]; exact SqL.of ha) ?_ ?_⟩
    · rintro j x us H4 hjx ⟨rfl, rfl⟩
      obtain ⟨c, hcj, hc⟩ := hx.get hjx
      have hjl := (List.getElem?_eq_some_iff.mp hcj).1
      refine ⟨by rw [List.length_map, List.length_map, List.length_take]; exact Nat.lt_of_lt_of_le (show min j xs.length < 100001 by omega) (by decide), ?_⟩
      unfold tYes
      dsimp only
      rw [if_pos rfl]
      refine ⟨_, rfl, _, _, _, _, rfl, hc.ty, kit_int c, _, rfl, ?_⟩
      have fin : ∀ bb, bb = wholeT c → ((xs.take j).map wholeT).map V.bl ++ [V.bl bb] = ((xs.take (j + 1)).map wholeT).map V.bl := fun bb e => by
        rw [List.take_succ, hcj, List.map_append, List.map_append, e]; rfl
      have hw := wholeT_is c
      cases h1 : isT "int" c with
      | false => rw [h1] at hw; exact iteF ⟨fin _ hw.symm, rfl⟩
      | true =>
        rw [h1, Bool.true_and] at hw
        exact iteT ⟨_, rfl, _, _, _, _, rfl, hc.ty, kit_bool c, _, rfl, fin _ hw.symm, rfl⟩
    · rintro us H4 ⟨rfl, rfl⟩ Dd hD
      have mD := same_upd hD (o := .lst (((xs.take ys.length).map wholeT).map V.bl))
      have eL : xs.take ys.length = xs := by rw [hx.len, List.take_length]
      refine ⟨_, rfl, Dd, _, (xs.map wholeT).map Tr.bl, .bl false, rfl, SqL.of upd_same, by rw [eL]; exact boolsAt, by rw [TrAt], by rw [tdeps_bools]; decide, _, rfl, ?_⟩
      rw [if_pos rfl, bools_any, Bool.not_not, all_mapid]
      cases hw : xs.all wholeT with
      | false =>
        have q := kk _ mD
        rw [eS, hw] at q
        exact iteF q
      | true =>
      refine iteT ?_
      have R1 := R.same mD
      have ha0 : H4 a = some (.lst ((xs.map intT).map V.int)) := by rw [ha, whole_ints_at hx hw]
      have ha1 := mD _ _ ha0
      refine ⟨_, rfl, _, rfl, r, _, _, V.ref bl, rfl, rfl, SqT.of R1.tu, rfl, bl, zs, rfl, R1.li, R1.st, h4, fun z hz => ⟨(g.st _ (List.mem_map.mpr ⟨z, hz, rfl⟩)).ne, (g.st _ (List.mem_map.mpr ⟨z, hz, rfl⟩)).len⟩, fun D2 ws H5 hD2 hDv hW eW hlen s5 => ?_⟩
      refine ⟨D2, _, (ws.map (·.2)).map tInts, tInts (xs.map intT), rfl, SqL.of hDv, TrsAt.lists (fun z hz => (hW z hz).2.1), TrAt.ints (a := a) (SqL.of (s5 _ _ ha1)), Nat.le_trans (tdeps_tInts _) (by decide), ?_⟩
      have q := kk H5 (mD.trans s5)
      rw [eS, hw, Bool.true_and, ← eW, ← notin_any] at q
      exact q
def tyRu (r : Addr) (b : Nat) (bl : Addr) (zs : List (Addr × List Int)) : Ty := ⟨fun G v => v = .ref r ∧ RuleAt G r b bl zs, fun s ⟨h, R⟩ => ⟨h, R.same s⟩⟩
def tyBd (bl : Addr) (zs : List (Addr × List Int)) : Ty := ⟨fun G v => v = .ref bl ∧ G bl = some (.lst (zs.map fun z => V.ref z.1)) ∧ ∀ z ∈ zs, G z.1 = some (.lst (z.2.map V.int)), fun s ⟨h, h1, h2⟩ => ⟨h, s _ _ h1, fun z hz => s _ _ (h2 z hz)⟩⟩
theorem tyBd.of {G : Hp} {bl : Addr} {b : Nat} {zs : List (Addr × List Int)} (g : GoodRule b (zs.map (·.2))) {v : V} (h : (tyBd bl zs).p G v) : (tyLof (tyL 0 100 1 4) 0 4).p G v := by
  obtain ⟨rfl, h1, h2⟩ := h
  have h4 := g.len
  rw [List.length_map] at h4
  refine ⟨bl, _, rfl, h1, Nat.zero_le _, by rw [List.length_map]; exact h4, fun u hu => ?_⟩
  obtain ⟨z, hz, rfl⟩ := List.mem_map.mp hu
  have s := g.st _ (List.mem_map.mpr ⟨z, hz, rfl⟩)
  have b16 := g.b16
  refine ⟨z.1, _, rfl, h2 z hz, by rw [List.length_map]; exact List.length_pos_iff.mpr s.ne, by rw [List.length_map]; exact s.len, fun y hy => ?_⟩
  obtain ⟨i, hi, rfl⟩ := List.mem_map.mp hy
  have := s.fig i hi
  exact Th.int (by omega) (Nat.le_refl _)
section
variable {d : Addr} {fp : List Addr} {Γ : Cxt} {x : Nat}
theorem tp_unpx {w : View} {r bl : Addr} {b i j : Nat} {zs : List (Addr × List Int)} {T : Ty} (h : Γ[x]? = some (some (tyRu r b bl zs))) : TpS w Γ (tAsg (tVar x) (gTup K 2 (gCons (gName i) (gCons (gName j) gNil)))) ((Γ.set i (some (tyI b b))).set j (some (tyBd bl zs))) T := fun D σ H o f qn qr => by
  obtain ⟨v, e, rfl, R⟩ := f.2 x _ h
  refine ⟨_, e, r, _, rfl, SqT.of (w.out R.tu), rfl, _, _, rfl, _, _, rfl, rfl, qn _ H o (Same.refl _) ?_⟩
  exact (f.set (T := tyI b b) ⟨b, rfl, Int.le_refl _, Int.le_refl _⟩).set ⟨rfl, R.li, R.st⟩
theorem tp_all {bl : Addr} {b : Nat} {zs : List (Addr × List Int)} (h : Γ[x]? = some (some (tyBd bl zs))) (g : GoodRule b (zs.map (·.2))) : Tp (dkV d fp) Γ (tCall sp__law_all [] E0 (tCons (tVar x) tNil)) (tyLof (tyL 0 100 0 3) 1 13) := fun σ H Q o f q => by
  obtain ⟨v, e, rfl, h1, h2⟩ := f.2 x _ h
  have h4 := g.len
  rw [List.length_map] at h4
  refine ⟨_, e, bl, zs, rfl, aw_same _ _ _ _ h1, fun z hz => aw_same _ _ _ _ (h2 z hz), h4, fun z hz => ⟨(g.st _ (List.mem_map.mpr ⟨z, hz, rfl⟩)).ne, (g.st _ (List.mem_map.mpr ⟨z, hz, rfl⟩)).len⟩, fun D ws H' hD hDv hW eW hlen s => ?_⟩
  have S := Stp.of o s
  have out : ∀ y ob, H y = none → H' y = some ob → aw fp H' y = some ob := fun y ob hy e => by rw [aw_out (Deck.fresh o hy)]; exact e
  have hw : [] ∈ ws.map (·.2) := by rw [eW]; exact mem_allF.mpr (.inl rfl)
  have hpos : 1 ≤ ws.length := by
    cases ws with
    | nil => cases hw
    | cons _ _ => rw [List.length_cons]; omega
  refine q _ H' S.dk S.sm ⟨D, _, rfl, out _ _ hD hDv, by rw [List.length_map]; exact hpos, by rw [List.length_map]; exact hlen, fun u hu => ?_⟩
  obtain ⟨z, hz, rfl⟩ := List.mem_map.mp hu
  have hs := isSt_fig g (mem_allF.mp (by rw [← eW]; exact List.mem_map.mpr ⟨z, hz, rfl⟩ : z.2 ∈ allF (zs.map (·.2)) (zs.map (·.2))))
  have b16 := g.b16
  refine ⟨z.1, _, rfl, out _ _ (hW z hz).1 (hW z hz).2.1, Nat.zero_le _, by rw [List.length_map]; exact hs.1, fun y hy => ?_⟩
  obtain ⟨i, hi, rfl⟩ := List.mem_map.mp hy
  have := hs.2 i hi
  exact Th.int (by omega) (Nat.le_refl _)
theorem Tp.ixLb {w : View} {lo hi : Nat} {T : Ty} {x : Nat} {tb : TE} (ha : Γ[x]? = some (some (tyLof T lo hi))) (h0 : 1 ≤ lo) (hb : ∀ (m : Nat) (Γ' : Cxt), 1 ≤ m → m ≤ hi → Γ' = Γ.set x (some (tyLof T m m)) → Tp w Γ' tb (tyI 0 (m - 1))) : Tp w Γ (tOp (rIxL K) (tVar x) tb) T := fun σ H Q o f q => by
  obtain ⟨v, ev, a, vs, e, g, l1, m1, r⟩ := f.2 x _ ha
  have f' : Fits (Γ.set x (some (tyLof T vs.length vs.length))) (w.v H) σ := by
    have hx : x < Γ.length := (List.getElem?_eq_some_iff.mp ha).1
    refine ⟨by rw [List.length_set, f.1], fun j T' hj => ?_⟩
    rw [List.getElem?_set] at hj
    by_cases ej : x = j
    · rw [if_pos ej, if_pos hx] at hj
      cases hj
      subst ej
      exact ⟨v, ev, a, vs, e, g, Nat.le_refl _, Nat.le_refl _, r⟩
    · rw [if_neg ej] at hj
      exact f.2 j T' hj
  refine ⟨v, ev, hb vs.length _ (by omega) m1 rfl σ H _ o f' fun u H2 o2 s2 ⟨y, e2, a2, b2⟩ => ?_⟩
  have hy : y.toNat < vs.length := by omega
  refine ⟨a, vs, y, vs[y.toNat], e, e2, SqL.of (w.out (s2 _ _ g)), ?_, q _ H2 o2 s2 (T.mo s2 (r _ (List.getElem_mem hy)))⟩
  have := atI_nat (List.getElem?_eq_getElem hy)
  rwa [show ((y.toNat : Nat) : Int) = y by omega] at this
theorem Tp.ixN {w : View} {T : Ty} {lo hi : Nat} {ta tb : TE} (ha : Tp w Γ ta (tyLof T lo hi)) (hb : Tp w Γ tb (tyI (-1) (-1))) (hj : 1 ≤ lo := by decide) : Tp w Γ (tOp (rIxL K) ta tb) T := fun σ H Q o f q => ha σ H _ o f fun v H1 o1 s1 t1 => hb σ H1 _ o1 (f.same s1) fun u H2 o2 s2 ⟨y, e2, a2, b2⟩ => by
  obtain ⟨a, vs, e1, g1, l1, m1, r1⟩ := (tyLof T lo hi).mo s2 t1
  have hy : vs.length - 1 < vs.length := by omega
  refine ⟨a, vs, y, vs[vs.length - 1], e1, e2, SqL.of (w.out g1), ?_, q _ H2 o2 (s1.trans s2) (r1 _ (List.getElem_mem hy))⟩
  have e : y = -1 := by omega
  subst e
  have hne : vs ≠ [] := fun z => by rw [z] at hy; simp at hy
  have q := atI_last vs.dropLast (vs.getLast hne)
  rw [List.dropLast_concat_getLast, List.getLast_eq_getElem] at q
  exact q
end
def sp__law_no_stand : Sp := fun vs H Q _ => ∃ (d : Addr) (fp : List Addr) (r : Addr) (b : Nat) (bl : Addr) (zs : List (Addr × List Int)), vs = [.ref d, .ref r] ∧ Deck H d fp ∧ RuleAt (aw fp H) r b bl zs ∧ GoodRule b (zs.map (·.2)) ∧ ∀ (v : V) (H' : Hp), Stp fp d H H' → Th (aw fp H') 9 33000 v → Q v H'
theorem sc__law_no_stand : FnScope ["deck", "rule", "base", "bad", "some", "stand", "figure", "more"] ["deck", "rule"] (defScope s__law_no_stand) := ⟨rfl, rfl, rfl, by decide +kernel, rfl, by decide +kernel, by decide +kernel⟩
theorem hW9 {d r bl : Addr} {b : Nat} {zs : List (Addr × List Int)} (g : GoodRule b (zs.map (·.2))) : CSub [some (tyEq (.ref d)), some (tyRu r b bl zs), some (tyI b b), some (tyBd bl zs), some (tyLof (tyL 0 100 0 3) 1 13), some (tyL 0 100 0 3), none, none]
    [some (tyEq (.ref d)), none, some (tyI 2 16), some (tyLof (tyL 0 100 1 4) 0 4), none, some (tyL 0 100 0 3), none, none] :=
  ⟨fun _ _ h => h, fun _ _ ⟨i, e, a, b⟩ => ⟨i, e, by have := g.b2; omega, by have := g.b16; omega⟩, fun _ _ h => tyBd.of g h, fun _ _ h => h, trivial⟩
set_option maxHeartbeats 4000000 in
theorem ok__law_no_stand {f f1 f2 : Addr} {fd fd1 fd2 : FuncData} (D : Df K mg "_law_no_stand" s__law_no_stand ["deck", "rule"] f fd) (D_law_draw : Df K mg "_law_draw" s__law_draw ["deck", "many"] f1 fd1) (D_law_all : Df K mg "_law_all" s__law_all ["bad"] f2 fd2) (G_law_all : FnOk P w K mg base CX0 2 f2 fd2 ["bad"] sp__law_all) (T : Blt mg) : FnOk P w K mg base CX0 3 f fd ["deck", "rule"] sp__law_no_stand := by
  have G_law_draw : FnOk P w K mg base CX0 1 f1 fd1 ["deck", "many"] sp__law_draw := ok__law_draw D_law_draw T
  refine D.fn.ok sc__law_no_stand (fun vs H Q E h => ?_) (fun cdv A outer s H vs Q E hr h => ?_)
  · obtain ⟨d, fp, r, b, bl, zs, rfl, _⟩ := h; rfl
  · obtain ⟨d, fp, r, b, bl, zs, rfl, Dk, R, g, kk⟩ := h
    have HU := HUof hr
    refine ⟨_, (pss_cons (ps_asg (pv 1) (pg_tup rfl (pgs_cons (pg_name (i := 2) sc__law_no_stand.nd rfl (Or.inl rfl)) (pgs_cons (pg_name (i := 3) sc__law_no_stand.nd rfl (Or.inl rfl)) pgs_nil))))
      (pss_cons (ps_set (i := 4) sc__law_no_stand.nd rfl (Or.inl rfl) (pcall D_law_all G_law_all (hr.mono (by decide)) (pa_cons (pv 3) pa_nil)))
      (pss_cons (ps_set (i := 5) sc__law_no_stand.nd rfl (Or.inl rfl) (pe_ix (k_ixL K) (pv 4) (pcall D_law_draw G_law_draw (hr.mono (by decide)) (pa_cons (pv 0) (pa_cons (pe_callB (k_len K) (by rfl) T.n_len PySem.boot_len (pa_cons (pv 4) pa_nil)) pa_nil))) (fun _ _ => rfl)))
      (pss_cons (ps_set (i := 6) sc__law_no_stand.nd rfl (Or.inl rfl) (pcall D_law_draw G_law_draw (hr.mono (by decide)) (pa_cons (pv 0) (pa_cons (pv 2) pa_nil))))
      (pss_cons (ps_setI (i := 7) sc__law_no_stand.nd rfl (Or.inl rfl) (pei_lst (pai_cons (pei (pe_op op_cat (pv 5) (pe_lst (pa_cons (pv 6) pa_nil)))) (pai_cons (pei (pe_op op_cat (pe_lst (pa_cons (pv 6) pa_nil)) (pv 5))) (pai_cons (pei (pe_lst (pa_cons (pv 6) pa_nil))) (pai_cons (pei (pe_revSlice (pv 5))) (pai_cons (pei (pe_op op_cat (pe_op op_cat (pv 5) (pv 5)) (pe_lst (pa_cons pe_int pa_nil)))) (pai_cons (pei (pe_callTy call_tuple_of (by rfl) T.n_tuple boot_tuple (pa_cons (pv 5) pa_nil))) (pai_cons (pei pe_non) (pai_str (pai_cons (pei pe_dnewK) pai_nil)))))))))))
      (pss_cons (ps_set (i := 7) sc__law_no_stand.nd rfl (Or.inl rfl) (pe_opJ op_cat (pv 7) (pei_lst (pai_cons (pei (pe_ix (k_ixL K) (pe_op op_cat (pv 3) (pe_lst (pa_cons (pe_lst (pa_cons pe_int pa_nil)) pa_nil))) pe_int (fun _ _ => rfl))) (pai_cons (pei (pe_ix (k_ixL K) (pe_op op_cat (pv 3) (pe_lst (pa_cons (pe_lst (pa_cons pe_int pa_nil)) pa_nil))) (pe_un un_neg pe_int) (fun _ _ => rfl))) (pai_cons pei_int (pai_cons (pei pe_bl) (pai_cons (pei (pe_lst (pa_cons (pv 5) pa_nil))) (pai_cons (pei_lst (pai_cons pei_int (pai_cons pei_int (pai_cons pei_int (pai_cons pei_int pai_nil))))) (pai_cons (pei (pe_lst (pa_cons (pv 2) pa_nil))) (pai_cons (pei_lst (pai_cons (pei pe_bl) pai_nil)) (pai_cons (pei_lst (pai_str pai_nil)) pai_nil))))))))))))
      (pss_one (ps_ret (pe_ix (k_ixL K) (pv 7) (pcall D_law_draw G_law_draw (hr.mono (by decide)) (pa_cons (pv 0) (pa_cons pe_int pa_nil))) (fun _ _ => rfl)))))))))), ?_⟩
    refine TpS.go (w := dkV d fp) (Γ := [some (tyEq (.ref d)), some (tyRu r b bl zs), none, none, none, none, none, none]) (Γ' := [some tyNo]) (T := tyTh 9 33000) ?ty Dk (Fits.cons rfl (Fits.cons ⟨rfl, R⟩ (Fits.any [none, none, none, none, none, none]))) (fun _ _ _ _ h => h.no.elim) ?qr
    case ty => exact
      (TpS.seq (tp_unpx rfl)
      (TpS.seq (TpS.asg (tp_all rfl g))
      (TpS.seq (TpS.asg (Tp.ixLb rfl (by decide) (fun m Γ' hm h13 e => by subst e; exact tp_draw rfl (Tp.len (Tp.var rfl)) (by omega) (Int.lt_of_le_of_lt (show (m : Int) ≤ 13 by omega) (by decide)))))
      (TpS.weak (fun _ _ f => CSub.fits (hW9 g) f) (TpS.seq (TpS.asg (tp_draw rfl (Tp.var rfl)))
      (TpS.seq (TpS.asg (Tp.lst (TpA.cons (Tp.ofL (Tp.cat (Tp.var rfl) (Tp.lst (TpA.cons (Tp.ofI (Tp.var rfl)) TpA.nil)))) (TpA.cons (Tp.ofL (Tp.cat (Tp.lst (TpA.cons (Tp.ofI (Tp.var rfl)) TpA.nil)) (Tp.var rfl))) (TpA.cons (Tp.ofL (Tp.lst (TpA.cons (Tp.ofI (Tp.var rfl)) TpA.nil))) (TpA.cons (Tp.ofL (Tp.rev (Tp.var rfl))) (TpA.cons (Tp.ofL (Tp.cat (Tp.cat (Tp.var rfl) (Tp.var rfl)) (Tp.lst (TpA.cons (Tp.ofI Tp.int) TpA.nil)))) (TpA.cons (Tp.tupOf (Tp.var rfl)) (TpA.cons Tp.non (TpA.cons (Tp.str (by decide +kernel) (by decide +kernel)) (TpA.cons Tp.emp TpA.nil)))))))))))
      (TpS.seq (TpS.asg (Tp.cat (Tp.var rfl) (Tp.lst (TpA.cons (Tp.ofL (Tp.ix (Tp.catT (Tp.var rfl) (Tp.lstT (TpB.cons (Tp.wideL (Tp.lst (TpA.cons (Tp.ofI Tp.int) TpA.nil)) (fun _ _ h => h.le (by decide) (by decide)) (by decide) (by decide)) TpB.nil))) Tp.int (by decide))) (TpA.cons (Tp.ofL (Tp.ixN (Tp.catT (Tp.var rfl) (Tp.lstT (TpB.cons (Tp.wideL (Tp.lst (TpA.cons (Tp.ofI Tp.int) TpA.nil)) (fun _ _ h => h.le (by decide) (by decide)) (by decide) (by decide)) TpB.nil))) (Tp.neg Tp.int))) (TpA.cons (Tp.ofI Tp.int) (TpA.cons Tp.bl (TpA.cons (Tp.ofL (Tp.lst (TpA.cons (Tp.ofL (Tp.var rfl)) TpA.nil))) (TpA.cons (Tp.ofL (Tp.lst (TpA.cons (Tp.ofI Tp.int) (TpA.cons (Tp.ofI Tp.int) (TpA.cons (Tp.ofI Tp.int) (TpA.cons (Tp.ofI Tp.int) TpA.nil)))))) (TpA.cons (Tp.ofL (Tp.lst (TpA.cons (Tp.ofI (Tp.var rfl)) TpA.nil))) (TpA.cons (Tp.ofL (Tp.lst (TpA.cons Tp.bl TpA.nil))) (TpA.cons (Tp.ofL (Tp.lst (TpA.cons (Tp.str (by decide +kernel) (by decide +kernel)) TpA.nil))) TpA.nil))))))))))))
      (TpS.ret (Tp.le (Tp.ix (Tp.var rfl) (tp_draw rfl Tp.int) (by decide)) (by decide) (by decide))))))))))
    case qr => exact fun v H' o s t => kk v H' ⟨o, s⟩ t
end
end Lw
set_option Elab.async false
set_option linter.all false
set_option maxRecDepth 100000
namespace Lw
open PySem L2 PyProof.Rows
def raisedT (CR CS CF : Addr) (d e x : PyData) (door : Nat) : Option Addr :=
  if ruleT d = false then some CR
  else if door = 0 then (if figsT (baseOf d) e = false then some CF else none)
  else if door = 1 then none
  else (if standT (badOf d) e = false then some CS else if figT (baseOf d) x = false then some CF else none)
section
variable {CR CS CF : Addr} {d e x : PyData}
theorem no_f {c : Bool} (h : c = true) : ¬ c = false := by rw [h]; intro z; cases z
theorem rR {door : Nat} (h : ruleT d = false) : raisedT CR CS CF d e x door = some CR := by unfold raisedT; rw [if_pos h]
theorem r0F (h : ruleT d = true) (h2 : figsT (baseOf d) e = false) : raisedT CR CS CF d e x 0 = some CF := by unfold raisedT; rw [if_neg (no_f h), if_pos rfl, if_pos h2]
theorem r0O (h : ruleT d = true) (h2 : figsT (baseOf d) e = true) : raisedT CR CS CF d e x 0 = none := by unfold raisedT; rw [if_neg (no_f h), if_pos rfl, if_neg (no_f h2)]
theorem r1O (h : ruleT d = true) : raisedT CR CS CF d e x 1 = none := by unfold raisedT; rw [if_neg (no_f h), if_neg (by decide), if_pos rfl]
theorem r2S (h : ruleT d = true) (h2 : standT (badOf d) e = false) : raisedT CR CS CF d e x 2 = some CS := by unfold raisedT; rw [if_neg (no_f h), if_neg (by decide), if_neg (by decide), if_pos h2]
theorem r2F (h : ruleT d = true) (h2 : standT (badOf d) e = true) (h3 : figT (baseOf d) x = false) : raisedT CR CS CF d e x 2 = some CF := by unfold raisedT; rw [if_neg (no_f h), if_neg (by decide), if_neg (by decide), if_neg (no_f h2), if_pos h3]
theorem r2O (h : ruleT d = true) (h2 : standT (badOf d) e = true) (h3 : figT (baseOf d) x = true) : raisedT CR CS CF d e x 2 = none := by unfold raisedT; rw [if_neg (no_f h), if_neg (by decide), if_neg (by decide), if_neg (no_f h2), if_neg (no_f h3)]
end
section
variable {P : Program} {w : World} {K : PySem.W.Frag} {mg : Str → Option Value} {base : Heap} {T0 : Addr}
def sp__law_caught (T0 CR CS CF : Addr) : Sp := fun vs H Q _ => ∃ (door : Nat) (v u y : V) (d e x : PyData), vs = [.int door, v, u, y] ∧ ThAt H d v ∧ ThAt H e u ∧ ThAt H x y ∧ sizT d ≤ 100000 ∧ sizT e ≤ 100000 ∧ LT T0 H ∧ door < 3 ∧ (door = 0 → ruleT d = true → figsT (baseOf d) e = true → (eltsT e).length ≤ 1000) ∧
  (∀ C, raisedT CR CS CF d e x door = some C → ∀ a H', SameL T0 H H' → LT T0 H' → H' a = some (excO a C) → Q (.ref a) H') ∧ (raisedT CR CS CF d e x door = none → ∀ H', SameL T0 H H' → LT T0 H' → Q .non H')
theorem sc__law_caught : FnScope ["door", "rule", "one", "figure", "caught", "e"] ["door", "rule", "one", "figure"] (defScope s__law_caught) := ⟨rfl, rfl, rfl, by decide +kernel, rfl, by decide +kernel, by decide +kernel⟩
theorem ok__law_caught {CNoRule CNoStand CNoFigures CLackError : Addr} {f f1 f2 f3 : Addr} {fd fd1 fd2 fd3 : FuncData} (D : Df K mg "_law_caught" s__law_caught ["door", "rule", "one", "figure"] f fd) (Dstand_behind : Df K mg "stand_behind" s_stand_behind ["rule", "figures"] f1 fd1) (Gstand_behind : FnOk P w K mg base (CX1 P w) 8 f1 fd1 ["rule", "figures"] (sp_stand_behind CNoRule CNoFigures)) (Dall_stands : Df K mg "all_stands" s_all_stands ["rule"] f2 fd2) (Gall_stands : FnOk P w K mg base (CX1 P w) 8 f2 fd2 ["rule"] (sp_all_stands T0 CNoRule))
    (Dstep_from : Df K mg "step_from" s_step_from ["rule", "stand", "figure"] f3 fd3) (Gstep_from : FnOk P w K mg base (CX1 P w) 8 f3 fd3 ["rule", "stand", "figure"] (sp_step_from T0 CNoRule CNoStand CNoFigures)) (h_LackError : CatchC K mg "LackError" CLackError) (kt_NoRule : PySem.W.kitCls K (.ref CNoRule) (.ref CLackError) = some true) (kt_NoStand : PySem.W.kitCls K (.ref CNoStand) (.ref CLackError) = some true) (kt_NoFigures : PySem.W.kitCls K (.ref CNoFigures) (.ref CLackError) = some true) :
    FnOk P w K mg base CX0 9 f fd ["door", "rule", "one", "figure"] (sp__law_caught T0 CNoRule CNoStand CNoFigures) := by
  refine D.fn.ok sc__law_caught (fun vs H Q E h => ?_) (fun cdv A outer s H vs Q E hr h => ?_)
  · obtain ⟨door, v, u, y, d, e, x, rfl, _⟩ := h; rfl
  · obtain ⟨door, v, u, y, d, e, x, rfl, hd, he, hx, hs, hse, lt, h3, hn, kX, kOk⟩ := h
    refine ⟨_, (pss_cons (ps_set (i := 4) sc__law_caught.nd rfl (Or.inl rfl) pe_non)
      (pss_cons (ps_tryAs (i := 5) h_LackError rfl rfl sc__law_caught.nd rfl rfl (fun _ _ _ hS =>
        (pss_one (ps_if (pt_cmpR op_eq (pv 0) pe_int (nomark _))
          (pss_one (ps_expr (pcallX Dstand_behind Gstand_behind (hr.mono (by decide)) hS (pa_cons (pv 1) (pa_cons (pv 2) pa_nil)))))
          (pss_one (ps_if (pt_cmpR op_eq (pv 0) pe_int (nomark _))
            (pss_one (ps_expr (pcallX Dall_stands Gall_stands (hr.mono (by decide)) hS (pa_cons (pv 1) pa_nil))))
            (pss_one (ps_expr (pcallX Dstep_from Gstep_from (hr.mono (by decide)) hS (pa_cons (pv 1) (pa_cons (pv 2) (pa_cons (pv 3) pa_nil))))))))))) (fun _ =>
        (pss_one (ps_set (i := 4) sc__law_caught.nd rfl (Or.inl rfl) (pv 5)))))
      (pss_one (ps_ret (pv 4))))), ?_⟩
    have kx : ∀ C, raisedT CNoRule CNoStand CNoFigures d e x door = some C → ∀ H1 a, SameL T0 H H1 → LT T0 H1 → H1 a = none → Q (.ref a) (upd H1 a (excO a C)) := fun C hC H1 a m l1 ha => kX C hC a _ (m.trans (SameL.of (same_upd ha))) (l1.same (same_upd ha)) upd_same
    match door, h3 with
    | 0, _ => exact ⟨_, rfl, rfl, _, rfl, iteA (decide_eq_true rfl) ⟨_, rfl, _, rfl, v, u, d, e, rfl, hd, he, hs, hse, fun q H1 s1 => ⟨_, rfl, kt_NoRule, fun a ha => ⟨_, rfl, _, rfl, kx _ (rR q) H1 a (SameL.of s1) (lt.same s1) ha⟩⟩, fun q q2 H1 s1 => ⟨_, rfl, kt_NoFigures, fun a ha => ⟨_, rfl, _, rfl, kx _ (r0F q q2) H1 a (SameL.of s1) (lt.same s1) ha⟩⟩, fun q q2 => ⟨hn rfl q q2, fun _ H1 s1 => ⟨_, rfl, kOk (r0O q q2) H1 (SameL.of s1) (lt.same s1)⟩⟩⟩⟩
    | 1, _ => exact ⟨_, rfl, rfl, _, rfl, iteB (dec_ints (by decide)) ⟨_, rfl, rfl, _, rfl, iteA (decide_eq_true rfl) ⟨_, rfl, v, d, rfl, hd, hs, lt, fun q H1 s1 => ⟨_, rfl, kt_NoRule, fun a ha => ⟨_, rfl, _, rfl, kx _ (rR q) H1 a (SameL.of s1) (lt.same s1) ha⟩⟩, fun q _ H1 s1 l1 => ⟨_, rfl, kOk (r1O q) H1 s1 l1⟩⟩⟩⟩
    | 2, _ => exact ⟨_, rfl, rfl, _, rfl, iteB (dec_ints (by decide)) ⟨_, rfl, rfl, _, rfl, iteB (dec_ints (by decide)) ⟨_, rfl, _, rfl, _, rfl, v, u, y, d, e, x, rfl, hd, he, hx, hs, hse, lt, fun q H1 s1 => ⟨_, rfl, kt_NoRule, fun a ha => ⟨_, rfl, _, rfl, kx _ (rR q) H1 a (SameL.of s1) (lt.same s1) ha⟩⟩, fun q q2 H1 s1 l1 => ⟨_, rfl, kt_NoStand, fun a ha => ⟨_, rfl, _, rfl, kx _ (r2S q q2) H1 a s1 l1 ha⟩⟩, fun q q2 q3 H1 s1 l1 => ⟨_, rfl, kt_NoFigures, fun a ha => ⟨_, rfl, _, rfl, kx _ (r2F q q2 q3) H1 a s1 l1 ha⟩⟩, fun q q2 q3 _ H1 s1 l1 => ⟨_, rfl, kOk (r2O q q2 q3) H1 s1 l1⟩⟩⟩⟩
    | n + 3, h => exact absurd h (by omega)
end
theorem tri_thing {H : Hp} {q : Addr} {v u y : V} {d e x : PyData} (hq : H q = none) (hd : ThAt H d v) (fd : Fit 9 33000 d) (he : ThAt H e u) (fe : Fit 9 33000 e) (hx : ThAt H x y) (fx : Fit 9 33000 x) : ThAt (upd H q (.lst [v, u, y])) (.list [d, e, x]) (.ref q) ∧ Fit 20 100000 (.list [d, e, x]) := by
  have m := same_upd hq (o := .lst [v, u, y])
  have h : ThAt (upd H q (.lst [v, u, y])) (.list [d, e, x]) (.ref q) := by
    rw [ThAt]
    refine ⟨q, _, rfl, upd_same, ?_⟩
    rw [ThsAt]
    refine ⟨_, _, rfl, hd.same m, ?_⟩
    rw [ThsAt]
    refine ⟨_, _, rfl, he.same m, ?_⟩
    rw [ThsAt]
    exact ⟨_, _, rfl, hx.same m, by rw [ThsAt]⟩
  refine ⟨h, Th.fit (Th.le (k := 10) (n := 99003) (Th.lst (k := 9) (n := 33000) upd_same (fun z hz => ?_) (by show 33001 * 3 ≤ 99003; decide)) (by decide) (by decide)) h⟩
  simp only [List.mem_cons, List.not_mem_nil, or_false] at hz
  rcases hz with rfl | rfl | rfl
  · exact ⟨d, hd.same m, fd⟩
  · exact ⟨e, he.same m, fe⟩
  · exact ⟨x, hx.same m, fx⟩
section
variable {P : Program} {w : World} {K : PySem.W.Frag} {mg : Str → Option Value} {base : Heap} {T0 : Addr}
def sp__law_right (K : PySem.W.Frag) (T0 CNoBase CNoNumber CNoFigures CNoRule CNoStand CNoGood CEndless CNoRules CNoStretch CTooMany CNoText CNoName CNoRow : Addr) : Sp := fun vs H Q _ => ∃ (door : Nat) (v u y dv : V) (d e x : PyData), vs = [.int door, v, u, y, dv] ∧ ThAt H d v ∧ Fit 9 33000 d ∧ ThAt H e u ∧ Fit 9 33000 e ∧ ThAt H x y ∧ Fit 9 33000 x ∧ LT T0 H ∧ door < 3 ∧ (door = 0 → ruleT d = true → figsT (baseOf d) e = true → (eltsT e).length ≤ 1000) ∧
  ((raisedT CNoRule CNoStand CNoFigures d e x door = none ∧ dv = .non) ∨ ∃ (C : Addr) (k : Nat), raisedT CNoRule CNoStand CNoFigures d e x door = some C ∧ dv = .int k ∧ k < 13 ∧ KindK K C CNoBase CNoNumber CNoFigures CNoRule CNoStand CNoGood CEndless CNoRules CNoStretch CTooMany CNoText CNoName CNoRow k) ∧ ∀ H', SameL T0 H H' → LT T0 H' → Q (.bl true) H'
theorem sc__law_right : FnScope ["door", "rule", "one", "figure", "due", "kept", "caught"] ["door", "rule", "one", "figure", "due"] (defScope s__law_right) := ⟨rfl, rfl, rfl, by decide +kernel, rfl, by decide +kernel, by decide +kernel⟩
theorem ok__law_right {CNoBase CNoNumber CNoFigures CNoRule CNoStand CNoGood CEndless CNoRules CNoStretch CTooMany CNoText CNoName CNoRow : Addr} {f f1 f2 : Addr} {fd fd1 fd2 : FuncData} (D : Df K mg "_law_right" s__law_right ["door", "rule", "one", "figure", "due"] f fd) (D_law_caught : Df K mg "_law_caught" s__law_caught ["door", "rule", "one", "figure"] f1 fd1) (G_law_caught : FnOk P w K mg base CX0 9 f1 fd1 ["door", "rule", "one", "figure"] (sp__law_caught T0 CNoRule CNoStand CNoFigures))
    (D_law_kinds : Df K mg "_law_kinds" s__law_kinds ["caught", "due"] f2 fd2) (XN : XNames mg CNoBase CNoNumber CNoFigures CNoRule CNoStand CNoGood CEndless CNoRules CNoStretch CTooMany CNoText CNoName CNoRow) (n_ValueError : mg "ValueError" = none) (T : Blt mg) : FnOk P w K mg base CX0 10 f fd ["door", "rule", "one", "figure", "due"] (sp__law_right K T0 CNoBase CNoNumber CNoFigures CNoRule CNoStand CNoGood CEndless CNoRules CNoStretch CTooMany CNoText CNoName CNoRow) := by
  have G_law_kinds : FnOk P w K mg base CX0 1 f2 fd2 ["caught", "due"] (sp__law_kinds K CNoBase CNoNumber CNoFigures CNoRule CNoStand CNoGood CEndless CNoRules CNoStretch CTooMany CNoText CNoName CNoRow) := ok__law_kinds D_law_kinds XN n_ValueError T
  refine D.fn.ok sc__law_right (fun vs H Q E h => ?_) (fun cdv A outer s H vs Q E hr h => ?_)
  · obtain ⟨door, v, u, y, dv, d, e, x, rfl, _⟩ := h; rfl
  · obtain ⟨door, v, u, y, dv, d, e, x, rfl, hd, fd, he, fe, hx, fx, lt, h3, hn, due, kk⟩ := h
    have HU := HUof hr
    refine ⟨_, (pss_cons (ps_set (i := 5) sc__law_right.nd rfl (Or.inl rfl) (pe_callB (call_reprT hr.gd HU) (by rfl) T.n_repr PyProof.Rows.boot_repr (pa_cons (pe_lst (pa_cons (pv 1) (pa_cons (pv 2) (pa_cons (pv 3) pa_nil)))) pa_nil)))
      (pss_cons (ps_set (i := 6) sc__law_right.nd rfl (Or.inl rfl) (pcall D_law_caught G_law_caught (hr.mono (by decide)) (pa_cons (pv 0) (pa_cons (pv 1) (pa_cons (pv 2) (pa_cons (pv 3) pa_nil))))))
      (pss_cons (ps_if (PW.pt (pw_or (PW.pt (pw_and (pt_cmpR op_isN (pv 4) pe_non (nomark _)) (pw_and1 (pt_cmpR op_notN (pv 6) pe_non (nomark _))))) (pw_or1 (PW.pt (pw_and (pt_cmpR op_notN (pv 4) pe_non (nomark _)) (pw_and1 (pt_not (pt_val (pcall D_law_kinds G_law_kinds (hr.mono (by decide)) (pa_cons (pv 6) (pa_cons (pv 4) pa_nil)))))))))))
        (pss_one (ps_ret pe_bl))
        pss_nil)
      (pss_one (ps_ret (pe_cmpR op_eq (pe_callB (call_reprT hr.gd HU) (by rfl) T.n_repr PyProof.Rows.boot_repr (pa_cons (pe_lst (pa_cons (pv 1) (pa_cons (pv 2) (pa_cons (pv 3) pa_nil)))) pa_nil)) (pv 5) (nomark _))))))), ?_⟩
    refine ⟨_, rfl, _, rfl, _, rfl, (by show 3 ≤ sizeLine; decide), fun q hq => ?_⟩
    have m1 := same_upd hq (o := .lst [v, u, y])
    obtain ⟨hD, fD⟩ := tri_thing hq hd fd he fe hx fx
    refine ⟨_, _, rfl, hD, fD.sh, fD.shown (Nat.le_refl _), Nat.le_trans fD.dp (by decide), ?_⟩
    have lt1 := lt.same m1
    have fin : ∀ H2, SameL T0 H H2 → LT T0 H2 → ∀ q2, H2 q2 = none → Q (.bl true) (upd H2 q2 (.lst [v, u, y])) := fun H2 s2 lt2 q2 hq2 => kk _ (s2.trans (SameL.of (same_upd hq2))) (lt2.same (same_upd hq2))
    have last : ∀ H2, SameL T0 H H2 → LT T0 H2 → ∀ q2, H2 q2 = none → ThAt (upd H2 q2 (.lst [v, u, y])) (.list [d, e, x]) (.ref q2) := fun H2 s2 lt2 q2 hq2 => (tri_thing hq2 (th_sameL lt s2 hd) fd (th_sameL lt s2 he) fe (th_sameL lt s2 hx) fx).1
    refine ⟨_, rfl, _, rfl, _, rfl, _, rfl, door, v, u, y, d, e, x, rfl, hd.same m1, he.same m1, hx.same m1, Nat.le_trans (siz_wt d) (Nat.le_trans fd.wt (by decide)), Nat.le_trans (siz_wt e) (Nat.le_trans fe.wt (by decide)), lt1, h3, hn, fun C hC a H2 s2 lt2 ha => ?_, fun hC H2 s2 lt2 => ?_⟩
    · rcases due with ⟨z, _⟩ | ⟨C', k, z, rfl, hk, Kd⟩
      · rw [z] at hC; cases hC
      rw [z] at hC; cases hC
      have s02 := (SameL.of m1 (T := T0)).trans s2
      refine ⟨_, rfl, rfl, _, rfl, iteB (decide_eq_false (fun z => by cases z)) ?_⟩
      refine iteF ⟨_, rfl, rfl, _, rfl, iteA (by rw [decide_eq_false (fun z => by cases z)]; rfl) ?_⟩
      refine ⟨_, rfl, _, rfl, a, C, k, rfl, ha, Kd, hk, fun H3 m3 => ⟨_, rfl, iteF ?_⟩⟩
      have s03 := s02.trans (SameL.of m3)
      have lt3 := lt2.same m3
      refine ⟨_, rfl, _, rfl, _, rfl, (by show 3 ≤ sizeLine; decide), fun q2 hq2 => ⟨_, _, rfl, last H3 s03 lt3 q2 hq2, fD.sh, fD.shown (Nat.le_refl _), Nat.le_trans fD.dp (by decide), _, rfl, rfl, ?_⟩⟩
      rw [decide_eq_true rfl]
      exact fin H3 s03 lt3 q2 hq2
    · obtain rfl : dv = .non := by
        rcases due with ⟨_, e⟩ | ⟨C', k, z, _⟩
        · exact e
        · rw [z] at hC; cases hC
      have s02 := (SameL.of m1 (T := T0)).trans s2
      refine ⟨_, rfl, rfl, _, rfl, iteA (decide_eq_true rfl) ⟨_, rfl, rfl, _, rfl, iteB (by rw [decide_eq_true rfl]; rfl) ?_⟩⟩
      refine ⟨_, rfl, rfl, _, rfl, iteB (by rw [decide_eq_true rfl]; rfl) (iteF ?_)⟩
      refine ⟨_, rfl, _, rfl, _, rfl, (by show 3 ≤ sizeLine; decide), fun q2 hq2 => ⟨_, _, rfl, last H2 s02 lt2 q2 hq2, fD.sh, fD.shown (Nat.le_refl _), Nat.le_trans fD.dp (by decide), _, rfl, rfl, ?_⟩⟩
      rw [decide_eq_true rfl]
      exact fin H2 s02 lt2 q2 hq2
end
end Lw
set_option Elab.async false
set_option linter.all false
set_option maxRecDepth 100000
namespace Lw
open PySem L2 PyProof.Rows
def noFig (b : Int) : PyData → Bool := fun d => !figT b d
def noBas : PyData → Bool := fun d => !baseT d
theorem noFig_N {b : Int} : ∀ d, noInt d = true → noFig b d = true := fun d h => by cases d <;> first | rfl | cases h
theorem noBas_N : ∀ d, noInt d = true → noBas d = true := fun d h => by cases d <;> first | rfl | cases h
theorem noFig_I {b x : Int} (h : x < 0 ∨ b ≤ x) : noFig b (.int x) = true := by
  show (!decide (0 ≤ x ∧ x < b)) = true
  rw [decide_eq_false (by omega)]; rfl
theorem noBas_I {x : Int} (h : x < 2 ∨ 16 < x) : noBas (.int x) = true := by
  show (!decide (2 ≤ x ∧ x ≤ 16)) = true
  rw [decide_eq_false (by omega)]; rfl
section
variable {P : Program} {w : World} {K : PySem.W.Frag} {mg : Str → Option Value} {base : Heap}
def sp__law_no_base : Sp := fun vs H Q _ => ∃ (d : Addr) (fp : List Addr), vs = [.ref d] ∧ Deck H d fp ∧ ∀ (v : V) (H' : Hp), Stp fp d H H' → (tyQ 2 1000 noBas).p (aw fp H') v → Q v H'
theorem sc__law_no_base : FnScope ["deck", "some"] ["deck"] (defScope s__law_no_base) := ⟨rfl, rfl, rfl, by decide +kernel, rfl, by decide +kernel, by decide +kernel⟩
theorem ok__law_no_base {f f1 : Addr} {fd fd1 : FuncData} (D : Df K mg "_law_no_base" s__law_no_base ["deck"] f fd) (D_law_draw : Df K mg "_law_draw" s__law_draw ["deck", "many"] f1 fd1) (T : Blt mg) : FnOk P w K mg base CX0 2 f fd ["deck"] sp__law_no_base := by
  have G_law_draw : FnOk P w K mg base CX0 1 f1 fd1 ["deck", "many"] sp__law_draw := ok__law_draw D_law_draw T
  refine D.fn.ok sc__law_no_base (fun vs H Q E h => ?_) (fun cdv A outer s H vs Q E hr h => ?_)
  · obtain ⟨d, fp, rfl, _⟩ := h; rfl
  · obtain ⟨d, fp, rfl, Dk, kk⟩ := h
    refine ⟨_, (pss_cons (ps_set (i := 1) sc__law_no_base.nd rfl (Or.inl rfl) (pe_lst (pa_cons pe_int (pa_cons pe_int (pa_cons (pe_un un_neg pe_int) (pa_cons pe_int (pa_cons (pe_op op_add pe_int (pcall D_law_draw G_law_draw (hr.mono (by decide)) (pa_cons (pv 0) (pa_cons pe_int pa_nil)))) (pa_consJ (pe_op op_sub (pe_un un_neg pe_int) (pcall D_law_draw G_law_draw (hr.mono (by decide)) (pa_cons (pv 0) (pa_cons pe_int pa_nil)))) (pai_cons (pei (pe_op op_pow pe_int pe_int)) (pai_cons (pei pe_bl) (pai_cons (pei pe_bl) (pai_cons (pei pe_non) (pai_str (pai_cons (pei_lst (pai_cons pei_int pai_nil)) pai_nil))))))))))))))
      (pss_one (ps_ret (pe_ix (k_ixL K) (pe_op op_cat (pv 1) (pe_lst (pa_cons (pe_tup (pa_cons pe_int pa_nil)) (pa_cons pe_dnewK (pa_cons pe_str (pa_cons (pe_lst pa_nil) pa_nil)))))) (pcall D_law_draw G_law_draw (hr.mono (by decide)) (pa_cons (pv 0) (pa_cons pe_int pa_nil))) (fun _ _ => rfl))))), ?_⟩
    refine TpS.go (w := dkV d fp) (Γ := [some (tyEq (.ref d)), none]) (Γ' := [some tyNo]) (T := tyQ 2 1000 noBas) ?ty Dk (Fits.cons rfl (Fits.skip Fits.nil)) (fun _ _ _ _ h => h.no.elim) ?qr
    case ty => exact
      (TpS.seq (TpS.asg (Tp.lstT (TpB.cons (Tp.qI Tp.int (fun x h1 h2 => noBas_I (by first | exact .inl (by omega) | exact .inr (by omega) | exact .inr (Int.lt_of_lt_of_le (by decide) h1)))) (TpB.cons (Tp.qI Tp.int (fun x h1 h2 => noBas_I (by first | exact .inl (by omega) | exact .inr (by omega) | exact .inr (Int.lt_of_lt_of_le (by decide) h1)))) (TpB.cons (Tp.qI (Tp.neg Tp.int) (fun x h1 h2 => noBas_I (by first | exact .inl (by omega) | exact .inr (by omega) | exact .inr (Int.lt_of_lt_of_le (by decide) h1)))) (TpB.cons (Tp.qI Tp.int (fun x h1 h2 => noBas_I (by first | exact .inl (by omega) | exact .inr (by omega) | exact .inr (Int.lt_of_lt_of_le (by decide) h1)))) (TpB.cons (Tp.qI (Tp.add Tp.int (tp_draw rfl Tp.int)) (fun x h1 h2 => noBas_I (by first | exact .inl (by omega) | exact .inr (by omega) | exact .inr (Int.lt_of_lt_of_le (by decide) h1)))) (TpB.cons (Tp.qI (Tp.subI (Tp.neg Tp.int) (tp_draw rfl Tp.int)) (fun x h1 h2 => noBas_I (by first | exact .inl (by omega) | exact .inr (by omega) | exact .inr (Int.lt_of_lt_of_le (by decide) h1)))) (TpB.cons (Tp.qI (Tp.pow ⟨by decide, by decide, by decide⟩) (fun x h1 h2 => noBas_I (by first | exact .inl (by omega) | exact .inr (by omega) | exact .inr (Int.lt_of_lt_of_le (by decide) h1)))) (TpB.cons (Tp.qN Tp.blN noBas_N) (TpB.cons (Tp.qN Tp.blN noBas_N) (TpB.cons (Tp.qN Tp.nonN noBas_N) (TpB.cons (Tp.qN (Tp.strN (by decide +kernel) (by decide +kernel)) noBas_N) (TpB.cons (Tp.qN (Tp.lN (Tp.lst (TpA.cons (Tp.ofI Tp.int) TpA.nil))) noBas_N) TpB.nil))))))))))))))
      (TpS.ret (Tp.ix (Tp.catT (Tp.var rfl) (Tp.lstT (TpB.cons (Tp.qN (Tp.tupN (TpA.cons (Tp.ofI Tp.int) TpA.nil)) noBas_N) (TpB.cons (Tp.qN Tp.empN noBas_N) (TpB.cons (Tp.qN (Tp.strN (by decide +kernel) (by decide +kernel)) noBas_N) (TpB.cons (Tp.qN (Tp.lN (Tp.lst TpA.nil)) noBas_N) TpB.nil)))))) (tp_draw rfl Tp.int) (by decide))))
    case qr => exact fun v H' o s t => kk v H' ⟨o, s⟩ t
def sp__law_odd_figure : Sp := fun vs H Q _ => ∃ (d : Addr) (fp : List Addr) (b : Nat), vs = [.ref d, .int b] ∧ Deck H d fp ∧ b ≤ 16 ∧ ∀ (v : V) (H' : Hp), Stp fp d H H' → (tyQ 1 200 (noFig b)).p (aw fp H') v → Q v H'
theorem sc__law_odd_figure : FnScope ["deck", "base", "some"] ["deck", "base"] (defScope s__law_odd_figure) := ⟨rfl, rfl, rfl, by decide +kernel, rfl, by decide +kernel, by decide +kernel⟩
theorem ok__law_odd_figure {f f1 : Addr} {fd fd1 : FuncData} (D : Df K mg "_law_odd_figure" s__law_odd_figure ["deck", "base"] f fd) (D_law_draw : Df K mg "_law_draw" s__law_draw ["deck", "many"] f1 fd1) (T : Blt mg) : FnOk P w K mg base CX0 2 f fd ["deck", "base"] sp__law_odd_figure := by
  have G_law_draw : FnOk P w K mg base CX0 1 f1 fd1 ["deck", "many"] sp__law_draw := ok__law_draw D_law_draw T
  refine D.fn.ok sc__law_odd_figure (fun vs H Q E h => ?_) (fun cdv A outer s H vs Q E hr h => ?_)
  · obtain ⟨d, fp, b, rfl, _⟩ := h; rfl
  · obtain ⟨d, fp, b, rfl, Dk, hb, kk⟩ := h
    refine ⟨_, (pss_cons (ps_set (i := 2) sc__law_odd_figure.nd rfl (Or.inl rfl) (pe_lst (pa_cons (pv 1) (pa_cons (pe_op op_add (pv 1) (pcall D_law_draw G_law_draw (hr.mono (by decide)) (pa_cons (pv 0) (pa_cons pe_int pa_nil)))) (pa_cons (pe_un un_neg pe_int) (pa_consJ (pe_op op_sub (pe_un un_neg pe_int) (pcall D_law_draw G_law_draw (hr.mono (by decide)) (pa_cons (pv 0) (pa_cons pe_int pa_nil)))) (pai_cons (pei pe_bl) (pai_cons (pei pe_bl) (pai_cons (pei pe_non) (pai_str (pai_str (pai_cons (pei_lst (pai_cons pei_int pai_nil)) (pai_cons (pei_tup (pai_cons pei_int pai_nil)) (pai_cons (pei pe_dnewK) pai_nil))))))))))))))
      (pss_one (ps_ret (pe_ix (k_ixL K) (pe_op op_cat (pv 2) (pe_lst (pa_cons pe_str (pa_cons (pe_op op_pow pe_int pe_int) (pa_cons (pe_un un_neg (pe_op op_pow pe_int pe_int)) (pa_cons (pe_lst pa_nil) pa_nil)))))) (pcall D_law_draw G_law_draw (hr.mono (by decide)) (pa_cons (pv 0) (pa_cons pe_int pa_nil))) (fun _ _ => rfl))))), ?_⟩
    have hb25 : (b : Int) ≤ 10 ^ Int.toNat 25 := Int.le_trans (show (b : Int) ≤ 16 by omega) (by decide)
    refine TpS.go (w := dkV d fp) (Γ := [some (tyEq (.ref d)), some (tyI b b), none]) (Γ' := [some tyNo]) (T := tyQ 1 200 (noFig b)) ?ty Dk (Fits.cons rfl (Fits.cons ⟨_, rfl, Int.le_refl _, Int.le_refl _⟩ (Fits.skip Fits.nil))) (fun _ _ _ _ h => h.no.elim) ?qr
    case ty => exact
      (TpS.seq (TpS.asg (Tp.lstT (TpB.cons (Tp.qI (Tp.var rfl) (fun x h1 h2 => noFig_I (by first | exact .inl (Int.lt_of_le_of_lt h2 (by decide)) | exact .inr (by omega) | exact .inr (Int.le_trans hb25 h1))) (by first | decide | omega) (by first | decide | omega)) (TpB.cons (Tp.qI (Tp.add (Tp.var rfl) (tp_draw rfl Tp.int)) (fun x h1 h2 => noFig_I (by first | exact .inl (Int.lt_of_le_of_lt h2 (by decide)) | exact .inr (by omega) | exact .inr (Int.le_trans hb25 h1))) (by first | decide | omega) (by first | decide | omega)) (TpB.cons (Tp.qI (Tp.neg Tp.int) (fun x h1 h2 => noFig_I (by first | exact .inl (Int.lt_of_le_of_lt h2 (by decide)) | exact .inr (by omega) | exact .inr (Int.le_trans hb25 h1))) (by first | decide | omega) (by first | decide | omega)) (TpB.cons (Tp.qI (Tp.subI (Tp.neg Tp.int) (tp_draw rfl Tp.int)) (fun x h1 h2 => noFig_I (by first | exact .inl (Int.lt_of_le_of_lt h2 (by decide)) | exact .inr (by omega) | exact .inr (Int.le_trans hb25 h1))) (by first | decide | omega) (by first | decide | omega)) (TpB.cons (Tp.qN Tp.blN noFig_N) (TpB.cons (Tp.qN Tp.blN noFig_N) (TpB.cons (Tp.qN Tp.nonN noFig_N) (TpB.cons (Tp.qN (Tp.strN (by decide +kernel) (by decide +kernel)) noFig_N) (TpB.cons (Tp.qN (Tp.strN (by decide +kernel) (by decide +kernel)) noFig_N) (TpB.cons (Tp.qN (Tp.lN (Tp.lst (TpA.cons (Tp.ofI Tp.int) TpA.nil))) noFig_N) (TpB.cons (Tp.qN (Tp.tupN (TpA.cons (Tp.ofI Tp.int) TpA.nil)) noFig_N) (TpB.cons (Tp.qN Tp.empN noFig_N) TpB.nil))))))))))))))
      (TpS.ret (Tp.ix (Tp.catT (Tp.var rfl) (Tp.lstT (TpB.cons (Tp.qN (Tp.strN (by decide +kernel) (by decide +kernel)) noFig_N) (TpB.cons (Tp.qI (Tp.pow ⟨by decide, by decide, by decide⟩) (fun x h1 h2 => noFig_I (by first | exact .inl (Int.lt_of_le_of_lt h2 (by decide)) | exact .inr (by omega) | exact .inr (Int.le_trans hb25 h1))) (by first | decide | omega) (by first | decide | omega)) (TpB.cons (Tp.qI (Tp.neg (Tp.pow ⟨by decide, by decide, by decide⟩)) (fun x h1 h2 => noFig_I (by first | exact .inl (Int.lt_of_le_of_lt h2 (by decide)) | exact .inr (by omega) | exact .inr (Int.le_trans hb25 h1))) (by first | decide | omega) (by first | decide | omega)) (TpB.cons (Tp.qN (Tp.lN (Tp.lst TpA.nil)) noFig_N) TpB.nil)))))) (tp_draw rfl Tp.int) (by decide))))
    case qr => exact fun v H' o s t => kk v H' ⟨o, s⟩ t
end
end Lw
set_option Elab.async false
set_option linter.all false
set_option maxRecDepth 100000
namespace Lw
open PySem L2 PyProof.Rows
def noFgs (b : Int) : PyData → Bool := fun d => !figsT b d
theorem noFig_of {b : Int} {s : Nat} (h : s ≠ 2) : ∀ d, shT d = s → noFig b d = true := fun d e => by cases d <;> first | rfl | exact absurd e.symm h
theorem noFgs_of {b : Int} {s : Nat} (h : s ≠ 4) : ∀ d, shT d = s → noFgs b d = true := fun d e => by cases d <;> first | rfl | exact absurd e.symm h
theorem noFgs_in {b : Int} : ∀ (ds : List PyData) d, d ∈ ds → noFig b d = true → noFgs b (.list ds) = true := fun ds d hd h => by
  show (!ds.all (figT b)) = true
  have h : (!figT b d) = true := h
  cases e : ds.all (figT b) with
  | false => rfl
  | true =>
    rw [List.all_eq_true.mp e d hd] at h; cases h
section
variable {P : Program} {w : World} {K : PySem.W.Frag} {mg : Str → Option Value} {base : Heap}
theorem tp_oddQ {d : Addr} {fp : List Addr} {Γ : Cxt} {te : TE} {x : Nat} {b : Nat} (hd : Γ[x]? = some (some (tyEq (.ref d)))) (h : Tp (dkV d fp) Γ te (tyI b b)) (hb : b ≤ 16) : Tp (dkV d fp) Γ (tCall sp__law_odd_figure [] E0 (tCons (tVar x) (tCons te tNil))) (tyQ 1 200 (noFig b)) := fun σ H Q o f q => by
  obtain ⟨v, e, t⟩ := f.2 x _ hd
  refine ⟨v, e, h σ H _ o f fun u H1 o1 s1 ⟨m, e1, a1, b1⟩ => ⟨d, fp, b, by rw [show v = V.ref d from t, e1, show m = (b : Int) by omega]; rfl, o1, hb, fun r H' S t => q _ H' S.dk (s1.trans S.sm) t⟩⟩
def sp__law_odd_figures : Sp := fun vs H Q _ => ∃ (d : Addr) (fp : List Addr) (b : Nat) (a : Addr) (ns : List Int), vs = [.ref d, .int b, .ref a] ∧ Deck H d fp ∧ b ≤ 16 ∧ aw fp H a = some (.lst (ns.map V.int)) ∧ (∀ x ∈ ns, 0 ≤ x ∧ x < (b : Int)) ∧ ns.length ≤ 5 ∧ ∀ (v : V) (H' : Hp), Stp fp d H H' → (tyQ 4 4000 (noFgs b)).p (aw fp H') v → Q v H'
theorem sc__law_odd_figures : FnScope ["deck", "base", "figures", "at", "odd", "some"] ["deck", "base", "figures"] (defScope s__law_odd_figures) := ⟨rfl, rfl, rfl, by decide +kernel, rfl, by decide +kernel, by decide +kernel⟩
set_option maxHeartbeats 2000000 in
theorem ok__law_odd_figures {f f1 f2 : Addr} {fd fd1 fd2 : FuncData} (D : Df K mg "_law_odd_figures" s__law_odd_figures ["deck", "base", "figures"] f fd) (D_law_draw : Df K mg "_law_draw" s__law_draw ["deck", "many"] f1 fd1) (D_law_odd_figure : Df K mg "_law_odd_figure" s__law_odd_figure ["deck", "base"] f2 fd2) (n_dict : mg "dict" = none) (T : Blt mg) : FnOk P w K mg base CX0 3 f fd ["deck", "base", "figures"] sp__law_odd_figures := by
  have G_law_draw : FnOk P w K mg base CX0 1 f1 fd1 ["deck", "many"] sp__law_draw := ok__law_draw D_law_draw T
  have G_law_odd_figure : FnOk P w K mg base CX0 2 f2 fd2 ["deck", "base"] sp__law_odd_figure := ok__law_odd_figure D_law_odd_figure D_law_draw T
  refine D.fn.ok sc__law_odd_figures (fun vs H Q E h => ?_) (fun cdv A outer s H vs Q E hr h => ?_)
  · obtain ⟨d, fp, b, a, ns, rfl, _⟩ := h; rfl
  · obtain ⟨d, fp, b, a, ns, rfl, Dk, hb, ha, hf, hl, kk⟩ := h
    have HU := HUof hr
    refine ⟨_, (pss_cons (ps_set (i := 3) sc__law_odd_figures.nd rfl (Or.inl rfl) (pcall D_law_draw G_law_draw (hr.mono (by decide)) (pa_cons (pv 0) (pa_cons (pe_op op_add (pe_callB (k_len K) (by rfl) T.n_len PySem.boot_len (pa_cons (pv 2) pa_nil)) pe_int) pa_nil))))
      (pss_cons (ps_set (i := 4) sc__law_odd_figures.nd rfl (Or.inl rfl) (pcall D_law_odd_figure G_law_odd_figure (hr.mono (by decide)) (pa_cons (pv 0) (pa_cons (pv 1) pa_nil))))
      (pss_cons (ps_set (i := 5) sc__law_odd_figures.nd rfl (Or.inl rfl) (pe_lst (pa_cons (pe_op op_cat (pe_op op_cat (pe_slice (k_slL K) (pv 2) po_none (po_some (pv 3))) (pe_lst (pa_cons (pv 4) pa_nil))) (pe_slice (k_slL K) (pv 2) (po_some (pv 3)) po_none)) (pa_cons (pe_op op_cat (pe_op op_cat (pe_slice (k_slL K) (pv 2) po_none (po_some (pv 3))) (pe_lst (pa_cons (pv 4) pa_nil))) (pe_slice (k_slL K) (pv 2) (po_some (pe_op op_add (pv 3) pe_int)) po_none)) (pa_cons (pe_op op_cat (pv 2) (pe_lst (pa_cons (pv 4) pa_nil))) pa_nil)))))
      (pss_cons (ps_set (i := 5) sc__law_odd_figures.nd rfl (Or.inl rfl) (pe_opJ op_cat (pv 5) (pei_lst (pai_cons (pei (pe_callTy call_tuple_of (by rfl) T.n_tuple boot_tuple (pa_cons (pv 2) pa_nil))) (pai_cons (pei pe_non) (pai_cons pei_int (pai_str (pai_str (pai_cons (pei pe_dnewK) (pai_cons (pei (pe_lst (pa_cons (pv 2) pa_nil))) (pai_cons (pei pe_bl) (pai_cons (pei (pe_callTy (k_dictP K rfl) (by rfl) n_dict PyProof.Rows.boot_dict (pa_cons (pe_comp (show CScope (defScope s__law_odd_figures) _ "one" ["deck", "base", "figures", "at", "odd", "some"] [] [] from ⟨rfl, by decide +kernel, by decide +kernel, rfl, by decide +kernel, rfl, by decide +kernel, by decide +kernel⟩) rfl (k_pi K (pv 2)) (fun _ _ _ _ => pts_nil) (fun _ _ _ _ => (pe_tup (pa_cons (pv 0) (pa_cons pe_int pa_nil))))) pa_nil))) pai_nil))))))))))))
      (pss_one (ps_retI (pei_ixK (k_ixL K) (pv 5) (pei_ix (k_ixL K) (pei_lst (pai_cons pei_int (pai_cons pei_int (pai_cons pei_int (pai_cons pei_int (pai_cons pei_int (pai_cons pei_int (pai_cons pei_int (pai_cons pei_int (pai_cons pei_int (pai_cons pei_int (pai_cons pei_int (pai_cons pei_int (pai_cons pei_int (pai_cons pei_int (pai_cons pei_int (pai_cons pei_int (pai_cons pei_int pai_nil)))))))))))))))))) (pcall D_law_draw G_law_draw (hr.mono (by decide)) (pa_cons (pv 0) (pa_cons pe_int pa_nil))) (fun _ _ => rfl)) (fun _ _ => rfl)))))))), ?_⟩
    have F0 : (tyLof (tyI 0 ((b : Int) - 1)) 0 5).p (aw fp H) (.ref a) := ⟨a, _, rfl, ha, Nat.zero_le _, by rw [List.length_map]; exact hl, fun u hu => by
      obtain ⟨x, hx, rfl⟩ := List.mem_map.mp hu
      have := hf x hx
      exact ⟨x, rfl, by omega, by omega⟩⟩
    refine TpS.go (w := dkV d fp) (Γ := [some (tyEq (.ref d)), some (tyI b b), some (tyLof (tyI 0 ((b : Int) - 1)) 0 5), none, none, none]) (Γ' := [some tyNo]) (T := tyQ 4 4000 (noFgs b)) ?ty Dk (Fits.cons rfl (Fits.cons ⟨_, rfl, Int.le_refl _, Int.le_refl _⟩ (Fits.cons F0 (Fits.any [none, none, none])))) (fun _ _ _ _ h => h.no.elim) ?qr
    case ty => exact
      (TpS.seq (TpS.asg (tp_draw rfl (Tp.add (Tp.len (Tp.var rfl)) Tp.int)))
      (TpS.seq (TpS.asg (tp_oddQ rfl (Tp.var rfl) hb))
      (TpS.seq (TpS.asg (T1 := tyLof (tyQ 4 4000 (noFgs b)) 3 3) (Tp.lstT (TpB.cons (Tp.lxQ (Tp.catXl (Tp.catXr (Tp.leL (Tp.ofLI (Tp.sl (Tp.var rfl) TpO.none (TpO.some (Tp.var rfl))) (by decide) (by omega))) (Tp.oneX (Tp.var rfl))) (Tp.leL (Tp.ofLI (Tp.sl (Tp.var rfl) (TpO.some (Tp.var rfl)) TpO.none) (by decide) (by omega)))) noFgs_in)
        (TpB.cons (Tp.lxQ (Tp.catXl (Tp.catXr (Tp.leL (Tp.ofLI (Tp.sl (Tp.var rfl) TpO.none (TpO.some (Tp.var rfl))) (by decide) (by omega))) (Tp.oneX (Tp.var rfl))) (Tp.leL (Tp.ofLI (Tp.sl (Tp.var rfl) (TpO.some (Tp.add (Tp.var rfl) Tp.int)) TpO.none) (by decide) (by omega)))) noFgs_in)
        (TpB.cons (Tp.lxQ (Tp.catXr (Tp.leL (Tp.ofLI (Tp.var rfl) (by decide) (by omega))) (Tp.oneX (Tp.var rfl))) noFgs_in)
        TpB.nil)))))
      (TpS.seq (TpS.asg (T1 := tyLof (tyQ 4 4000 (noFgs b)) 12 12) (Tp.catT (Tp.var rfl) (Tp.lstT (TpB.cons (Tp.sQ (Tp.tupOfS (Tp.ofLI (Tp.var rfl) (by decide) (by omega))) (noFgs_of (by decide)))
        (TpB.cons (Tp.sQ Tp.nonS (noFgs_of (by decide)))
        (TpB.cons (Tp.qI Tp.int (fun _ _ _ => rfl))
        (TpB.cons (Tp.sQ (Tp.strS (by decide +kernel) (by decide +kernel)) (noFgs_of (by decide)))
        (TpB.cons (Tp.sQ (Tp.strS (by decide +kernel) (by decide +kernel)) (noFgs_of (by decide)))
        (TpB.cons (Tp.sQ Tp.empS (noFgs_of (by decide)))
        (TpB.cons (Tp.lxQ (Tp.oneX (k := 1) (n := 505) (Tp.sQ (Tp.lS (Tp.ofLI (Tp.var rfl) (by decide) (by omega))) (noFig_of (by decide)))) noFgs_in)
        (TpB.cons (Tp.sQ Tp.blS (noFgs_of (by decide)))
        (TpB.cons (Tp.sQ (Tp.dictS (Tp.compP (Tp.var rfl) (by decide) (by omega))) (noFgs_of (by decide)))
        TpB.nil))))))))))))
      (TpS.ret (Tp.ix (Tp.var rfl) (Tp.ix (T := tyI 0 11) (Tp.lstT (TpB.cons (Tp.wide Tp.int (by decide) (by decide)) (TpB.cons (Tp.wide Tp.int (by decide) (by decide)) (TpB.cons (Tp.wide Tp.int (by decide) (by decide)) (TpB.cons (Tp.wide Tp.int (by decide) (by decide)) (TpB.cons (Tp.wide Tp.int (by decide) (by decide)) (TpB.cons (Tp.wide Tp.int (by decide) (by decide)) (TpB.cons (Tp.wide Tp.int (by decide) (by decide)) (TpB.cons (Tp.wide Tp.int (by decide) (by decide)) (TpB.cons (Tp.wide Tp.int (by decide) (by decide)) (TpB.cons (Tp.wide Tp.int (by decide) (by decide)) (TpB.cons (Tp.wide Tp.int (by decide) (by decide)) (TpB.cons (Tp.wide Tp.int (by decide) (by decide)) (TpB.cons (Tp.wide Tp.int (by decide) (by decide)) (TpB.cons (Tp.wide Tp.int (by decide) (by decide)) (TpB.cons (Tp.wide Tp.int (by decide) (by decide)) (TpB.cons (Tp.wide Tp.int (by decide) (by decide)) (TpB.cons (Tp.wide Tp.int (by decide) (by decide)) TpB.nil)))))))))))))))))) (tp_draw rfl Tp.int) (by decide)) (by decide)))))))
    case qr => exact fun v H' o s t => kk v H' ⟨o, s⟩ t
end
end Lw
set_option Elab.async false
set_option linter.all false
set_option maxRecDepth 100000
namespace Lw
open PySem L2 PyProof.Rows
theorem bad_st {b : Int} {xs : List PyData} {i : Nat} {d : PyData} (h : xs[i]? = some d) (q : stretchT b d = false) : badT b (.list xs) = false := by
  show (decide (xs.length ≤ 4) && (xs.all (stretchT b) && risingL (xs.map intsT))) = false
  have : xs.all (stretchT b) = false := by
    cases z : xs.all (stretchT b) with
    | false => rfl
    | true => rw [List.all_eq_true.mp z d (List.mem_of_getElem? h)] at q; cases q
  rw [this, Bool.false_and, Bool.and_false]
theorem bad_ri {b : Int} {xs : List PyData} {i : Nat} {d e : PyData} (h : xs[i]? = some d) (h2 : xs[i + 1]? = some e) (q : HT.lexLt (intsT d) (intsT e) = false) : badT b (.list xs) = false := by
  show (decide (xs.length ≤ 4) && (xs.all (stretchT b) && risingL (xs.map intsT))) = false
  have : risingL (xs.map intsT) = false := by
    cases z : risingL (xs.map intsT) with
    | false => rfl
    | true =>
      have hi := (List.getElem?_eq_some_iff.mp h2).1
      have := List.all_eq_true.mp z i (List.mem_range.mpr (by rw [List.length_map]; omega))
      have e1 : (xs.map intsT).getD i [] = intsT d := by simp [List.getD, List.getElem?_map, h]
      have e2 : (xs.map intsT).getD (i + 1) [] = intsT e := by simp [List.getD, List.getElem?_map, h2]
      rw [e1, e2, q] at this
      cases this
  rw [this, Bool.and_false, Bool.and_false]
theorem bad_ok {b : Int} {xs : List PyData} (h4 : xs.length ≤ 4) (h : ∀ d ∈ xs, stretchT b d = true) (hr : ∀ k d e, xs[k]? = some d → xs[k + 1]? = some e → HT.lexLt (intsT d) (intsT e) = true) : badT b (.list xs) = true := by
  show (decide (xs.length ≤ 4) && (xs.all (stretchT b) && risingL (xs.map intsT))) = true
  rw [decide_eq_true h4, List.all_eq_true.mpr h, Bool.true_and, Bool.true_and]
  refine List.all_eq_true.mpr fun k hk => ?_
  have hk' := List.mem_range.mp hk
  rw [List.length_map] at hk'
  have h1 : xs[k]? = some (xs[k]'(by omega)) := List.getElem?_eq_getElem (by omega)
  have h2 : xs[k + 1]? = some (xs[k + 1]'(by omega)) := List.getElem?_eq_getElem (by omega)
  have e1 : (xs.map intsT).getD k [] = intsT (xs[k]'(by omega)) := by simp [List.getD, List.getElem?_map, h1]
  have e2 : (xs.map intsT).getD (k + 1) [] = intsT (xs[k + 1]'(by omega)) := by simp [List.getD, List.getElem?_map, h2]
  rw [e1, e2]
  exact hr k _ _ h1 h2
theorem whole_ints {d : PyData} (h1 : isT "int" d = true) (h2 : isT "bool" d = false) : ∃ i, d = .int i := by
  cases d with
  | int i => exact ⟨i, rfl⟩
  | bool b => cases h2
  | _ => cases h1
section
variable {P : Program} {w : World} {K : PySem.W.Frag} {mg : Str → Option Value} {base : Heap}
def sp__law_is_rule : Sp := fun vs H Q _ => ∃ (v : V) (d : PyData), vs = [v] ∧ ThAt H d v ∧ sizT d ≤ 100000 ∧ ∀ H', Same H H' → Q (.bl (ruleT d)) H'
theorem sc__law_is_rule : FnScope ["thing", "base", "at", "one", "figure"] ["thing"] (defScope s__law_is_rule) := ⟨rfl, rfl, rfl, by decide +kernel, rfl, by decide +kernel, by decide +kernel⟩
theorem ok__law_is_rule {f : Addr} {fd : FuncData} (D : Df K mg "_law_is_rule" s__law_is_rule ["thing"] f fd) (T : Blt mg) : FnOk P w K mg base CX0 1 f fd ["thing"] sp__law_is_rule := by
  refine D.fn.ok sc__law_is_rule (fun vs H Q E h => ?_) (fun cdv A outer s H vs Q E hr h => ?_)
  · obtain ⟨v, d, rfl, _⟩ := h; rfl
  · obtain ⟨v, d, rfl, hd, hs, kk⟩ := h
    have HU := HUof hr
    refine ⟨_, (pss_cons (ps_if (PW.pt (pw_or (pt_not (pt_val (pe_callB (k_isi K) (by rfl) T.n_isinstance boot_isinstance (pa_cons (pv 0) (pa_cons (pe_bltn (v := .ty "tuple") rfl T.n_tuple boot_tuple rfl) pa_nil))))) (pw_or (pt_cmpR op_ne (pe_callB (k_len K) (by rfl) T.n_len PySem.boot_len (pa_cons (pv 0) pa_nil)) pe_int (nomark _)) (pw_or (pt_not (pt_val (pe_callB (k_isi K) (by rfl) T.n_isinstance boot_isinstance (pa_cons (pe_ix (k_ixT K) (pv 0) pe_int (fun _ _ => rfl)) (pa_cons (pe_bltn (v := .ty "list") rfl T.n_list boot_list rfl) pa_nil))))) (pw_or1 (pt_cmpR op_gt (pe_callB (k_len K) (by rfl) T.n_len PySem.boot_len (pa_cons (pe_ix (k_ixT K) (pv 0) pe_int (fun _ _ => rfl)) pa_nil)) pe_int (nomark _)))))))
        (pss_one (ps_ret pe_bl))
        pss_nil)
      (pss_cons (ps_set (i := 1) sc__law_is_rule.nd rfl (Or.inl rfl) (pe_ix (k_ixT K) (pv 0) pe_int (fun _ _ => rfl)))
      (pss_cons (ps_if (PW.pt (pw_or (pt_not (pt_val (pe_callB (k_isi K) (by rfl) T.n_isinstance boot_isinstance (pa_cons (pv 1) (pa_cons (pe_bltn (v := .ty "int") rfl T.n_int boot_int rfl) pa_nil))))) (pw_or (pt_val (pe_callB (k_isi K) (by rfl) T.n_isinstance boot_isinstance (pa_cons (pv 1) (pa_cons (pe_bltn (v := .ty "bool") rfl T.n_bool boot_bool rfl) pa_nil)))) (pw_or1 (pt_not (pt_chain op_le op_le pe_int (pv 1) pe_int))))))
        (pss_one (ps_ret pe_bl))
        pss_nil)
      (pss_cons (ps_for PassesOwn.never rfl (pi_enum K rfl T.n_enumerate (pa_cons (pe_ix (k_ixT K) (pv 0) pe_int (fun _ _ => rfl)) pa_nil)) (pg_tup rfl (pgs_cons (pg_name (i := 2) sc__law_is_rule.nd rfl (Or.inl rfl)) (pgs_cons (pg_name (i := 3) sc__law_is_rule.nd rfl (Or.inl rfl)) pgs_nil)))
        (pss_cons (ps_if (PW.pt (pw_or (pt_not (pt_val (pe_callB (k_isi K) (by rfl) T.n_isinstance boot_isinstance (pa_cons (pv 3) (pa_cons (pe_bltn (v := .ty "list") rfl T.n_list boot_list rfl) pa_nil))))) (pw_or1 (pt_not (pt_chain op_le op_le pe_int (pe_callB (k_len K) (by rfl) T.n_len PySem.boot_len (pa_cons (pv 3) pa_nil)) pe_int)))))
          (pss_one (ps_ret pe_bl))
          pss_nil)
        (pss_cons (ps_for PassesOwn.never rfl (k_pi K (pv 3)) (pg_name (i := 4) sc__law_is_rule.nd rfl (Or.inl rfl))
          (pss_one (ps_if (PW.pt (pw_or (pt_not (pt_val (pe_callB (k_isi K) (by rfl) T.n_isinstance boot_isinstance (pa_cons (pv 4) (pa_cons (pe_bltn (v := .ty "int") rfl T.n_int boot_int rfl) pa_nil))))) (pw_or (pt_val (pe_callB (k_isi K) (by rfl) T.n_isinstance boot_isinstance (pa_cons (pv 4) (pa_cons (pe_bltn (v := .ty "bool") rfl T.n_bool boot_bool rfl) pa_nil)))) (pw_or1 (pt_not (pt_chain op_le op_lt pe_int (pv 4) (pv 1)))))))
            (pss_one (ps_ret pe_bl))
            pss_nil)))
        (pss_one (ps_if (PW.pt (pw_and (pt_cmpR op_gt (pv 2) pe_int (nomark _)) (pw_and1 (pt_not (pt_cmpR (k_ltL K HU) (pe_ix (k_ixL K) (pe_ix (k_ixT K) (pv 0) pe_int (fun _ _ => rfl)) (pe_op op_sub (pv 2) pe_int) (fun _ _ => rfl)) (pv 3) (nomark _))))))
          (pss_one (ps_ret pe_bl))
          pss_nil)))))
      (pss_one (ps_ret pe_bl)))))), ?_⟩
    refine ⟨_, rfl, _, _, _, _, rfl, hd.ty, kit_tuple d, _, rfl, ?_⟩
    cases hl : isT "tuple" d with
    | false =>
      have q := kk H (Same.refl _)
      rw [show ruleT d = false by cases d <;> first | rfl | cases hl] at q
      exact iteT (iteT q)
    | true =>
      obtain ⟨xs, rfl⟩ := isT_tuple hl
      rw [ThAt] at hd
      obtain ⟨a, ys, rfl, ha, hx⟩ := hd
      rw [sizT] at hs
      refine iteF ⟨_, rfl, a, _, rfl, .inr (SqT.of ha), rfl, _, rfl, ?_⟩
      rw [hx.len]
      match xs, hx, hs, kk with
      | [], hx, hs, kk => exact iteT (iteT (kk H (Same.refl _)))
      | [_], hx, hs, kk => exact iteT (iteT (kk H (Same.refl _)))
      | _ :: _ :: _ :: t, hx, hs, kk =>
        have q : Q (.bl false) H := kk H (Same.refl _)
        rename_i d1 d2 d3
        rw [show (!decide (V.int ((d1 :: d2 :: d3 :: t).length : Nat) = V.int 2)) = true by
          rw [decide_eq_false (fun z => by injection z with z; rw [List.length_cons, List.length_cons, List.length_cons] at z; omega)]; rfl]
        exact iteT (iteT q)
      | [d, e], hx, hs, kk =>
        rw [ThsAt] at hx
        obtain ⟨y, us, rfl, hd, hx⟩ := hx
        rw [ThsAt] at hx
        obtain ⟨z, ws, rfl, he, hx⟩ := hx
        rw [ThsAt] at hx
        subst hx
        rw [sizTs, sizTs, sizTs] at hs
        refine iteF ?_
        have kk' : ∀ H', Same H H' → Q (.bl (baseT d && badT (intT d) e)) H' := kk
        refine ⟨_, rfl, a, _, _, z, rfl, rfl, SqT.of ha, rfl, _, _, _, _, rfl, he.ty, kit_list e, _, rfl, ?_⟩
        have no : (∀ b, badT b e = false) → ∀ H', Same H H' → Q (.bl false) H' := fun h H' m => by have q := kk' H' m; rw [h, Bool.and_false] at q; exact q
        have nb : baseT d = false → ∀ H', Same H H' → Q (.bl false) H' := fun h H' m => by have q := kk' H' m; rw [h, Bool.false_and] at q; exact q
        cases hl2 : isT "list" e with
        | false => exact iteT (iteT (no (fun b => by cases e <;> first | rfl | cases hl2) H (Same.refl _)))
        | true =>
        obtain ⟨rs, rfl⟩ := isT_list hl2
        rw [ThAt] at he
        obtain ⟨la, ws, rfl, hla, hxr⟩ := he
        rw [sizT] at hs
        refine iteF ⟨_, rfl, a, _, _, V.ref la, rfl, rfl, SqT.of ha, rfl, la, _, rfl, .inl (SqL.of hla), _, _, rfl, rfl, _, rfl, ?_⟩
        rw [hxr.len]
        by_cases h4 : rs.length ≤ 4
        case neg =>
          rw [decide_eq_true (show (4 : Int) < (rs.length : Int) by omega)]
          exact iteT (no (fun b => by show (decide (rs.length ≤ 4) && _) = false; rw [decide_eq_false h4, Bool.false_and]) H (Same.refl _))
        rw [decide_eq_false (show ¬ (4 : Int) < (rs.length : Int) by omega)]
        refine iteF ?_
        refine ⟨_, rfl, a, _, _, y, rfl, rfl, SqT.of ha, rfl, ?_⟩
        refine ⟨_, rfl, _, _, _, _, rfl, hd.ty, kit_int d, _, rfl, ?_⟩
        cases hi : isT "int" d with
        | false => exact iteT (iteT (nb (by cases d <;> first | rfl | cases hi) H (Same.refl _)))
        | true =>
        refine iteF ⟨_, rfl, _, _, _, _, rfl, hd.ty, kit_bool d, _, rfl, ?_⟩
        cases hbo : isT "bool" d with
        | true => exact iteT (iteT (nb (by cases d <;> first | rfl | cases hbo) H (Same.refl _)))
        | false =>
        obtain ⟨b, rfl⟩ := whole_ints hi hbo
        rw [ThAt] at hd
        subst hd
        refine iteF ⟨_, rfl, _, _, rfl, rfl, _, rfl, ?_⟩
        by_cases hb2 : (2 : Int) ≤ b
        case neg =>
          rw [decide_eq_false hb2]
          exact iteF ⟨_, rfl, iteT (nb (decide_eq_false fun z => hb2 z.1) H (Same.refl _))⟩
        rw [decide_eq_true hb2]
        refine iteT ⟨_, _, rfl, rfl, _, rfl, ?_⟩
        by_cases hb16 : b ≤ 16
        case neg =>
          rw [decide_eq_false hb16]
          exact iteT (nb (decide_eq_false fun z => hb16 z.2) H (Same.refl _))
        rw [decide_eq_true hb16]
        refine iteF ?_
        have kb : ∀ H', Same H H' → Q (.bl (badT b (.list rs))) H' := fun H' m => by
          have q := kk' H' m
          rw [show baseT (.int b) = true from decide_eq_true ⟨hb2, hb16⟩, Bool.true_and] at q
          exact q
        refine ⟨_, rfl, a, _, _, V.ref la, rfl, rfl, SqT.of ha, rfl, la, rfl, ⟨_, SqL.of hla⟩, for_enum (K := K) (a := la) (xs := ws) (fun i σ H2 => ∃ (v2 v3 v4 : Option V), σ = [some (.ref a), some (.int b), v2, v3, v4] ∧ Same H H2 ∧ (∀ d ∈ rs.take i, stretchT b d = true) ∧ ∀ k d e, k + 1 < i → rs[k]? = some d → rs[k + 1]? = some e → HT.lexLt (intsT d) (intsT e) = true)
          ⟨none, none, none, rfl, Same.refl _, by simp, fun k d e hk => absurd hk (by omega)⟩ (fun i σ H2 _ ⟨_, _, _, _, m, _⟩ => SqL.of (m _ _ hla)) ?_ ?_⟩
        case refine_2 =>
          rintro σ H2 ⟨v2, v3, v4, rfl, m2, hst, hri⟩
          rw [hxr.len] at hst hri
          rw [List.take_length] at hst
          have q := kb H2 m2
          rw [bad_ok h4 hst fun k d e h1 h2 => hri k d e (List.getElem?_eq_some_iff.mp h2).1 h1 h2] at q
          exact q
        rintro i x σ H2 tq hix ⟨v2, v3, v4, rfl, m2, hst, hri⟩ htq
        obtain ⟨c, hci, hc⟩ := hxr.get hix
        have hcs := sizTs_mem (List.mem_of_getElem? hci)
        have m3 := m2.trans (same_upd htq (o := .tup [.int (i : Nat), x]))
        have hc3 := hc.same m3
        have fs : stretchT b c = false → ∀ H', Same H H' → Q (.bl false) H' := fun z H' m => by have q := kb H' m; rw [bad_st hci z] at q; exact q
        refine ⟨tq, _, rfl, SqT.of upd_same, rfl, _, _, rfl, _, _, rfl, rfl, ?_⟩
        refine ⟨_, rfl, _, _, _, _, rfl, hc3.ty, kit_list c, _, rfl, ?_⟩
        cases hlc : isT "list" c with
        | false => exact iteT (iteT (fs (by cases c <;> first | rfl | cases hlc) _ m3))
        | true =>
        obtain ⟨gs, rfl⟩ := isT_list hlc
        rw [ThAt] at hc3
        obtain ⟨ca, cs, rfl, hca, hcx⟩ := hc3
        rw [sizT] at hcs
        refine iteF ⟨_, rfl, ca, _, rfl, .inl (SqL.of hca), _, _, rfl, rfl, _, rfl, ?_⟩
        rw [hcx.len]
        have eL : stretchT b (.list gs) = (gs.all (figT b) && decide (1 ≤ gs.length ∧ gs.length ≤ 4)) := rfl
        by_cases g1 : 1 ≤ gs.length
        case neg =>
          rw [decide_eq_false (show ¬ (1 : Int) ≤ (gs.length : Int) by omega)]
          exact iteF ⟨_, rfl, iteT (fs (by rw [eL, decide_eq_false (fun z => g1 z.1), Bool.and_false]) _ m3)⟩
        rw [decide_eq_true (show (1 : Int) ≤ (gs.length : Int) by omega)]
        refine iteT ⟨_, _, rfl, rfl, _, rfl, ?_⟩
        by_cases g4 : gs.length ≤ 4
        case neg =>
          rw [decide_eq_false (show ¬ (gs.length : Int) ≤ 4 by omega)]
          exact iteT (fs (by rw [eL, decide_eq_false (fun z => g4 z.2), Bool.and_false]) _ m3)
        rw [decide_eq_true (show (gs.length : Int) ≤ 4 by omega)]
        refine iteF ?_
        rw [decide_eq_true ⟨g1, g4⟩, Bool.and_true] at eL
        generalize hH3 : upd H2 tq (.tup [.int (i : Nat), .ref ca]) = H3 at m3 hca hcx
        refine ⟨_, rfl, ca, rfl, ⟨_, SqL.of hca⟩, for_list (K := K) (a := ca) (xs := cs) (fun j σ H4 => ∃ v4 : Option V, σ = [some (.ref a), some (.int b), some (.int (i : Nat)), some (.ref ca), v4] ∧ H4 = H3 ∧ ∀ d ∈ gs.take j, figT b d = true) ⟨_, rfl, rfl, by simp⟩ (fun j σ H4 _ ⟨_, _, e, _⟩ => by rw [e]; exact SqL.of hca) ?_ ?_⟩
        · rintro j z σ H4 hjz ⟨v4', rfl, rfl, hfg⟩
          obtain ⟨c2, hcj, hc2⟩ := hcx.get hjz
          have ff : figT b c2 = false → Q (.bl false) H4 := fun z => fs (by
            rw [eL]
            cases y : gs.all (figT b) with
            | false => rfl
            | true => rw [List.all_eq_true.mp y c2 (List.mem_of_getElem? hcj)] at z; cases z) H4 m3
          refine ⟨_, rfl, _, _, _, _, rfl, hc2.ty, kit_int c2, _, rfl, ?_⟩
          cases hi2 : isT "int" c2 with
          | false => exact iteT (iteT (ff (by cases c2 <;> first | rfl | cases hi2)))
          | true =>
          refine iteF ⟨_, rfl, _, _, _, _, rfl, hc2.ty, kit_bool c2, _, rfl, ?_⟩
          cases hb3 : isT "bool" c2 with
          | true => exact iteT (iteT (ff (by cases c2 <;> first | rfl | cases hb3)))
          | false =>
          obtain ⟨k, rfl⟩ := whole_ints hi2 hb3
          rw [ThAt] at hc2
          subst hc2
          refine iteF ⟨_, rfl, _, _, rfl, rfl, _, rfl, ?_⟩
          by_cases k0 : (0 : Int) ≤ k
          case neg =>
            rw [decide_eq_false k0]
            exact iteF ⟨_, rfl, iteT (ff (decide_eq_false fun z => k0 z.1))⟩
          rw [decide_eq_true k0]
          refine iteT ⟨_, rfl, _, _, rfl, rfl, _, rfl, ?_⟩
          by_cases kb2 : k < b
          case neg =>
            rw [decide_eq_false kb2]
            exact iteT (ff (decide_eq_false fun z => kb2 z.2))
          rw [decide_eq_true kb2]
          refine iteF ⟨_, rfl, rfl, fun d hd => ?_⟩
          rw [List.take_succ, hcj] at hd
          rcases List.mem_append.mp hd with hd | hd
          · exact hfg d hd
          · have : d = .int k := by simpa using hd
            rw [this]
            exact decide_eq_true ⟨k0, kb2⟩
        rintro σ H4 ⟨v4', rfl, rfl, hfg⟩
        rw [hcx.len, List.take_length] at hfg
        have hstc : stretchT b (.list gs) = true := by rw [eL]; exact List.all_eq_true.mpr hfg
        have hst' : ∀ d ∈ rs.take (i + 1), stretchT b d = true := fun d hd => by
          rw [List.take_succ, hci] at hd
          rcases List.mem_append.mp hd with hd | hd
          · exact hst d hd
          · have : d = .list gs := by simpa using hd
            rw [this]; exact hstc
        refine ⟨_, rfl, _, _, rfl, rfl, _, rfl, ?_⟩
        cases i with
        | zero => exact iteF (iteF ⟨_, _, _, rfl, m3, hst', fun k d e hk => absurd hk (by omega)⟩)
        | succ j =>
          rw [decide_eq_true (show (0 : Int) < ((j + 1 : Nat) : Int) by omega)]
          refine iteT ?_
          have hjl : j < ws.length := by have := (List.getElem?_eq_some_iff.mp hix).1; omega
          have hjw : ws[j]? = some (ws[j]) := List.getElem?_eq_getElem hjl
          obtain ⟨pd, hpj, hpt⟩ := hxr.get hjw
          have hps : stretchT b pd = true := hst pd (by
            have e : (rs.take (j + 1))[j]? = some pd := by rw [List.getElem?_take, if_pos (by omega)]; exact hpj
            exact List.mem_of_getElem? e)
          have hpf : figsT b pd = true := by unfold stretchT at hps; rw [Bool.and_eq_true] at hps; exact hps.1
          obtain ⟨pa, epa, hpa⟩ := ThAt.figs (hpt.same m3) hpf
          have hca' : H4 ca = some (.lst ((intsT (.list gs)).map V.int)) := by rw [hca, figs_ints hcx (List.all_eq_true.mpr hfg)]; rfl
          have hat : atI ws (((j + 1 : Nat) : Int) - 1) = some (.ref pa) := by
            rw [show (((j + 1 : Nat) : Int) - 1) = (j : Int) by omega]
            exact atI_nat (by rw [hjw, epa])
          refine ⟨_, rfl, a, _, _, V.ref la, rfl, rfl, SqT.of (m3 _ _ ha), rfl, _, rfl, _, _, rfl, rfl, la, _, _, V.ref pa, rfl, rfl, SqL.of (m3 _ _ hla), hat, ?_⟩
          refine ⟨_, rfl, _, _, _, _, rfl, rfl, SqL.of hpa, SqL.of hca', _, rfl, ?_⟩
          cases hlt : HT.lexLt (intsT pd) (intsT (.list gs)) with
          | false =>
            have q := kb H4 m3
            rw [bad_ri hpj hci hlt] at q
            exact iteT q
          | true =>
            refine iteF ⟨_, _, _, rfl, m3, hst', fun k d e hk h1 h2 => ?_⟩
            by_cases hkj : k + 1 < j + 1
            · exact hri k d e hkj h1 h2
            · have : k = j := by omega
              subst this
              rw [hpj] at h1
              rw [hci] at h2
              cases h1
              cases h2
              exact hlt
end
end Lw
set_option Elab.async false
set_option linter.all false
set_option maxRecDepth 100000
namespace Lw
open PySem L2 PyProof.Rows
section
variable {P : Program} {w : World} {K : PySem.W.Frag} {mg : Str → Option Value} {base : Heap}
section
variable {d : Addr} {fp : List Addr} {Γ : Cxt} {te : TE} {x : Nat}
theorem tp_odd (hd : Γ[x]? = some (some (tyEq (.ref d)))) (h : Tp (dkV d fp) Γ te (tyI 2 16)) : Tp (dkV d fp) Γ (tCall sp__law_odd_figure [] E0 (tCons (tVar x) (tCons te tNil))) (tyTh 1 200) := fun σ H Q o f q => by
  obtain ⟨v, e, t⟩ := f.2 x _ hd
  refine ⟨v, e, h σ H _ o f fun u H1 o1 s1 ⟨m, e1, a1, b1⟩ => ⟨d, fp, m.toNat, by rw [show v = V.ref d from t, e1, show ((m.toNat : Nat) : Int) = m by omega]; rfl, o1, by omega, fun r H' S t => q _ H' S.dk (s1.trans S.sm) (tyQ.th t)⟩⟩
theorem tp_nob (hd : Γ[x]? = some (some (tyEq (.ref d)))) : Tp (dkV d fp) Γ (tCall sp__law_no_base [] E0 (tCons (tVar x) tNil)) (tyTh 2 1000) := fun σ H Q o f q => by
  obtain ⟨v, e, t⟩ := f.2 x _ hd
  exact ⟨v, e, d, fp, by rw [show v = V.ref d from t]; rfl, o, fun r H' S t => q _ H' S.dk S.sm (tyQ.th t)⟩
end
def sp__law_no_rule : Sp := fun vs H Q _ => ∃ (d : Addr) (fp : List Addr) (r : Addr) (b : Nat) (bl : Addr) (zs : List (Addr × List Int)), vs = [.ref d, .ref r] ∧ Deck H d fp ∧ RuleAt (aw fp H) r b bl zs ∧ GoodRule b (zs.map (·.2)) ∧ ∀ (v : V) (H' : Hp), Stp fp d H H' → Th (aw fp H') 9 33000 v → Q v H'
theorem sc__law_no_rule : FnScope ["deck", "rule", "base", "bad", "at", "here", "to", "odd", "one", "bent", "turned", "rows", "some"] ["deck", "rule"] (defScope s__law_no_rule) := ⟨rfl, rfl, rfl, by decide +kernel, rfl, by decide +kernel, by decide +kernel⟩
theorem hW {d : Addr} {b m : Nat} (h : 2 ≤ b ∧ b ≤ 16 ∧ m ≤ 4) : CSub [some (tyEq (.ref d)), some (tyRl b m), some (tyI b b), some (tyLof (tyL 0 100 1 4) m m), some (tyI 0 ((m : Int) + 1 - 1)), some (tyL 0 100 1 4), none, none, none, none, none, none, none]
    [some (tyEq (.ref d)), none, some (tyI 2 16), some (tyLof (tyL 0 100 1 4) 0 4), some (tyI 0 4), some (tyL 0 100 1 4), none, none, none, none, none, none, none] :=
  ⟨fun _ _ h => h, fun _ _ ⟨i, e, a, b⟩ => ⟨i, e, by omega, by omega⟩, fun _ _ ⟨a, vs, e, g, l, m, r⟩ => ⟨a, vs, e, g, by omega, by omega, r⟩, fun _ _ ⟨i, e, a, b⟩ => ⟨i, e, by omega, by omega⟩, fun _ _ h => h, trivial⟩
set_option maxHeartbeats 4000000 in
theorem ok__law_no_rule {f f1 f2 f3 : Addr} {fd fd1 fd2 fd3 : FuncData} (D : Df K mg "_law_no_rule" s__law_no_rule ["deck", "rule"] f fd) (D_law_draw : Df K mg "_law_draw" s__law_draw ["deck", "many"] f1 fd1) (D_law_odd_figure : Df K mg "_law_odd_figure" s__law_odd_figure ["deck", "base"] f2 fd2) (D_law_no_base : Df K mg "_law_no_base" s__law_no_base ["deck"] f3 fd3) (T : Blt mg) : FnOk P w K mg base CX0 3 f fd ["deck", "rule"] sp__law_no_rule := by
  have G_law_draw : FnOk P w K mg base CX0 1 f1 fd1 ["deck", "many"] sp__law_draw := ok__law_draw D_law_draw T
  have G_law_odd_figure : FnOk P w K mg base CX0 2 f2 fd2 ["deck", "base"] sp__law_odd_figure := ok__law_odd_figure D_law_odd_figure D_law_draw T
  have G_law_no_base : FnOk P w K mg base CX0 2 f3 fd3 ["deck"] sp__law_no_base := ok__law_no_base D_law_no_base D_law_draw T
  refine D.fn.ok sc__law_no_rule (fun vs H Q E h => ?_) (fun cdv A outer s H vs Q E hr h => ?_)
  · obtain ⟨d, fp, r, b, bl, zs, rfl, _⟩ := h; rfl
  · obtain ⟨d, fp, r, b, bl, zs, rfl, Dk, R, g, kk⟩ := h
    have HU := HUof hr
    refine ⟨_, (pss_cons (ps_asg (pv 1) (pg_tup rfl (pgs_cons (pg_name (i := 2) sc__law_no_rule.nd rfl (Or.inl rfl)) (pgs_cons (pg_name (i := 3) sc__law_no_rule.nd rfl (Or.inl rfl)) pgs_nil))))
      (pss_cons (ps_set (i := 4) sc__law_no_rule.nd rfl (Or.inl rfl) (pcall D_law_draw G_law_draw (hr.mono (by decide)) (pa_cons (pv 0) (pa_cons (pe_op op_add (pe_callB (k_len K) (by rfl) T.n_len PySem.boot_len (pa_cons (pv 3) pa_nil)) pe_int) pa_nil))))
      (pss_cons (ps_set (i := 5) sc__law_no_rule.nd rfl (Or.inl rfl) (pe_ix (k_ixL K) (pe_op op_cat (pv 3) (pe_lst (pa_cons (pe_lst (pa_cons pe_int (pa_cons pe_int pa_nil))) pa_nil))) (pv 4) (fun _ _ => rfl)))
      (pss_cons (ps_set (i := 6) sc__law_no_rule.nd rfl (Or.inl rfl) (pcall D_law_draw G_law_draw (hr.mono (by decide)) (pa_cons (pv 0) (pa_cons (pe_op op_add (pe_callB (k_len K) (by rfl) T.n_len PySem.boot_len (pa_cons (pv 5) pa_nil)) pe_int) pa_nil))))
      (pss_cons (ps_set (i := 7) sc__law_no_rule.nd rfl (Or.inl rfl) (pcall D_law_odd_figure G_law_odd_figure (hr.mono (by decide)) (pa_cons (pv 0) (pa_cons (pv 2) pa_nil))))
      (pss_cons (ps_set (i := 8) sc__law_no_rule.nd rfl (Or.inl rfl) (pe_lst (pa_cons (pe_op op_cat (pe_op op_cat (pe_slice (k_slL K) (pv 5) po_none (po_some (pv 6))) (pe_lst (pa_cons (pv 7) pa_nil))) (pe_slice (k_slL K) (pv 5) (po_some (pv 6)) po_none)) (pa_cons (pe_op op_cat (pe_op op_cat (pe_slice (k_slL K) (pv 5) po_none (po_some (pv 6))) (pe_lst (pa_cons (pv 7) pa_nil))) (pe_slice (k_slL K) (pv 5) (po_some (pe_op op_add (pv 6) pe_int)) po_none)) (pa_cons (pe_op op_cat (pv 5) (pe_op op_rep (pe_lst (pa_cons pe_int pa_nil)) pe_int)) (pa_cons (pe_lst pa_nil) (pa_cons (pe_callTy call_tuple_of (by rfl) T.n_tuple boot_tuple (pa_cons (pv 5) pa_nil)) (pa_cons (pe_lst (pa_cons (pv 5) pa_nil)) pa_nil))))))))
      (pss_cons (ps_set (i := 8) sc__law_no_rule.nd rfl (Or.inl rfl) (pe_ix (k_ixL K) (pe_op op_cat (pv 8) (pe_lst (pa_cons pe_non (pa_cons pe_int (pa_cons pe_str (pa_cons pe_dnewK (pa_cons (pe_op op_cat (pe_slice (k_slL K) (pv 5) po_none (po_some (pv 6))) (pe_slice (k_slL K) (pv 5) (po_some (pe_op op_add (pv 6) pe_int)) po_none)) (pa_cons (pe_op op_cat (pv 5) (pe_lst (pa_cons pe_int pa_nil))) pa_nil)))))))) (pcall D_law_draw G_law_draw (hr.mono (by decide)) (pa_cons (pv 0) (pa_cons pe_int pa_nil))) (fun _ _ => rfl)))
      (pss_cons (ps_set (i := 9) sc__law_no_rule.nd rfl (Or.inl rfl) (pe_op op_cat (pe_op op_cat (pe_slice (k_slL K) (pv 3) po_none (po_some (pv 4))) (pe_lst (pa_cons (pv 8) pa_nil))) (pe_slice (k_slL K) (pv 3) (po_some (pe_op op_add (pv 4) pe_int)) po_none)))
      (pss_cons (ps_set (i := 10) sc__law_no_rule.nd rfl (Or.inl rfl) (pe_op op_cat (pe_op op_cat (pe_slice (k_slL K) (pv 3) po_none (po_some (pv 4))) (pe_revSlice (pe_slice (k_slL K) (pv 3) (po_some (pv 4)) (po_some (pe_op op_add (pv 4) pe_int))))) (pe_slice (k_slL K) (pv 3) (po_some (pe_op op_add (pv 4) pe_int)) po_none)))
      (pss_cons (ps_set (i := 11) sc__law_no_rule.nd rfl (Or.inl rfl) (pe_lst (pa_cons (pv 9) (pa_cons (pv 9) (pa_cons (pv 9) (pa_cons (pe_op op_cat (pe_op op_cat (pe_slice (k_slL K) (pv 3) po_none (po_some (pv 4))) (pe_lst (pa_cons (pv 8) pa_nil))) (pe_slice (k_slL K) (pv 3) (po_some (pv 4)) po_none)) (pa_cons (pv 10) (pa_cons (pe_revSlice (pv 3)) (pa_cons (pe_op op_cat (pe_op op_cat (pe_slice (k_slL K) (pv 3) po_none (po_some (pv 4))) (pe_slice (k_slL K) (pv 3) (po_some (pv 4)) (po_some (pe_op op_add (pv 4) pe_int)))) (pe_slice (k_slL K) (pv 3) (po_some (pv 4)) po_none)) pa_nil)))))))))
      (pss_cons (ps_set (i := 11) sc__law_no_rule.nd rfl (Or.inl rfl) (pe_op op_cat (pv 11) (pe_lst (pa_cons (pe_op op_cat (pe_slice (k_slL K) (pv 3) po_none (po_some (pv 4))) (pe_slice (k_slL K) (pv 3) (po_some (pe_op op_add (pv 4) pe_int)) po_none)) (pa_cons (pe_callTy call_tuple_of (by rfl) T.n_tuple boot_tuple (pa_cons (pv 3) pa_nil)) (pa_cons pe_non (pa_cons pe_dnewK (pa_cons pe_str (pa_cons pe_int (pa_cons (pe_comp (show CScope (defScope s__law_no_rule) _ "k" ["deck", "rule", "base", "bad", "at", "here", "to", "odd", "one", "bent", "turned", "rows", "some"] [] [] from ⟨rfl, by decide +kernel, by decide +kernel, rfl, by decide +kernel, rfl, by decide +kernel, by decide +kernel⟩) rfl (pi_range1 rfl T.n_range (pa_cons pe_int pa_nil)) (fun _ _ _ _ => pts_nil) (fun _ _ _ _ => (pe_lst (pa_cons (pv 0) pa_nil)))) (pa_cons (pe_lst (pa_cons (pv 3) pa_nil)) (pa_cons (pe_tup (pa_cons (pv 3) (pa_cons (pv 3) pa_nil))) pa_nil))))))))))))
      (pss_cons (ps_set (i := 12) sc__law_no_rule.nd rfl (Or.inl rfl) (pe_op op_cat (pe_op op_rep (pe_lst (pa_cons (pe_tup (pa_cons (pv 2) (pa_cons (pe_ix (k_ixL K) (pv 11) (pcall D_law_draw G_law_draw (hr.mono (by decide)) (pa_cons (pv 0) (pa_cons pe_int pa_nil))) (fun _ _ => rfl)) pa_nil))) pa_nil)) pe_int) (pe_lst (pa_cons (pe_tup (pa_cons (pcall D_law_no_base G_law_no_base (hr.mono (by decide)) (pa_cons (pv 0) pa_nil)) (pa_cons (pv 3) pa_nil))) (pa_cons (pe_tup (pa_cons pe_int (pa_cons (pv 3) pa_nil))) (pa_cons (pe_tup (pa_cons (pe_op op_sub (pv 2) pe_int) (pa_cons (pv 3) pa_nil))) (pa_cons (pe_lst (pa_cons (pv 2) (pa_cons (pv 3) pa_nil))) pa_nil)))))))
      (pss_cons (ps_set (i := 12) sc__law_no_rule.nd rfl (Or.inl rfl) (pe_op op_cat (pv 12) (pe_lst (pa_cons (pe_tup (pa_cons (pv 2) pa_nil)) (pa_cons (pe_tup (pa_cons (pv 2) (pa_cons (pv 3) (pa_cons (pe_lst pa_nil) pa_nil)))) (pa_cons (pe_tup (pa_cons (pv 3) (pa_cons (pv 2) pa_nil))) (pa_cons (pv 3) (pa_cons (pv 2) (pa_cons pe_non (pa_cons (pe_tup pa_nil) (pa_cons pe_str (pa_cons pe_dnewK (pa_cons (pe_tup (pa_cons (pe_lst (pa_cons (pv 2) pa_nil)) (pa_cons (pv 3) pa_nil))) pa_nil)))))))))))))
      (pss_one (ps_ret (pe_ix (k_ixL K) (pv 12) (pcall D_law_draw G_law_draw (hr.mono (by decide)) (pa_cons (pv 0) (pa_cons pe_int pa_nil))) (fun _ _ => rfl))))))))))))))))), ?_⟩
    have hm : 2 ≤ b ∧ b ≤ 16 ∧ zs.length ≤ 4 := ⟨g.b2, g.b16, by have := g.len; rwa [List.length_map] at this⟩
    refine TpS.go (w := dkV d fp) (Γ := [some (tyEq (.ref d)), some (tyRl b zs.length), none, none, none, none, none, none, none, none, none, none, none]) (Γ' := [some tyNo]) (T := tyTh 9 33000) ?ty Dk (Fits.cons rfl (Fits.cons (tyRl.of R g) ⟨rfl, fun i T h => by rcases i with _ | _ | _ | _ | _ | _ | _ | _ | _ | _ | _ | i <;> cases h⟩)) (fun _ _ _ _ h => h.no.elim) ?qr
    case ty => exact
      (TpS.seq (tp_unp rfl)
      (TpS.seq (TpS.asg (tp_draw rfl (Tp.add (Tp.len (Tp.var rfl)) Tp.int)))
      (TpS.seq (TpS.asg (Tp.ix (Tp.catT (Tp.var rfl) (Tp.lstT (TpB.cons (Tp.wideL (Tp.lst (TpA.cons (Tp.ofI Tp.int) (TpA.cons (Tp.ofI Tp.int) TpA.nil))) (fun _ _ h => h.le (by decide) (by decide)) (by decide) (by decide)) TpB.nil))) (Tp.var rfl) (by omega)))
      (TpS.weak (fun _ _ f => CSub.fits (hW hm) f) (TpS.seq (TpS.asg (tp_draw rfl (Tp.add (Tp.len (Tp.var rfl)) Tp.int)))
      (TpS.seq (TpS.asg (tp_odd rfl (Tp.var rfl)))
      (TpS.seq (TpS.asg (Tp.lst (TpA.cons (Tp.ofL (Tp.cat (Tp.cat (Tp.sl (Tp.var rfl) TpO.none (TpO.some (Tp.var rfl))) (Tp.lst (TpA.cons (Tp.var rfl) TpA.nil))) (Tp.sl (Tp.var rfl) (TpO.some (Tp.var rfl)) TpO.none))) (TpA.cons (Tp.ofL (Tp.cat (Tp.cat (Tp.sl (Tp.var rfl) TpO.none (TpO.some (Tp.var rfl))) (Tp.lst (TpA.cons (Tp.var rfl) TpA.nil))) (Tp.sl (Tp.var rfl) (TpO.some (Tp.add (Tp.var rfl) Tp.int)) TpO.none))) (TpA.cons (Tp.ofL (Tp.cat (Tp.var rfl) (Tp.rep (Tp.lst (TpA.cons (Tp.ofI Tp.int) TpA.nil)) Tp.int))) (TpA.cons (Tp.ofL (Tp.lst TpA.nil)) (TpA.cons (Tp.tupOf (Tp.var rfl)) (TpA.cons (Tp.ofL (Tp.lst (TpA.cons (Tp.ofL (Tp.var rfl)) TpA.nil))) TpA.nil))))))))
      (TpS.seq (TpS.asg (Tp.ix (Tp.cat (Tp.var rfl) (Tp.lst (TpA.cons Tp.non (TpA.cons (Tp.ofI Tp.int) (TpA.cons (Tp.str (by decide +kernel) (by decide +kernel)) (TpA.cons Tp.emp (TpA.cons (Tp.ofL (Tp.cat (Tp.sl (Tp.var rfl) TpO.none (TpO.some (Tp.var rfl))) (Tp.sl (Tp.var rfl) (TpO.some (Tp.add (Tp.var rfl) Tp.int)) TpO.none))) (TpA.cons (Tp.ofL (Tp.cat (Tp.var rfl) (Tp.lst (TpA.cons (Tp.ofI Tp.int) TpA.nil)))) TpA.nil)))))))) (tp_draw rfl Tp.int) (by decide)))
      (TpS.seq (TpS.asg (Tp.cat (Tp.cat (Tp.ofLL (Tp.sl (Tp.var rfl) TpO.none (TpO.some (Tp.var rfl)))) (Tp.lst (TpA.cons (Tp.var rfl) TpA.nil))) (Tp.ofLL (Tp.sl (Tp.var rfl) (TpO.some (Tp.add (Tp.var rfl) Tp.int)) TpO.none))))
      (TpS.seq (TpS.asg (Tp.catT (Tp.catT (Tp.sl (Tp.var rfl) TpO.none (TpO.some (Tp.var rfl))) (Tp.rev (Tp.sl (Tp.var rfl) (TpO.some (Tp.var rfl)) (TpO.some (Tp.add (Tp.var rfl) Tp.int))))) (Tp.sl (Tp.var rfl) (TpO.some (Tp.add (Tp.var rfl) Tp.int)) TpO.none)))
      (TpS.seq (TpS.asg (Tp.lst (TpA.cons (Tp.ofL (Tp.var rfl)) (TpA.cons (Tp.ofL (Tp.var rfl)) (TpA.cons (Tp.ofL (Tp.var rfl)) (TpA.cons (Tp.ofL (Tp.cat (Tp.cat (Tp.ofLL (Tp.sl (Tp.var rfl) TpO.none (TpO.some (Tp.var rfl)))) (Tp.lst (TpA.cons (Tp.var rfl) TpA.nil))) (Tp.ofLL (Tp.sl (Tp.var rfl) (TpO.some (Tp.var rfl)) TpO.none)))) (TpA.cons (Tp.ofL (Tp.ofLL (Tp.var rfl))) (TpA.cons (Tp.ofL (Tp.ofLL (Tp.rev (Tp.var rfl)))) (TpA.cons (Tp.ofL (Tp.ofLL (Tp.catT (Tp.catT (Tp.sl (Tp.var rfl) TpO.none (TpO.some (Tp.var rfl))) (Tp.sl (Tp.var rfl) (TpO.some (Tp.var rfl)) (TpO.some (Tp.add (Tp.var rfl) Tp.int)))) (Tp.sl (Tp.var rfl) (TpO.some (Tp.var rfl)) TpO.none)))) TpA.nil)))))))))
      (TpS.seq (TpS.asg (Tp.cat (Tp.var rfl) (Tp.lst (TpA.cons (Tp.ofL (Tp.ofLL (Tp.catT (Tp.sl (Tp.var rfl) TpO.none (TpO.some (Tp.var rfl))) (Tp.sl (Tp.var rfl) (TpO.some (Tp.add (Tp.var rfl) Tp.int)) TpO.none)))) (TpA.cons (Tp.tupOf (Tp.ofLL (Tp.var rfl))) (TpA.cons Tp.non (TpA.cons Tp.emp (TpA.cons (Tp.str (by decide +kernel) (by decide +kernel)) (TpA.cons (Tp.ofI Tp.int) (TpA.cons (Tp.ofL (Tp.compR (c := 5) (Tp.ofL (Tp.lst (TpA.cons (Tp.ofI (Tp.var rfl)) TpA.nil))))) (TpA.cons (Tp.ofL (Tp.lst (TpA.cons (Tp.ofL (Tp.ofLL (Tp.var rfl))) TpA.nil))) (TpA.cons (Tp.tup (TpA.cons (Tp.ofL (Tp.ofLL (Tp.var rfl))) (TpA.cons (Tp.ofL (Tp.ofLL (Tp.var rfl))) TpA.nil))) TpA.nil))))))))))))
      (TpS.seq (TpS.asg (Tp.cat (Tp.rep (Tp.lst (TpA.cons (Tp.tup (TpA.cons (Tp.ofI (Tp.var rfl)) (TpA.cons (Tp.ix (Tp.var rfl) (tp_draw rfl Tp.int) (by decide)) TpA.nil))) TpA.nil)) Tp.int) (Tp.lst (TpA.cons (Tp.tup (TpA.cons (tp_nob rfl) (TpA.cons (Tp.ofL (Tp.ofLL (Tp.var rfl))) TpA.nil))) (TpA.cons (Tp.tup (TpA.cons (Tp.ofI Tp.int) (TpA.cons (Tp.ofL (Tp.ofLL (Tp.var rfl))) TpA.nil))) (TpA.cons (Tp.tup (TpA.cons (Tp.ofI (Tp.subI (Tp.var rfl) Tp.int)) (TpA.cons (Tp.ofL (Tp.ofLL (Tp.var rfl))) TpA.nil))) (TpA.cons (Tp.ofL (Tp.lst (TpA.cons (Tp.ofI (Tp.var rfl)) (TpA.cons (Tp.ofL (Tp.ofLL (Tp.var rfl))) TpA.nil)))) TpA.nil)))))))
      (TpS.seq (TpS.asg (Tp.cat (Tp.var rfl) (Tp.lst (TpA.cons (Tp.tup (TpA.cons (Tp.ofI (Tp.var rfl)) TpA.nil)) (TpA.cons (Tp.tup (TpA.cons (Tp.ofI (Tp.var rfl)) (TpA.cons (Tp.ofL (Tp.ofLL (Tp.var rfl))) (TpA.cons (Tp.ofL (Tp.lst TpA.nil)) TpA.nil)))) (TpA.cons (Tp.tup (TpA.cons (Tp.ofL (Tp.ofLL (Tp.var rfl))) (TpA.cons (Tp.ofI (Tp.var rfl)) TpA.nil))) (TpA.cons (Tp.ofL (Tp.ofLL (Tp.var rfl))) (TpA.cons (Tp.ofI (Tp.var rfl)) (TpA.cons Tp.non (TpA.cons (Tp.tup TpA.nil) (TpA.cons (Tp.str (by decide +kernel) (by decide +kernel)) (TpA.cons Tp.emp (TpA.cons (Tp.tup (TpA.cons (Tp.ofL (Tp.lst (TpA.cons (Tp.ofI (Tp.var rfl)) TpA.nil))) (TpA.cons (Tp.ofL (Tp.ofLL (Tp.var rfl))) TpA.nil))) TpA.nil)))))))))))))
      (TpS.ret (Tp.le (Tp.ix (Tp.var rfl) (tp_draw rfl Tp.int) (by decide)) (by decide) (by decide)))))))))))))))))
    case qr => exact fun v H' o s t => kk v H' ⟨o, s⟩ t
end
end Lw
set_option Elab.async false
set_option linter.all false
set_option maxRecDepth 100000
namespace Lw
open PySem L2 PyProof.Rows
theorem Fit.int {k n : Nat} {i : Int} (h : i.natAbs < 10 ^ 30) (hn : 100 ≤ n) : Fit k n (.int i) := Th.fit (H := fun _ => none) (v := .int i) (Th.int h hn) (by rw [ThAt])
theorem Fit.non {k n : Nat} : Fit k n .none := Th.fit (H := fun _ => none) (v := .non) Th.non (by rw [ThAt])
theorem not_t {c : Bool} (h : (!c) = true) : c = false := by cases c <;> first | rfl | cases h
theorem figsT_of {b : Nat} {l : List Int} (h : ∀ f ∈ l, 0 ≤ f ∧ f < (b : Int)) : figsT b (.list (l.map .int)) = true := by
  show (l.map PyData.int).all (figT b) = true
  rw [List.all_eq_true]
  intro x hx
  obtain ⟨i, hi, rfl⟩ := List.mem_map.mp hx
  exact decide_eq_true (h i hi)
theorem Fit.ints {H : Hp} {a : Addr} {l : List Int} (e : H a = some (.lst (l.map V.int))) (h : ∀ i ∈ l, i.natAbs < 10 ^ 30) (hn : 101 * l.length ≤ 33000) : ThAt H (.list (l.map .int)) (.ref a) ∧ Fit 9 33000 (.list (l.map .int)) :=
  ⟨ThAt.ints e, Th.fit (Th.ints (k := 8) e h hn) (ThAt.ints e)⟩
theorem badOf_rule (b : Nat) (ls : List (List Int)) : badOf (.tuple [.int b, .list (ls.map fun l => .list (l.map .int))]) = ls := by
  show (ls.map fun l => PyData.list (l.map .int)).map intsT = ls
  rw [List.map_map]
  conv => rhs; rw [← List.map_id ls]
  exact List.map_congr_left fun l _ => ints_back l
theorem pair_at {H : Hp} {e0 e1 : PyData} {v : V} (h : ThAt H (.list [e0, e1]) v) : ∃ be w0 w1, v = .ref be ∧ H be = some (.lst [w0, w1]) ∧ ThAt H e0 w0 ∧ ThAt H e1 w1 := by
  rw [ThAt] at h
  obtain ⟨be, ys, rfl, h2, h3⟩ := h
  rw [ThsAt] at h3
  obtain ⟨w0, us, rfl, t0, h3⟩ := h3
  rw [ThsAt] at h3
  obtain ⟨w1, us, rfl, t1, h3⟩ := h3
  rw [ThsAt] at h3
  subst h3
  exact ⟨be, w0, w1, rfl, h2, t0, t1⟩
theorem at_pair {H : Hp} {e0 e1 : PyData} {w0 w1 : V} {be : Addr} (h : H be = some (.lst [w0, w1])) (t0 : ThAt H e0 w0) (t1 : ThAt H e1 w1) : ThAt H (.list [e0, e1]) (.ref be) := by
  rw [ThAt]
  refine ⟨be, _, rfl, h, ?_⟩
  rw [ThsAt]
  refine ⟨_, _, rfl, t0, ?_⟩
  rw [ThsAt]
  exact ⟨_, _, rfl, t1, by rw [ThsAt]⟩
section
variable {P : Program} {w : World} {K : PySem.W.Frag} {mg : Str → Option Value} {base : Heap} {T0 : Addr}
def sp_law (K : PySem.W.Frag) (T0 : Addr) : Sp := fun vs H Q _ => ∃ (a : Addr) (ns : List Int), vs = [.ref a] ∧ SqL K H a (ns.map V.int) ∧ ns.length ≤ 63 ∧ LT T0 H ∧ ∀ H', Q (.bl true) H'
structure Now (T0 d : Addr) (fp : List Addr) (r : Addr) (b : Nat) (bl : Addr) (zs : List (Addr × List Int)) (ts : List (PyData × V)) (H : Hp) : Prop where
  dk : Deck H d fp
  lt : LT T0 H
  R : RuleAt (aw fp H) r b bl zs
  th : ∀ p ∈ ts, ThAt (aw fp H) p.1 p.2
section
variable {d : Addr} {fp : List Addr} {r : Addr} {b : Nat} {bl : Addr} {zs : List (Addr × List Int)} {ts : List (PyData × V)} {H H' : Hp}
theorem Now.stp (N : Now T0 d fp r b bl zs ts H) (S : Stp fp d H H') : Now T0 d fp r b bl zs ts H' := ⟨S.dk, S.lt N.dk N.lt, N.R.same S.sm, fun p hp => (N.th p hp).same S.sm⟩
theorem Now.on (N : Now T0 d fp r b bl zs ts H) (s : SameL T0 H H') (lt : LT T0 H') : Now T0 d fp r b bl zs ts H' := ⟨N.dk.sameL N.lt s, lt, N.R.awL N.lt s, fun p hp => th_sameL (N.lt.away N.dk) (s.away fp) (N.th p hp)⟩
theorem Now.sm (N : Now T0 d fp r b bl zs ts H) (s : Same H H') : Now T0 d fp r b bl zs ts H' := N.on (SameL.of s) (N.lt.same s)
theorem Now.put (N : Now T0 d fp r b bl zs ts H) {e : PyData} {v : V} (h : ThAt (aw fp H) e v) : Now T0 d fp r b bl zs ((e, v) :: ts) H := ⟨N.dk, N.lt, N.R, fun p hp => by rcases List.mem_cons.mp hp with rfl | hp; exact h; exact N.th p hp⟩
theorem Now.get (N : Now T0 d fp r b bl zs ts H) {e : PyData} {v : V} (h : (e, v) ∈ ts) : ThAt H e v := (N.th _ h).same (aw_same _ _)
end
theorem sc_law : FnScope ["script", "deck", "k", "rule", "base", "bad", "turn", "none", "figures", "bent", "odd", "strange", "figure", "good", "beside", "door", "due"] ["script"] (defScope s_law) := ⟨rfl, rfl, rfl, by decide +kernel, rfl, by decide +kernel, by decide +kernel⟩
set_option maxHeartbeats 2000000 in
theorem ok_law {CNoBase CNoNumber CNoFigures CNoRule CNoStand CNoGood CEndless CNoRules CNoStretch CTooMany CNoText CNoName CNoRow : Addr} {f f1 f2 f3 f4 f5 f6 f7 f8 f9 f10 f11 : Addr} {fd fd1 fd2 fd3 fd4 fd5 fd6 fd7 fd8 fd9 fd10 fd11 : FuncData} (D : Df K mg "law" s_law ["script"] f fd) (D_law_deck : Df K mg "_law_deck" s__law_deck ["script"] f1 fd1) (D_law_some_rule : Df K mg "_law_some_rule" s__law_some_rule ["deck"] f2 fd2) (G_law_some_rule : FnOk P w K mg base CX0 2 f2 fd2 ["deck"] sp__law_some_rule) (D_law_no_rule : Df K mg "_law_no_rule" s__law_no_rule ["deck", "rule"] f3 fd3) (G_law_no_rule : FnOk P w K mg base CX0 3 f3 fd3 ["deck", "rule"] sp__law_no_rule)
    (D_law_odd_figure : Df K mg "_law_odd_figure" s__law_odd_figure ["deck", "base"] f4 fd4) (D_law_draw : Df K mg "_law_draw" s__law_draw ["deck", "many"] f5 fd5) (D_law_is_rule : Df K mg "_law_is_rule" s__law_is_rule ["thing"] f6 fd6) (D_law_all : Df K mg "_law_all" s__law_all ["bad"] f7 fd7) (G_law_all : FnOk P w K mg base CX0 2 f7 fd7 ["bad"] sp__law_all) (D_law_is_stand : Df K mg "_law_is_stand" s__law_is_stand ["rule", "thing"] f8 fd8) (G_law_is_stand : FnOk P w K mg base CX0 3 f8 fd8 ["rule", "thing"] sp__law_is_stand) (D_law_no_stand : Df K mg "_law_no_stand" s__law_no_stand ["deck", "rule"] f9 fd9) (G_law_no_stand : FnOk P w K mg base CX0 3 f9 fd9 ["deck", "rule"] sp__law_no_stand)
    (D_law_odd_figures : Df K mg "_law_odd_figures" s__law_odd_figures ["deck", "base", "figures"] f10 fd10) (G_law_odd_figures : FnOk P w K mg base CX0 3 f10 fd10 ["deck", "base", "figures"] sp__law_odd_figures)
    (D_law_right : Df K mg "_law_right" s__law_right ["door", "rule", "one", "figure", "due"] f11 fd11) (G_law_right : FnOk P w K mg base CX0 10 f11 fd11 ["door", "rule", "one", "figure", "due"] (sp__law_right K T0 CNoBase CNoNumber CNoFigures CNoRule CNoStand CNoGood CEndless CNoRules CNoStretch CTooMany CNoText CNoName CNoRow))
    (kd_NoFigures : KindK K CNoFigures CNoBase CNoNumber CNoFigures CNoRule CNoStand CNoGood CEndless CNoRules CNoStretch CTooMany CNoText CNoName CNoRow 2) (kd_NoRule : KindK K CNoRule CNoBase CNoNumber CNoFigures CNoRule CNoStand CNoGood CEndless CNoRules CNoStretch CTooMany CNoText CNoName CNoRow 3) (kd_NoStand : KindK K CNoStand CNoBase CNoNumber CNoFigures CNoRule CNoStand CNoGood CEndless CNoRules CNoStretch CTooMany CNoText CNoName CNoRow 4) (T : Blt mg) : FnOk P w K mg base CX0 11 f fd ["script"] (sp_law K T0) := by
  have G_law_deck : FnOk P w K mg base CX0 1 f1 fd1 ["script"] (sp__law_deck K) := ok__law_deck D_law_deck T
  have G_law_draw : FnOk P w K mg base CX0 1 f5 fd5 ["deck", "many"] sp__law_draw := ok__law_draw D_law_draw T
  have G_law_odd_figure : FnOk P w K mg base CX0 2 f4 fd4 ["deck", "base"] sp__law_odd_figure := ok__law_odd_figure D_law_odd_figure D_law_draw T
  have G_law_is_rule : FnOk P w K mg base CX0 1 f6 fd6 ["thing"] sp__law_is_rule := ok__law_is_rule D_law_is_rule T
  refine D.fn.ok sc_law (fun vs H Q E h => ?_) (fun cdv A outer s H vs Q E hr h => ?_)
  · obtain ⟨a, ns, rfl, _⟩ := h; rfl
  · obtain ⟨a, ns, rfl, hS, hlen, lt, kk⟩ := h
    refine ⟨_, (pss_cons (ps_set (i := 1) sc_law.nd rfl (Or.inr rfl) (pcall D_law_deck G_law_deck (hr.mono (by decide)) (pa_cons (pv 0) pa_nil)))
      (pss_cons (ps_for PassesOwn.never rfl (pi_range1 rfl T.n_range (pa_cons pe_int pa_nil)) (pg_name (i := 2) sc_law.nd rfl (Or.inl rfl))
        (pss_cons (ps_set (i := 3) sc_law.nd rfl (Or.inl rfl) (pcall D_law_some_rule G_law_some_rule (hr.mono (by decide)) (pa_cons (pv 1) pa_nil)))
        (pss_cons (ps_asg (pv 3) (pg_tup rfl (pgs_cons (pg_name (i := 4) sc_law.nd rfl (Or.inr rfl)) (pgs_cons (pg_name (i := 5) sc_law.nd rfl (Or.inl rfl)) pgs_nil))))
        (pss_one (ps_for PassesOwn.never rfl (pi_range1 rfl T.n_range (pa_cons pe_int pa_nil)) (pg_name (i := 6) sc_law.nd rfl (Or.inl rfl))
          (pss_cons (ps_set (i := 7) sc_law.nd rfl (Or.inl rfl) (pcall D_law_no_rule G_law_no_rule (hr.mono (by decide)) (pa_cons (pv 1) (pa_cons (pv 3) pa_nil))))
          (pss_cons (ps_setComp (i := 8) (show CScope (defScope s_law) _ "at" ["script", "deck", "k", "rule", "base", "bad", "turn", "none", "figures", "bent", "odd", "strange", "figure", "good", "beside", "door", "due"] ["deck", "base"] [1, 4] from ⟨rfl, by decide +kernel, by decide +kernel, rfl, by decide +kernel, rfl, by decide +kernel, by decide +kernel⟩) rfl sc_law.nd rfl (Or.inl rfl) (pi_range1 rfl T.n_range (pa_cons (pcall D_law_draw G_law_draw (hr.mono (by decide)) (pa_cons (pv 1) (pa_cons pe_int pa_nil))) pa_nil)) (fun _ _ _ _ => pts_nil) (fun _ _ _ _ => (pcall D_law_draw G_law_draw (hr.mono (by decide)) (pa_cons (pv 1) (pa_cons (pv 2) pa_nil)))))
          (pss_cons (ps_set (i := 9) sc_law.nd rfl (Or.inl rfl) (pcall D_law_odd_figures G_law_odd_figures (hr.mono (by decide)) (pa_cons (pv 1) (pa_cons (pv 4) (pa_cons (pv 8) pa_nil)))))
          (pss_cons (ps_set (i := 10) sc_law.nd rfl (Or.inl rfl) (pcall D_law_odd_figure G_law_odd_figure (hr.mono (by decide)) (pa_cons (pv 1) (pa_cons (pv 4) pa_nil))))
          (pss_cons (ps_set (i := 11) sc_law.nd rfl (Or.inl rfl) (pcall D_law_no_stand G_law_no_stand (hr.mono (by decide)) (pa_cons (pv 1) (pa_cons (pv 3) pa_nil))))
          (pss_cons (ps_set (i := 12) sc_law.nd rfl (Or.inl rfl) (pcall D_law_draw G_law_draw (hr.mono (by decide)) (pa_cons (pv 1) (pa_cons (pv 4) pa_nil))))
          (pss_cons (ps_set (i := 13) sc_law.nd rfl (Or.inl rfl) (pe_ix (k_ixL K) (pcall D_law_all G_law_all (hr.mono (by decide)) (pa_cons (pv 5) pa_nil)) (pcall D_law_draw G_law_draw (hr.mono (by decide)) (pa_cons (pv 1) (pa_cons (pe_callB (k_len K) (by rfl) T.n_len PySem.boot_len (pa_cons (pcall D_law_all G_law_all (hr.mono (by decide)) (pa_cons (pv 5) pa_nil)) pa_nil)) pa_nil))) (fun _ _ => rfl)))
          (pss_cons (ps_set (i := 14) sc_law.nd rfl (Or.inl rfl) (pe_ix (k_ixL K) (pe_lst (pa_cons (pe_lst (pa_cons (pv 8) (pa_cons (pv 12) pa_nil))) (pa_cons (pe_lst (pa_cons (pv 9) (pa_cons (pv 10) pa_nil))) (pa_cons (pe_lst (pa_cons (pv 11) (pa_cons (pv 10) pa_nil))) pa_nil)))) (pe_op op_mod (pv 6) pe_int) (fun _ _ => rfl)))
          (pss_cons (ps_for PassesOwn.never rfl (pi_range1 rfl T.n_range (pa_cons pe_int pa_nil)) (pg_name (i := 15) sc_law.nd rfl (Or.inl rfl))
            (pss_one (ps_if (PW.pt (pw_and (pt_not (pt_val (pcall D_law_is_rule G_law_is_rule (hr.mono (by decide)) (pa_cons (pv 7) pa_nil)))) (pw_and1 (pt_not (pt_val (pcall D_law_right G_law_right (hr.mono (by decide)) (pa_cons (pv 15) (pa_cons (pv 7) (pa_cons (pe_ix (k_ixL K) (pv 14) pe_int (fun _ _ => rfl)) (pa_cons (pe_ix (k_ixL K) (pv 14) pe_int (fun _ _ => rfl)) (pa_cons pe_int pa_nil)))))))))))
              (pss_one (ps_ret pe_bl))
              pss_nil)))
          (pss_cons (ps_if (PW.pt (pw_or (pt_not (pt_val (pcall D_law_right G_law_right (hr.mono (by decide)) (pa_cons pe_int (pa_cons (pv 3) (pa_cons (pv 9) (pa_cons pe_int (pa_cons pe_int pa_nil)))))))) (pw_or1 (pt_not (pt_val (pcall D_law_right G_law_right (hr.mono (by decide)) (pa_cons pe_int (pa_cons (pv 3) (pa_cons (pv 8) (pa_cons pe_int (pa_cons pe_non pa_nil)))))))))))
            (pss_one (ps_ret pe_bl))
            pss_nil)
          (pss_cons (ps_set (i := 16) sc_law.nd rfl (Or.inl rfl) (pe_ix (k_ixL K) (pe_lst (pa_cons pe_int (pa_cons pe_non pa_nil))) (pe_callTy call_int1 (by rfl) T.n_int boot_int (pa_cons (pcall D_law_is_stand G_law_is_stand (hr.mono (by decide)) (pa_cons (pv 3) (pa_cons (pv 11) pa_nil))) pa_nil)) (fun _ _ => rfl)))
          (pss_cons (ps_if (PW.pt (pw_or (pt_not (pt_val (pcall D_law_right G_law_right (hr.mono (by decide)) (pa_cons pe_int (pa_cons (pv 3) (pa_cons (pv 11) (pa_cons (pv 12) (pa_cons (pv 16) pa_nil)))))))) (pw_or1 (pt_not (pt_val (pcall D_law_right G_law_right (hr.mono (by decide)) (pa_cons pe_int (pa_cons (pv 3) (pa_cons (pv 13) (pa_cons (pv 10) (pa_cons pe_int pa_nil)))))))))))
            (pss_one (ps_ret pe_bl))
            pss_nil)
          (pss_cons (ps_if (PW.pt (pw_and (pt_cmpR op_notN (pv 16) pe_non (nomark _)) (pw_and1 (pt_not (pt_val (pcall D_law_right G_law_right (hr.mono (by decide)) (pa_cons pe_int (pa_cons (pv 3) (pa_cons (pv 11) (pa_cons (pv 10) (pa_cons pe_int pa_nil)))))))))))
            (pss_one (ps_ret pe_bl))
            pss_nil)
          (pss_one (ps_if (PW.pt (pw_or (pt_not (pt_val (pcall D_law_right G_law_right (hr.mono (by decide)) (pa_cons pe_int (pa_cons (pv 3) (pa_cons (pv 13) (pa_cons (pv 12) (pa_cons pe_non pa_nil)))))))) (pw_or1 (pt_not (pt_val (pcall D_law_right G_law_right (hr.mono (by decide)) (pa_cons pe_int (pa_cons (pv 3) (pa_cons pe_non (pa_cons pe_non (pa_cons pe_non pa_nil)))))))))))
            (pss_one (ps_ret pe_bl))
            pss_nil))))))))))))))))))))
      (pss_one (ps_ret pe_bl)))), ?_⟩
    refine ⟨_, rfl, a, ns, rfl, hS, hlen, fun d fp H0 D0 s0 _ => ?_⟩
    refine ⟨12, rfl, by decide, by decide, for_range (lo := 0) (n := 12) (fun i σ H2 => ∃ v2 v3 v4 v5 v6 v7 v8 v9 v10 v11 v12 v13 v14 v15 v16 : Option V, σ = [some (.ref a), some (.ref d), v2, v3, v4, v5, v6, v7, v8, v9, v10, v11, v12, v13, v14, v15, v16] ∧ Deck H2 d fp ∧ LT T0 H2) ⟨_, _, _, _, _, _, _, _, _, _, _, _, _, _, _, rfl, D0, lt.same s0⟩ ?_ ?_⟩
    · rintro i σ H2 hi ⟨v2, v3, v4, v5, v6, v7, v8, v9, v10, v11, v12, v13, v14, v15, v16, rfl, D2, lt2⟩
      refine ⟨_, rfl, d, fp, rfl, D2, fun r b bl zs H3 S3 R g => ?_⟩
      have h2 := g.b2
      have h16 := g.b16
      have hz4 : zs.length ≤ 4 := by have := g.len; rwa [List.length_map] at this
      refine ⟨_, rfl, r, _, rfl, SqT.of R.all.tu, rfl, _, _, rfl, _, _, rfl, rfl, ?_⟩
      refine ⟨5, rfl, by decide, by decide, for_range (lo := 0) (n := 5) (fun j σ H4 => ∃ v6 v7 v8 v9 v10 v11 v12 v13 v14 v15 v16 : Option V, σ = [some (.ref a), some (.ref d), some (.int (0 + (i : Int))), some (.ref r), some (.int b), some (.ref bl), v6, v7, v8, v9, v10, v11, v12, v13, v14, v15, v16] ∧ Now T0 d fp r b bl zs [] H4) ⟨_, _, _, _, _, _, _, _, _, _, _, rfl, S3.dk, S3.lt D2 lt2, R, by simp⟩ ?_ ?_⟩
      · rintro j σ H4 hj ⟨v6, v7', v8', v9', v10', v11', v12', v13', v14', v15', v16', rfl, N4⟩
        have hj : j < 5 := hj
        refine ⟨_, rfl, _, rfl, d, fp, r, b, bl, zs, rfl, N4.dk, N4.R, g, fun v7 H5 S5 ⟨d7, h7, f7⟩ => ?_⟩
        have N5 := (N4.stp S5).put h7
        refine ⟨_, rfl, d, _, fp, rfl, N5.dk, by decide, by decide, fun m H6 hm S6 => ⟨(m : Int), rfl, by omega, by omega, comp_range (lo := 0) (n := (m : Int).toNat) (fun k ys Hc => Stp fp d H5 Hc ∧ ∃ ms : List Int, ys = ms.map V.int ∧ ms.length = k ∧ ∀ f ∈ ms, 0 ≤ f ∧ f < (b : Int)) ⟨S6, [], rfl, rfl, by simp⟩ ?_ ?_⟩⟩
        · rintro k ys Hc hk ⟨Sc, ms, rfl, hml, hmf⟩
          refine ⟨by rw [List.length_map, hml]; exact Nat.lt_of_lt_of_le (show k < 7 by omega) (by decide), ?_⟩
          unfold tYes
          dsimp only
          rw [if_pos rfl]
          refine ⟨_, rfl, _, rfl, d, _, fp, rfl, Sc.dk, by omega, by omega, fun y2 H17 hy2 S17 => ⟨Sc.trans S17, ms ++ [(y2 : Int)], by simp, by simp [hml], fun f hf => ?_⟩⟩
          rcases List.mem_append.mp hf with hf | hf
          · exact hmf f hf
          · have e : f = (y2 : Int) := by simpa using hf
            omega
        rintro ys Hc ⟨Sc, fs, rfl, hml, hmf⟩ fl hfl
        have hfl5 : fs.length ≤ 5 := by omega
        have Sl := Sc.new hfl (o := .lst (fs.map V.int))
        have Fl : aw fp (upd Hc fl (.lst (fs.map V.int))) fl = some (.lst (fs.map V.int)) := aw_newD Sc.dk hfl
        generalize upd Hc fl (.lst (fs.map V.int)) = H7 at Sl Fl
        have hfb : ∀ f ∈ fs, f.natAbs < 10 ^ 30 := fun f hf => by have := hmf f hf; omega
        have tF := Fit.ints Fl hfb (by omega)
        have N7 := (N5.stp Sl).put tF.1
        have fF := tF.2
        refine ⟨_, rfl, _, rfl, _, rfl, d, fp, b, fl, fs, rfl, N7.dk, h16, Fl, hmf, hfl5, fun v9 H8 S8 ⟨e9, h9, f9, p9⟩ => ?_⟩
        have N8 := (N7.stp S8).put h9
        refine ⟨_, rfl, _, rfl, d, fp, b, rfl, N8.dk, h16, fun v10 H9 S9 ⟨x10, h10, f10, p10⟩ => ?_⟩
        have N9 := (N8.stp S9).put h10
        refine ⟨_, rfl, _, rfl, d, fp, r, b, bl, zs, rfl, N9.dk, N9.R, g, fun v11 H10 S10 ⟨s11, h11, f11⟩ => ?_⟩
        have N10 := (N9.stp S10).put h11
        refine ⟨_, rfl, _, rfl, d, _, fp, rfl, N10.dk, by omega, by omega, fun x H11 hx S11 => ?_⟩
        have N11 := N10.stp S11
        have hgs : ∀ z ∈ zs, z.2 ≠ [] ∧ z.2.length ≤ 4 := fun z hz => ⟨(g.st _ (List.mem_map.mpr ⟨z, hz, rfl⟩)).ne, (g.st _ (List.mem_map.mpr ⟨z, hz, rfl⟩)).len⟩
        refine ⟨_, rfl, bl, zs, rfl, N11.R.all.li, N11.R.all.st, hz4, hgs, fun D12 ws H12 hD12 hDv12 hW12 eW12 hlen12 s12 => ?_⟩
        have N12 := N11.sm s12
        refine ⟨_, rfl, _, rfl, bl, zs, rfl, N12.R.all.li, N12.R.all.st, hz4, hgs, fun D13 us H13 hD13 hDv13 hW13 eW13 hlen13 s13 => ?_⟩
        have N13 := N12.sm s13
        have hul : us.length = ws.length := by rw [← List.length_map (f := (·.2)) (as := us), eW13, ← eW12, List.length_map]
        have hw : [] ∈ ws.map (·.2) := by rw [eW12]; exact mem_allF.mpr (.inl rfl)
        have hpos : 1 ≤ ws.length := by
          cases ws with
          | nil => cases hw
          | cons _ _ => rw [List.length_cons]; omega
        refine ⟨D13, _, rfl, .inl (SqL.of hDv13), d, _, fp, rfl, N13.dk, by rw [List.length_map]; omega, by rw [List.length_map]; exact Int.lt_of_le_of_lt (show (us.length : Int) ≤ 13 by omega) (by decide), fun y H14 hy S14 => ?_⟩
        rw [List.length_map, hul] at hy
        have N14 := N13.stp S14
        have hy' : y < ws.length := by omega
        have hD14 : H14 D12 = some (.lst (ws.map fun z => V.ref z.1)) := S14.get (N11.dk.fresh hD12) (s13 _ _ hDv12)
        have hyw : ws[y]? = some ws[y] := List.getElem?_eq_getElem hy'
        obtain ⟨gd, hgd⟩ : ∃ gd, gd = ws[y] := ⟨_, rfl⟩
        rw [← hgd] at hyw
        have hgm := List.mem_of_getElem? hyw
        refine ⟨D12, _, _, .ref gd.1, rfl, rfl, SqL.of hD14, atI_nat (by rw [List.getElem?_map, hyw]; rfl), ?_⟩
        have hgA : gd.2 ∈ allF (zs.map (·.2)) (zs.map (·.2)) := by rw [← eW12]; exact List.mem_map.mpr ⟨gd, hgm, rfl⟩
        have hgf := isSt_fig g (mem_allF.mp hgA)
        have hG14 : aw fp H14 gd.1 = some (.lst (gd.2.map V.int)) := by
          have fr := N11.dk.fresh (hW12 gd hgm).1
          rw [aw_out fr]
          exact S14.get fr (s13 _ _ (hW12 gd hgm).2.1)
        have tG := Fit.ints hG14 (fun f hf => by have := hgf.2 f hf; omega) (by omega)
        have N14 := N14.put tG.1
        have fG := tG.2
        have sG : standT (zs.map (·.2)) (.list (gd.2.map .int)) = true := by
          rw [standT_fig (figsT_of hgf.2), ints_back]; exact decide_eq_true hgA
        have tR := N14.R.th
        have N14 := N14.put tR
        obtain ⟨dr, hdr⟩ : ∃ dr, dr = PyData.tuple [.int b, .list ((zs.map (·.2)).map fun l => .list (l.map .int))] := ⟨_, rfl⟩
        rw [← hdr] at N14 tR
        have rr : ruleT dr = true := by rw [hdr]; exact ruleT_good g
        have eb : baseOf dr = (b : Int) := by rw [hdr]; rfl
        have ebad : badOf dr = zs.map (·.2) := by rw [hdr]; exact badOf_rule _ _
        have fr : Fit 9 33000 dr := by
          obtain ⟨d', t', _, f'⟩ := N14.R.thing g
          rw [← tR.uniq t'] at f'
          exact f'.le (by decide) (by decide)
        have f9 := f9.le (k' := 9) (n' := 33000) (by decide) (by decide)
        have f10 := f10.le (k' := 9) (n' := 33000) (by decide) (by decide)
        have p9 : figsT b e9 = false := not_t p9
        have p10 : figT b x10 = false := not_t p10
        have fx : Fit 9 33000 (.int (x : Int)) := Fit.int (by omega) (by decide)
        have px : figT b (.int (x : Int)) = true := decide_eq_true (by omega)
        have thx : ∀ H : Hp, ThAt H (.int (x : Int)) (.int x) := fun H => by rw [ThAt]
        have th0 : ∀ H : Hp, ThAt H (.int 0) (.int 0) := fun H => by rw [ThAt]
        have f0 : Fit 9 33000 (.int 0) := Fit.int (by decide) (by decide)
        have thn : ∀ H : Hp, ThAt H .none .non := fun H => by rw [ThAt]
        have lenF : (eltsT (.list (fs.map .int))).length ≤ 1000 := by show (fs.map PyData.int).length ≤ 1000; rw [List.length_map]; omega
        have pF : figsT b (.list (fs.map .int)) = true := figsT_of hmf
        refine ⟨_, rfl, _, rfl, (by show 2 ≤ sizeLine; decide), fun q1 hq1 => ?_⟩
        have n1 := aw_newD N14.dk hq1 (o := .lst [.ref fl, .int x])
        have N15 := N14.sm (same_upd hq1 (o := .lst [.ref fl, .int x]))
        generalize upd H14 q1 (.lst [.ref fl, .int x]) = H15 at n1 N15
        have N15 := N15.put (at_pair n1 (N15.th (.list (fs.map .int), .ref fl) (by simp)) (thx _))
        refine ⟨_, rfl, _, rfl, (by show 2 ≤ sizeLine; decide), fun q2 hq2 => ?_⟩
        have n2 := aw_newD N15.dk hq2 (o := .lst [v9, v10])
        have N16 := N15.sm (same_upd hq2 (o := .lst [v9, v10]))
        generalize upd H15 q2 (.lst [v9, v10]) = H16 at n2 N16
        have N16 := N16.put (at_pair n2 (N16.th (e9, v9) (by simp)) (N16.th (x10, v10) (by simp)))
        refine ⟨_, rfl, _, rfl, (by show 2 ≤ sizeLine; decide), fun q3 hq3 => ?_⟩
        have n3 := aw_newD N16.dk hq3 (o := .lst [v11, v10])
        have N17 := N16.sm (same_upd hq3 (o := .lst [v11, v10]))
        generalize upd H16 q3 (.lst [v11, v10]) = H17 at n3 N17
        have N17 := N17.put (at_pair n3 (N17.th (s11, v11) (by simp)) (N17.th (x10, v10) (by simp)))
        refine ⟨(by show 3 ≤ sizeLine; decide), fun q4 hq4 => ?_⟩
        have N18 := N17.sm (same_upd hq4 (o := .lst [.ref q1, .ref q2, .ref q3]))
        obtain ⟨be, e0, e1, hat, hb0, fe0, fe1⟩ : ∃ (be : Addr) (e0 e1 : PyData), atI [V.ref q1, V.ref q2, V.ref q3] ((j % 3 : Nat) : Int) = some (.ref be) ∧ ThAt (aw fp (upd H17 q4 (.lst [.ref q1, .ref q2, .ref q3]))) (.list [e0, e1]) (.ref be) ∧ Fit 9 33000 e0 ∧ Fit 9 33000 e1 := by
          have hj3 : j % 3 < 3 := by omega
          match j % 3, hj3 with
          | 0, _ => exact ⟨_, _, _, rfl, N18.th (.list [.list (fs.map .int), .int x], .ref q1) (by simp), fF, fx⟩
          | 1, _ => exact ⟨_, _, _, rfl, N18.th (.list [e9, x10], .ref q2) (by simp), f9, f10⟩
          | 2, _ => exact ⟨_, _, _, rfl, N18.th (.list [s11, x10], .ref q3) (by simp), f11, f10⟩
        refine ⟨_, rfl, _, _, rfl, rfl, (by show (0 : Int) < 3; decide), q4, _, _, .ref be, rfl, rfl, SqL.of upd_same, by rw [show (0 + (j : Int)) % 3 = ((j % 3 : Nat) : Int) by omega]; exact hat, ?_⟩
        have N18 := N18.put hb0
        generalize upd H17 q4 (.lst [.ref q1, .ref q2, .ref q3]) = H18 at N18
        generalize hts : ((PyData.list [e0, e1], V.ref be) :: _ : List (PyData × V)) = ts at N18
        have i7 : (d7, v7) ∈ ts := by rw [← hts]; simp
        have iF : (.list (fs.map .int), .ref fl) ∈ ts := by rw [← hts]; simp
        have i9 : (e9, v9) ∈ ts := by rw [← hts]; simp
        have i10 : (x10, v10) ∈ ts := by rw [← hts]; simp
        have i11 : (s11, v11) ∈ ts := by rw [← hts]; simp
        have iG : (.list (gd.2.map .int), .ref gd.1) ∈ ts := by rw [← hts]; simp
        have iR : (dr, .ref r) ∈ ts := by rw [← hts]; simp
        have iB : (.list [e0, e1], .ref be) ∈ ts := by rw [← hts]; simp
        clear hts
        refine ⟨3, rfl, by decide, by decide, for_range (lo := 0) (n := 3) (fun l σ H => ∃ v15 : Option V, σ = [some (.ref a), some (.ref d), some (.int (0 + (i : Int))), some (.ref r), some (.int b), some (.ref bl), some (.int (0 + (j : Int))), some v7, some (.ref fl), some v9, some v10, some v11, some (.int x), some (.ref gd.1), some (.ref be), v15, v16'] ∧ Now T0 d fp r b bl zs ts H) ⟨_, rfl, N18⟩ ?_ ?_⟩
        · rintro l σ H19 hl ⟨v15, rfl, N19⟩
          have hl : l < 3 := hl
          refine ⟨_, rfl, v7, d7, rfl, N19.get i7, Nat.le_trans (siz_wt d7) (Nat.le_trans f7.wt (by decide)), fun H20 m20 => ⟨_, rfl, ?_⟩⟩
          have N20 := N19.sm m20
          cases hr7 : ruleT d7 with
          | true => exact iteF (iteF ⟨_, rfl, N20⟩)
          | false =>
            refine iteT ?_
            obtain ⟨be', w0, w1, ebe, hbe, t0, t1⟩ := pair_at (N20.get iB)
            cases ebe
            exact ⟨_, rfl, _, rfl, _, rfl, be, _, _, w0, rfl, rfl, SqL.of hbe, rfl, _, rfl, be, _, _, w1, rfl, rfl, SqL.of hbe, rfl, l, v7, w0, w1, .int 3, d7, e0, e1, by rw [Int.zero_add]; rfl, N20.get i7, f7, t0, fe0, t1, fe1, N20.lt, hl, fun _ z => (by rw [hr7] at z; cases z), .inr ⟨CNoRule, 3, rR hr7, rfl, by decide, kd_NoRule⟩, fun H21 s21 lt21 => ⟨_, rfl, iteF ⟨_, rfl, N20.on s21 lt21⟩⟩⟩
        rintro σ H19 ⟨v15, rfl, N19⟩
        refine ⟨_, rfl, _, rfl, 0, .ref r, v9, .int 0, .int 2, dr, e9, .int 0, rfl, N19.get iR, fr, N19.get i9, f9, th0 _, f0, N19.lt, by decide, fun _ _ z => (by rw [eb, p9] at z; cases z), .inr ⟨CNoFigures, 2, r0F rr (by rw [eb]; exact p9), rfl, by decide, kd_NoFigures⟩, fun H20 s20 lt20 => ⟨_, rfl, iteF ?_⟩⟩
        have N20 := N19.on s20 lt20
        refine ⟨_, rfl, _, rfl, 0, .ref r, .ref fl, .int 0, .non, dr, .list (fs.map .int), .int 0, rfl, N20.get iR, fr, N20.get iF, fF, th0 _, f0, N20.lt, by decide, fun _ _ _ => lenF, .inl ⟨r0O rr (by rw [eb]; exact pF), rfl⟩, fun H21 s21 lt21 => ⟨_, rfl, iteF ?_⟩⟩
        have N21 := N20.on s21 lt21
        refine ⟨(by show 2 ≤ sizeLine; decide), fun q5 hq5 => ?_⟩
        have N22 := N21.sm (same_upd hq5 (o := .lst [.int 4, .non]))
        refine ⟨_, rfl, _, rfl, r, b, bl, zs, v11, s11, rfl, N22.R.all, g, N22.get i11, Nat.le_trans (siz_wt s11) (Nat.le_trans f11.wt (by decide)), fun H23 s23 => .inr ⟨_, rfl, ?_⟩⟩
        have N23 := N22.sm s23
        have hq23 := s23 _ _ (upd_same (H := H21) (a := q5) (o := .lst [.int 4, .non]))
        cases hst : standT (zs.map (·.2)) s11
        case' false =>
          refine ⟨q5, _, _, .int 4, rfl, rfl, SqL.of hq23, rfl, ?_⟩
          refine ⟨_, rfl, _, rfl, _, rfl, _, rfl, 2, .ref r, v11, .int x, .int 4, dr, s11, .int x, rfl, N23.get iR, fr, N23.get i11, f11, thx _, fx, N23.lt, by decide, fun z => absurd z (by decide), .inr ⟨CNoStand, 4, r2S rr (by rw [ebad]; exact hst), rfl, by decide, kd_NoStand⟩, fun H24 s24 lt24 => ⟨_, rfl, iteF ?_⟩⟩
        case' true =>
          refine ⟨q5, _, _, .non, rfl, rfl, SqL.of hq23, rfl, ?_⟩
          refine ⟨_, rfl, _, rfl, _, rfl, _, rfl, 2, .ref r, v11, .int x, .non, dr, s11, .int x, rfl, N23.get iR, fr, N23.get i11, f11, thx _, fx, N23.lt, by decide, fun z => absurd z (by decide), .inl ⟨r2O rr (by rw [ebad]; exact hst) (by rw [eb]; exact px), rfl⟩, fun H24 s24 lt24 => ⟨_, rfl, iteF ?_⟩⟩
        all_goals
          have N24 := N23.on s24 lt24
          refine ⟨_, rfl, _, rfl, _, rfl, 2, .ref r, .ref gd.1, v10, .int 2, dr, .list (gd.2.map .int), x10, rfl, N24.get iR, fr, N24.get iG, fG, N24.get i10, f10, N24.lt, by decide, fun z => absurd z (by decide), .inr ⟨CNoFigures, 2, r2F rr (by rw [ebad]; exact sG) (by rw [eb]; exact p10), rfl, by decide, kd_NoFigures⟩, fun H25 s25 lt25 => ⟨_, rfl, iteF ?_⟩⟩
          have N25 := N24.on s25 lt25
        case' false =>
          refine ⟨_, rfl, rfl, _, rfl, iteA (by rw [decide_eq_false (fun z => by cases z)]; rfl) ?_⟩
          refine ⟨_, rfl, _, rfl, _, rfl, 2, .ref r, v11, v10, .int 4, dr, s11, x10, rfl, N25.get iR, fr, N25.get i11, f11, N25.get i10, f10, N25.lt, by decide, fun z => absurd z (by decide), .inr ⟨CNoStand, 4, r2S rr (by rw [ebad]; exact hst), rfl, by decide, kd_NoStand⟩, fun H26 s26 lt26 => ⟨_, rfl, iteF ?_⟩⟩
          have N26 := N25.on s26 lt26
        case' true =>
          refine ⟨_, rfl, rfl, _, rfl, iteB (by rw [decide_eq_true rfl]; rfl) (iteF ?_)⟩
          have N26 := N25
        all_goals
          refine ⟨_, rfl, _, rfl, _, rfl, 2, .ref r, .ref gd.1, .int x, .non, dr, .list (gd.2.map .int), .int x, rfl, N26.get iR, fr, N26.get iG, fG, thx _, fx, N26.lt, by decide, fun z => absurd z (by decide), .inl ⟨r2O rr (by rw [ebad]; exact sG) (by rw [eb]; exact px), rfl⟩, fun H27 s27 lt27 => ⟨_, rfl, iteF ?_⟩⟩
          have N27 := N26.on s27 lt27
          refine ⟨_, rfl, 1, .ref r, .non, .non, .non, dr, .none, .none, rfl, N27.get iR, fr, thn _, Fit.non, thn _, Fit.non, N27.lt, by decide, fun z => absurd z (by decide), .inl ⟨r1O rr, rfl⟩, fun H28 s28 lt28 => ⟨_, rfl, iteF ?_⟩⟩
          have N28 := N27.on s28 lt28
          exact ⟨_, _, _, _, _, _, _, _, _, _, _, rfl, N28.dk, N28.lt, N28.R, by simp⟩
      · rintro σ H4 ⟨v6, v7, v8, v9, v10, v11, v12, v13, v14, v15, v16, rfl, N4⟩
        exact ⟨_, _, _, _, _, _, _, _, _, _, _, _, _, _, _, rfl, N4.dk, N4.lt⟩
    · rintro σ H2 ⟨v2, v3, v4, v5, v6, v7, v8, v9, v10, v11, v12, v13, v14, v15, v16, rfl, D2, lt2⟩
      exact kk _
end
end Lw
set_option Elab.async false
set_option linter.all false
set_option maxRecDepth 100000
namespace Lw
open PySem L2
def FF (K : PySem.W.Frag) (n q : Str) (st : Stmt) (f : Addr) (cd : Value) : Prop := ∃ (od an : Option Addr) (sl : Array (Option Value)) (oc kV dc pm ct : Value), K.lookup f = some ⟨oc, od, .func (PySem.W.fnOf n q (defArgs st) (defBody st) (defScope st) .none kV dc pm an cd ct), sl⟩ ∧ PySem.W.codeIn K cd q = true ∧ PySem.W.keepIn K (.ref f) = true
def FD (K : PySem.W.Frag) (n : Str) (st : Stmt) : Prop := ∃ (f : Addr) (cd : Value), PySem.W.nsIn K mainGlobals n = some (some (.ref f)) ∧ FF K n n st f cd
section
variable {K : PySem.W.Frag} {n q : Str} {st : Stmt} {f C : Addr} {cd : Value} {od an : Option Addr} {sl : Array (Option Value)} {oc kV dc pm ct : Value}
theorem fdm (a : PySem.W.nsIn K mainGlobals n = some (some (.ref f))) (l : K.lookup f = some ⟨oc, od, .func (PySem.W.fnOf n n (defArgs st) (defBody st) (defScope st) .none kV dc pm an cd ct), sl⟩) (e : PySem.W.codeIn K cd n = true) (k : PySem.W.keepIn K (.ref f) = true) : FD K n st := ⟨f, cd, a, od, an, sl, oc, kV, dc, pm, ct, l, e, k⟩
def FB (n q : Str) (st : Stmt) (ps : List Str) : Prop := ∀ (kV doc pm : Value) (an : Option Addr) (cdv ct : Value) (us : List Value), us.length = ps.length → bindArgs (PySem.W.fnOf n q (defArgs st) (defBody st) (defScope st) .none kV doc pm an cdv ct) ⟨us, []⟩ = pure (ps.zip us)
theorem FD.df {h : Heap} {mg : Str → Option Value} {ps : List Str} (x : FD K n st) (X : K.In h) (G : h.Ns mainGlobals mg) (b : FB n n st ps) : ∃ f fd, Df K mg n st ps f fd := by
  obtain ⟨f, cd, a, od, an, sl, oc, kV, dc, pm, ct, l, e, k⟩ := x
  exact ⟨_, _, df_mk X G a l e k b⟩
end
structure CF (K : PySem.W.Frag) (n : Str) (C : Addr) : Prop where
  g : PySem.W.nsIn K mainGlobals n = some (some (.ref C))
  m : PySem.W.mroIn K C (.type "object") = some true
  t : PySem.W.typeIn K (.ref C) = some (.type "type")
theorem CF.cls {K : PySem.W.Frag} {n : Str} {C D : Addr} {b : Bool} (x : CF K n D) (e : PySem.W.mroIn K C (.ref D) = some b) : PySem.W.kitCls K (.ref C) (.ref D) = some b := by
  obtain ⟨cd, h, _⟩ := Option.bind_eq_some_iff.mp x.m
  show (if ((PySem.W.clsIn K D).isSome && PySem.W.typeIn K (.ref D) == some (.type "type")) = true then PySem.W.subIn K (.ref C) (.ref D) else none) = _
  rw [if_pos (by rw [h, x.t, Option.isSome_some, Bool.true_and]; exact beq_self_eq_true _)]
  exact e
theorem CF.no {K : PySem.W.Frag} {n : Str} {C D : Addr} (x : CF K n D) (s : PySem.W.mroIn K C (.ref C) = some true) (e : PySem.W.mroIn K C (.ref D) = some false) : PySem.W.kitOne K (.ref C) (.ref D) = some false := by
  unfold PySem.W.kitOne
  rw [if_neg (fun q => by
    have h : Value.ref C = Value.ref D := eq_of_beq q
    injection h with h
    rw [← h, s] at e
    cases e)]
  exact x.cls e
theorem kit_self {K : PySem.W.Frag} {C : Addr} : PySem.W.kitOne K (.ref C) (.ref C) = some true := by
  unfold PySem.W.kitOne
  rw [if_pos (beq_self_eq_true _)]
theorem kit_ve {K : PySem.W.Frag} {C : Addr} (e : PySem.W.mroIn K C (.type "ValueError") = some true) : PySem.W.kitOne K (.ref C) (.type "ValueError") = some true := by
  unfold PySem.W.kitOne
  split
  · rfl
  · show (if PySem.W.kitMeta "ValueError" = true then PySem.W.subIn K (.ref C) (.type "ValueError") else none) = _
    rw [if_pos (by decide +kernel)]
    exact e
set_option maxHeartbeats 0 in
theorem all_mk {l : PySem.W.OpenLaw} {w : World} {K : PySem.W.Frag} {h : Heap} {mg : Str → Option Value} {fa T0 c0 : Addr} (X : K.In h) (G : h.Ns mainGlobals mg) (hfa : mg "law" = some (.ref fa)) (hcT : PySem.W.codeHdIn K c0 T0 = true) (hgT : mainGlobals ≠ T0)
    (x0 : FD K "is_whole" s_is_whole)
    (x1 : FD K "is_base" s_is_base)
    (x2 : FD K "is_figure" s_is_figure)
    (x3 : FD K "are_figures" s_are_figures)
    (x4 : FD K "is_stretch" s_is_stretch)
    (x5 : FD K "is_rising" s_is_rising)
    (x6 : FD K "is_bad_list" s_is_bad_list)
    (x7 : FD K "is_rule" s_is_rule)
    (x8 : FD K "check_rule" s_check_rule)
    (x9 : FD K "stands_within" s_stands_within)
    (x10 : FD K "lacks_all" s_lacks_all)
    (x11 : FD K "begins_one" s_begins_one)
    (x12 : FD K "longest_stand" s_longest_stand)
    {f13 : Addr} {od13 an13 : Option Addr} {sl13 : Array (Option Value)} {oc13 kV13 dc13 pm13 ct13 : Value} (a13 : PySem.W.nsIn K mainGlobals "stands_of" = some (some (.ref f13)))
    (l13 : K.lookup f13 = some ⟨oc13, od13, .func (PySem.W.fnOf "stands_of" "stands_of" (defArgs s_stands_of) (defBody s_stands_of) (defScope s_stands_of) .none kV13 dc13 pm13 an13 (.ref c0) ct13), sl13⟩) (e13 : PySem.W.codeIn K (.ref c0) "stands_of" = true) (k13 : PySem.W.keepIn K (.ref f13) = true)
    (x14 : FD K "is_stand" s_is_stand)
    (x15 : FD K "stand_behind" s_stand_behind)
    (x16 : FD K "all_stands" s_all_stands)
    (x17 : FD K "step_from" s_step_from)
    (x18 : FD K "_law_deck" s__law_deck)
    (x19 : FD K "_law_draw" s__law_draw)
    (x20 : FD K "_law_some_rule" s__law_some_rule)
    (x21 : FD K "_law_lacks" s__law_lacks)
    (x22 : FD K "_law_no_base" s__law_no_base)
    (x23 : FD K "_law_odd_figure" s__law_odd_figure)
    (x24 : FD K "_law_odd_figures" s__law_odd_figures)
    (x25 : FD K "_law_no_rule" s__law_no_rule)
    (x26 : FD K "_law_is_rule" s__law_is_rule)
    (x27 : FD K "_law_kinds" s__law_kinds)
    (x28 : FD K "_law_all" s__law_all)
    (x29 : FD K "_law_no_stand" s__law_no_stand)
    (x30 : FD K "_law_is_stand" s__law_is_stand)
    (x31 : FD K "_law_caught" s__law_caught)
    (x32 : FD K "_law_right" s__law_right)
    (x33 : FD K "law" s_law)
    {CNoBase : Addr} (qNoBase : CF K "NoBase" CNoBase)
    {CNoNumber : Addr} (qNoNumber : CF K "NoNumber" CNoNumber)
    {CNoFigures : Addr} (qNoFigures : CF K "NoFigures" CNoFigures)
    {CNoRule : Addr} (qNoRule : CF K "NoRule" CNoRule)
    {CNoStand : Addr} (qNoStand : CF K "NoStand" CNoStand)
    {CNoGood : Addr} (qNoGood : CF K "NoGood" CNoGood)
    {CEndless : Addr} (qEndless : CF K "Endless" CEndless)
    {CNoRules : Addr} (qNoRules : CF K "NoRules" CNoRules)
    {CNoStretch : Addr} (qNoStretch : CF K "NoStretch" CNoStretch)
    {CTooMany : Addr} (qTooMany : CF K "TooMany" CTooMany)
    {CNoText : Addr} (qNoText : CF K "NoText" CNoText)
    {CNoName : Addr} (qNoName : CF K "NoName" CNoName)
    {CNoRow : Addr} (qNoRow : CF K "NoRow" CNoRow)
    {CLackError : Addr} (qLackError : CF K "LackError" CLackError)
    (mLE : PySem.W.mroIn K CLackError (.type "BaseException") = some true)
    (nVE : PySem.W.nsIn K mainGlobals "ValueError" = some none)
    (pNoRule : PySem.W.excIn K CNoRule veT "ValueError.__new__" = true) (lNoRule : PySem.W.mroIn K CNoRule (.ref CLackError) = some true)
    (iNoRule : ExcI K CNoRule) (vNoRule : PySem.W.mroIn K CNoRule (.type "ValueError") = some true)
    (mNoRule_NoBase : PySem.W.mroIn K CNoRule (.ref CNoBase) = some false)
    (mNoRule_NoNumber : PySem.W.mroIn K CNoRule (.ref CNoNumber) = some false)
    (mNoRule_NoFigures : PySem.W.mroIn K CNoRule (.ref CNoFigures) = some false)
    (mNoRule_NoRule : PySem.W.mroIn K CNoRule (.ref CNoRule) = some true)
    (mNoRule_NoStand : PySem.W.mroIn K CNoRule (.ref CNoStand) = some false)
    (mNoRule_NoGood : PySem.W.mroIn K CNoRule (.ref CNoGood) = some false)
    (mNoRule_Endless : PySem.W.mroIn K CNoRule (.ref CEndless) = some false)
    (mNoRule_NoRules : PySem.W.mroIn K CNoRule (.ref CNoRules) = some false)
    (mNoRule_NoStretch : PySem.W.mroIn K CNoRule (.ref CNoStretch) = some false)
    (mNoRule_TooMany : PySem.W.mroIn K CNoRule (.ref CTooMany) = some false)
    (mNoRule_NoText : PySem.W.mroIn K CNoRule (.ref CNoText) = some false)
    (mNoRule_NoName : PySem.W.mroIn K CNoRule (.ref CNoName) = some false)
    (mNoRule_NoRow : PySem.W.mroIn K CNoRule (.ref CNoRow) = some false)
    (pNoStand : PySem.W.excIn K CNoStand veT "ValueError.__new__" = true) (lNoStand : PySem.W.mroIn K CNoStand (.ref CLackError) = some true)
    (iNoStand : ExcI K CNoStand) (vNoStand : PySem.W.mroIn K CNoStand (.type "ValueError") = some true)
    (mNoStand_NoBase : PySem.W.mroIn K CNoStand (.ref CNoBase) = some false)
    (mNoStand_NoNumber : PySem.W.mroIn K CNoStand (.ref CNoNumber) = some false)
    (mNoStand_NoFigures : PySem.W.mroIn K CNoStand (.ref CNoFigures) = some false)
    (mNoStand_NoRule : PySem.W.mroIn K CNoStand (.ref CNoRule) = some false)
    (mNoStand_NoStand : PySem.W.mroIn K CNoStand (.ref CNoStand) = some true)
    (mNoStand_NoGood : PySem.W.mroIn K CNoStand (.ref CNoGood) = some false)
    (mNoStand_Endless : PySem.W.mroIn K CNoStand (.ref CEndless) = some false)
    (mNoStand_NoRules : PySem.W.mroIn K CNoStand (.ref CNoRules) = some false)
    (mNoStand_NoStretch : PySem.W.mroIn K CNoStand (.ref CNoStretch) = some false)
    (mNoStand_TooMany : PySem.W.mroIn K CNoStand (.ref CTooMany) = some false)
    (mNoStand_NoText : PySem.W.mroIn K CNoStand (.ref CNoText) = some false)
    (mNoStand_NoName : PySem.W.mroIn K CNoStand (.ref CNoName) = some false)
    (mNoStand_NoRow : PySem.W.mroIn K CNoStand (.ref CNoRow) = some false)
    (pNoFigures : PySem.W.excIn K CNoFigures veT "ValueError.__new__" = true) (lNoFigures : PySem.W.mroIn K CNoFigures (.ref CLackError) = some true)
    (iNoFigures : ExcI K CNoFigures) (vNoFigures : PySem.W.mroIn K CNoFigures (.type "ValueError") = some true)
    (mNoFigures_NoBase : PySem.W.mroIn K CNoFigures (.ref CNoBase) = some false)
    (mNoFigures_NoNumber : PySem.W.mroIn K CNoFigures (.ref CNoNumber) = some false)
    (mNoFigures_NoFigures : PySem.W.mroIn K CNoFigures (.ref CNoFigures) = some true)
    (mNoFigures_NoRule : PySem.W.mroIn K CNoFigures (.ref CNoRule) = some false)
    (mNoFigures_NoStand : PySem.W.mroIn K CNoFigures (.ref CNoStand) = some false)
    (mNoFigures_NoGood : PySem.W.mroIn K CNoFigures (.ref CNoGood) = some false)
    (mNoFigures_Endless : PySem.W.mroIn K CNoFigures (.ref CEndless) = some false)
    (mNoFigures_NoRules : PySem.W.mroIn K CNoFigures (.ref CNoRules) = some false)
    (mNoFigures_NoStretch : PySem.W.mroIn K CNoFigures (.ref CNoStretch) = some false)
    (mNoFigures_TooMany : PySem.W.mroIn K CNoFigures (.ref CTooMany) = some false)
    (mNoFigures_NoText : PySem.W.mroIn K CNoFigures (.ref CNoText) = some false)
    (mNoFigures_NoName : PySem.W.mroIn K CNoFigures (.ref CNoName) = some false)
    (mNoFigures_NoRow : PySem.W.mroIn K CNoFigures (.ref CNoRow) = some false)
    {t0 : Tok} (g0 : PySem.W.nsIn K mainGlobals "LEAST_BASE" = some (some (.int 2 t0)))
    {t1 : Tok} (g1 : PySem.W.nsIn K mainGlobals "GREATEST_BASE" = some (some (.int 16 t1)))
    {t2 : Tok} (g2 : PySem.W.nsIn K mainGlobals "MOST_STRETCHES" = some (some (.int 4 t2)))
    {t3 : Tok} (g3 : PySem.W.nsIn K mainGlobals "LONGEST_STRETCH" = some (some (.int 4 t3)))
    (z0 : PySem.W.nsIn K mainGlobals "isinstance" = some none)
    (z1 : PySem.W.nsIn K mainGlobals "int" = some none)
    (z2 : PySem.W.nsIn K mainGlobals "bool" = some none)
    (z3 : PySem.W.nsIn K mainGlobals "list" = some none)
    (z4 : PySem.W.nsIn K mainGlobals "tuple" = some none)
    (z5 : PySem.W.nsIn K mainGlobals "reversed" = some none)
    (z6 : PySem.W.nsIn K mainGlobals "len" = some none)
    (z7 : PySem.W.nsIn K mainGlobals "max" = some none)
    (z8 : PySem.W.nsIn K mainGlobals "min" = some none)
    (z9 : PySem.W.nsIn K mainGlobals "range" = some none)
    (z10 : PySem.W.nsIn K mainGlobals "all" = some none)
    (z11 : PySem.W.nsIn K mainGlobals "any" = some none)
    (z12 : PySem.W.nsIn K mainGlobals "sorted" = some none)
    (z13 : PySem.W.nsIn K mainGlobals "enumerate" = some none)
    (z14 : PySem.W.nsIn K mainGlobals "repr" = some none)
    (z15 : PySem.W.nsIn K mainGlobals "sum" = some none)
    (z16 : PySem.W.nsIn K mainGlobals "abs" = some none)
    (z17 : PySem.W.nsIn K mainGlobals "zip" = some none)
    (z18 : PySem.W.nsIn K mainGlobals "str" = some none)
    (z19 : PySem.W.nsIn K mainGlobals "dict" = some none)
    : ∃ fd : FuncData, (∀ (s : Shared) (v : Value), BindsTo s fd ⟨[v], []⟩ [("script", v)]) ∧ ∀ base : Heap, K.In base → base.Ns mainGlobals mg → base.BuiltinsAt mg T0 → FnOk l.prog w K mg base CX0 11 fa fd ["script"] (sp_law K T0) := by
  obtain ⟨fL, cd33, aL, od33, an33, sl33, oc33, kV33, dc33, pm33, ct33, lL, eL, kL⟩ := x33
  have e := hfa.symm.trans (PySem.W.mg_of X G aL)
  cases e
  have T : Blt mg := ⟨PySem.W.mg_none_of X G z0, PySem.W.mg_none_of X G z1, PySem.W.mg_none_of X G z2, PySem.W.mg_none_of X G z3, PySem.W.mg_none_of X G z4, PySem.W.mg_none_of X G z5, PySem.W.mg_none_of X G z6, PySem.W.mg_none_of X G z7, PySem.W.mg_none_of X G z8, PySem.W.mg_none_of X G z9, PySem.W.mg_none_of X G z10, PySem.W.mg_none_of X G z11, PySem.W.mg_none_of X G z12, PySem.W.mg_none_of X G z13, PySem.W.mg_none_of X G z14⟩
  have U : Blt2 mg := ⟨PySem.W.mg_none_of X G z15, PySem.W.mg_none_of X G z16, PySem.W.mg_none_of X G z17, PySem.W.mg_none_of X G z18⟩
  have c_LEAST_BASE := PySem.W.mg_of X G g0
  have c_GREATEST_BASE := PySem.W.mg_of X G g1
  have c_MOST_STRETCHES := PySem.W.mg_of X G g2
  have c_LONGEST_STRETCH := PySem.W.mg_of X G g3
  have n_dict : mg "dict" = none := PySem.W.mg_none_of X G z19
  obtain ⟨_, _, Dis_whole⟩ := x0.df (ps := ["thing"]) X G fun _ _ _ _ _ _ us hl => match us, hl with | [_], _ => rfl
  obtain ⟨_, _, Dis_base⟩ := x1.df (ps := ["thing"]) X G fun _ _ _ _ _ _ us hl => match us, hl with | [_], _ => rfl
  obtain ⟨_, _, Dis_figure⟩ := x2.df (ps := ["base", "thing"]) X G fun _ _ _ _ _ _ us hl => match us, hl with | [_, _], _ => rfl
  obtain ⟨_, _, Dare_figures⟩ := x3.df (ps := ["base", "thing"]) X G fun _ _ _ _ _ _ us hl => match us, hl with | [_, _], _ => rfl
  obtain ⟨_, _, Dis_stretch⟩ := x4.df (ps := ["base", "thing"]) X G fun _ _ _ _ _ _ us hl => match us, hl with | [_, _], _ => rfl
  obtain ⟨_, _, Dis_rising⟩ := x5.df (ps := ["stretches"]) X G fun _ _ _ _ _ _ us hl => match us, hl with | [_], _ => rfl
  obtain ⟨_, _, Dis_bad_list⟩ := x6.df (ps := ["base", "thing"]) X G fun _ _ _ _ _ _ us hl => match us, hl with | [_, _], _ => rfl
  obtain ⟨_, _, Dis_rule⟩ := x7.df (ps := ["thing"]) X G fun _ _ _ _ _ _ us hl => match us, hl with | [_], _ => rfl
  obtain ⟨_, _, Dcheck_rule⟩ := x8.df (ps := ["thing"]) X G fun _ _ _ _ _ _ us hl => match us, hl with | [_], _ => rfl
  obtain ⟨_, _, Dstands_within⟩ := x9.df (ps := ["stretch", "figures"]) X G fun _ _ _ _ _ _ us hl => match us, hl with | [_, _], _ => rfl
  obtain ⟨_, _, Dlacks_all⟩ := x10.df (ps := ["bad", "figures"]) X G fun _ _ _ _ _ _ us hl => match us, hl with | [_, _], _ => rfl
  obtain ⟨_, _, Dbegins_one⟩ := x11.df (ps := ["bad", "figures"]) X G fun _ _ _ _ _ _ us hl => match us, hl with | [_, _], _ => rfl
  obtain ⟨_, _, Dlongest_stand⟩ := x12.df (ps := ["bad", "figures"]) X G fun _ _ _ _ _ _ us hl => match us, hl with | [_, _], _ => rfl
  have Dstands_of : Df K mg "stands_of" s_stands_of ["bad"] _ _ := df_mk X G a13 l13 e13 k13 fun _ _ _ _ _ _ us hl => match us, hl with | [_], _ => rfl
  obtain ⟨_, _, Dis_stand⟩ := x14.df (ps := ["rule", "thing"]) X G fun _ _ _ _ _ _ us hl => match us, hl with | [_, _], _ => rfl
  obtain ⟨_, _, Dstand_behind⟩ := x15.df (ps := ["rule", "figures"]) X G fun _ _ _ _ _ _ us hl => match us, hl with | [_, _], _ => rfl
  obtain ⟨_, _, Dall_stands⟩ := x16.df (ps := ["rule"]) X G fun _ _ _ _ _ _ us hl => match us, hl with | [_], _ => rfl
  obtain ⟨_, _, Dstep_from⟩ := x17.df (ps := ["rule", "stand", "figure"]) X G fun _ _ _ _ _ _ us hl => match us, hl with | [_, _, _], _ => rfl
  obtain ⟨_, _, D_law_deck⟩ := x18.df (ps := ["script"]) X G fun _ _ _ _ _ _ us hl => match us, hl with | [_], _ => rfl
  obtain ⟨_, _, D_law_draw⟩ := x19.df (ps := ["deck", "many"]) X G fun _ _ _ _ _ _ us hl => match us, hl with | [_, _], _ => rfl
  obtain ⟨_, _, D_law_some_rule⟩ := x20.df (ps := ["deck"]) X G fun _ _ _ _ _ _ us hl => match us, hl with | [_], _ => rfl
  obtain ⟨_, _, D_law_lacks⟩ := x21.df (ps := ["bad", "figures"]) X G fun _ _ _ _ _ _ us hl => match us, hl with | [_, _], _ => rfl
  obtain ⟨_, _, D_law_no_base⟩ := x22.df (ps := ["deck"]) X G fun _ _ _ _ _ _ us hl => match us, hl with | [_], _ => rfl
  obtain ⟨_, _, D_law_odd_figure⟩ := x23.df (ps := ["deck", "base"]) X G fun _ _ _ _ _ _ us hl => match us, hl with | [_, _], _ => rfl
  obtain ⟨_, _, D_law_odd_figures⟩ := x24.df (ps := ["deck", "base", "figures"]) X G fun _ _ _ _ _ _ us hl => match us, hl with | [_, _, _], _ => rfl
  obtain ⟨_, _, D_law_no_rule⟩ := x25.df (ps := ["deck", "rule"]) X G fun _ _ _ _ _ _ us hl => match us, hl with | [_, _], _ => rfl
  obtain ⟨_, _, D_law_is_rule⟩ := x26.df (ps := ["thing"]) X G fun _ _ _ _ _ _ us hl => match us, hl with | [_], _ => rfl
  obtain ⟨_, _, D_law_kinds⟩ := x27.df (ps := ["caught", "due"]) X G fun _ _ _ _ _ _ us hl => match us, hl with | [_, _], _ => rfl
  obtain ⟨_, _, D_law_all⟩ := x28.df (ps := ["bad"]) X G fun _ _ _ _ _ _ us hl => match us, hl with | [_], _ => rfl
  obtain ⟨_, _, D_law_no_stand⟩ := x29.df (ps := ["deck", "rule"]) X G fun _ _ _ _ _ _ us hl => match us, hl with | [_, _], _ => rfl
  obtain ⟨_, _, D_law_is_stand⟩ := x30.df (ps := ["rule", "thing"]) X G fun _ _ _ _ _ _ us hl => match us, hl with | [_, _], _ => rfl
  obtain ⟨_, _, D_law_caught⟩ := x31.df (ps := ["door", "rule", "one", "figure"]) X G fun _ _ _ _ _ _ us hl => match us, hl with | [_, _, _, _], _ => rfl
  obtain ⟨_, _, D_law_right⟩ := x32.df (ps := ["door", "rule", "one", "figure", "due"]) X G fun _ _ _ _ _ _ us hl => match us, hl with | [_, _, _, _, _], _ => rfl
  have Dlaw : Df K mg "law" s_law ["script"] _ _ := df_mk X G aL lL eL kL fun _ _ _ _ _ _ us hl => match us, hl with | [_], _ => rfl
  refine ⟨PySem.W.fnOf "law" "law" (defArgs s_law) (defBody s_law) (defScope s_law) .none kV33 dc33 pm33 an33 cd33 ct33, fun s v => .of_eq rfl, fun base _ _ hBM => ?_⟩
  have XN : XNames mg CNoBase CNoNumber CNoFigures CNoRule CNoStand CNoGood CEndless CNoRules CNoStretch CTooMany CNoText CNoName CNoRow := ⟨PySem.W.mg_of X G qNoBase.g, PySem.W.mg_of X G qNoNumber.g, PySem.W.mg_of X G qNoFigures.g, PySem.W.mg_of X G qNoRule.g, PySem.W.mg_of X G qNoStand.g, PySem.W.mg_of X G qNoGood.g, PySem.W.mg_of X G qEndless.g, PySem.W.mg_of X G qNoRules.g, PySem.W.mg_of X G qNoStretch.g, PySem.W.mg_of X G qTooMany.g, PySem.W.mg_of X G qNoText.g, PySem.W.mg_of X G qNoName.g, PySem.W.mg_of X G qNoRow.g⟩
  have n_ValueError : mg "ValueError" = none := PySem.W.mg_none_of X G nVE
  have h_LackError : CatchC K mg "LackError" CLackError := ⟨PySem.W.mg_of X G qLackError.g, mLE⟩
  have x_NoRule : ExcC K mg "NoRule" CNoRule := ⟨PySem.W.mg_of X G qNoRule.g, pNoRule⟩
  have kt_NoRule : PySem.W.kitCls K (.ref CNoRule) (.ref CLackError) = some true := qLackError.cls lNoRule
  have kd_NoRule : KindK K CNoRule CNoBase CNoNumber CNoFigures CNoRule CNoStand CNoGood CEndless CNoRules CNoStretch CTooMany CNoText CNoName CNoRow 3 := ⟨iNoRule, kit_ve vNoRule, qNoBase.no mNoRule_NoRule mNoRule_NoBase, qNoNumber.no mNoRule_NoRule mNoRule_NoNumber, qNoFigures.no mNoRule_NoRule mNoRule_NoFigures, kit_self, qNoStand.no mNoRule_NoRule mNoRule_NoStand, qNoGood.no mNoRule_NoRule mNoRule_NoGood, qEndless.no mNoRule_NoRule mNoRule_Endless, qNoRules.no mNoRule_NoRule mNoRule_NoRules, qNoStretch.no mNoRule_NoRule mNoRule_NoStretch, qTooMany.no mNoRule_NoRule mNoRule_TooMany, qNoText.no mNoRule_NoRule mNoRule_NoText, qNoName.no mNoRule_NoRule mNoRule_NoName, qNoRow.no mNoRule_NoRule mNoRule_NoRow⟩
  have x_NoStand : ExcC K mg "NoStand" CNoStand := ⟨PySem.W.mg_of X G qNoStand.g, pNoStand⟩
  have kt_NoStand : PySem.W.kitCls K (.ref CNoStand) (.ref CLackError) = some true := qLackError.cls lNoStand
  have kd_NoStand : KindK K CNoStand CNoBase CNoNumber CNoFigures CNoRule CNoStand CNoGood CEndless CNoRules CNoStretch CTooMany CNoText CNoName CNoRow 4 := ⟨iNoStand, kit_ve vNoStand, qNoBase.no mNoStand_NoStand mNoStand_NoBase, qNoNumber.no mNoStand_NoStand mNoStand_NoNumber, qNoFigures.no mNoStand_NoStand mNoStand_NoFigures, qNoRule.no mNoStand_NoStand mNoStand_NoRule, kit_self, qNoGood.no mNoStand_NoStand mNoStand_NoGood, qEndless.no mNoStand_NoStand mNoStand_Endless, qNoRules.no mNoStand_NoStand mNoStand_NoRules, qNoStretch.no mNoStand_NoStand mNoStand_NoStretch, qTooMany.no mNoStand_NoStand mNoStand_TooMany, qNoText.no mNoStand_NoStand mNoStand_NoText, qNoName.no mNoStand_NoStand mNoStand_NoName, qNoRow.no mNoStand_NoStand mNoStand_NoRow⟩
  have x_NoFigures : ExcC K mg "NoFigures" CNoFigures := ⟨PySem.W.mg_of X G qNoFigures.g, pNoFigures⟩
  have kt_NoFigures : PySem.W.kitCls K (.ref CNoFigures) (.ref CLackError) = some true := qLackError.cls lNoFigures
  have kd_NoFigures : KindK K CNoFigures CNoBase CNoNumber CNoFigures CNoRule CNoStand CNoGood CEndless CNoRules CNoStretch CTooMany CNoText CNoName CNoRow 2 := ⟨iNoFigures, kit_ve vNoFigures, qNoBase.no mNoFigures_NoFigures mNoFigures_NoBase, qNoNumber.no mNoFigures_NoFigures mNoFigures_NoNumber, kit_self, qNoRule.no mNoFigures_NoFigures mNoFigures_NoRule, qNoStand.no mNoFigures_NoFigures mNoFigures_NoStand, qNoGood.no mNoFigures_NoFigures mNoFigures_NoGood, qEndless.no mNoFigures_NoFigures mNoFigures_Endless, qNoRules.no mNoFigures_NoFigures mNoFigures_NoRules, qNoStretch.no mNoFigures_NoFigures mNoFigures_NoStretch, qTooMany.no mNoFigures_NoFigures mNoFigures_TooMany, qNoText.no mNoFigures_NoFigures mNoFigures_NoText, qNoName.no mNoFigures_NoFigures mNoFigures_NoName, qNoRow.no mNoFigures_NoFigures mNoFigures_NoRow⟩
  have G_law_deck : FnOk l.prog w K mg base CX0 1 _ _ ["script"] (sp__law_deck K) := ok__law_deck D_law_deck T
  have G_law_draw : FnOk l.prog w K mg base CX0 1 _ _ ["deck", "many"] sp__law_draw := ok__law_draw D_law_draw T
  have Gis_whole : FnOk l.prog w K mg base CX0 1 _ _ ["thing"] sp_is_whole := ok_is_whole Dis_whole T
  have Gis_base : FnOk l.prog w K mg base CX0 2 _ _ ["thing"] sp_is_base := ok_is_base Dis_base Dis_whole T c_LEAST_BASE c_GREATEST_BASE
  have Gis_figure : FnOk l.prog w K mg base CX0 2 _ _ ["base", "thing"] sp_is_figure := ok_is_figure Dis_figure Dis_whole T
  have Gare_figures : FnOk l.prog w K mg base CX0 3 _ _ ["base", "thing"] sp_are_figures := ok_are_figures Dare_figures Dis_figure Gis_figure T
  have Gis_stretch : FnOk l.prog w K mg base CX0 4 _ _ ["base", "thing"] sp_is_stretch := ok_is_stretch Dis_stretch Dare_figures Gare_figures c_LONGEST_STRETCH T
  have Gis_rising : FnOk l.prog w K mg base CX0 1 _ _ ["stretches"] sp_is_rising := ok_is_rising Dis_rising T
  have Gis_bad_list : FnOk l.prog w K mg base CX0 5 _ _ ["base", "thing"] sp_is_bad_list := ok_is_bad_list Dis_bad_list Dis_stretch Gis_stretch Dis_rising c_MOST_STRETCHES T
  have Gis_rule : FnOk l.prog w K mg base CX0 6 _ _ ["thing"] sp_is_rule := ok_is_rule Dis_rule Dis_base Gis_base Dis_bad_list Gis_bad_list T
  have G_law_some_rule : FnOk l.prog w K mg base CX0 2 _ _ ["deck"] sp__law_some_rule := ok__law_some_rule D_law_some_rule D_law_draw T
  have Gstands_within : FnOk l.prog w K mg base CX0 1 _ _ ["stretch", "figures"] sp_stands_within := ok_stands_within Dstands_within T
  have Glacks_all : FnOk l.prog w K mg base CX0 2 _ _ ["bad", "figures"] sp_lacks_all := ok_lacks_all Dlacks_all Dstands_within T
  have Gcheck_rule : FnOk l.prog w K mg base (CX1 l.prog w) 7 _ _ ["thing"] (sp_check_rule CNoRule) := ok_check_rule Dcheck_rule Dis_rule Gis_rule x_NoRule
  have G_law_no_base : FnOk l.prog w K mg base CX0 2 _ _ ["deck"] sp__law_no_base := ok__law_no_base D_law_no_base D_law_draw T
  have G_law_odd_figure : FnOk l.prog w K mg base CX0 2 _ _ ["deck", "base"] sp__law_odd_figure := ok__law_odd_figure D_law_odd_figure D_law_draw T
  have G_law_is_rule : FnOk l.prog w K mg base CX0 1 _ _ ["thing"] sp__law_is_rule := ok__law_is_rule D_law_is_rule T
  have G_law_no_rule : FnOk l.prog w K mg base CX0 3 _ _ ["deck", "rule"] sp__law_no_rule := ok__law_no_rule D_law_no_rule D_law_draw D_law_odd_figure D_law_no_base T
  have G_law_odd_figures : FnOk l.prog w K mg base CX0 3 _ _ ["deck", "base", "figures"] sp__law_odd_figures := ok__law_odd_figures D_law_odd_figures D_law_draw D_law_odd_figure n_dict T
  have G_law_kinds : FnOk l.prog w K mg base CX0 1 _ _ ["caught", "due"] (sp__law_kinds K CNoBase CNoNumber CNoFigures CNoRule CNoStand CNoGood CEndless CNoRules CNoStretch CTooMany CNoText CNoName CNoRow) := ok__law_kinds D_law_kinds XN n_ValueError T
  have Gbegins_one : FnOk l.prog w K mg base CX0 1 _ _ ["bad", "figures"] sp_begins_one := ok_begins_one Dbegins_one T
  have Glongest_stand : FnOk l.prog w K mg base CX0 3 _ _ ["bad", "figures"] sp_longest_stand := ok_longest_stand Dlongest_stand Dlacks_all Glacks_all Dbegins_one T
  have Gstands_of : FnOk l.prog w K mg base CX0 6 _ _ ["bad"] (sp_stands_of T0) := ok_stands_of Dstands_of rfl hcT hBM hgT Dlacks_all Glacks_all T
  have G_law_lacks : FnOk l.prog w K mg base CX0 1 _ _ ["bad", "figures"] sp__law_lacks := ok__law_lacks D_law_lacks T
  have G_law_all : FnOk l.prog w K mg base CX0 2 _ _ ["bad"] sp__law_all := ok__law_all D_law_all D_law_lacks T
  have Gis_stand : FnOk l.prog w K mg base CX0 7 _ _ ["rule", "thing"] (sp_is_stand T0) := ok_is_stand Dis_stand Dare_figures Gare_figures Dstands_of Gstands_of T
  have Gstand_behind : FnOk l.prog w K mg base (CX1 l.prog w) 8 _ _ ["rule", "figures"] (sp_stand_behind CNoRule CNoFigures) := ok_stand_behind Dstand_behind Dcheck_rule Gcheck_rule Dare_figures Gare_figures Dlongest_stand Glongest_stand x_NoFigures T
  have Gall_stands : FnOk l.prog w K mg base (CX1 l.prog w) 8 _ _ ["rule"] (sp_all_stands T0 CNoRule) := ok_all_stands Dall_stands Dcheck_rule Gcheck_rule Dstands_of Gstands_of T
  have Gstep_from : FnOk l.prog w K mg base (CX1 l.prog w) 8 _ _ ["rule", "stand", "figure"] (sp_step_from T0 CNoRule CNoStand CNoFigures) := ok_step_from Dstep_from Dcheck_rule Gcheck_rule Dis_stand Gis_stand Dis_figure Gis_figure Dlongest_stand Glongest_stand x_NoStand x_NoFigures T
  have G_law_is_stand : FnOk l.prog w K mg base CX0 3 _ _ ["rule", "thing"] sp__law_is_stand := ok__law_is_stand D_law_is_stand D_law_all G_law_all T
  have G_law_no_stand : FnOk l.prog w K mg base CX0 3 _ _ ["deck", "rule"] sp__law_no_stand := ok__law_no_stand D_law_no_stand D_law_draw D_law_all G_law_all T
  have G_law_caught : FnOk l.prog w K mg base CX0 9 _ _ ["door", "rule", "one", "figure"] (sp__law_caught T0 CNoRule CNoStand CNoFigures) := ok__law_caught D_law_caught Dstand_behind Gstand_behind Dall_stands Gall_stands Dstep_from Gstep_from h_LackError kt_NoRule kt_NoStand kt_NoFigures
  have G_law_right : FnOk l.prog w K mg base CX0 10 _ _ ["door", "rule", "one", "figure", "due"] (sp__law_right K T0 CNoBase CNoNumber CNoFigures CNoRule CNoStand CNoGood CEndless CNoRules CNoStretch CTooMany CNoText CNoName CNoRow) := ok__law_right D_law_right D_law_caught G_law_caught D_law_kinds XN n_ValueError T
  exact ok_law Dlaw D_law_deck D_law_some_rule G_law_some_rule D_law_no_rule G_law_no_rule D_law_odd_figure D_law_draw D_law_is_rule D_law_all G_law_all D_law_is_stand G_law_is_stand D_law_no_stand G_law_no_stand D_law_odd_figures G_law_odd_figures D_law_right G_law_right kd_NoFigures kd_NoRule kd_NoStand T
theorem walk2 {l : PySem.W.OpenLaw} {q : Program} {loose : List Str} {XP : (Str → Option Value) → Heap → Prop} {YP : World → Heap → Prop} {d : DefRec} {K : Params → PySem.W.Frag} {c T0 : Addr} (hn : l.most = some 63) (hdf : d.params.defaults = [])
    (hY : ∀ (w : World) (h : Heap), YP w h → (K w.params).In h) (hYT : ∀ (w : World) (h : Heap), YP w h → h.get? T0 = some (PySem.W.tabObj #[])) (hKT : ∀ w : World, (K w.params).lookup T0 = none) (hcT : ∀ w : World, PySem.W.codeHdIn (K w.params) c T0 = true)
    (F : ∀ (w : World) (mg : Str → Option Value) (fa : Addr) (h : Heap), (K w.params).In h → h.Ns mainGlobals mg → mg d.name = some (.ref fa) →
      ∃ fd : FuncData, (∀ (s : Shared) (u : Value), BindsTo s fd ⟨[u], []⟩ [("script", u)]) ∧ ∀ base : Heap, (K w.params).In base → base.Ns mainGlobals mg → base.BuiltinsAt mg T0 → FnOk l.prog w (K w.params) mg base CX0 11 fa fd ["script"] (sp_law (K w.params) T0)) :
    PySem.W.WalkO q loose XP YP l.row.toRowW d [] (fun f vs => PySem.call f vs) :=
  L2.walkP (n := 63) (k := 11) (x := "script") (sp := fun w => sp_law (K w.params) T0) hn (by decide) hdf ⟨rfl, by decide, by decide, rfl⟩ hY hYT hKT hcT F (fun w H a ns hl hT hS => ⟨a, ns, rfl, hS, hl, .inl hT, fun _ => rfl⟩)
end Lw
open PySem PySem.W PyProof.Rows
set_option maxRecDepth 100000 in
set_option maxHeartbeats 0 in
theorem PySem.Challenge.cw_lackstretch_k09_no_rules_no_stands_no_fi_holds : PySem.Challenge.rw_lackstretch_k09_no_rules_no_stands_no_fi.Holds := by
  w_on; o_law; k_head; (case hw => w_witness2)
  k_fill
  refine Lw.walk2 (l := PySem.Challenge.rw_lackstretch_k09_no_rules_no_stands_no_fi) (c := 268) (T0 := 264) rfl rfl (fun w h Y => PySem.W.km_in_of Y) (fun w h Y => PySem.W.km_tabs_of Y 264 (by decide)) (fun w => by kernel_rfl) (fun w => by kernel_rfl) ?F
  case F =>
    intro w mg fa h KX G hmg
    refine' Lw.all_mk (c0 := 268) (T0 := 264) KX G hmg (by kernel_rfl) (by decide) ?yyx0 ?yyx1 ?yyx2 ?yyx3 ?yyx4 ?yyx5 ?yyx6 ?yyx7 ?yyx8 ?yyx9 ?yyx10 ?yyx11 ?yyx12 ?yya13 ?yyl13 ?yye13 ?yyk13 ?yyx14 ?yyx15 ?yyx16 ?yyx17 ?yyx18 ?yyx19 ?yyx20 ?yyx21 ?yyx22 ?yyx23 ?yyx24 ?yyx25 ?yyx26 ?yyx27 ?yyx28 ?yyx29 ?yyx30 ?yyx31 ?yyx32 ?yyx33 ?yyqNoBase ?yyqNoNumber ?yyqNoFigures ?yyqNoRule ?yyqNoStand ?yyqNoGood ?yyqEndless ?yyqNoRules ?yyqNoStretch ?yyqTooMany ?yyqNoText ?yyqNoName ?yyqNoRow ?yyqLackError ?yymLE ?yynVE ?yypNoRule ?yylNoRule ?yyiNoRule ?yyvNoRule ?yymNoRule_NoBase ?yymNoRule_NoNumber ?yymNoRule_NoFigures ?yymNoRule_NoRule ?yymNoRule_NoStand ?yymNoRule_NoGood ?yymNoRule_Endless ?yymNoRule_NoRules ?yymNoRule_NoStretch ?yymNoRule_TooMany ?yymNoRule_NoText ?yymNoRule_NoName ?yymNoRule_NoRow ?yypNoStand ?yylNoStand ?yyiNoStand ?yyvNoStand ?yymNoStand_NoBase ?yymNoStand_NoNumber ?yymNoStand_NoFigures ?yymNoStand_NoRule ?yymNoStand_NoStand ?yymNoStand_NoGood ?yymNoStand_Endless ?yymNoStand_NoRules ?yymNoStand_NoStretch ?yymNoStand_TooMany ?yymNoStand_NoText ?yymNoStand_NoName ?yymNoStand_NoRow ?yypNoFigures ?yylNoFigures ?yyiNoFigures ?yyvNoFigures ?yymNoFigures_NoBase ?yymNoFigures_NoNumber ?yymNoFigures_NoFigures ?yymNoFigures_NoRule ?yymNoFigures_NoStand ?yymNoFigures_NoGood ?yymNoFigures_Endless ?yymNoFigures_NoRules ?yymNoFigures_NoStretch ?yymNoFigures_TooMany ?yymNoFigures_NoText ?yymNoFigures_NoName ?yymNoFigures_NoRow ?yyg0 ?yyg1 ?yyg2 ?yyg3 ?yyz0 ?yyz1 ?yyz2 ?yyz3 ?yyz4 ?yyz5 ?yyz6 ?yyz7 ?yyz8 ?yyz9 ?yyz10 ?yyz11 ?yyz12 ?yyz13 ?yyz14 ?yyz15 ?yyz16 ?yyz17 ?yyz18 ?yyz19
    (case yyx0 => refine' Lw.fdm ?_ ?_ ?_ ?_ <;> try k_is)
    (case yyx1 => refine' Lw.fdm ?_ ?_ ?_ ?_ <;> try k_is)
    (case yyx2 => refine' Lw.fdm ?_ ?_ ?_ ?_ <;> try k_is)
    (case yyx3 => refine' Lw.fdm ?_ ?_ ?_ ?_ <;> try k_is)
    (case yyx4 => refine' Lw.fdm ?_ ?_ ?_ ?_ <;> try k_is)
    (case yyx5 => refine' Lw.fdm ?_ ?_ ?_ ?_ <;> try k_is)
    (case yyx6 => refine' Lw.fdm ?_ ?_ ?_ ?_ <;> try k_is)
    (case yyx7 => refine' Lw.fdm ?_ ?_ ?_ ?_ <;> try k_is)
    (case yyx8 => refine' Lw.fdm ?_ ?_ ?_ ?_ <;> try k_is)
    (case yyx9 => refine' Lw.fdm ?_ ?_ ?_ ?_ <;> try k_is)
    (case yyx10 => refine' Lw.fdm ?_ ?_ ?_ ?_ <;> try k_is)
    (case yyx11 => refine' Lw.fdm ?_ ?_ ?_ ?_ <;> try k_is)
    (case yyx12 => refine' Lw.fdm ?_ ?_ ?_ ?_ <;> try k_is)
    (case yya13 => k_is)
    (case yyl13 => k_is)
    (case yye13 => k_is)
    (case yyk13 => k_is)
    (case yyx14 => refine' Lw.fdm ?_ ?_ ?_ ?_ <;> try k_is)
    (case yyx15 => refine' Lw.fdm ?_ ?_ ?_ ?_ <;> try k_is)
    (case yyx16 => refine' Lw.fdm ?_ ?_ ?_ ?_ <;> try k_is)
    (case yyx17 => refine' Lw.fdm ?_ ?_ ?_ ?_ <;> try k_is)
    (case yyx18 => refine' Lw.fdm ?_ ?_ ?_ ?_ <;> try k_is)
    (case yyx19 => refine' Lw.fdm ?_ ?_ ?_ ?_ <;> try k_is)
    (case yyx20 => refine' Lw.fdm ?_ ?_ ?_ ?_ <;> try k_is)
    (case yyx21 => refine' Lw.fdm ?_ ?_ ?_ ?_ <;> try k_is)
    (case yyx22 => refine' Lw.fdm ?_ ?_ ?_ ?_ <;> try k_is)
    (case yyx23 => refine' Lw.fdm ?_ ?_ ?_ ?_ <;> try k_is)
    (case yyx24 => refine' Lw.fdm ?_ ?_ ?_ ?_ <;> try k_is)
    (case yyx25 => refine' Lw.fdm ?_ ?_ ?_ ?_ <;> try k_is)
    (case yyx26 => refine' Lw.fdm ?_ ?_ ?_ ?_ <;> try k_is)
    (case yyx27 => refine' Lw.fdm ?_ ?_ ?_ ?_ <;> try k_is)
    (case yyx28 => refine' Lw.fdm ?_ ?_ ?_ ?_ <;> try k_is)
    (case yyx29 => refine' Lw.fdm ?_ ?_ ?_ ?_ <;> try k_is)
    (case yyx30 => refine' Lw.fdm ?_ ?_ ?_ ?_ <;> try k_is)
    (case yyx31 => refine' Lw.fdm ?_ ?_ ?_ ?_ <;> try k_is)
    (case yyx32 => refine' Lw.fdm ?_ ?_ ?_ ?_ <;> try k_is)
    (case yyx33 => refine' Lw.fdm ?_ ?_ ?_ ?_ <;> try k_is)
    (case yyqNoBase => refine' ⟨?_, ?_, ?_⟩ <;> try k_is)
    (case yyqNoNumber => refine' ⟨?_, ?_, ?_⟩ <;> try k_is)
    (case yyqNoFigures => refine' ⟨?_, ?_, ?_⟩ <;> try k_is)
    (case yyqNoRule => refine' ⟨?_, ?_, ?_⟩ <;> try k_is)
    (case yyqNoStand => refine' ⟨?_, ?_, ?_⟩ <;> try k_is)
    (case yyqNoGood => refine' ⟨?_, ?_, ?_⟩ <;> try k_is)
    (case yyqEndless => refine' ⟨?_, ?_, ?_⟩ <;> try k_is)
    (case yyqNoRules => refine' ⟨?_, ?_, ?_⟩ <;> try k_is)
    (case yyqNoStretch => refine' ⟨?_, ?_, ?_⟩ <;> try k_is)
    (case yyqTooMany => refine' ⟨?_, ?_, ?_⟩ <;> try k_is)
    (case yyqNoText => refine' ⟨?_, ?_, ?_⟩ <;> try k_is)
    (case yyqNoName => refine' ⟨?_, ?_, ?_⟩ <;> try k_is)
    (case yyqNoRow => refine' ⟨?_, ?_, ?_⟩ <;> try k_is)
    (case yyqLackError => refine' ⟨?_, ?_, ?_⟩ <;> try k_is)
    (case yymLE => k_is)
    (case yynVE => k_is)
    (case yypNoRule => k_exc)
    (case yylNoRule => k_is)
    (case yyiNoRule => refine' ⟨?_, ?_, ?_, ?_, ?_, ?_, ?_⟩ <;> k_is)
    (case yyvNoRule => k_is)
    (case yymNoRule_NoBase => k_is)
    (case yymNoRule_NoNumber => k_is)
    (case yymNoRule_NoFigures => k_is)
    (case yymNoRule_NoRule => k_is)
    (case yymNoRule_NoStand => k_is)
    (case yymNoRule_NoGood => k_is)
    (case yymNoRule_Endless => k_is)
    (case yymNoRule_NoRules => k_is)
    (case yymNoRule_NoStretch => k_is)
    (case yymNoRule_TooMany => k_is)
    (case yymNoRule_NoText => k_is)
    (case yymNoRule_NoName => k_is)
    (case yymNoRule_NoRow => k_is)
    (case yypNoStand => k_exc)
    (case yylNoStand => k_is)
    (case yyiNoStand => refine' ⟨?_, ?_, ?_, ?_, ?_, ?_, ?_⟩ <;> k_is)
    (case yyvNoStand => k_is)
    (case yymNoStand_NoBase => k_is)
    (case yymNoStand_NoNumber => k_is)
    (case yymNoStand_NoFigures => k_is)
    (case yymNoStand_NoRule => k_is)
    (case yymNoStand_NoStand => k_is)
    (case yymNoStand_NoGood => k_is)
    (case yymNoStand_Endless => k_is)
    (case yymNoStand_NoRules => k_is)
    (case yymNoStand_NoStretch => k_is)
    (case yymNoStand_TooMany => k_is)
    (case yymNoStand_NoText => k_is)
    (case yymNoStand_NoName => k_is)
    (case yymNoStand_NoRow => k_is)
    (case yypNoFigures => k_exc)
    (case yylNoFigures => k_is)
    (case yyiNoFigures => refine' ⟨?_, ?_, ?_, ?_, ?_, ?_, ?_⟩ <;> k_is)
    (case yyvNoFigures => k_is)
    (case yymNoFigures_NoBase => k_is)
    (case yymNoFigures_NoNumber => k_is)
    (case yymNoFigures_NoFigures => k_is)
    (case yymNoFigures_NoRule => k_is)
    (case yymNoFigures_NoStand => k_is)
    (case yymNoFigures_NoGood => k_is)
    (case yymNoFigures_Endless => k_is)
    (case yymNoFigures_NoRules => k_is)
    (case yymNoFigures_NoStretch => k_is)
    (case yymNoFigures_TooMany => k_is)
    (case yymNoFigures_NoText => k_is)
    (case yymNoFigures_NoName => k_is)
    (case yymNoFigures_NoRow => k_is)
    (case yyg0 => k_is)
    (case yyg1 => k_is)
    (case yyg2 => k_is)
    (case yyg3 => k_is)
    (case yyz0 => k_is)
    (case yyz1 => k_is)
    (case yyz2 => k_is)
    (case yyz3 => k_is)
    (case yyz4 => k_is)
    (case yyz5 => k_is)
    (case yyz6 => k_is)
    (case yyz7 => k_is)
    (case yyz8 => k_is)
    (case yyz9 => k_is)
    (case yyz10 => k_is)
    (case yyz11 => k_is)
    (case yyz12 => k_is)
    (case yyz13 => k_is)
    (case yyz14 => k_is)
    (case yyz15 => k_is)
    (case yyz16 => k_is)
    (case yyz17 => k_is)
    (case yyz18 => k_is)
    (case yyz19 => k_is)
