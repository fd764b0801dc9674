import PyProof.Rows.All
import Wide.All
import OpenK.AllK
import Wide.FinOn
import Lean
import PyProof.EqAt
import PyProof.EqKinds
import PyProof.TupleCall
import PyProof.NeKinds
import KE.KRevSl
import KE.KRevIter
import PyProof.ConsumeWalk
import PyProof.ReprRoads
import PyProof.CallFns
import KE.KSortAsk
import KE.KSortTup
import KE.KDictSum
import PyProof.Rows.SumAny
import PyProof.EnumStmt
import PyProof.EnumMake
import PyProof.Rows.EnumRows
import PyProof.Rows.FactsN_abs
import PyProof.ReprLen
import PyProof.StrCalls2
import PyProof.PureStr
import PyProof.CallStr
import PyProof.StrLoop
import PyProof.StrWalks
import PyProof.RulesTry
import PyProof.StrOps
import KE.KIntText
import PyProof.SliceStr2
import PyProof.StrBlockI
import PyProof.Rows.StrClose
import PyProof.Rows.CatFin
import PySem.Challenge.RW_lackstretch_k38_texts_that_write_none
set_option Elab.async false
set_option linter.all false
set_option maxRecDepth 100000
namespace L2
open PySem PySem.Spec PyProof.Rows
abbrev Key := Sum Int Str
def keyIs : Key → Value → Bool
  | .inl k, v => Value.isInt k v
  | .inr x, v => Value.isStrOf x v
def keyH (w : World) : Key → Int
  | .inl k => hashInt k
  | .inr x => hashStr w x
theorem keyIs_shape : ∀ {k : Key} {v : Value}, keyIs k v = true → (∃ i t, k = Sum.inl i ∧ v = Value.int i t) ∨ (∃ x t, k = Sum.inr x ∧ v = Value.str x t)
  | .inl i, v, h => by
    obtain ⟨t, e⟩ := Value.isInt_shape (k := i) (v := v) h
    exact .inl ⟨i, t, rfl, e⟩
  | .inr x, v, h => by
    obtain ⟨t, e⟩ := Value.isStrOf_shape (x := x) (v := v) h
    exact .inr ⟨x, t, rfl, e⟩
theorem key_ll (a b : Int) : decide ((Sum.inl a : Key) = Sum.inl b) = (a == b) := by
  by_cases e : a = b
  · subst e; simp
  · have h : ¬ (Sum.inl a : Key) = Sum.inl b := fun q => e (Sum.inl.inj q)
    rw [decide_eq_false h]
    exact (beq_eq_false_iff_ne.mpr e).symm
theorem key_rr (a b : Str) : decide ((Sum.inr a : Key) = Sum.inr b) = decide (a = b) := by
  by_cases e : a = b
  · subst e; simp
  · have h : ¬ (Sum.inr a : Key) = Sum.inr b := fun q => e (Sum.inr.inj q)
    rw [decide_eq_false h, decide_eq_false e]
theorem key_lr (a : Int) (b : Str) : decide ((Sum.inl a : Key) = Sum.inr b) = false := decide_eq_false (fun q => nomatch q)
theorem key_rl (a : Str) (b : Int) : decide ((Sum.inr a : Key) = Sum.inl b) = false := decide_eq_false (fun q => nomatch q)
def mixKind (prog : Program) (w : World) : PySem.KeyKind prog w Key where
  is := keyIs
  hash := keyH w
  inj := fun v a b ha hb => by
    rcases keyIs_shape ha with ⟨i, t, rfl, rfl⟩ | ⟨x, t, rfl, rfl⟩
    · rcases keyIs_shape hb with ⟨j, u, rfl, e⟩ | ⟨y, u, rfl, e⟩
      · injection e with e1 _; rw [e1]
      · exact nomatch e
    · rcases keyIs_shape hb with ⟨j, u, rfl, e⟩ | ⟨y, u, rfl, e⟩
      · exact nomatch e
      · injection e with e1 _; rw [e1]
  byValue := fun k v h => by
    rcases keyIs_shape h with ⟨i, t, rfl, rfl⟩ | ⟨x, t, rfl, rfl⟩ <;> rfl
  pyHash := fun hv h => by
    rcases keyIs_shape hv with ⟨i, t, rfl, rfl⟩ | ⟨x, t, rfl, rfl⟩
    · exact wpAny_pyHash_int h
    · exact wpAny_pyHash_str h
  eqBool := fun hu hv h => by
    rcases keyIs_shape hu with ⟨i, t, rfl, rfl⟩ | ⟨x, t, rfl, rfl⟩
    · rcases keyIs_shape hv with ⟨j, u, rfl, rfl⟩ | ⟨y, u, rfl, rfl⟩
      · rw [key_ll] at h; exact wpAny_eqBool_int h
      · rw [key_lr] at h; exact SeqAt.EqAt.int_str i t y u _ _ _ _ h
    · rcases keyIs_shape hv with ⟨j, u, rfl, rfl⟩ | ⟨y, u, rfl, rfl⟩
      · rw [key_rl] at h; exact SeqAt.EqAt.str_int x t j u _ _ _ _ h
      · rw [key_rr] at h; exact wpAny_eqBool_str h
  «strs» := fun k x t v h => by
    rcases keyIs_shape h with ⟨i, u, rfl, e⟩ | ⟨y, u, rfl, e⟩
    · exact nomatch e
    · injection e with e1 _
      subst e1
      cases v <;> rfl
end L2
namespace L2
open PySem PySem.Spec PyProof.Rows
inductive V where
  | non | bl (b : Bool) | int (i : Int) | str (x : Str) | byt (b : Array UInt8) | flt (b : UInt64) | ref (a : Addr) | ty (n : String)
  deriving DecidableEq
def RelV : V → Value → Prop
  | .non, u => u = Value.none
  | .bl b, u => u = Value.bool b
  | .int i, u => ∃ t, u = Value.int i t
  | .str x, u => ∃ t, u = Value.str x t
  | .byt b, u => ∃ t, u = Value.bytes b t
  | .flt b, u => ∃ t, u = Value.float b t
  | .ref a, u => u = Value.ref a
  | .ty n, u => u = Value.type n
abbrev Vals : List V → List Value → Prop := Paired RelV
theorem Vals.length {xs : List V} {us : List Value} (r : Vals xs us) : xs.length = us.length := Paired.length r
theorem Vals.get : ∀ {xs : List V} {us : List Value} {i : Nat} {x : V}, Vals xs us → xs[i]? = some x → ∃ u, us[i]? = some u ∧ RelV x u
  | _, _, _, _, .nil, e => by simp at e
  | _, _, 0, _, .cons r _, e => by simp at e; subst e; exact ⟨_, rfl, r⟩
  | _, _, i + 1, x, .cons _ t, e => by
    obtain ⟨u, h1, h2⟩ := Vals.get (i := i) (x := x) t (by simpa using e)
    exact ⟨u, by simpa using h1, h2⟩
theorem Vals.set {x : V} {u : Value} (r : RelV x u) : ∀ {xs : List V} {us : List Value} (i : Nat), Vals xs us → Vals (xs.set i x) (us.set i u)
  | _, _, _, .nil => .nil
  | _, _, 0, .cons _ t => .cons r t
  | _, _, i + 1, .cons q t => .cons q (Vals.set r i t)
theorem Vals.append : ∀ {xs ys : List V} {us ws : List Value}, Vals xs us → Vals ys ws → Vals (xs ++ ys) (us ++ ws)
  | _, _, _, _, .nil, s => s
  | _, _, _, _, .cons r t, s => .cons r (Vals.append t s)
theorem Vals.take : ∀ {xs : List V} {us : List Value} (n : Nat), Vals xs us → Vals (xs.take n) (us.take n)
  | _, _, 0, _ => .nil
  | _, _, _ + 1, .nil => .nil
  | _, _, n + 1, .cons r t => .cons r (Vals.take n t)
theorem Vals.drop : ∀ {xs : List V} {us : List Value} (n : Nat), Vals xs us → Vals (xs.drop n) (us.drop n)
  | _, _, 0, r => r
  | _, _, _ + 1, .nil => .nil
  | _, _, n + 1, .cons _ t => Vals.drop n t
def RelO : Option V → Option Value → Prop
  | some v, some u => RelV v u
  | none, none => True
  | _, _ => False
def KV {κ : Type} : List (κ × V) → List (κ × Value) → Prop := Paired fun (p : κ × V) (q : κ × Value) => p.1 = q.1 ∧ RelV p.2 q.2
def kV : Key → V
  | .inl i => .int i
  | .inr x => .str x
inductive HO where
  | lst (xs : List V)
  | tup (xs : List V)
  | dK (kvs : List (Key × V)) | dT (kvs : List (List Key × V))
  | set (S : Int → Bool) (n : Nat)
  | ins (C dx : Addr) (fs : List (Str × V))
  | own (x : Addr)
  | xd (fs : List (Str × V))
  | met (f x : Addr)
  | rng (lo hi : Int)
  | frz (o : Obj) (u : HO)
  | tbl (ps : Array Value)
  | ext (φ : Heap → Prop)
abbrev Hp := Addr → Option HO
def upd (H : Hp) (a : Addr) (o : HO) : Hp := fun b => if b = a then some o else H b
theorem upd_same {H : Hp} {a : Addr} {o : HO} : upd H a o a = some o := by unfold upd; rw [if_pos rfl]
theorem upd_ne {H : Hp} {a b : Addr} {o : HO} (h : b ≠ a) : upd H a o b = H b := by unfold upd; rw [if_neg h]
theorem ne_of_none {H : Hp} {a b : Addr} {o : HO} (h : H a = some o) (h' : H b = none) : a ≠ b := by
  intro e; subst e; rw [h] at h'; cases h'
section
variable (P : Program) (w : World)
def ObjOk (H : Hp) (h : Heap) (a : Addr) : HO → Prop
  | .lst xs => xs.length ≤ sizeLine ∧ ∃ (its : List Value) (n : Nat), Vals xs its ∧ h.get? a = some { cls := .type "list", data := .seq its.toArray n }
  | .tup xs => xs.length ≤ sizeLine ∧ ∃ its : List Value, Vals xs its ∧ IsTup h a its.toArray
  | .dK kvs => kvs.length ≤ sizeLine ∧ (a == sysModules) = false ∧ ∃ vs, KV kvs vs ∧ h.DictOf (mixKind P w) a vs
  | .dT kvs => kvs.length ≤ sizeLine ∧ (a == sysModules) = false ∧ ∃ xs : List (List Key × Addr × Value),
      Paired (fun (p : List Key × V) (q : List Key × Addr × Value) => p.1 = q.1 ∧ H q.2.1 = some (.tup (p.1.map kV)) ∧ RelV p.2 q.2.2) kvs xs ∧
      ∃ o es ep, h.get? a = some o ∧ o.ExactDict ∧ o.data = .dict es ep ∧ es.toList = xs.map (entryOfKey (tupleKind (mixKind P w))) ∧ (xs.map (·.1)).Nodup
  | .set S n => h.SetOf (intKind P w) a S n
  | .ins C dx fs => H dx = some (.own a) ∧ fs.length ≤ 1000 ∧ dx ≠ a ∧ h.get? a = some (PySem.W.instObj C dx) ∧
      ∃ mA, h.Ns1 dx mA ∧ (∀ f, RelO (fs.lookup f) (mA f)) ∧ PySem.Within mA (fs.map (·.1))
  | .own _ => ∃ o, h.get? a = some o
  | .xd fs => ∃ mA, h.Ns1 a mA ∧ ∀ f, RelO (fs.lookup f) (mA f)
  | .rng lo hi => ∃ t u v, h.get? a = some { cls := .type "range", data := .fields #[.int lo t, .int hi u, .int 1 v] }
  | .frz o u => h.get? a = some o ∧ ObjOk H h a u
  | .tbl ps => h.get? a = some { cls := .none, data := .fields ps }
  | .met f x => h.get? a = some (PySem.W.methodObj (.ref f) (.ref x))
  | .ext φ => φ h ∧ (∃ o, h.get? a = some o) ∧ ∀ h1 h2 : Heap, φ h1 → (∀ o, h1.get? a = some o → h2.get? a = some o) → φ h2
def HOk (H : Hp) (h : Heap) : Prop := ∀ a o, H a = some o → ObjOk P w H h a o
end
section
variable {P : Program} {w : World} {H H' : Hp} {h h' : Heap} {a : Addr} {o : HO}
theorem ObjOk.lt (x : ObjOk P w H h a o) : a < h.objs.size := by
  cases o with
  | lst xs => obtain ⟨_, _, _, _, e⟩ := x; exact Heap.lt_size e
  | tup xs => obtain ⟨_, _, _, p⟩ := x; exact p.lt
  | dK kvs => obtain ⟨_, _, _, _, o, _, _, e, _⟩ := x; exact Heap.lt_size e
  | dT kvs => obtain ⟨_, _, _, _, o, _, _, e, _⟩ := x; exact Heap.lt_size e
  | set S n => obtain ⟨o, _, _, _, e, _⟩ := x; exact Heap.lt_size e
  | ins C dx fs => obtain ⟨_, _, _, e, _⟩ := x; exact Heap.lt_size e
  | own y => obtain ⟨_, e⟩ := x; exact Heap.lt_size e
  | xd fs => obtain ⟨_, ⟨_, _, _, e, _⟩, _⟩ := x; exact Heap.lt_size e
  | rng lo hi => obtain ⟨_, _, _, e⟩ := x; exact Heap.lt_size e
  | frz ob u => obtain ⟨e, _⟩ := x; exact Heap.lt_size e
  | tbl ps => exact Heap.lt_size (show h.get? a = some _ from x)
  | met f y => exact Heap.lt_size (show h.get? a = some _ from x)
  | ext φ => obtain ⟨_, ⟨_, e⟩, _⟩ := x; exact Heap.lt_size e
theorem Paired.mapP {α β : Type} {F G : α → β → Prop} : ∀ {l₁ : List α} {l₂ : List β}, Paired F l₁ l₂ → (∀ a b, F a b → G a b) → Paired G l₁ l₂
  | _, _, .nil, _ => .nil
  | _, _, .cons r t, f => .cons (f _ _ r) (Paired.mapP t f)
theorem ObjOk.stay (x : ObjOk P w H h a o) (k : ∀ b u, (b = a ∨ H b = some (.own a)) → h.get? b = some u → h'.get? b = some u)
    (ho : ∀ b, H b = some (.own a) → H' b = some (.own a)) (ht : ∀ b xs, H b = some (.tup xs) → H' b = some (.tup xs)) : ObjOk P w H' h' a o := by
  induction o with
  | lst xs => obtain ⟨z, its, n, r, e⟩ := x; exact ⟨z, its, n, r, k _ _ (.inl rfl) e⟩
  | tup xs => obtain ⟨z, its, r, ob, e, c⟩ := x; exact ⟨z, its, r, ob, k _ _ (.inl rfl) e, c⟩
  | dK kvs => obtain ⟨z, y, vs, r, ob, es, ep, e, c⟩ := x; exact ⟨z, y, vs, r, ob, es, ep, k _ _ (.inl rfl) e, c⟩
  | dT kvs =>
    obtain ⟨z, y, xs, r, ob, es, ep, e, c⟩ := x
    exact ⟨z, y, xs, Paired.mapP r fun p q z => ⟨z.1, ht _ _ z.2.1, z.2.2⟩, ob, es, ep, k _ _ (.inl rfl) e, c⟩
  | set S n => obtain ⟨ob, es, ep, t, e, c⟩ := x; exact ⟨ob, es, ep, t, k _ _ (.inl rfl) e, c⟩
  | ins C dx fs =>
    obtain ⟨d, z, ne, e, mA, ⟨od, es, ep, e2, c⟩, r⟩ := x
    exact ⟨ho _ d, z, ne, k _ _ (.inl rfl) e, mA, ⟨od, es, ep, k _ _ (.inr d) e2, c⟩, r⟩
  | own y => obtain ⟨ob, e⟩ := x; exact ⟨ob, k _ _ (.inl rfl) e⟩
  | xd fs => obtain ⟨mA, ⟨od, es, ep, e, c⟩, r⟩ := x; exact ⟨mA, ⟨od, es, ep, k _ _ (.inl rfl) e, c⟩, r⟩
  | rng lo hi => obtain ⟨t, u, v, e⟩ := x; exact ⟨t, u, v, k _ _ (.inl rfl) e⟩
  | frz ob u ih => obtain ⟨e, q⟩ := x; exact ⟨k _ _ (.inl rfl) e, ih q⟩
  | tbl ps =>
    have e : h.get? a = some { cls := .none, data := .fields ps } := x
    show h'.get? a = some { cls := .none, data := .fields ps }
    exact k a _ (.inl rfl) e
  | met f y =>
    have e : h.get? a = some (PySem.W.methodObj (.ref f) (.ref y)) := x
    show h'.get? a = some (PySem.W.methodObj (.ref f) (.ref y))
    exact k a _ (.inl rfl) e
  | ext φ => obtain ⟨p, ⟨o, e⟩, st⟩ := x; exact ⟨st _ _ p fun o q => k _ _ (.inl rfl) q, ⟨o, k _ _ (.inl rfl) e⟩, st⟩
theorem HOk.lt (x : HOk P w H h) (e : H a = some o) : a < h.objs.size := (x a o e).lt
theorem HOk.fresh (x : HOk P w H h) (e : h.objs.size ≤ a) : H a = none := by
  cases q : H a with
  | none => rfl
  | some u => exact absurd (Nat.lt_of_lt_of_le (x.lt q) e) (Nat.lt_irrefl _)
theorem HOk.kept (x : HOk P w H h) (k : ∀ b u, h.get? b = some u → h'.get? b = some u) : HOk P w H h' := fun a o e =>
  (x a o e).stay (fun b u _ q => k b u q) (fun _ q => q) fun _ _ q => q
theorem HOk.laid (x : HOk P w H h) (k : ∀ b u, h.get? b = some u → h'.get? b = some u) (hp : h.objs.size ≤ a) (new : ObjOk P w (upd H a o) h' a o) : HOk P w (upd H a o) h' := fun b u e => by
  have hn := x.fresh hp
  by_cases hb : b = a
  · subst hb; rw [upd_same] at e; cases e; exact new
  · rw [upd_ne hb] at e
    exact (x b u e).stay (fun c v _ q => k c v q) (fun c q => by rw [upd_ne (ne_of_none q hn)]; exact q) fun c xs q => by rw [upd_ne (ne_of_none q hn)]; exact q
end
def Rd (H : Hp) (a : Addr) (u : HO) : Prop := H a = some u ∨ ∃ o, H a = some (.frz o u)
theorem Rd.of {H : Hp} {a : Addr} {u : HO} (h : H a = some u) : Rd H a u := .inl h
theorem Rd.ok {P : Program} {w : World} {H : Hp} {h : Heap} {a : Addr} {u : HO} (r : Rd H a u) (x : HOk P w H h) : ObjOk P w H h a u := by
  rcases r with r | ⟨o, r⟩
  · exact x a u r
  · obtain ⟨_, q⟩ := x a _ r
    exact q
def Mut : Option HO → Prop
  | some (.lst _) => True
  | some (.dK _) => True
  | some (.dT _) => True
  | some (.set _ _) => True
  | some (.ins _ _ _) => True
  | some (.ext _) => True
  | _ => False
section
variable {P : Program} {w : World} {H : Hp} {h h' : Heap} {x e : Addr} {o' : HO}
theorem HOk.write (ok : HOk P w H h) (mu : Mut (H x)) (he : e = x ∨ H e = some (.own x)) (k : ∀ b u, b ≠ e → h.get? b = some u → h'.get? b = some u) (heo : ∃ u, h'.get? e = some u)
    (new : ObjOk P w (upd H x o') h' x o') : HOk P w (upd H x o') h' := fun b u q => by
  have nown : ∀ c y, H c = some (.own y) → c ≠ x := fun c y r z => by subst z; rw [r] at mu; exact mu
  have ntup : ∀ c xs, H c = some (.tup xs) → c ≠ x := fun c xs r z => by subst z; rw [r] at mu; exact mu
  by_cases hb : b = x
  · subst hb; rw [upd_same] at q; cases q; exact new
  · rw [upd_ne hb] at q
    by_cases hbe : b = e
    · have q' : H b = some (.own x) := by
        rcases he with z | z
        · exact absurd (hbe.trans z) hb
        · rw [hbe]; exact z
      rw [q] at q'; cases q'
      obtain ⟨v, hv⟩ := heo
      exact ⟨v, by rw [hbe]; exact hv⟩
    · refine (ok b u q).stay (fun c v hc r => k c v ?_ r) (fun c r => by rw [upd_ne (nown c b r)]; exact r) fun c xs r => by rw [upd_ne (ntup c xs r)]; exact r
      rcases hc with rfl | hc
      · exact hbe
      · rintro rfl
        rcases he with z | z
        · exact nown c b hc z
        · rw [hc] at z; cases z; exact hb rfl
end
structure Un (fs ex : List Addr) (H H' : Hp) (h h' : Heap) : Prop where
  keep : ∀ b o, h.get? b = some o → H b = none → b ∉ fs → b ∉ ex → h'.get? b = some o
  slot : ∀ b o, h.get? b = some o → H b = none → b ∈ fs → b ∉ ex → ∃ sl, h'.get? b = some { o with slots := sl }
  free : ∀ b o, h.get? b = some o → H b = none → b ∉ ex → H' b = none
  there : ∀ b o, h.get? b = some o → b ∉ ex → ∃ o', h'.get? b = some o'
  tups : ∀ b xs, H b = some (.tup xs) → H' b = some (.tup xs)
  frzs : ∀ b o u, H b = some (.frz o u) → H' b = some (.frz o u)
  tbls : ∀ b ps, H b = some (.tbl ps) → ∃ more, H' b = some (.tbl (ps ++ more))
section
variable {fs fs' ex ex' : List Addr} {H H1 H2 : Hp} {h h1 h2 h' : Heap} {a x e : Addr} {o : HO}
theorem Un.any (u : Un fs ex H H1 h h1) {b : Addr} {ob : Obj} (q : h.get? b = some ob) (n : H b = none) (hx : b ∉ ex) : ∃ sl, h1.get? b = some { ob with slots := sl } := by
  by_cases hb : b ∈ fs
  · exact u.slot b ob q n hb hx
  · exact ⟨ob.slots, u.keep b ob q n hb hx⟩
theorem Un.trans (a : Un fs ex H H1 h h1) (b : Un fs ex H1 H2 h1 h2) : Un fs ex H H2 h h2 where
  keep := fun c ob q n hc hx => b.keep c ob (a.keep c ob q n hc hx) (a.free c ob q n hx) hc hx
  slot := fun c ob q n hc hx => by
    obtain ⟨sl, e1⟩ := a.slot c ob q n hc hx
    obtain ⟨sl', e2⟩ := b.slot c _ e1 (a.free c ob q n hx) hc hx
    exact ⟨sl', e2⟩
  free := fun c ob q n hx => by
    obtain ⟨o', e1⟩ := a.there c ob q hx
    exact b.free c o' e1 (a.free c ob q n hx) hx
  there := fun c ob q hx => by
    obtain ⟨o', e1⟩ := a.there c ob q hx
    exact b.there c o' e1 hx
  tups := fun c xs q => b.tups c xs (a.tups c xs q)
  frzs := fun c ob xs q => b.frzs c ob xs (a.frzs c ob xs q)
  tbls := fun c ps q => by
    obtain ⟨m1, e1⟩ := a.tbls c ps q
    obtain ⟨m2, e2⟩ := b.tbls c _ e1
    exact ⟨m1 ++ m2, by rw [e2, Array.append_assoc]⟩
theorem Un.kept (k : ∀ b u, h.get? b = some u → h'.get? b = some u) : Un fs ex H H h h' :=
  ⟨fun b ob q _ _ _ => k b ob q, fun b ob q _ _ _ => ⟨ob.slots, k b ob q⟩, fun _ _ _ n _ => n, fun b ob q _ => ⟨ob, k b ob q⟩, fun _ _ q => q, fun _ _ _ q => q, fun _ ps q => ⟨#[], by rw [q]; simp⟩⟩
theorem Un.refl : Un fs ex H H h h := Un.kept fun _ _ q => q
theorem Un.laid (k : ∀ b u, h.get? b = some u → h'.get? b = some u) (hp : h.objs.size ≤ a) (hn : H a = none) : Un fs ex H (upd H a o) h h' where
  keep := fun b u q _ _ _ => k b u q
  slot := fun b u q _ _ _ => ⟨u.slots, k b u q⟩
  free := fun b u q n _ => by rw [upd_ne (Nat.ne_of_lt (Nat.lt_of_lt_of_le (Heap.lt_size q) hp))]; exact n
  there := fun b u q _ => ⟨u, k b u q⟩
  tups := fun b xs q => by rw [upd_ne (ne_of_none q hn)]; exact q
  frzs := fun b u xs q => by rw [upd_ne (ne_of_none q hn)]; exact q
  tbls := fun b ps q => ⟨#[], by rw [upd_ne (ne_of_none q hn), q]; simp⟩
theorem Un.write (mu : Mut (H x)) (he : e = x ∨ H e = some (.own x)) (k : ∀ b u, b ≠ e → h.get? b = some u → h'.get? b = some u) (heo : ∃ u, h'.get? e = some u) : Un fs ex H (upd H x o) h h' := by
  have hx : ∀ b, H b = none → b ≠ x := fun b n z => by subst z; rw [n] at mu; exact mu
  have hb : ∀ b, H b = none → b ≠ e := fun b n z => by
    subst z
    rcases he with r | r
    · exact hx b n r
    · rw [n] at r; cases r
  have hm : ∀ b u, H b = some u → ¬ Mut (some u) → b ≠ x := fun b u q nm z => by subst z; rw [q] at mu; exact nm mu
  refine ⟨fun b u q n _ _ => k b u (hb b n) q, fun b u q n _ _ => ⟨u.slots, k b u (hb b n) q⟩, fun b u q n _ => by rw [upd_ne (hx b n)]; exact n, fun b u q _ => ?_,
    fun b xs q => by rw [upd_ne (hm b _ q fun z => z)]; exact q, fun b u xs q => by rw [upd_ne (hm b _ q fun z => z)]; exact q, fun b ps q => ⟨#[], by rw [upd_ne (hm b _ q fun z => z), q]; simp⟩⟩
  by_cases hbe : b = e
  · subst hbe; exact heo
  · exact ⟨u, k b u hbe q⟩
theorem Un.mono (u : Un fs ex H H1 h h1) (hs : ∀ b ∈ fs, b ∈ fs') (hx : ∀ b ∈ ex, b ∈ ex') : Un fs' ex' H H1 h h1 :=
  ⟨fun b ob q n hb he => u.keep b ob q n (fun z => hb (hs b z)) fun z => he (hx b z), fun _ _ q n _ he => u.any q n fun z => he (hx _ z), fun b ob q n he => u.free b ob q n fun z => he (hx b z), fun b ob q he => u.there b ob q fun z => he (hx b z), u.tups, u.frzs, u.tbls⟩
end
def trk (h : Heap) (H : Hp) : List Addr := (List.range h.objs.size).filter fun a => (H a).isSome
def hidT (h : Heap) (H : Hp) : Heap := PySem.W.hideAll h (trk h H)
theorem hidT_size (h : Heap) (H : Hp) : (hidT h H).objs.size = h.objs.size := PySem.W.hideAll_size _ _
theorem hidT_get {h : Heap} {H : Hp} {b : Addr} {o : Obj} (e : h.get? b = some o) (n : H b = none) : (hidT h H).get? b = some o :=
  PySem.W.hideAll_get _ e fun hm => by
    have q : (H b).isSome = true := (List.mem_filter.mp hm).2
    rw [n] at q; simp at q
theorem of_hidT {h : Heap} {H : Hp} {b : Addr} {o : Obj} (e : (hidT h H).get? b = some o) : h.get? b = some o ∧ H b = none := by
  have e' : h.get? b = some o := PySem.W.of_hideAll (trk h H) e
  refine ⟨e', ?_⟩
  cases q : H b with
  | none => rfl
  | some x =>
    have hm : b ∈ trk h H := List.mem_filter.mpr ⟨List.mem_range.mpr (Heap.lt_size e'), by simp [q]⟩
    have z : (hidT h H).get? b = none := PySem.W.hideAll_none (trk h H) hm
    rw [z] at e; cases e
def allNews (g h : Heap) (L : Addr) : List (Addr × Obj) := (List.range h.objs.size).filterMap fun a => if a = L ∨ (g.get? a).isSome = true then none else (h.get? a).map fun o => (a, o)
def rest (g h : Heap) (L d : Addr) : List (Addr × Obj) := (allNews g h L).filter fun p => decide (p.1 ≠ d)
end L2
namespace L2
open PySem PySem.Spec PyProof.Rows
structure Mod (K : PySem.W.Frag) (mg : Str → Option Value) (base : Heap) : Prop where
  kin : K.In base
  glob : base.Ns mainGlobals mg
  blt : ∃ mb, base.Ns builtinsNs mb ∧ ∀ x : Str, x ≠ "__name__" → mb x = bootBuiltins x
  nolimit : base.NoLimit
structure Cx where
  prog : Program
  w : World
  K : PySem.W.Frag
  mg : Str → Option Value
  base : Heap
  A : Around
  N : List Str
  s₀ : Shared
  H₀ : Hp
  env : Env
  outer : List Env
  stack : List Env
  ex : List Addr
  fn : Str → Bool
  calm : Bool
  pn : List (Addr × Obj)
  xe : Value → Shared → Prop
def frs (l : List Env) : List Addr := l.filterMap (·.frame)
abbrev Cx.fs (X : Cx) : List Addr := frs X.outer
def Vis (sc : Scope) (x : Str) : Prop := sc.names.lookup x = some .local ∨ sc.names.lookup x = some .cell ∨ sc.names.lookup x = some .free
def Loc (sc : Scope) (x : Str) : Prop := sc.names.lookup x = some .local ∨ sc.names.lookup x = some .cell
def Look (env : Env) (h : Heap) (m : Str → Option Value) (x : Str) (u : Value) : Prop :=
  (env.kindOf x = some .local ∧ m x = some u) ∨ ((env.kindOf x = some .cell ∨ env.kindOf x = some .free) ∧ ∃ c, env.cells.lookup x = some c ∧ h.IsCell c (some u))
structure Cx.Ok (X : Cx) : Prop where
  mod : Mod X.K X.mg X.base
  kind : X.env.scope.kind = .function
  glob : X.env.globals = mainGlobals
  blt : X.env.builtins = builtinsNs
  above : X.s₀.heap.objs.size ≤ X.env.locals
  inj : ∀ x y c, X.env.cells.lookup x = some c → X.env.cells.lookup y = some c → x = y
  has : ∀ x, (X.env.kindOf x = some .cell ∨ X.env.kindOf x = some .free) → ∃ c, X.env.cells.lookup x = some c
  cab : ∀ x c, X.fn x = true → X.env.cells.lookup x = some c → X.s₀.heap.objs.size ≤ c
  hd : X.calm = true → X.A.handled = none
  frames : X.A.frames = some X.stack
  stk : X.stack = X.outer ∨ (X.stack = X.env :: X.outer ∧ X.env.frame = some X.env.locals)
  exf : ∀ b ∈ X.ex, b ≠ X.env.locals ∧ ∀ x c, X.env.cells.lookup x = some c → c ≠ b
  bs : ∀ b o, X.base.get? b = some o → X.s₀.heap.get? b = some o ∧ X.H₀ b = none
  bsz : X.base.objs.size ≤ X.s₀.heap.objs.size
  noex : ∀ b o, X.base.get? b = some o → b ∉ X.ex
  exfs : ∀ b ∈ X.ex, b ∉ X.fs
  funs : X.s₀.heap.FunFrames X.base X.outer
  frf : ∀ b ∈ X.fs, X.H₀ b = none
structure Inv (X : Cx) (pins : List (Addr × Obj)) (σ : List (Option V)) (H : Hp) (s : Shared) : Prop where
  ok : X.Ok
  os : s.os = X.s₀.os
  bare : AllBare s.gens
  base : Un X.fs X.ex X.H₀ H X.s₀.heap s.heap
  loc : ∃ m, s.heap.Ns X.env.locals m ∧ ∀ (i : Nat) (x : Str) (v : V), X.N[i]? = some x → σ[i]? = some (some v) → Vis X.env.scope x → ∃ u, RelV v u ∧ Look X.env s.heap m x u
  cell : ∀ x c, X.env.cells.lookup x = some c → ∃ v, s.heap.IsCell c v
  free : H X.env.locals = none
  freeC : ∀ x c, X.env.cells.lookup x = some c → H c = none
  pin : ∀ p ∈ X.pn ++ pins, s.heap.get? p.1 = some p.2 ∧ H p.1 = none ∧ p.1 ≠ X.env.locals ∧ p.1 ∉ X.fs ∧ ∀ v, p.2.data ≠ .cell v
  hok : HOk X.prog X.w H s.heap
  len : σ.length = X.N.length
section
variable {X : Cx} {pins : List (Addr × Obj)} {σ : List (Option V)} {H H' : Hp} {s : Shared} {h' : Heap}
theorem Cx.Ok.nofr (ok : X.Ok) {b : Addr} {o : Obj} (e : X.base.get? b = some o) : b ∉ X.fs := fun hb => by
  have := (ok.funs.mem hb).1
  rw [e] at this; cases this
theorem Inv.bs (I : Inv X pins σ H s) : ∀ b o, X.base.get? b = some o → s.heap.get? b = some o ∧ H b = none := fun b o e =>
  ⟨I.base.keep b o (I.ok.bs b o e).1 (I.ok.bs b o e).2 (I.ok.nofr e) (I.ok.noex b o e), I.base.free b o (I.ok.bs b o e).1 (I.ok.bs b o e).2 (I.ok.noex b o e)⟩
theorem Inv.bk (I : Inv X pins σ H s) : ∀ b o, X.base.get? b = some o → s.heap.get? b = some o := fun b o e => (I.bs b o e).1
theorem Inv.mod (I : Inv X pins σ H s) : Mod X.K X.mg X.base := I.ok.mod
theorem Inv.kIn (I : Inv X pins σ H s) : X.K.In s.heap := I.ok.mod.kin.keeps I.bk
theorem Inv.nolimit (I : Inv X pins σ H s) : s.heap.NoLimit := I.ok.mod.nolimit.keeps I.bk
theorem Inv.fr (I : Inv X pins σ H s) : ∃ m, Fr X.base X.env.locals s.heap m :=
  let ⟨m, hn, _⟩ := I.loc
  ⟨m, hn, I.bk, Nat.le_trans I.ok.bsz I.ok.above⟩
theorem Inv.lt (I : Inv X pins σ H s) : X.env.locals < s.heap.objs.size := let ⟨_, hn, _⟩ := I.loc; hn.lt
theorem Inv.sz (I : Inv X pins σ H s) : X.s₀.heap.objs.size ≤ s.heap.objs.size := Nat.le_trans I.ok.above (Nat.le_of_lt I.lt)
theorem Inv.nofs (I : Inv X pins σ H s) {a : Addr} (h : s.heap.objs.size ≤ a) : a ∉ X.fs := fun hb => by
  obtain ⟨_, o, ho, _⟩ := I.ok.funs.mem hb
  exact absurd (Nat.lt_of_lt_of_le (Heap.lt_size ho) (Nat.le_trans I.sz h)) (Nat.lt_irrefl _)
theorem Inv.cne (I : Inv X pins σ H s) : ∀ x c, X.env.cells.lookup x = some c → c ≠ X.env.locals := fun x c e z => by
  obtain ⟨v, o, ho, hd⟩ := I.cell x c e
  obtain ⟨m, ⟨o', es, ep, ho', hd', _⟩, _⟩ := I.loc
  rw [z, ho'] at ho; cases ho; rw [hd'] at hd; cases hd
theorem Inv.funs (I : Inv X pins σ H s) : s.heap.FunFrames X.base X.outer := by
  have all : ∀ (l : List Env), (∀ b ∈ frs l, b ∈ X.fs) → X.s₀.heap.FunFrames X.base l → s.heap.FunFrames X.base l := by
    intro l
    induction l with
    | nil => intro _ _; trivial
    | cons env r ih =>
      intro hs hl
      obtain ⟨hk, ⟨L, o, hf, hn, ho, hd⟩, hr⟩ := hl
      have hL : L ∈ X.fs := hs L (by unfold frs; rw [List.filterMap_cons, hf]; exact List.mem_cons_self)
      obtain ⟨sl, e⟩ := I.base.slot L o ho (I.ok.frf L hL) hL fun z => I.ok.exfs L z hL
      exact ⟨hk, ⟨L, _, hf, hn, e, hd⟩, ih (fun b hb => hs b (by unfold frs; rw [List.filterMap_cons, hf]; exact List.mem_cons_of_mem _ hb)) hr⟩
  exact all X.outer (fun _ hb => hb) I.ok.funs
theorem Inv.stack (I : Inv X pins σ H s) : s.heap.FunFrames X.base X.stack := by
  rcases I.ok.stk with e | ⟨e, hf⟩
  · rw [e]; exact I.funs
  · rw [e]
    obtain ⟨m, hn, _⟩ := I.loc
    refine .cons (by rw [I.ok.kind]; decide) hf hn ?_ I.funs
    exact Heap.get?_none_of_le (Nat.le_trans I.ok.bsz I.ok.above)
theorem Inv.stkSub (I : Inv X pins σ H s) : ∀ b ∈ frs X.stack, b ∈ X.env.locals :: X.fs := fun b hb => by
  rcases I.ok.stk with e | ⟨e, hf⟩
  · rw [e] at hb; exact List.mem_cons_of_mem _ hb
  · rw [e] at hb
    unfold frs at hb
    rw [List.filterMap_cons, hf] at hb
    exact hb
theorem Inv.stkFree (I : Inv X pins σ H s) : ∀ b ∈ frs X.stack, H b = none := fun b hb => by
  rcases List.mem_cons.mp (I.stkSub b hb) with e | hb
  · rw [e]; exact I.free
  · obtain ⟨_, o, ho, _⟩ := I.ok.funs.mem hb
    exact I.base.free b o ho (I.ok.frf b hb) fun z => I.ok.exfs b z hb
theorem Inv.step {g' : Array GenState} {t' : Nat} {d' : Drawn} {ch : List Addr} (I : Inv X pins σ H s)
    (hch : ∀ b ∈ ch, (b ∈ X.ex ∨ X.s₀.heap.objs.size ≤ b) ∧ b ≠ X.env.locals ∧ (∀ x c, X.env.cells.lookup x = some c → c ≠ b) ∧ ∀ p ∈ X.pn ++ pins, p.1 ≠ b)
    (keep : ∀ b o, b ≠ X.env.locals → b ∉ X.fs → b ∉ ch → s.heap.get? b = some o → H b = none → h'.get? b = some o)
    (slot : ∀ b o, b ≠ X.env.locals → b ∈ X.fs → b ∉ ch → s.heap.get? b = some o → H b = none → ∃ sl, h'.get? b = some { o with slots := sl }) (free : ∀ b o, b ∉ ch → s.heap.get? b = some o → H b = none → H' b = none)
    (there : ∀ b o, b ∉ ch → s.heap.get? b = some o → ∃ o', h'.get? b = some o')
    (tups : ∀ b xs, H b = some (.tup xs) → H' b = some (.tup xs)) (frzs : ∀ b o u, H b = some (.frz o u) → H' b = some (.frz o u)) (tbls : ∀ b ps, H b = some (.tbl ps) → ∃ more, H' b = some (.tbl (ps ++ more)))
    (ns : ∀ m, s.heap.Ns X.env.locals m → h'.Ns X.env.locals m) (hok : HOk X.prog X.w H' h') (hg : AllBare g') :
    Inv X pins σ H' { s with heap := h', gens := g', drawn := d', toks := t' } := by
  have neL : ∀ b o, X.s₀.heap.get? b = some o → b ≠ X.env.locals := fun b o e => Nat.ne_of_lt (Nat.lt_of_lt_of_le (Heap.lt_size e) I.ok.above)
  have neC : ∀ b o, X.s₀.heap.get? b = some o → b ∉ X.ex → b ∉ ch := fun b o e hx hb => by
    rcases (hch b hb).1 with z | z
    · exact hx z
    · exact absurd (Nat.lt_of_lt_of_le (Heap.lt_size e) z) (Nat.lt_irrefl _)
  have cellK : ∀ x c, X.env.cells.lookup x = some c → ∀ v, s.heap.IsCell c v → h'.IsCell c v := fun x c e v ⟨o, ho, hd⟩ => by
    have nch : c ∉ ch := fun z => (hch c z).2.2.1 x c e rfl
    by_cases hc : c ∈ X.fs
    · obtain ⟨sl, q⟩ := slot c o (I.cne x c e) hc nch ho (I.freeC x c e)
      exact ⟨_, q, hd⟩
    · exact ⟨o, keep c o (I.cne x c e) hc nch ho (I.freeC x c e), hd⟩
  refine ⟨I.ok, I.os, hg, ⟨fun b o e n hb hx => ?_, fun b o e n hb hx => ?_, fun b o e n hx => ?_, fun b o e hx => ?_, fun b xs e => tups b xs (I.base.tups b xs e), fun b o xs e => frzs b o xs (I.base.frzs b o xs e), fun b ps e => ?_⟩, ?_, fun x c e => ?_, ?_, fun x c e => ?_, fun p hp => ?_, hok, I.len⟩
  · exact keep b o (neL b o e) hb (neC b o e hx) (I.base.keep b o e n hb hx) (I.base.free b o e n hx)
  · obtain ⟨sl, e1⟩ := I.base.slot b o e n hb hx
    obtain ⟨sl', e2⟩ := slot b _ (neL b o e) hb (neC b o e hx) e1 (I.base.free b o e n hx)
    exact ⟨sl', e2⟩
  · obtain ⟨o', e1⟩ := I.base.there b o e hx
    exact free b o' (neC b o e hx) e1 (I.base.free b o e n hx)
  · obtain ⟨o', e1⟩ := I.base.there b o e hx
    exact there b o' (neC b o e hx) e1
  · obtain ⟨m1, e1⟩ := I.base.tbls b ps e
    obtain ⟨m2, e2⟩ := tbls b _ e1
    exact ⟨m1 ++ m2, by rw [e2, Array.append_assoc]⟩
  · obtain ⟨m, hn, hl⟩ := I.loc
    refine ⟨m, ns m hn, fun i x v e1 e2 e3 => ?_⟩
    obtain ⟨u, r, l⟩ := hl i x v e1 e2 e3
    refine ⟨u, r, ?_⟩
    rcases l with l | ⟨k, c, e, z⟩
    · exact .inl l
    · exact .inr ⟨k, c, e, cellK x c e _ z⟩
  · obtain ⟨v, z⟩ := I.cell x c e
    exact ⟨v, cellK x c e v z⟩
  · obtain ⟨m, ⟨o, _, _, ho, _⟩, _⟩ := I.loc
    exact free _ o (fun z => (hch _ z).2.1 rfl) ho I.free
  · obtain ⟨v, o, ho, hd⟩ := I.cell x c e
    exact free c o (fun z => (hch c z).2.2.1 x c e rfl) ho (I.freeC x c e)
  · obtain ⟨e, n, ne, nf, d⟩ := I.pin p hp
    have nch : p.1 ∉ ch := fun z => (hch p.1 z).2.2.2 p hp rfl
    exact ⟨keep p.1 p.2 ne nf nch e n, free p.1 p.2 nch e n, ne, nf, d⟩
theorem Inv.un {t' : Nat} (I : Inv X pins σ H s) (u : Un X.fs [] H H' s.heap h') (hok : HOk X.prog X.w H' h') : Inv X pins σ H' { s with heap := h', toks := t' } := by
  obtain ⟨m, ⟨o, es, ep, ho, r⟩, _⟩ := id I.loc
  obtain ⟨sl, hL⟩ := u.any ho I.free (by simp)
  exact I.step (g' := s.gens) (d' := s.drawn) (ch := []) (fun _ z => nomatch z) (fun b o _ hb _ e n => u.keep b o e n hb (by simp)) (fun b o _ hb _ e n => u.slot b o e n hb (by simp)) (fun b o _ e n => u.free b o e n (by simp)) (fun b o _ e => u.there b o e (by simp)) u.tups u.frzs u.tbls (fun m' hm => by
    obtain ⟨o', es', ep', ho', r'⟩ := hm
    rw [ho] at ho'; cases ho'
    exact ⟨_, es', ep', hL, r'⟩) hok I.bare
theorem Inv.call {g' : Array GenState} {t' : Nat} {d' : Drawn} {ch : List Addr} (I : Inv X pins σ H s) (u : Un (frs X.stack) ch H H' s.heap h') (hok : HOk X.prog X.w H' h') (hg : AllBare g')
    (hch : ∀ b ∈ ch, (b ∈ X.ex ∨ X.s₀.heap.objs.size ≤ b) ∧ b ≠ X.env.locals ∧ (∀ x c, X.env.cells.lookup x = some c → c ≠ b) ∧ ∀ p ∈ X.pn ++ pins, p.1 ≠ b) :
    Inv X pins σ H' { s with heap := h', gens := g', drawn := d', toks := t' } := by
  obtain ⟨m, ⟨o, es, ep, ho, r⟩, _⟩ := id I.loc
  obtain ⟨sl, hL⟩ := u.any ho I.free fun z => (hch _ z).2.1 rfl
  exact I.step (ch := ch) hch (fun b o hL hb hc e n => u.keep b o e n (fun z => (List.mem_cons.mp (I.stkSub b z)).elim hL hb) hc) (fun b o _ _ hc e n => u.any e n hc) (fun b o hc e n => u.free b o e n hc) (fun b o hc e => u.there b o e hc) u.tups u.frzs u.tbls (fun m' hm => by
    obtain ⟨o', es', ep', ho', r'⟩ := hm
    rw [ho] at ho'; cases ho'
    exact ⟨_, es', ep', hL, r'⟩) hok hg
theorem Inv.turned {t' : Nat} {it : Addr} (I : Inv X pins σ H s) (k : ∀ b o, b ≠ it → s.heap.get? b = some o → h'.get? b = some o) (hn : H it = none) (hL : it ≠ X.env.locals)
    (h1 : it ∈ X.ex ∨ X.s₀.heap.objs.size ≤ it) (h2 : ∀ x c, X.env.cells.lookup x = some c → c ≠ it) (h3 : ∀ p ∈ X.pn ++ pins, p.1 ≠ it) : Inv X pins σ H { s with heap := h', toks := t' } := by
  have nit : ∀ b u, H b = some u → b ≠ it := fun b u e z => by rw [z, hn] at e; cases e
  refine I.step (g' := s.gens) (d' := s.drawn) (ch := [it]) (fun b hb => ?_) (fun b o _ _ hc e _ => k b o (fun z => hc (by simp [z])) e) (fun b o _ _ hc e _ => ⟨o.slots, k b o (fun z => hc (by simp [z])) e⟩) (fun _ _ _ _ n => n)
    (fun b o hc e => ⟨o, k b o (fun z => hc (by simp [z])) e⟩) (fun _ _ e => e) (fun _ _ _ e => e) (fun b ps e => ⟨#[], by rw [e]; simp⟩) (fun m hm => ?_) (fun b u e => ?_) I.bare
  · have e : b = it := by simpa using hb
    subst e
    exact ⟨h1, hL, h2, h3⟩
  · obtain ⟨o, es, ep, ho, r⟩ := hm
    exact ⟨o, es, ep, k _ o (Ne.symm hL) ho, r⟩
  · refine (I.hok b u e).stay (fun c v hc q => k c v ?_ q) (fun _ q => q) fun _ _ q => q
    rcases hc with z | z
    · rw [z]; exact nit b u e
    · exact nit c _ z
theorem Inv.tok (I : Inv X pins σ H s) (t : Nat) : Inv X pins σ H { s with toks := t } := I.un (h' := s.heap) (t' := t) Un.refl I.hok
theorem Inv.kept {t' : Nat} (I : Inv X pins σ H s) (k : ∀ b u, s.heap.get? b = some u → h'.get? b = some u) : Inv X pins σ H { s with heap := h', toks := t' } := I.un (Un.kept k) (I.hok.kept k)
theorem Inv.laid {a : Addr} {o : HO} {t' : Nat} (I : Inv X pins σ H s) (k : ∀ b u, s.heap.get? b = some u → h'.get? b = some u) (hp : s.heap.objs.size ≤ a) (new : ObjOk X.prog X.w (upd H a o) h' a o) :
    Inv X pins σ (upd H a o) { s with heap := h', toks := t' } := I.un (Un.laid k hp (I.hok.fresh hp)) (I.hok.laid k hp new)
theorem Inv.write {x e : Addr} {o : HO} {t' : Nat} (I : Inv X pins σ H s) (mu : Mut (H x)) (he : e = x ∨ H e = some (.own x)) (k : ∀ b u, b ≠ e → s.heap.get? b = some u → h'.get? b = some u) (heo : ∃ u, h'.get? e = some u)
    (new : ObjOk X.prog X.w (upd H x o) h' x o) : Inv X pins σ (upd H x o) { s with heap := h', toks := t' } := I.un (Un.write mu he k heo) (I.hok.write mu he k heo new)
theorem Inv.weak {σ' : List (Option V)} (I : Inv X pins σ H s) (hl : σ'.length = σ.length) (w : ∀ (i : Nat) v, σ'[i]? = some (some v) → σ[i]? = some (some v)) : Inv X pins σ' H s :=
  ⟨I.ok, I.os, I.bare, I.base, let ⟨m, hn, hl'⟩ := I.loc; ⟨m, hn, fun i x v e1 e2 e3 => hl' i x v e1 (w i v e2) e3⟩, I.cell, I.free, I.freeC, I.pin, I.hok, hl.trans I.len⟩
theorem Inv.pins_of {pins' : List (Addr × Obj)} (I : Inv X pins σ H s) (h : ∀ p ∈ pins', s.heap.get? p.1 = some p.2 ∧ H p.1 = none ∧ p.1 ≠ X.env.locals ∧ p.1 ∉ X.fs ∧ ∀ v, p.2.data ≠ .cell v) : Inv X pins' σ H s :=
  ⟨I.ok, I.os, I.bare, I.base, I.loc, I.cell, I.free, I.freeC, fun p hp => (List.mem_append.mp hp).elim (fun z => I.pin p (List.mem_append_left _ z)) (h p), I.hok, I.len⟩
theorem nodup_ix {N : List Str} (hN : N.Nodup) {i j : Nat} {x : Str} (a : N[i]? = some x) (b : N[j]? = some x) : i = j := by
  obtain ⟨h1, e1⟩ := List.getElem?_eq_some_iff.mp a
  obtain ⟨h2, e2⟩ := List.getElem?_eq_some_iff.mp b
  exact (List.getElem_inj hN).mp (e1.trans e2.symm)
theorem store_ok2 {M : Model} {A : Around} {E : Value → Shared → Prop} {i : Nat} {x : Str} {v : V} {u : Value} {Q : Unit → Shared → Prop} (I : Inv X pins σ H s) (hN : X.N.Nodup) (hi : X.N[i]? = some x) (hx : Loc X.env.scope x) (r : RelV v u)
    (h : ∀ s', Inv X pins (σ.set i (some v)) H s' → (∃ a, Heap.SameBut a s.heap s'.heap ∧ (a = X.env.locals ∨ X.env.cells.lookup x = some a)) → Q () s') (hf : X.fn x = true ∨ X.env.scope.names.lookup x = some .local := by first | exact .inl rfl | exact .inr rfl | assumption) : wpAny M A (storeName X.env x u) Q E s := by
  obtain ⟨m, hn, hl⟩ := id I.loc
  have hcls : (X.env.scope.kind == .class || (X.env.scope.kind == .module && X.env.locals != X.env.globals)) = false := by rw [I.ok.kind]; rfl
  have hiσ : i < σ.length := by rw [I.len]; exact (List.getElem?_eq_some_iff.mp hi).1
  have cne := I.cne
  have tracked : ∀ {a : Addr} {h' : Heap}, (∃ o, s.heap.get? a = some o ∧ H a = none) → Heap.SameBut a s.heap h' → HOk X.prog X.w H h' := fun {a h'} ha hs b ob e => by
    obtain ⟨_, _, hfree⟩ := ha
    refine (I.hok b ob e).stay (fun c w' hc q => (hs.2 c ?_).trans q) (fun _ q => q) fun _ _ q => q
    rintro rfl
    rcases hc with rfl | hc
    · rw [hfree] at e; cases e
    · rw [hfree] at hc; cases hc
  rcases hx with hk | hk
  · refine wpAny_storeName_local hk hn (fun h' hn' hs => ?_) hcls
    obtain ⟨oL, _, _, hoL, _⟩ := id hn
    refine h _ ⟨I.ok, I.os, I.bare, ⟨fun b o e n hb hx => ?_, fun b o e n hb hx => ?_, I.base.free, fun b o e hx => ?_, I.base.tups, I.base.frzs, I.base.tbls⟩, ⟨_, hn', fun j y v' e1 e2 e3 => ?_⟩, fun y c e => ?_, I.free, I.freeC, fun p hp => ?_, tracked ⟨oL, hoL, I.free⟩ hs, by simpa using I.len⟩ ⟨_, hs, .inl rfl⟩
    · exact (hs.2 b (Nat.ne_of_lt (Nat.lt_of_lt_of_le (Heap.lt_size e) I.ok.above))).trans (I.base.keep b o e n hb hx)
    · obtain ⟨sl, e1⟩ := I.base.slot b o e n hb hx
      exact ⟨sl, (hs.2 b (Nat.ne_of_lt (Nat.lt_of_lt_of_le (Heap.lt_size e) I.ok.above))).trans e1⟩
    · obtain ⟨o', e1⟩ := I.base.there b o e hx
      exact ⟨o', (hs.2 b (Nat.ne_of_lt (Nat.lt_of_lt_of_le (Heap.lt_size e) I.ok.above))).trans e1⟩
    · by_cases hj : j = i
      · subst hj
        rw [hi] at e1; cases e1
        rw [List.getElem?_set_self hiσ] at e2
        cases e2
        exact ⟨u, r, .inl ⟨hk, by simp⟩⟩
      · rw [List.getElem?_set_ne (Ne.symm hj)] at e2
        obtain ⟨u', r', q⟩ := hl j y v' e1 e2 e3
        refine ⟨u', r', ?_⟩
        rcases q with ⟨k, e⟩ | ⟨k, c, e, z⟩
        · refine .inl ⟨k, ?_⟩
          have : y ≠ x := fun e => hj (nodup_ix hN e1 (e ▸ hi))
          simp [this, e]
        · exact .inr ⟨k, c, e, z.sameBut hs (cne y c e)⟩
    · obtain ⟨w', z⟩ := I.cell y c e
      exact ⟨w', z.sameBut hs (cne y c e)⟩
    · obtain ⟨e, n, ne, nf, d⟩ := I.pin p hp
      exact ⟨(hs.2 p.1 ne).trans e, n, ne, nf, d⟩
  · have hfn : X.fn x = true := by
      rcases hf with z | z
      · exact z
      · rw [z] at hk; cases hk
    obtain ⟨c, hc⟩ := I.ok.has x (.inl hk)
    obtain ⟨w', z⟩ := I.cell x c hc
    refine wpAny_storeName_cell I.ok.kind hk hc z (fun h' hc' hs => ?_)
    obtain ⟨oc, hoc, hocd⟩ := id z
    refine h { s with heap := h' } ⟨I.ok, I.os, I.bare, ⟨fun b o e n hb hx => ?_, fun b o e n hb hx => ?_, I.base.free, fun b o e hx => ?_, I.base.tups, I.base.frzs, I.base.tbls⟩, ⟨m, hn.sameBut hs (Ne.symm (cne x c hc)), fun j y v' e1 e2 e3 => ?_⟩, fun y c' e => ?_, I.free, I.freeC, fun p hp => ?_, tracked ⟨oc, hoc, I.freeC x c hc⟩ hs, by simpa using I.len⟩ ⟨c, hs, .inr hc⟩
    · exact (hs.2 b (Nat.ne_of_lt (Nat.lt_of_lt_of_le (Heap.lt_size e) (I.ok.cab x c hfn hc)))).trans (I.base.keep b o e n hb hx)
    · obtain ⟨sl, e1⟩ := I.base.slot b o e n hb hx
      exact ⟨sl, (hs.2 b (Nat.ne_of_lt (Nat.lt_of_lt_of_le (Heap.lt_size e) (I.ok.cab x c hfn hc)))).trans e1⟩
    · obtain ⟨o', e1⟩ := I.base.there b o e hx
      exact ⟨o', (hs.2 b (Nat.ne_of_lt (Nat.lt_of_lt_of_le (Heap.lt_size e) (I.ok.cab x c hfn hc)))).trans e1⟩
    · by_cases hj : j = i
      · subst hj
        rw [hi] at e1; cases e1
        rw [List.getElem?_set_self hiσ] at e2
        cases e2
        exact ⟨u, r, .inr ⟨.inl hk, c, hc, hc'⟩⟩
      · rw [List.getElem?_set_ne (Ne.symm hj)] at e2
        obtain ⟨u', r', q⟩ := hl j y v' e1 e2 e3
        refine ⟨u', r', ?_⟩
        rcases q with q | ⟨k, c', e, z'⟩
        · exact .inl q
        · refine .inr ⟨k, c', e, z'.sameBut hs ?_⟩
          rintro rfl
          exact hj (nodup_ix hN e1 (I.ok.inj _ _ _ e hc ▸ hi))
    · by_cases hcc : c' = c
      · subst hcc; exact ⟨_, hc'⟩
      · obtain ⟨w2, z2⟩ := I.cell y c' e
        exact ⟨w2, z2.sameBut hs hcc⟩
    · obtain ⟨e, n, ne, nf, d⟩ := I.pin p hp
      refine ⟨(hs.2 p.1 ?_).trans e, n, ne, nf, d⟩
      intro q
      rw [q, hoc] at e
      have q' : oc = p.2 := Option.some.inj e
      exact d w' (by rw [← q']; exact hocd)
theorem store_ok {M : Model} {A : Around} {E : Value → Shared → Prop} {i : Nat} {x : Str} {v : V} {u : Value} {Q : Unit → Shared → Prop} (I : Inv X pins σ H s) (hN : X.N.Nodup) (hi : X.N[i]? = some x) (hx : Loc X.env.scope x) (r : RelV v u)
    (h : ∀ s', Inv X pins (σ.set i (some v)) H s' → Q () s') (hf : X.fn x = true ∨ X.env.scope.names.lookup x = some .local := by first | exact .inl rfl | exact .inr rfl | assumption) : wpAny M A (storeName X.env x u) Q E s :=
  store_ok2 I hN hi hx r (fun s' I' _ => h s' I') hf
theorem Inv.call' {s' : Shared} {ch : List Addr} (I : Inv X pins σ H s) (ho : s'.os = s.os) (u : Un (frs X.stack) ch H H' s.heap s'.heap) (hok : HOk X.prog X.w H' s'.heap) (hg : AllBare s'.gens)
    (hch : ∀ b ∈ ch, (b ∈ X.ex ∨ X.s₀.heap.objs.size ≤ b) ∧ b ≠ X.env.locals ∧ (∀ x c, X.env.cells.lookup x = some c → c ≠ b) ∧ ∀ p ∈ X.pn ++ pins, p.1 ≠ b) : Inv X pins σ H' s' := by
  obtain ⟨h', g', d', t', o'⟩ := s'
  have e : o' = s.os := ho
  subst e
  exact I.call (g' := g') (t' := t') (d' := d') u hok hg hch
end
abbrev XK := Value → Option Addr → Hp → Prop
abbrev St := List (Option V)
abbrev VK := V → Hp → Prop
abbrev TE := St → Hp → VK → Prop
abbrev TT := St → Hp → (Bool → Hp → Prop) → Prop
abbrev TA := St → Hp → (List V → Hp → Prop) → Prop
structure Ends where
  nx : St → Hp → Prop
  rt : VK
  bk : St → Hp → Prop := fun _ _ => False
  ct : St → Hp → Prop := fun _ _ => False
abbrev TS := Ends → St → Hp → Prop
def EP (X : Cx) (pins : List (Addr × Obj)) (σ : St) (Q : VK) (u : Value) (s' : Shared) : Prop := ∃ v H', Inv X pins σ H' s' ∧ RelV v u ∧ Q v H'
def TP (X : Cx) (pins : List (Addr × Obj)) (σ : St) (Q : Bool → Hp → Prop) (b : Bool) (s' : Shared) : Prop := ∃ H', Inv X pins σ H' s' ∧ Q b H'
def AP (X : Cx) (pins : List (Addr × Obj)) (σ : St) (Q : List V → Hp → Prop) (us : List Value) (s' : Shared) : Prop := ∃ vs H', Inv X pins σ H' s' ∧ Vals vs us ∧ Q vs H'
def SP (X : Cx) (pins : List (Addr × Obj)) (D : Ends) (f : Flow) (s' : Shared) : Prop :=
  match f with
  | .next => ∃ σ' H', Inv X pins σ' H' s' ∧ D.nx σ' H'
  | .brk => ∃ σ' H', Inv X pins σ' H' s' ∧ D.bk σ' H'
  | .cont => ∃ σ' H', Inv X pins σ' H' s' ∧ D.ct σ' H'
  | .ret u => ∃ v σ' H', Inv X pins σ' H' s' ∧ RelV v u ∧ D.rt v H'
def PE (X : Cx) (e : Expr) (t : TE) : Prop :=
  ∀ (pins : List (Addr × Obj)) (s : Shared) (σ : St) (H : Hp) (Q : VK), Inv X pins σ H s → t σ H Q → wpAny (model X.prog X.w) X.A (eval e X.env) (EP X pins σ Q) X.xe s
def PT (X : Cx) (e : Expr) (t : TT) : Prop :=
  ∀ (pins : List (Addr × Obj)) (s : Shared) (σ : St) (H : Hp) (Q : Bool → Hp → Prop), Inv X pins σ H s → t σ H Q → wpAny (model X.prog X.w) X.A (isTrue e X.env (eval e X.env)) (TP X pins σ Q) X.xe s
def PW (X : Cx) (e : Expr) (t : TT) : Prop :=
  ∀ (whole : Sem Value) (pins : List (Addr × Obj)) (s : Shared) (σ : St) (H : Hp) (Q : Bool → Hp → Prop), Inv X pins σ H s → t σ H Q → wpAny (model X.prog X.w) X.A (isTrue e X.env whole) (TP X pins σ Q) X.xe s
theorem PW.pt {X : Cx} {e : Expr} {t : TT} (h : PW X e t) : PT X e t := h _
def PA (X : Cx) (es : List Expr) (t : TA) : Prop :=
  ∀ (pos : Pos) (pins : List (Addr × Obj)) (s : Shared) (σ : St) (H : Hp) (Q : List V → Hp → Prop), Inv X pins σ H s → t σ H Q → wpAny (model X.prog X.w) X.A (spliced (backTo pos (starEach es X.env))) (AP X pins σ Q) X.xe s
def PS (X : Cx) (st : Stmt) (t : TS) : Prop :=
  ∀ (pins : List (Addr × Obj)) (s : Shared) (σ : St) (H : Hp) (D : Ends), Inv X pins σ H s → t D σ H → wpAny (model X.prog X.w) X.A (exec st X.env) (SP X pins D) X.xe s
def PSs (X : Cx) (st : List Stmt) (t : TS) : Prop :=
  ∀ (pins : List (Addr × Obj)) (s : Shared) (σ : St) (H : Hp) (D : Ends), Inv X pins σ H s → t D σ H → wpAny (model X.prog X.w) X.A (execs st X.env) (SP X pins D) X.xe s
theorem thn {α : Type} {t : Sem α} {Q Q' : α → Shared → Prop} {M : Model} {A : Around} {E : Value → Shared → Prop} {s : Shared} (h : wpAny M A t Q E s) (hQ : ∀ a s, Q a s → Q' a s) : wpAny M A t Q' E s := wpAny_mono h hQ fun _ _ x => x
end L2
namespace L2
open PySem PySem.Spec PyProof.Rows
section
variable {X : Cx}
def tVar (i : Nat) : TE := fun σ H Q => ∃ v, σ[i]? = some (some v) ∧ Q v H
def tC (v : V) : TE := fun _ H Q => Q v H
theorem pe_var {i : Nat} {x : Str} {pos : Pos} (hN : X.N[i]? = some x) (hv : Vis X.env.scope x) (hd : (x == ("__debug__" : Str)) = false := by decide) (hcd : (x == ("__classdict__" : Str)) = false := by decide) : PE X (.Name x pos) (tVar i) := by
  intro pins s σ H Q I h
  obtain ⟨v, e, h⟩ := h
  obtain ⟨m, hn, hl⟩ := I.loc
  obtain ⟨u, r, l⟩ := hl i x v hN e hv
  have fin : EP X pins σ Q u s := ⟨v, H, I, r, h⟩
  rcases l with ⟨hk, hm⟩ | ⟨hk, c, hc, hcell⟩
  · exact wpAny_Name (wpAny_loadName_local I.ok.kind hk hn hm fin) hd
  · rcases hk with hk | hk
    · exact wpAny_Name (wpAny_loadName_cell I.ok.kind hk hc hcell fin) hd
    · exact wpAny_Name (wpAny_loadName_free I.ok.kind hk hc hcell fin hcd) hd
theorem pe_int {i j pos} : PE X (.Constant (.int i) j pos) (tC (.int i)) := fun _ _ _ H _ I h => wpAny_Constant_int ⟨.int i, H, I.tok _, ⟨_, rfl⟩, h⟩
theorem pe_bl {b j pos} : PE X (.Constant (.bool b) j pos) (tC (.bl b)) := fun _ _ _ H _ I h => Constant_bool ⟨.bl b, H, I, rfl, h⟩
theorem pe_non {j pos} : PE X (.Constant .none j pos) (tC .non) := fun _ _ _ H _ I h => Constant_none ⟨.non, H, I, rfl, h⟩
theorem pe_str {x j pos} : PE X (.Constant (.str x) j pos) (tC (.str x)) := fun _ _ _ H _ I h => Calls.Constant_str ⟨.str x, H, I.tok _, ⟨_, rfl⟩, h⟩
def Gl (X : Cx) (x : Str) : Prop := X.env.kindOf x = some .globalImplicit
theorem ld_glob {E : Value → Shared → Prop} {pins : List (Addr × Obj)} {s : Shared} {σ : St} {H : Hp} {x : Str} {u : Value} {pos : Pos} {Q : Value → Shared → Prop} (I : Inv X pins σ H s) (hg : Gl X x) (hm : X.mg x = some u) (h : Q u s)
    (hd : (x == ("__debug__" : Str)) = false := by decide) : wpAny (model X.prog X.w) X.A (eval (.Name x pos) X.env) Q E s :=
  Calls.Name_function_global I.ok.kind hg (Calls.loadGlobal_global (by rw [I.ok.glob]; exact I.mod.glob.keeps I.bk) hm h) hd
theorem ld_blt {E : Value → Shared → Prop} {pins : List (Addr × Obj)} {s : Shared} {σ : St} {H : Hp} {x : Str} {u : Value} {pos : Pos} {Q : Value → Shared → Prop} (I : Inv X pins σ H s) (hg : Gl X x) (hm : X.mg x = none) (hv : bootBuiltins x = some u) (h : Q u s)
    (hn : x ≠ "__name__" := by decide) (hd : (x == ("__debug__" : Str)) = false := by decide) : wpAny (model X.prog X.w) X.A (eval (.Name x pos) X.env) Q E s := by
  obtain ⟨mb, h1, h2⟩ := I.mod.blt
  exact Calls.Name_function_global I.ok.kind hg (Calls.loadGlobal_builtin (by rw [I.ok.glob]; exact I.mod.glob.keeps I.bk) hm (by rw [I.ok.blt]; exact h1.keeps I.bk) ((h2 x hn).trans hv) h) hd
theorem pe_glob {x : Str} {v : V} {u : Value} {pos : Pos} (hg : Gl X x) (hm : X.mg x = some u) (r : RelV v u) (hd : (x == ("__debug__" : Str)) = false := by decide) : PE X (.Name x pos) (tC v) :=
  fun _ _ _ H _ I h => ld_glob I hg hm ⟨v, H, I, r, h⟩ hd
theorem pe_bltn {x : Str} {v : V} {u : Value} {pos : Pos} (hg : Gl X x) (hm : X.mg x = none) (hv : bootBuiltins x = some u) (r : RelV v u) (hn : x ≠ "__name__" := by decide) (hd : (x == ("__debug__" : Str)) = false := by decide) : PE X (.Name x pos) (tC v) :=
  fun _ _ _ H _ I h => ld_blt I hg hm hv ⟨v, H, I, r, h⟩ hn hd
variable {a b : Expr} {ta tb : TE} {pos : Pos}
def tB (t : TE) : TT := fun σ H Q => t σ H fun x H1 => ∃ c, x = .bl c ∧ Q c H1
theorem pt_val {e : Expr} {t : TE} (h : PE X e t) (he : ∀ whole, isTrue e X.env whole = (do let v ← whole; standAt e.pos; holding [v] (truthy v)) := by intro _; rfl) : PT X e (tB t) := by
  intro pins s σ H Q I hw
  refine isTrue_plain (thn (h pins s σ H _ I hw) fun v s1 ⟨x, H1, I1, r1, q1⟩ => ?_) (he _)
  obtain ⟨d, rfl, q⟩ := q1
  cases r1
  exact wpAny_truthy_bool ⟨H1, I1, q⟩
variable {tA tB' : TT} {rest : List Expr}
def tAnd (t u : TT) : TT := fun σ H Q => t σ H fun c H1 => if c = true then u σ H1 Q else Q false H1
def tOr (t u : TT) : TT := fun σ H Q => t σ H fun c H1 => if c = true then Q true H1 else u σ H1 Q
def tNot (t : TT) : TT := fun σ H Q => t σ H fun c H1 => Q (!c) H1
theorem pw_and1 (ha : PT X a tA) : PW X (.BoolOp .And [a] pos) tA := by
  intro wh pins s σ H Q I h
  refine isTrue_and (thn (ha pins s σ H Q I h) fun c s1 e => ?_)
  cases c with
  | true => exact isTrue_and_nil e
  | false => exact e
theorem pw_or1 (ha : PT X a tA) : PW X (.BoolOp .Or [a] pos) tA := by
  intro wh pins s σ H Q I h
  refine isTrue_or (thn (ha pins s σ H Q I h) fun c s1 e => ?_)
  cases c with
  | false => exact isTrue_or_nil e
  | true => exact e
theorem pw_and (ha : PT X a tA) (hb : PW X (.BoolOp .And (b :: rest) pos) tB') : PW X (.BoolOp .And (a :: b :: rest) pos) (tAnd tA tB') := by
  intro wh pins s σ H Q I h
  refine isTrue_and (thn (ha pins s σ H _ I h) fun c s1 ⟨H1, I1, q1⟩ => ?_)
  cases c with
  | true => exact hb wh pins s1 σ H1 Q I1 q1
  | false => exact ⟨H1, I1, q1⟩
theorem pw_or (ha : PT X a tA) (hb : PW X (.BoolOp .Or (b :: rest) pos) tB') : PW X (.BoolOp .Or (a :: b :: rest) pos) (tOr tA tB') := by
  intro wh pins s σ H Q I h
  refine isTrue_or (thn (ha pins s σ H _ I h) fun c s1 ⟨H1, I1, q1⟩ => ?_)
  cases c with
  | true => exact ⟨H1, I1, q1⟩
  | false => exact hb wh pins s1 σ H1 Q I1 q1
theorem pt_not (ha : PT X a tA) : PT X (.UnaryOp .Not a pos) (tNot tA) := by
  intro pins s σ H Q I h
  exact isTrue_not (ha pins s σ H (fun c H1 => Q (!c) H1) I h)
def tAndV (ta tb : TE) : TE := fun σ H Q => ta σ H fun x H1 => ∃ c, x = .bl c ∧ if c = true then tb σ H1 Q else Q (.bl false) H1
def tOrV (ta tb : TE) : TE := fun σ H Q => ta σ H fun x H1 => ∃ c, x = .bl c ∧ if c = true then Q (.bl true) H1 else tb σ H1 Q
def tNotV (ta : TE) : TE := fun σ H Q => ta σ H fun x H1 => ∃ c, x = .bl c ∧ Q (.bl (!c)) H1
theorem pe_one {op} {t : TE} (h : PE X a t) : PE X (.BoolOp op [a] pos) t := fun pins s σ H Q I hw => BoolOp_one (h pins s σ H Q I hw)
theorem pe_and (ha : PE X a ta) (hb : PE X (.BoolOp .And (b :: rest) pos) tb) : PE X (.BoolOp .And (a :: b :: rest) pos) (tAndV ta tb) := by
  intro pins s σ H Q I h
  refine BoolOp_and (thn (ha pins s σ H _ I h) fun v s1 ⟨x, H1, I1, r1, q1⟩ => ?_)
  obtain ⟨c, rfl, q1⟩ := q1
  cases r1
  refine wpAny_truthy_bool ?_
  cases c with
  | true => exact hb pins s1 σ H1 Q I1 q1
  | false => exact ⟨.bl false, H1, I1, rfl, q1⟩
theorem pe_or (ha : PE X a ta) (hb : PE X (.BoolOp .Or (b :: rest) pos) tb) : PE X (.BoolOp .Or (a :: b :: rest) pos) (tOrV ta tb) := by
  intro pins s σ H Q I h
  refine BoolOp_or (thn (ha pins s σ H _ I h) fun v s1 ⟨x, H1, I1, r1, q1⟩ => ?_)
  obtain ⟨c, rfl, q1⟩ := q1
  cases r1
  refine wpAny_truthy_bool ?_
  cases c with
  | false => exact hb pins s1 σ H1 Q I1 q1
  | true => exact ⟨.bl true, H1, I1, rfl, q1⟩
theorem pe_not (ha : PE X a ta) : PE X (.UnaryOp .Not a pos) (tNotV ta) := by
  intro pins s σ H Q I h
  refine UnaryOp_ (thn (ha pins s σ H _ I h) fun v s1 ⟨x, H1, I1, r1, q1⟩ => ?_)
  obtain ⟨c, rfl, q1⟩ := q1
  cases r1
  exact not_of (wpAny_truthy_bool ⟨.bl (!c), H1, I1, rfl, q1⟩)
end
end L2
namespace L2
open PySem PySem.Spec PyProof.Rows
def SqL (K : PySem.W.Frag) (H : Hp) (a : Addr) (xs : List V) : Prop :=
  Rd H a (.lst xs) ∨
    ∃ (o : Obj) (its : Array Value) (n : Nat), K.lookup a = some o ∧ o.cls = .type "list" ∧ o.dict = none ∧ o.data = .seq its n ∧ its.size ≤ sizeLine ∧ Vals xs its.toList
def SqT (K : PySem.W.Frag) (H : Hp) (a : Addr) (xs : List V) : Prop :=
  Rd H a (.tup xs) ∨
    ∃ (o : Obj) (its : Array Value) (n : Nat), K.lookup a = some o ∧ o.cls = .type "tuple" ∧ o.data = .seq its n ∧ its.size ≤ sizeLine ∧ Vals xs its.toList
def absV : Value → Option V
  | .none => some .non
  | .bool b => some (.bl b)
  | .int i _ => some (.int i)
  | .str x _ => some (.str x)
  | .bytes b _ => some (.byt b)
  | .float b _ => some (.flt b)
  | .ref a => some (.ref a)
  | .type n => some (.ty n)
  | _ => none
theorem RelV.abs {x : V} {u : Value} (r : RelV x u) : absV u = some x := by
  cases x with
  | non => cases r; rfl
  | bl _ => cases r; rfl
  | int _ => obtain ⟨t, rfl⟩ := r; rfl
  | str _ => obtain ⟨t, rfl⟩ := r; rfl
  | byt _ => obtain ⟨t, rfl⟩ := r; rfl
  | flt _ => obtain ⟨t, rfl⟩ := r; rfl
  | ref _ => cases r; rfl
  | ty _ => cases r; rfl
theorem RelV.inj {x y : V} {u : Value} (r : RelV x u) (q : RelV y u) : x = y := Option.some.inj (r.abs.symm.trans q.abs)
theorem Vals.inj : ∀ {xs ys : List V} {us : List Value}, Vals xs us → Vals ys us → xs = ys
  | _, _, _, .nil, .nil => rfl
  | _, _, _, .cons r t, .cons r' t' => by rw [r.inj r', Vals.inj t t']
section
variable {X : Cx} {pins : List (Addr × Obj)} {σ : St} {H : Hp} {s : Shared} {a : Addr} {xs ys : List V}
theorem SqL.of {K : PySem.W.Frag} (h : H a = some (.lst xs)) : SqL K H a xs := .inl (.inl h)
theorem SqT.of {K : PySem.W.Frag} (h : H a = some (.tup xs)) : SqT K H a xs := .inl (.inl h)
theorem Inv.list (I : Inv X pins σ H s) (h : SqL X.K H a xs) : ∃ its : List Value, Vals xs its ∧ PlainL s.heap a its.toArray ∧ xs.length ≤ sizeLine := by
  rcases h with h | ⟨o, its, n, hk, hc, hd, hs, hz, r⟩
  · obtain ⟨z, its, n, r, e⟩ := h.ok I.hok
    exact ⟨its, r, ⟨_, n, e, rfl, rfl, rfl⟩, z⟩
  · refine ⟨its.toList, r, ⟨o, n, I.kIn a o hk, hc, hd, by simpa using hs⟩, ?_⟩
    have e := r.length
    simp only [Array.length_toList] at e
    omega
theorem Inv.tuple (I : Inv X pins σ H s) (h : SqT X.K H a xs) : ∃ its : List Value, Vals xs its ∧ IsTup s.heap a its.toArray ∧ xs.length ≤ sizeLine := by
  rcases h with h | ⟨o, its, n, hk, hc, hs, hz, r⟩
  · obtain ⟨z, its, r, p⟩ := h.ok I.hok
    exact ⟨its, r, p, z⟩
  · refine ⟨its.toList, r, ⟨o, I.kIn a o hk, hc, n, by simpa using hs⟩, ?_⟩
    have e := r.length
    simp only [Array.length_toList] at e
    omega
theorem Inv.list_inj (I : Inv X pins σ H s) (h : SqL X.K H a xs) (h' : SqL X.K H a ys) : xs = ys := by
  obtain ⟨its, r, ⟨o, n, e, _, _, d⟩, _⟩ := I.list h
  obtain ⟨its', r', ⟨o', n', e', _, _, d'⟩, _⟩ := I.list h'
  rw [e] at e'; cases e'
  rw [d] at d'
  injection d' with d1 _
  have : its = its' := by simpa using congrArg Array.toList d1
  subst this
  exact r.inj r'
theorem Inv.tuple_inj (I : Inv X pins σ H s) (h : SqT X.K H a xs) (h' : SqT X.K H a ys) : xs = ys := by
  obtain ⟨its, r, ⟨o, e, _, n, d⟩, _⟩ := I.tuple h
  obtain ⟨its', r', ⟨o', e', _, n', d'⟩, _⟩ := I.tuple h'
  rw [e] at e'; cases e'
  rw [d] at d'
  injection d' with d1 _
  have : its = its' := by simpa using congrArg Array.toList d1
  subst this
  exact r.inj r'
end
abbrev Cx.wish (X : Cx) (E : Value → Shared → Prop) : Cx := { X with xe := E }
abbrev Cx.nox (X : Cx) : Cx := X.wish fun _ _ => False
theorem Cx.Ok.wish {X : Cx} (ok : X.Ok) (E : Value → Shared → Prop) : (X.wish E).Ok :=
  ⟨ok.mod, ok.kind, ok.glob, ok.blt, ok.above, ok.inj, ok.has, ok.cab, ok.hd, ok.frames, ok.stk, ok.exf, ok.bs, ok.bsz, ok.noex, ok.exfs, ok.funs, ok.frf⟩
theorem Cx.Ok.unwish {X : Cx} {E : Value → Shared → Prop} (ok : (X.wish E).Ok) : X.Ok :=
  ⟨ok.mod, ok.kind, ok.glob, ok.blt, ok.above, ok.inj, ok.has, ok.cab, ok.hd, ok.frames, ok.stk, ok.exf, ok.bs, ok.bsz, ok.noex, ok.exfs, ok.funs, ok.frf⟩
section
variable {X : Cx} {pins : List (Addr × Obj)} {σ : St} {H : Hp} {s : Shared} {E : Value → Shared → Prop}
theorem Inv.wish (I : Inv X pins σ H s) (E : Value → Shared → Prop) : Inv (X.wish E) pins σ H s := ⟨I.ok.wish E, I.os, I.bare, I.base, I.loc, I.cell, I.free, I.freeC, I.pin, I.hok, I.len⟩
theorem Inv.unwish (I : Inv (X.wish E) pins σ H s) : Inv X pins σ H s := ⟨I.ok.unwish, I.os, I.bare, I.base, I.loc, I.cell, I.free, I.freeC, I.pin, I.hok, I.len⟩
theorem SP.unwish {D : Ends} {f : Flow} {s' : Shared} (h : SP (X.wish E) pins D f s') : SP X pins D f s' := by
  cases f with
  | next => obtain ⟨σ', H', I, q⟩ := h; exact ⟨σ', H', I.unwish, q⟩
  | brk => obtain ⟨σ', H', I, q⟩ := h; exact ⟨σ', H', I.unwish, q⟩
  | cont => obtain ⟨σ', H', I, q⟩ := h; exact ⟨σ', H', I.unwish, q⟩
  | ret u => obtain ⟨v, σ', H', I, r, q⟩ := h; exact ⟨v, σ', H', I.unwish, r, q⟩
theorem PE.nox {e : Expr} {t : TE} (h : PE X.nox e t) : PE X e t := fun pins s σ H Q I hw =>
  wpAny_mono (h pins s σ H Q (I.wish _) hw) (fun _ _ ⟨v, H', I', r, q⟩ => ⟨v, H', I'.unwish, r, q⟩) fun _ _ z => False.elim z
theorem PT.nox {e : Expr} {t : TT} (h : PT X.nox e t) : PT X e t := fun pins s σ H Q I hw =>
  wpAny_mono (h pins s σ H Q (I.wish _) hw) (fun _ _ ⟨H', I', q⟩ => ⟨H', I'.unwish, q⟩) fun _ _ z => False.elim z
theorem PSs.nox {st : List Stmt} {t : TS} (h : PSs X.nox st t) : PSs X st t := fun pins s σ H D I hw =>
  wpAny_mono (h pins s σ H D (I.wish _) hw) (fun _ _ q => q.unwish) fun _ _ z => False.elim z
end
section
variable {X : Cx} {st : Stmt} {rest : List Stmt} {t u : TS} {e : Expr} {te : TE} {pos : Pos}
def tNext : TS := fun D σ H => D.nx σ H
def tSeq (t u : TS) : TS := fun D σ H => t { D with nx := u D } σ H
theorem pss_nil : PSs X [] tNext := fun _ _ σ H _ I h => wpAny_execs_nil ⟨σ, H, I, h⟩
theorem pss_cons (h1 : PS X st t) (h2 : PSs X rest u) : PSs X (st :: rest) (tSeq t u) := by
  intro pins s σ H D I h
  refine wpAny_execs_cons (thn (h1 pins s σ H { D with nx := u D } I h) fun f s1 q => ?_)
  cases f with
  | next =>
    obtain ⟨σ', H', I', q⟩ := q
    exact h2 pins s1 σ' H' D I' q
  | ret v => exact q
  | brk => exact q
  | cont => exact q
theorem pss_one (h1 : PS X st t) : PSs X [st] t := by
  intro pins s σ H D I h
  refine wpAny_execs_cons (thn (h1 pins s σ H D I h) fun f s1 q => ?_)
  cases f with
  | next => exact wpAny_execs_nil q
  | ret v => exact q
  | brk => exact q
  | cont => exact q
theorem Inv.quiet {pins : List (Addr × Obj)} {σ : St} {H : Hp} {s : Shared} (I : Inv X pins σ H s) : interactive X.env = false := by simp [interactive, I.ok.kind]
def tDrop (te : TE) : TS := fun D σ H => te σ H fun _ H1 => D.nx σ H1
theorem ps_expr (he : PE X e te) (hs : swapsWith e none pos.line X.env = pure false := by rfl) : PS X (.Expr e pos) (tDrop te) := by
  intro pins s σ H D I h
  exact wpAny_Expr_any (thn (he pins s σ H _ I h) fun v s1 ⟨x, H1, I1, r1, q1⟩ => ⟨σ, H1, I1, q1⟩) I.quiet hs
def tRet (te : TE) : TS := fun D σ H => te σ H D.rt
theorem ps_ret (he : PE X e te) : PS X (.Return (some e) pos) (tRet te) := by
  intro pins s σ H D I h
  exact wpAny_Return_some (thn (he pins s σ H _ I h) fun v s1 ⟨x, H1, I1, r1, q1⟩ => ⟨x, σ, H1, I1, r1, q1⟩)
def tIfS (c : TT) (t u : TS) : TS := fun D σ H => c σ H fun b H1 => if b = true then t D σ H1 else u D σ H1
theorem ps_if {c : Expr} {a b : List Stmt} {tc : TT} (hc : PT X c tc) (ha : PSs X a t) (hb : PSs X b u) : PS X (.If c a b pos) (tIfS tc t u) := by
  intro pins s σ H D I h
  refine wpAny_If (thn (hc pins s σ H _ I h) fun d s1 ⟨H1, I1, q1⟩ => ?_)
  cases d with
  | true => exact ha pins s1 σ H1 D I1 q1
  | false => exact hb pins s1 σ H1 D I1 q1
end
abbrev TG := V → St → Hp → (St → Hp → Prop) → Prop
abbrev TGs := List V → St → Hp → (St → Hp → Prop) → Prop
def PG (X : Cx) (target : Expr) (t : TG) : Prop :=
  ∀ (pins : List (Addr × Obj)) (s : Shared) (σ : St) (H : Hp) (v : V) (u : Value) (Q : St → Hp → Prop), Inv X pins σ H s → RelV v u → t v σ H Q →
    wpAny (model X.prog X.w) X.A (assign target X.env u) (fun _ s' => ∃ σ' H', Inv X pins σ' H' s' ∧ Q σ' H') X.xe s
def PGs (X : Cx) (ts : List Expr) (t : TGs) : Prop :=
  ∀ (pins : List (Addr × Obj)) (s : Shared) (σ : St) (H : Hp) (vs : List V) (us : List Value) (Q : St → Hp → Prop), Inv X pins σ H s → Vals vs us → t vs σ H Q →
    wpAny (model X.prog X.w) X.A (assignInOrder ((assignEach ts X.env).map (·.2)) us) (fun _ s' => ∃ σ' H', Inv X pins σ' H' s' ∧ Q σ' H') X.xe s
abbrev TSet := V → V → V → Hp → (Hp → Prop) → Prop
def PSet (X : Cx) (t : TSet) : Prop :=
  ∀ (pins : List (Addr × Obj)) (s : Shared) (σ : St) (H : Hp) (o i v : V) (ov iv u : Value) (Q : Hp → Prop), Inv X pins σ H s → RelV o ov → RelV i iv → RelV v u → t o i v H Q →
    wpAny (model X.prog X.w) X.A (setItem ov iv u) (fun _ s' => ∃ H', Inv X pins σ H' s' ∧ Q H') X.xe s
section
variable {X : Cx} {pos : Pos}
def gName (i : Nat) : TG := fun v σ H Q => Q (σ.set i (some v)) H
theorem pg_name {i : Nat} {x : Str} (hN : X.N.Nodup) (hi : X.N[i]? = some x) (hx : Loc X.env.scope x) (hf : X.fn x = true ∨ X.env.scope.names.lookup x = some .local := by first | exact .inl rfl | exact .inr rfl | assumption) : PG X (.Name x pos) (gName i) := by
  intro pins s σ H v u Q I r h
  exact wpAny_assign_Name (store_ok I hN hi hx r (fun s' I' => ⟨_, H, I', h⟩) hf)
def gNil : TGs := fun vs σ H Q => vs = [] ∧ Q σ H
def gCons (t : TG) (u : TGs) : TGs := fun vs σ H Q => ∃ v r, vs = v :: r ∧ t v σ H fun σ' H' => u r σ' H' Q
theorem pgs_nil : PGs X [] gNil := by
  intro pins s σ H vs us Q I r h
  obtain ⟨e, h⟩ := h
  subst e
  cases r
  exact assignInOrder_nil ⟨σ, H, I, h⟩
theorem pgs_cons {e : Expr} {es : List Expr} {t : TG} {u : TGs} (h1 : PG X e t) (h2 : PGs X es u)
    (hs : (assignEach (e :: es) X.env).map (·.2) = assign e X.env :: (assignEach es X.env).map (·.2) := by rfl) : PGs X (e :: es) (gCons t u) := by
  intro pins s σ H vs us Q I r h
  obtain ⟨v, vr, e1, h⟩ := h
  subst e1
  cases r with
  | cons r rr =>
    rw [hs]
    refine assignInOrder_cons (thn (h1 pins s σ H _ _ _ I r h) fun _ s1 ⟨σ1, H1, I1, q1⟩ => ?_)
    exact h2 pins s1 σ1 H1 _ _ Q I1 rr q1
def gTup (K : PySem.W.Frag) (n : Nat) (t : TGs) : TG := fun v σ H Q => ∃ a xs, v = .ref a ∧ SqT K H a xs ∧ xs.length = n ∧ t xs σ H Q
theorem pg_tup {es : List Expr} {k : Nat} {t : TGs} {n : Nat} (hc : X.calm = true) (h : PGs X es t)
    (hn : (assignEach es X.env).length = n := by rfl) (hst : (assignEach es X.env).findIdx? (·.1) = none := by rfl) : PG X (.Tuple es k pos) (gTup X.K n t) := by
  intro pins s σ H v u Q I r hw
  obtain ⟨a, xs, e1, hq, hl, hw⟩ := hw
  subst e1
  cases r
  obtain ⟨its, rv, ht, hz⟩ := I.tuple hq
  refine assign_Tuple_tuple (I.ok.hd hc) ht (by simp [hn, ← hl, rv.length]) hst fun h' hx => ?_
  have I1 : Inv X pins σ H { s with heap := h' } := I.kept (t' := s.toks) fun b o e => hx b o (Nat.ne_of_lt (Heap.lt_size e)) e
  exact h pins _ σ H xs _ Q I1 (by simpa using rv) hw
def gSub (to ti : TE) (t : TSet) : TG := fun v σ H Q => to σ H fun o H1 => ti σ H1 fun i H2 => t o i v H2 fun H3 => Q σ H3
theorem pg_sub {o i : Expr} {to ti : TE} {t : TSet} (ho : PE X o to) (hi : PE X i ti) (hs : PSet X t)
    (ha : ∀ v, assign (.Subscript o i pos) X.env v = (do
      let ov ← holding [v] (eval o X.env)
      let iv ← holding [v, ov] (eval i X.env)
      standAt pos
      holding [v, ov, iv] (setItem ov iv v)
      release [v, ov, iv] []) := by intro _; rfl) : PG X (.Subscript o i pos) (gSub to ti t) := by
  intro pins s σ H v u Q I r h
  rw [ha]
  refine wpAny_bind (wpAny_holding (thn (ho pins s σ H _ I h) fun ov s1 ⟨x, H1, I1, r1, q1⟩ => ?_))
  refine wpAny_bind (wpAny_holding (thn (hi pins s1 σ H1 _ I1 q1) fun iv s2 ⟨y, H2, I2, r2, q2⟩ => ?_))
  refine wpAny_bind (wpAny_standAt (wpAny_bind (wpAny_holding (thn (hs pins s2 σ H2 x y v ov iv u _ I2 r1 r2 r q2) fun _ s3 ⟨H3, I3, q3⟩ => ?_))))
  exact wpAny_release ⟨σ, H3, I3, q3⟩
def tAsg (te : TE) (g : TG) : TS := fun D σ H => te σ H fun x H1 => g x σ H1 D.nx
theorem ps_asg {tg e : Expr} {te : TE} {g : TG} (he : PE X e te) (hg : PG X tg g) (hs : swapsWithSole [tg] e pos.line X.env = pure false := by rfl) (hw : swappedStores [tg] e X.env = pure none := by rfl)
    (h1 : (assignEach [tg] X.env).map (·.2) = [assign tg X.env] := by rfl) : PS X (.Assign [tg] e pos) (tAsg te g) := by
  intro pins s σ H D I h
  refine wpAny_Assign_stores (thn (he pins s σ H _ I h) fun v s1 ⟨x, H1, I1, r1, q1⟩ => ?_) hs hw
  rw [h1]
  exact thn (hg pins s1 σ H1 x v _ I1 r1 q1) fun _ s2 q => q
theorem ps_set {i : Nat} {x : Str} {e : Expr} {te : TE} {pos' : Pos} (hN : X.N.Nodup) (hi : X.N[i]? = some x) (hx : Loc X.env.scope x) (he : PE X e te) (hs : swapsWith e (some (.Name x pos')) pos.line X.env = pure false := by rfl) (hf : X.fn x = true ∨ X.env.scope.names.lookup x = some .local := by first | exact .inl rfl | exact .inr rfl | assumption) :
    PS X (.Assign [.Name x pos'] e pos) (tAsg te (gName i)) := by
  intro pins s σ H D I h
  refine wpAny_Assign_Name (thn (he pins s σ H _ I h) fun v s1 ⟨y, H1, I1, r1, q1⟩ => ?_) hs
  exact store_ok I1 hN hi hx r1 (fun s2 I2 => ⟨_, H1, I2, q1⟩) hf
end
section
variable {X : Cx} {pos : Pos}
def tWhile (c : TT) (tb : TS) : TS := fun D σ H => ∃ W : Nat → St → Hp → Prop, (∃ m, W m σ H) ∧ ∀ m σ H, W m σ H →
  c σ H fun b H1 => if b = true then ∃ N : St → Hp → Prop, (∀ σ' H', N σ' H' → ∃ m', m' < m ∧ W m' σ' H') ∧ tb { D with nx := N, ct := N, bk := D.nx } σ H1 else D.nx σ H1
theorem ps_while {c : Expr} {body : List Stmt} {tc : TT} {tb : TS} (hp : PassesOwn (model X.prog X.w) X.A X.env X.xe) (hc : PT X c tc) (hb : PSs X body tb) : PS X (.While c body [] pos) (tWhile tc tb) := by
  intro pins s σ H D I h
  obtain ⟨W, ⟨m0, w0⟩, turn⟩ := h
  refine wpAny_While (codeAny_whileLoop (fun n s' => ∃ σ' H', Inv X pins σ' H' s' ∧ W n σ' H') ?_ m0 ⟨σ, H, I, w0⟩)
  rintro n s1 ⟨σ1, H1, I1, w1⟩
  refine wpAny_passesOwn hp (thn (hc pins s1 σ1 H1 _ I1 (turn n σ1 H1 w1)) fun b s2 ⟨H2, I2, q2⟩ => ?_)
  cases b with
  | true =>
    obtain ⟨N, hN, q2⟩ := q2
    rw [if_pos rfl]
    refine wpAny_passesOwn hp (thn (hb pins s2 σ1 H2 _ I2 q2) fun f s3 q3 => ?_)
    cases f with
    | next =>
      obtain ⟨σ3, H3, I3, n3⟩ := q3
      obtain ⟨m', hm, w3⟩ := hN σ3 H3 n3
      exact ⟨m', hm, σ3, H3, I3, w3⟩
    | cont =>
      obtain ⟨σ3, H3, I3, n3⟩ := q3
      obtain ⟨m', hm, w3⟩ := hN σ3 H3 n3
      exact ⟨m', hm, σ3, H3, I3, w3⟩
    | brk => exact q3
    | ret v => exact q3
  | false =>
    rw [if_neg Bool.false_ne_true]
    exact wpAny_execs_nil ⟨σ1, H2, I2, q2⟩
end
structure It where
  go : Nat → Hp → Prop
  yld : Nat → Hp → V → Hp → Prop
  stop : Nat → Hp → Prop
def FpOk (X : Cx) (pins : List (Addr × Obj)) (H : Hp) (b : Addr) : Prop :=
  H b = none ∧ b ≠ X.env.locals ∧ b ∉ X.fs ∧ (b ∈ X.ex ∨ X.s₀.heap.objs.size ≤ b) ∧ (∀ x c, X.env.cells.lookup x = some c → c ≠ b) ∧ ∀ p ∈ X.pn ++ pins, p.1 ≠ b
theorem Inv.fpOk {X : Cx} {pins : List (Addr × Obj)} {σ : St} {H H' : Hp} {s : Shared} {b : Addr} (I : Inv X pins σ H s) (hb : s.heap.objs.size ≤ b) (hn : H' b = none) : FpOk X pins H' b := by
  refine ⟨hn, Nat.ne_of_gt (Nat.lt_of_lt_of_le I.lt hb), I.nofs hb, .inr (Nat.le_trans I.sz hb), fun x c e z => ?_, fun p hp z => ?_⟩
  · obtain ⟨v, q⟩ := I.cell x c e
    exact absurd (Nat.lt_of_lt_of_le q.lt (by rw [z]; exact hb)) (Nat.lt_irrefl _)
  · exact absurd (Nat.lt_of_lt_of_le (Heap.lt_size (I.pin p hp).1) (by rw [z]; exact hb)) (Nat.lt_irrefl _)
structure Turn (P : Program) (w : World) (K : PySem.W.Frag) (tg : Expr) (J : It) (fp : List Addr) (it : Addr) (tn : Nat → Heap → Prop) : Prop where
  mem : it ∈ fp
  obj : ∀ i h, tn i h → ∀ b ∈ fp, ∃ o, h.get? b = some o ∧ ∀ v, o.data ≠ .cell v
  keep : ∀ i h h', tn i h → (∀ b ∈ fp, ∀ o, h.get? b = some o → h'.get? b = some o) → tn i h'
  item : ∀ (X : Cx), X.prog = P → X.w = w → X.K = K → X.calm = true → ∀ (i : Nat) (pins : List (Addr × Obj)) (s : Shared) (σ : St) (H : Hp) (E : Value → Shared → Prop), Inv X pins σ H s → (∀ b ∈ fp, FpOk X pins H b) → tn i s.heap → J.go i H →
    wpAny (model P w) X.A (pyNext (.ref it)) (fun r s1 => ∃ u, r = some u ∧
      wpAny (model P w) X.A (letOwnedTupleGo tg (.ref it) u) (fun _ s2 => ∃ x H', Inv X pins σ H' s2 ∧ RelV x u ∧ J.yld i H x H' ∧ tn (i + 1) s2.heap ∧ ∀ b ∈ fp, H' b = none) E s1) E s
  done : ∀ (X : Cx), X.prog = P → X.w = w → X.K = K → X.calm = true → ∀ (i : Nat) (pins : List (Addr × Obj)) (s : Shared) (σ : St) (H : Hp) (E : Value → Shared → Prop), Inv X pins σ H s → (∀ b ∈ fp, FpOk X pins H b) → tn i s.heap → J.stop i H →
    wpAny (model P w) X.A (pyNext (.ref it)) (fun r s1 => r = none ∧ Inv X pins σ H s1) E s
  self : ∀ (A : Around) (i : Nat) (s : Shared) (Q : Value → Shared → Prop) (E : Value → Shared → Prop), tn i s.heap → Q (.ref it) s → wpAny (model P w) A (pyIter (.ref it)) Q E s
abbrev TI := St → Hp → (It → Hp → Prop) → Prop
def PIE (X : Cx) (pins : List (Addr × Obj)) (σ : St) (tg : Expr) (R : It → Hp → Prop) (itv : Value) (s2 : Shared) : Prop :=
  ∃ (it : Addr) (fp : List Addr) (tn : Nat → Heap → Prop) (J : It) (H' : Hp), itv = .ref it ∧ Inv X pins σ H' s2 ∧ Turn X.prog X.w X.K tg J fp it tn ∧ tn 0 s2.heap ∧ (∀ b ∈ fp, FpOk X pins H' b) ∧ R J H'
def PI (X : Cx) (tg iter : Expr) (wi : TI) : Prop :=
  ∀ (pins : List (Addr × Obj)) (s : Shared) (σ : St) (H : Hp) (R : It → Hp → Prop), Inv X pins σ H s → wi σ H R →
    wpAny (model X.prog X.w) X.A (eval iter X.env) (fun v s1 => wpAny (model X.prog X.w) X.A (pyIter v) (PIE X pins σ tg R) X.xe s1) X.xe s
theorem go_of {M : Model} {A : Around} {E : Value → Shared → Prop} {s : Shared} {tg : Expr} {it : Addr} {u : Value} {o : Obj} {n : String} {vs : Array Value} {Q : Unit → Shared → Prop} (ho : s.heap.get? it = some o) (hc : o.cls = .type n) (hd : o.data = .fields vs)
    (hn : ["enumerate", "zip", "dict_itemiterator", "dict_reverseitemiterator", "odict_iterator", "itertools.zip_longest", "itertools.pairwise"].contains n = false) (hQ : Q () s) : wpAny M A (letOwnedTupleGo tg (.ref it) u) Q E s := by
  unfold letOwnedTupleGo
  cases tg <;> first
    | exact wpAny_pure hQ
    | (cases u <;> first
        | exact wpAny_pure hQ
        | (refine wpAny_bind (wpAny_load ho ?_)
           rw [hc, hd]
           show wpAny M A (if (["enumerate", "zip", "dict_itemiterator", "dict_reverseitemiterator", "odict_iterator", "itertools.zip_longest", "itertools.pairwise"].contains n && vs[0]? == some (rawInt _)) = true then _ else _) Q E s
           rw [if_neg (by intro h; rw [hn, Bool.false_and] at h; cases h)]
           exact wpAny_pure hQ))
def Itl (K : PySem.W.Frag) (a : Addr) : It :=
  ⟨fun i H => ∃ xs x, SqL K H a xs ∧ xs[i]? = some x, fun i H x H' => H' = H ∧ ∀ xs, SqL K H a xs → xs[i]? = some x, fun i H => ∃ xs, SqL K H a xs ∧ xs.length ≤ i⟩
def Itr (lo : Int) (n : Nat) : It := ⟨fun i _ => i < n, fun i H x H' => H' = H ∧ x = .int (lo + i), fun i _ => n ≤ i⟩
theorem turn_list {P : Program} {w : World} {K : PySem.W.Frag} {tg : Expr} (a it : Addr) : Turn P w K tg (Itl K a) [it] it (fun i h => h.IsListIter it a i) where
  mem := by simp
  obj := fun i h st b hb => by
    have e : b = it := by simpa using hb
    subst e
    obtain ⟨o, e, c, d⟩ := st
    exact ⟨o, e, fun v z => by rw [d] at z; cases z⟩
  keep := fun i h h' st k => st.at fun o e => k it (by simp) o e
  item := by
    intro X hP hw hK hc i pins s σ H E I hf st hg
    subst hP hw hK
    obtain ⟨xs, x, hq, hx⟩ := hg
    obtain ⟨its, rv, p, hz⟩ := I.list hq
    obtain ⟨u, hu, ru⟩ := rv.get hx
    obtain ⟨f0, f1, f2, f3, f4, f5⟩ := hf it (by simp)
    refine wpAny_pyNext_list_item st p.isList (x := u) (by simpa using hu) fun h' st' sb => ?_
    have I1 : Inv X pins σ H { s with heap := h' } := I.turned (t' := s.toks) (fun b o hb e => (sb.2 b hb).trans e) f0 f1 f3 f4 f5
    obtain ⟨o, e, c, d⟩ := id st'
    exact ⟨u, rfl, go_of (s := { s with heap := h' }) e c d (by decide) ⟨x, H, I1, ru, ⟨rfl, fun ys hy => by rw [I.list_inj hy hq]; exact hx⟩, st', fun b hb => (hf b hb).1⟩⟩
  done := by
    intro X hP hw hK hc i pins s σ H E I hf st hg
    subst hP hw hK
    obtain ⟨xs, hq, hx⟩ := hg
    obtain ⟨its, rv, p, hz⟩ := I.list hq
    obtain ⟨f0, f1, f2, f3, f4, f5⟩ := hf it (by simp)
    have hl := rv.length
    exact wpAny_pyNext_list_end (I.ok.hd hc) st p.isList (by simp; omega) fun h' eb => ⟨rfl, I.turned (t' := s.toks) (fun b o hb e => eb b o hb e) f0 f1 f3 f4 f5⟩
  self := fun _ _ _ _ _ st h => wpAny_pyIter_listiter st h
theorem turn_range {P : Program} {w : World} {K : PySem.W.Frag} {tg : Expr} (it : Addr) (lo : Int) (n : Nat) : Turn P w K tg (Itr lo n) [it] it (fun i h => IsRangeIter h it (lo + (i : Nat) * 1) ((n : Int) - (i : Nat)) 1) where
  mem := by simp
  obj := fun i h st b hb => by
    have e : b = it := by simpa using hb
    subst e
    exact ⟨_, st, fun v z => by
      have z' : Data.fields _ = Data.cell v := z
      cases z'⟩
  keep := fun i h h' st k => k it (by simp) _ st
  item := by
    intro X hP hw hK hc i pins s σ H E I hf st hg
    subst hP hw hK
    obtain ⟨f0, f1, f2, f3, f4, f5⟩ := hf it (by simp)
    have W := Walks.range (prog := X.prog) (w := X.w) (I.ok.hd hc) it lo 1 n
    refine W.item i s _ _ hg st fun v h' tk hv st' kk => ?_
    obtain ⟨t, rfl⟩ := hv
    have I1 : Inv X pins σ H { s with heap := h', toks := tk } := I.turned (fun b o hb e => kk b o (by simpa using hb) e) f0 f1 f3 f4 f5
    refine ⟨_, rfl, go_of (s := { s with heap := h', toks := tk }) (n := "range_iterator") st' rfl rfl (by decide) ⟨.int (lo + i), H, I1, ⟨t, ?_⟩, ⟨rfl, rfl⟩, st', fun b hb => (hf b hb).1⟩⟩
    rw [Int.mul_one]
  done := by
    intro X hP hw hK hc i pins s σ H E I hf st hg
    subst hP hw hK
    obtain ⟨f0, f1, f2, f3, f4, f5⟩ := hf it (by simp)
    exact wpAny_pyNext_range_end (I.ok.hd hc) st (by have : n ≤ i := hg; omega) fun h' eb => ⟨rfl, I.turned (t' := s.toks) (fun b o hb e => eb b o hb e) f0 f1 f3 f4 f5⟩
  self := fun _ _ _ _ _ st h => wpAny_pyIter_rangeiter st h
end L2
namespace L2
open PySem PySem.Spec PyProof.Rows
section
variable {X : Cx} {tg : Expr}
def iList (K : PySem.W.Frag) (tl : TE) : TI := fun σ H R => tl σ H fun x H1 => ∃ a, x = .ref a ∧ (∃ xs, SqL K H1 a xs) ∧ R (Itl K a) H1
theorem pi_list {l : Expr} {tl : TE} (hl : PE X l tl) : PI X tg l (iList X.K tl) := by
  intro pins s σ H R I h
  refine thn (hl pins s σ H _ I h) fun v s1 ⟨x, H1, I1, r1, q1⟩ => ?_
  obtain ⟨a, e, ⟨xs, hq⟩, q⟩ := q1
  subst e
  cases r1
  obtain ⟨its, rv, p, hz⟩ := I1.list hq
  refine wpAny_pyIter_list p.isList ?_
  refine ⟨s1.heap.objs.size, [s1.heap.objs.size], _, _, H1, rfl, I1.kept (t' := s1.toks) fun b o e => Heap.get?_push_of_some _ e, turn_list a _, ⟨_, Heap.get?_push_size _ rfl, rfl, rfl⟩, fun b hb => ?_, q⟩
  have e : b = s1.heap.objs.size := by simpa using hb
  subst e
  exact I1.fpOk (Nat.le_refl _) (I1.hok.fresh (Nat.le_refl _))
theorem range_it {pins : List (Addr × Obj)} {σ : St} {H : Hp} {s : Shared} {R : It → Hp → Prop} {E : Value → Shared → Prop} {lo hi : Int} {t u v : Tok} {tk : Nat} (I : Inv X pins σ H s) (h1 : -(2 ^ 62) ≤ lo) (h2 : lo < 2 ^ 62) (h3 : -(2 ^ 62) ≤ hi) (h4 : hi < 2 ^ 62)
    (q : R (Itr lo (hi - lo).toNat) H) : wpAny (model X.prog X.w) X.A (pyIter (.ref s.heap.objs.size)) (PIE X pins σ tg R) E { s with heap := s.heap.push { cls := .type "range", data := .fields #[.int lo t, .int hi u, .int 1 v] }, toks := tk } := by
  refine wpAny_pyIter_range (IsRange.new ..) (small_one h1 h2 h3 h4) ?_
  have I1 : Inv X pins σ H { s with heap := s.heap.push { cls := .type "range", data := .fields #[.int lo t, .int hi u, .int 1 v] }, toks := tk } := I.kept fun b o e => Heap.get?_push_of_some _ e
  refine ⟨(s.heap.push { cls := .type "range", data := .fields #[.int lo t, .int hi u, .int 1 v] }).objs.size, [(s.heap.push { cls := .type "range", data := .fields #[.int lo t, .int hi u, .int 1 v] }).objs.size], _, _, H, rfl,
    I1.kept (t' := tk) fun b o e => Heap.get?_push_of_some _ e, turn_range _ lo (hi - lo).toNat, ?_, fun b hb => ?_, q⟩
  · have e1 : lo + ((0 : Nat) : Int) * 1 = lo := by simp
    have e2 : (((hi - lo).toNat : Nat) : Int) - ((0 : Nat) : Int) = Builtin.Range.rangeSize lo hi 1 := by rw [rangeSize_one]; split <;> omega
    show IsRangeIter _ _ (lo + ((0 : Nat) : Int) * 1) ((((hi - lo).toNat : Nat) : Int) - ((0 : Nat) : Int)) 1
    rw [e1, e2]
    exact Heap.get?_push_size _ rfl
  · have e : b = (s.heap.push { cls := .type "range", data := .fields #[.int lo t, .int hi u, .int 1 v] }).objs.size := by simpa using hb
    subst e
    exact I1.fpOk (Nat.le_refl _) (I1.hok.fresh (Nat.le_refl _))
def iRng1 (ta : TA) : TI := fun σ H R => ta σ H fun vs H1 => ∃ j : Int, vs = [.int j] ∧ -(2 ^ 62) ≤ j ∧ j < 2 ^ 62 ∧ R (Itr 0 j.toNat) H1
def iRng2 (ta : TA) : TI := fun σ H R => ta σ H fun vs H1 => ∃ i j : Int, vs = [.int i, .int j] ∧ (-(2 ^ 62) ≤ i ∧ i < 2 ^ 62 ∧ -(2 ^ 62) ≤ j ∧ j < 2 ^ 62) ∧ R (Itr i (j - i).toNat) H1
theorem pi_range1 {a : Expr} {ta : TA} {p pos : Pos} (hg : Gl X "range") (hm : X.mg "range" = none) (ha : PA X [a] ta) (hs : starEach [a] X.env = [(false, eval a X.env)] := by rfl) : PI X tg (.Call (.Name "range" p) [a] [] pos) (iRng1 ta) := by
  intro pins s σ H R I h
  refine Call_ (ld_blt I hg hm boot_range (PyProof.Rows.callWith_type1 (thn (ha pos pins s σ H _ I h) fun us s1 ⟨vs, H1, I1, r1, q1⟩ => ?_) hs rfl))
  obtain ⟨j, e, q1, q2, q⟩ := q1
  subst e
  cases r1 with
  | cons r rr =>
    cases rr
    obtain ⟨t, rfl⟩ := r
    exact call_range_1 (range_it I1 (by omega) (by omega) q1 q2 (by simpa using q))
theorem pi_range2 {a b : Expr} {ta : TA} {p pos : Pos} (hg : Gl X "range") (hm : X.mg "range" = none) (ha : PA X [a, b] ta) (hs : starEach [a, b] X.env = [(false, eval a X.env), (false, eval b X.env)] := by rfl) (hs2 : starEach [b] X.env = [(false, eval b X.env)] := by rfl) :
    PI X tg (.Call (.Name "range" p) [a, b] [] pos) (iRng2 ta) := by
  intro pins s σ H R I h
  refine Call_ (ld_blt I hg hm boot_range (PyProof.Rows.callWith_type1 (thn (ha pos pins s σ H _ I h) fun us s1 ⟨vs, H1, I1, r1, q1⟩ => ?_) (by rw [hs, hs2]) (by rw [hs2]; rfl)))
  obtain ⟨i, j, e, ⟨q1, q2, q3, q4⟩, q⟩ := q1
  subst e
  cases r1 with
  | cons r rr =>
    cases rr with
    | cons r' rr =>
      cases rr
      obtain ⟨t, rfl⟩ := r
      obtain ⟨t', rfl⟩ := r'
      exact call_range_2 (range_it I1 q1 q2 q3 q4 q)
def tFor (wi : TI) (g : TG) (tb : TS) : TS := fun D σ H => wi σ H fun J H1 => ∃ W : Nat → Nat → St → Hp → Prop, (∃ m, W 0 m σ H1) ∧ ∀ i m σ H, W i m σ H →
  (J.stop i H ∧ D.nx σ H) ∨ (J.go i H ∧ ∃ N : St → Hp → Prop, (∀ σ' H', N σ' H' → ∃ m', m' < m ∧ W (i + 1) m' σ' H') ∧ ∀ x H', J.yld i H x H' → g x σ H' fun σ2 H2 => tb { D with nx := N, ct := N, bk := D.nx } σ2 H2)
def pinsAt (fp : List Addr) (h : Heap) : List (Addr × Obj) := fp.filterMap fun b => (h.get? b).map fun o => (b, o)
theorem mem_pinsAt {fp : List Addr} {h : Heap} {b : Addr} {o : Obj} (hb : b ∈ fp) (e : h.get? b = some o) : (b, o) ∈ pinsAt fp h := List.mem_filterMap.mpr ⟨b, hb, by rw [e]; rfl⟩
theorem of_pinsAt {fp : List Addr} {h : Heap} {p : Addr × Obj} (hp : p ∈ pinsAt fp h) : p.1 ∈ fp ∧ h.get? p.1 = some p.2 := by
  obtain ⟨b, hb, e⟩ := List.mem_filterMap.mp hp
  cases q : h.get? b with
  | none => rw [q] at e; cases e
  | some o =>
    rw [q] at e
    have e' : (b, o) = p := Option.some.inj e
    subst e'
    exact ⟨hb, q⟩
theorem Inv.pinned {pins : List (Addr × Obj)} {σ : St} {H : Hp} {s : Shared} {fp : List Addr} (I : Inv X pins σ H s) (hf : ∀ b ∈ fp, FpOk X pins H b) (ho : ∀ b ∈ fp, ∃ o, s.heap.get? b = some o ∧ ∀ v, o.data ≠ .cell v) : Inv X (pins ++ pinsAt fp s.heap) σ H s :=
  I.pins_of fun p hp => (List.mem_append.mp hp).elim (fun z => I.pin p (List.mem_append_right _ z)) fun z => by
    obtain ⟨hb, e⟩ := of_pinsAt z
    obtain ⟨f0, f1, f2, _⟩ := hf p.1 hb
    obtain ⟨o, e', d⟩ := ho p.1 hb
    rw [e] at e'; cases e'
    exact ⟨e, f0, f1, f2, d⟩
theorem Inv.unpinned {pins pl : List (Addr × Obj)} {σ : St} {H : Hp} {s : Shared} (I : Inv X (pins ++ pl) σ H s) : Inv X pins σ H s := I.pins_of fun p hp => I.pin p (List.mem_append_right _ (List.mem_append_left _ hp))
theorem ps_for {iter : Expr} {body : List Stmt} {wi : TI} {g : TG} {tb : TS} {pos : Pos} (hp : PassesOwn (model X.prog X.w) X.A X.env X.xe) (hc : X.calm = true) (hi : PI X tg iter wi) (hg : PG X tg g) (hb : PSs X body tb)
    (hs : ∀ x, foldedSetIterable iter X.env x = pure x := by intro _; rfl) : PS X (.For tg iter body [] pos) (tFor wi g tb) := by
  intro pins s σ H D I h
  refine wpAny_For (thn (hi pins s σ H _ I h) fun v s1 h1 => thn h1 fun itv s2 h2 => ?_) hs
  obtain ⟨it, fp, tn, J, H2, e, I2, T, st2, f2, W, ⟨m0, w0⟩, turn⟩ := h2
  subst e
  have stat : ∀ {H' : Hp}, (∀ b ∈ fp, H' b = none) → ∀ b ∈ fp, FpOk X pins H' b := fun hn b hb => ⟨hn b hb, (f2 b hb).2⟩
  refine codeAny_forLoop_any (fun n s' => ∃ i σ' H', Inv X pins σ' H' s' ∧ tn i s'.heap ∧ (∀ b ∈ fp, H' b = none) ∧ W i n σ' H') ?_ m0 ⟨0, σ, H2, I2, st2, fun b hb => (f2 b hb).1, w0⟩
  rintro n s3 ⟨i, σ3, H3, I3, st3, fr3, w3⟩
  rcases turn i n σ3 H3 w3 with ⟨stop, qn⟩ | ⟨go, N, hN, step⟩
  · refine wpAny_passesOwn hp (thn (T.done X rfl rfl rfl hc i pins s3 σ3 H3 X.xe I3 (stat fr3) st3 stop) fun r s4 ⟨hr, I4⟩ => ?_)
    subst hr
    exact wpAny_execs_nil ⟨σ3, H3, I4, qn⟩
  · refine wpAny_passesOwn hp (thn (T.item X rfl rfl rfl hc i pins s3 σ3 H3 X.xe I3 (stat fr3) st3 go) fun r s4 ⟨u, hr, h4⟩ => ?_)
    subst hr
    refine wpAny_passesOwn hp (thn h4 fun _ s5 ⟨x, H5, I5, r5, y5, st5, fr5⟩ => ?_)
    have I5' := I5.pinned (stat fr5) (T.obj _ _ st5)
    refine wpAny_passesOwn hp (thn (hg _ s5 σ3 H5 x u _ I5' r5 (step x H5 y5)) fun _ s6 ⟨σ6, H6, I6, q6⟩ => ?_)
    refine wpAny_passesOwn hp (thn (hb _ s6 σ6 H6 _ I6 q6) fun f s7 q7 => ?_)
    have again : ∀ {σ7 : St} {H7 : Hp}, Inv X (pins ++ pinsAt fp s5.heap) σ7 H7 s7 → N σ7 H7 → ∃ m, m < n ∧ ∃ i σ' H', Inv X pins σ' H' s7 ∧ tn i s7.heap ∧ (∀ b ∈ fp, H' b = none) ∧ W i m σ' H' := fun {σ7 H7} I7 n7 => by
      obtain ⟨m', hm, w7⟩ := hN σ7 H7 n7
      refine ⟨m', hm, i + 1, σ7, H7, I7.unpinned, T.keep _ _ _ st5 fun b hb o e => (I7.pin (b, o) (List.mem_append_right _ (List.mem_append_right _ (mem_pinsAt hb e)))).1, fun b hb => ?_, w7⟩
      obtain ⟨o, e, d⟩ := T.obj _ _ st5 b hb
      exact (I7.pin (b, o) (List.mem_append_right _ (List.mem_append_right _ (mem_pinsAt hb e)))).2.1
    cases f with
    | next => obtain ⟨σ7, H7, I7, n7⟩ := q7; exact again I7 n7
    | cont => obtain ⟨σ7, H7, I7, n7⟩ := q7; exact again I7 n7
    | brk => obtain ⟨σ7, H7, I7, q7⟩ := q7; exact ⟨σ7, H7, I7.unpinned, q7⟩
    | ret v => obtain ⟨x7, σ7, H7, I7, r7, q7⟩ := q7; exact ⟨x7, σ7, H7, I7.unpinned, r7, q7⟩
end
theorem for_list {K : PySem.W.Frag} {a : Addr} {xs : List V} {g : TG} {tb : TS} {D : Ends} {σ : St} {H : Hp} (Pv : Nat → St → Hp → Prop) (h0 : Pv 0 σ H) (hl : ∀ i σ H, i ≤ xs.length → Pv i σ H → SqL K H a xs)
    (hs : ∀ i x σ H, xs[i]? = some x → Pv i σ H → g x σ H fun σ2 H2 => tb { D with nx := Pv (i + 1), ct := Pv (i + 1), bk := D.nx } σ2 H2) (hd : ∀ σ H, Pv xs.length σ H → D.nx σ H) :
    ∃ W : Nat → Nat → St → Hp → Prop, (∃ m, W 0 m σ H) ∧ ∀ i m σ H, W i m σ H →
      ((Itl K a).stop i H ∧ D.nx σ H) ∨ ((Itl K a).go i H ∧ ∃ N : St → Hp → Prop, (∀ σ' H', N σ' H' → ∃ m', m' < m ∧ W (i + 1) m' σ' H') ∧ ∀ x H', (Itl K a).yld i H x H' → g x σ H' fun σ2 H2 => tb { D with nx := N, ct := N, bk := D.nx } σ2 H2) := by
  refine ⟨fun i m σ H => m = xs.length - i ∧ i ≤ xs.length ∧ Pv i σ H, ⟨xs.length, by simp, Nat.zero_le _, h0⟩, ?_⟩
  rintro i m σ H ⟨rfl, hi, p⟩
  have q := hl i σ H hi p
  by_cases hlt : i < xs.length
  · refine .inr ⟨⟨xs, xs[i], q, by simp [hlt]⟩, Pv (i + 1), fun σ' H' p' => ⟨xs.length - (i + 1), by omega, rfl, hlt, p'⟩, fun x H' y => ?_⟩
    obtain ⟨e, y⟩ := y
    subst e
    exact hs i x σ _ (y xs q) p
  · have e : i = xs.length := by omega
    subst e
    exact .inl ⟨⟨xs, q, Nat.le_refl _⟩, hd σ H p⟩
theorem for_range {lo : Int} {n : Nat} {g : TG} {tb : TS} {D : Ends} {σ : St} {H : Hp} (Pv : Nat → St → Hp → Prop) (h0 : Pv 0 σ H)
    (hs : ∀ i σ H, i < n → Pv i σ H → g (.int (lo + i)) σ H fun σ2 H2 => tb { D with nx := Pv (i + 1), ct := Pv (i + 1), bk := D.nx } σ2 H2) (hd : ∀ σ H, Pv n σ H → D.nx σ H) :
    ∃ W : Nat → Nat → St → Hp → Prop, (∃ m, W 0 m σ H) ∧ ∀ i m σ H, W i m σ H →
      ((Itr lo n).stop i H ∧ D.nx σ H) ∨ ((Itr lo n).go i H ∧ ∃ N : St → Hp → Prop, (∀ σ' H', N σ' H' → ∃ m', m' < m ∧ W (i + 1) m' σ' H') ∧ ∀ x H', (Itr lo n).yld i H x H' → g x σ H' fun σ2 H2 => tb { D with nx := N, ct := N, bk := D.nx } σ2 H2) := by
  refine ⟨fun i m σ H => m = n - i ∧ i ≤ n ∧ Pv i σ H, ⟨n, by simp, Nat.zero_le _, h0⟩, ?_⟩
  rintro i m σ H ⟨rfl, hi, p⟩
  by_cases hlt : i < n
  · refine .inr ⟨hlt, Pv (i + 1), fun σ' H' p' => ⟨n - (i + 1), by omega, rfl, hlt, p'⟩, fun x H' y => ?_⟩
    obtain ⟨e, y⟩ := y
    subst e y
    exact hs i σ _ hlt p
  · have e : i = n := by omega
    subst e
    exact .inl ⟨Nat.le_refl _, hd σ H p⟩
theorem while_by {c : TT} {tb : TS} {D : Ends} {σ : St} {H : Hp} (Pv : St → Hp → Prop) (μ : St → Hp → Nat) (h0 : Pv σ H)
    (hs : ∀ σ H, Pv σ H → c σ H fun b H1 => if b = true then tb { D with nx := fun σ' H' => Pv σ' H' ∧ μ σ' H' < μ σ H, ct := fun σ' H' => Pv σ' H' ∧ μ σ' H' < μ σ H, bk := D.nx } σ H1 else D.nx σ H1)
    (mono : ∀ σ H Q Q', (∀ b H1, Q b H1 → Q' b H1) → c σ H Q → c σ H Q') : tWhile c tb D σ H := by
  refine ⟨fun m σ H => m = μ σ H ∧ Pv σ H, ⟨_, rfl, h0⟩, ?_⟩
  rintro m σ H ⟨rfl, p⟩
  refine mono σ H _ _ (fun b H1 q => ?_) (hs σ H p)
  cases b with
  | true => exact ⟨_, fun σ' H' ⟨p', l⟩ => ⟨_, l, rfl, p'⟩, q⟩
  | false => exact q
end L2
namespace L2
open PySem PySem.Spec PyProof.Rows
abbrev R2 := V → V → Hp → VK → Prop
def OpR (X : Cx) (f : Value → Value → Sem Value) (r : R2) : Prop :=
  ∀ (pins : List (Addr × Obj)) (s : Shared) (σ : St) (H : Hp) (x y : V) (v u : Value) (Q : VK), Inv X pins σ H s → RelV x v → RelV y u → r x y H Q →
    wpAny (model X.prog X.w) X.A (f v u) (EP X pins σ Q) X.xe s
def UnR (X : Cx) (f : Value → Sem Value) (r : V → Hp → VK → Prop) : Prop :=
  ∀ (pins : List (Addr × Obj)) (s : Shared) (σ : St) (H : Hp) (x : V) (v : Value) (Q : VK), Inv X pins σ H s → RelV x v → r x H Q →
    wpAny (model X.prog X.w) X.A (f v) (EP X pins σ Q) X.xe s
def CallR (X : Cx) (f : Value) (r : List V → Hp → VK → Prop) : Prop :=
  ∀ (pins : List (Addr × Obj)) (s : Shared) (σ : St) (H : Hp) (xs : List V) (us : List Value) (Q : VK), Inv X pins σ H s → Vals xs us → r xs H Q →
    wpAny (model X.prog X.w) X.A (call f us) (EP X pins σ Q) X.xe s
def tOp (r : R2) (ta tb : TE) : TE := fun σ H Q => ta σ H fun x H1 => tb σ H1 fun y H2 => r x y H2 Q
def tUn (r : V → Hp → VK → Prop) (ta : TE) : TE := fun σ H Q => ta σ H fun x H1 => r x H1 Q
def rI (C : Int → Int → Prop) (g : Int → Int → V) : R2 := fun x y H Q => ∃ i j, x = .int i ∧ y = .int j ∧ C i j ∧ Q (g i j) H
def rI0 (g : Int → Int → V) : R2 := fun x y H Q => ∃ i j, x = .int i ∧ y = .int j ∧ Q (g i j) H
def rU (g : Int → V) : V → Hp → VK → Prop := fun x H Q => ∃ i, x = .int i ∧ Q (g i) H
section
variable {X : Cx} {a b c : Expr} {ta tb tc : TE} {pos : Pos}
theorem binT (ha : PE X a ta) (hb : PE X b tb) {pins : List (Addr × Obj)} {s : Shared} {σ : St} {H : Hp} {R : V → V → Hp → Prop} (I : Inv X pins σ H s)
    (h : ta σ H fun x H1 => tb σ H1 fun y H2 => R x y H2) {Q : Value → Shared → Prop} {f : Value → Value → Sem Value}
    (hf : ∀ v u s2 x y H2, Inv X pins σ H2 s2 → RelV x v → RelV y u → R x y H2 → wpAny (model X.prog X.w) X.A (f v u) Q X.xe s2) :
    wpAny (model X.prog X.w) X.A (eval a X.env) (fun v s₁ => wpAny (model X.prog X.w) X.A (eval b X.env) (fun u s₂ => wpAny (model X.prog X.w) X.A (f v u) Q X.xe s₂) X.xe s₁) X.xe s := by
  refine thn (ha pins s σ H _ I h) fun v s1 ⟨x, H1, I1, r1, q1⟩ => ?_
  refine thn (hb pins s1 σ H1 _ I1 q1) fun u s2 ⟨y, H2, I2, r2, q2⟩ => ?_
  exact hf v u s2 x y H2 I2 r1 r2 q2
theorem pe_op {op : Operator} {r : R2} (ho : OpR X (binaryOp op) r) (ha : PE X a ta) (hb : PE X b tb) : PE X (.BinOp a op b pos) (tOp r ta tb) := by
  intro pins s σ H Q I h
  exact wpAny_BinOp (binT ha hb I h fun v u s2 x y H2 I2 rx ry q => ho pins s2 σ H2 x y v u Q I2 rx ry q)
theorem pe_un {op : UnaryOp} {r : V → Hp → VK → Prop} (ho : UnR X (unaryOp op) r) (ha : PE X a ta) : PE X (.UnaryOp op a pos) (tUn r ta) := by
  intro pins s σ H Q I h
  exact UnaryOp_ (thn (ha pins s σ H _ I h) fun v s1 ⟨x, H1, I1, r1, q1⟩ => ho pins s1 σ H1 x v Q I1 r1 q1)
theorem opI {f : Value → Value → Sem Value} {C : Int → Int → Prop} {g : Int → Int → Int}
    (rule : ∀ (i j : Int) (t u : Tok) (s : Shared) (Q : Value → Shared → Prop) (E : Value → Shared → Prop), C i j → Q (.int (g i j) s.toks) { s with toks := s.toks + 1 } → wpAny (model X.prog X.w) X.A (f (.int i t) (.int j u)) Q E s) :
    OpR X f (rI C fun i j => .int (g i j)) := by
  intro pins s σ H x y v u Q I rx ry h
  obtain ⟨i, j, rfl, rfl, hc, q⟩ := h
  obtain ⟨t, rfl⟩ := rx
  obtain ⟨t', rfl⟩ := ry
  exact rule i j t t' s _ _ hc ⟨.int (g i j), H, I.tok _, ⟨_, rfl⟩, q⟩
theorem opI0 {f : Value → Value → Sem Value} {g : Int → Int → Int}
    (rule : ∀ (i j : Int) (t u : Tok) (s : Shared) (Q : Value → Shared → Prop) (E : Value → Shared → Prop), Q (.int (g i j) s.toks) { s with toks := s.toks + 1 } → wpAny (model X.prog X.w) X.A (f (.int i t) (.int j u)) Q E s) :
    OpR X f (rI0 fun i j => .int (g i j)) := by
  intro pins s σ H x y v u Q I rx ry h
  obtain ⟨i, j, rfl, rfl, q⟩ := h
  obtain ⟨t, rfl⟩ := rx
  obtain ⟨t', rfl⟩ := ry
  exact rule i j t t' s _ _ ⟨.int (g i j), H, I.tok _, ⟨_, rfl⟩, q⟩
theorem opB0 {f : Value → Value → Sem Value} {g : Int → Int → Bool}
    (rule : ∀ (i j : Int) (t u : Tok) (s : Shared) (Q : Value → Shared → Prop) (E : Value → Shared → Prop), Q (.bool (g i j)) s → wpAny (model X.prog X.w) X.A (f (.int i t) (.int j u)) Q E s) :
    OpR X f (rI0 fun i j => .bl (g i j)) := by
  intro pins s σ H x y v u Q I rx ry h
  obtain ⟨i, j, rfl, rfl, q⟩ := h
  obtain ⟨t, rfl⟩ := rx
  obtain ⟨t', rfl⟩ := ry
  exact rule i j t t' s _ _ ⟨.bl (g i j), H, I, rfl, q⟩
def CPow (i j : Int) : Prop := 0 ≤ j ∧ j ≤ 1000000 ∧ i.natAbs < 2 ^ 64
def CMul (i j : Int) : Prop := (-(2 ^ 64) < i ∧ i < 2 ^ 64) ∨ (-(2 ^ 64) < j ∧ j < 2 ^ 64)
theorem CMul.ok {i j : Int} (h : CMul i j) : IntMulOk i j := by
  rcases h with ⟨h1, h2⟩ | ⟨h1, h2⟩
  · exact .of_left (intBits_le_64 h1 h2)
  · exact .of_right (intBits_le_64 h1 h2)
theorem op_add : OpR X (binaryOp .Add) (rI0 fun i j => .int (i + j)) := opI0 fun _ _ _ _ _ _ _ q => add_int q
theorem op_sub : OpR X (binaryOp .Sub) (rI0 fun i j => .int (i - j)) := opI0 fun _ _ _ _ _ _ _ q => sub_int q
theorem op_mul : OpR X (binaryOp .Mult) (rI CMul fun i j => .int (i * j)) := opI fun _ _ _ _ _ _ _ hc q => mul_int q hc.ok
theorem op_mod : OpR X (binaryOp .Mod) (rI (fun _ j => 0 < j) fun i j => .int (i % j)) := opI fun i j _ _ _ _ _ hc q => by
  have h1 : (0 : Int) < j := hc
  exact mod_int' (by omega) (by rw [Int.fmod_eq_emod_of_nonneg i (by omega)]; exact q)
theorem op_pow : OpR X (binaryOp .Pow) (rI CPow fun i j => .int (i ^ j.toNat)) := opI fun _ _ _ _ _ _ _ hc q => pow_int_small hc.1 hc.2.1 hc.2.2 q
theorem unI {f : Value → Sem Value} {g : Int → Int}
    (rule : ∀ (i : Int) (t : Tok) (s : Shared) (Q : Value → Shared → Prop) (E : Value → Shared → Prop), Q (.int (g i) s.toks) { s with toks := s.toks + 1 } → wpAny (model X.prog X.w) X.A (f (.int i t)) Q E s) :
    UnR X f (rU fun i => .int (g i)) := by
  intro pins s σ H x v Q I rx h
  obtain ⟨i, rfl, q⟩ := h
  obtain ⟨t, rfl⟩ := rx
  exact rule i t s _ _ ⟨.int (g i), H, I.tok _, ⟨_, rfl⟩, q⟩
theorem un_neg : UnR X (unaryOp .USub) (rU fun i => .int (-i)) := unI fun _ _ _ _ _ q => neg_int q
end
def scal : V → V → Bool
  | .non, .non => true | .non, .int _ => true | .int _, .non => true | .non, .bl _ => true | .bl _, .non => true | .non, .str _ => true | .str _, .non => true
  | .int _, .int _ => true | .bl _, .bl _ => true | .str _, .str _ => true | .byt _, .byt _ => true
  | .int _, .str _ => true | .str _, .int _ => true | .bl _, .str _ => true | .str _, .bl _ => true
  | _, _ => false
def rEq : R2 := fun x y H Q => scal x y = true ∧ Q (.bl (decide (x = y))) H
def rNe : R2 := fun x y H Q => scal x y = true ∧ Q (.bl (!decide (x = y))) H
theorem dec_int {i j : Int} : decide (V.int i = V.int j) = (i == j) := by
  rw [Bool.eq_iff_iff]
  simp
theorem dec_bl {i j : Bool} : decide (V.bl i = V.bl j) = (i == j) := by
  rw [Bool.eq_iff_iff]
  simp
theorem dec_str {i j : Str} : decide (V.str i = V.str j) = (i == j) := by
  rw [Bool.eq_iff_iff]
  simp
theorem dec_byt {i j : Array UInt8} : decide (V.byt i = V.byt j) = (i.toList == j.toList) := by
  rw [Bool.eq_iff_iff]
  cases i
  cases j
  simp
section
variable {X : Cx} {a b c : Expr} {ta tb tc : TE} {pos : Pos}
theorem fin_bl {pins : List (Addr × Obj)} {σ : St} {H : Hp} {s : Shared} {Q : VK} {k k' : Bool} (I : Inv X pins σ H s) (q : Q (.bl k) H) (e : k = k') : EP X pins σ Q (.bool k') s := by
  subst e
  exact ⟨.bl k, H, I, rfl, q⟩
theorem op_eq : OpR X (compareOp .Eq) rEq := by
  intro pins s σ H x y v u Q I rx ry h
  obtain ⟨hs, q⟩ := h
  cases x with
  | non =>
    cases rx
    cases y with
    | non => cases ry; exact PySem.EqNone.eq_none_none (fin_bl I q (by simp))
    | bl j => cases ry; exact PySem.EqNone.eq_none_bool (fin_bl I q (by simp))
    | int j => obtain ⟨t', rfl⟩ := ry; exact PySem.EqNone.eq_none_int (fin_bl I q (by simp))
    | str j => obtain ⟨t', rfl⟩ := ry; exact PySem.EqNone.eq_none_str (fin_bl I q (by simp))
    | _ => exact absurd (show false = true from hs) Bool.false_ne_true
  | bl i =>
    cases rx
    cases y with
    | non => cases ry; exact PySem.EqNone.eq_bool_none (fin_bl I q (by simp))
    | bl j => cases ry; exact eq_bool (fin_bl I q dec_bl)
    | str j => obtain ⟨t', rfl⟩ := ry; exact PySem.EqMixed.eq_bool_str (fin_bl I q (by simp))
    | _ => exact absurd (show false = true from hs) Bool.false_ne_true
  | int i =>
    obtain ⟨t, rfl⟩ := rx
    cases y with
    | non => cases ry; exact PySem.EqNone.eq_int_none (fin_bl I q (by simp))
    | int j => obtain ⟨t', rfl⟩ := ry; exact eq_int (fin_bl I q dec_int)
    | str j => obtain ⟨t', rfl⟩ := ry; exact PySem.EqMixed.eq_int_str (fin_bl I q (by simp))
    | _ => exact absurd (show false = true from hs) Bool.false_ne_true
  | str i =>
    obtain ⟨t, rfl⟩ := rx
    cases y with
    | non => cases ry; exact PySem.EqNone.eq_str_none (fin_bl I q (by simp))
    | bl j => cases ry; exact PySem.EqMixed.eq_str_bool (fin_bl I q (by simp))
    | int j => obtain ⟨t', rfl⟩ := ry; exact PySem.EqMixed.eq_str_int (fin_bl I q (by simp))
    | str j => obtain ⟨t', rfl⟩ := ry; exact eq_str (fin_bl I q dec_str)
    | _ => exact absurd (show false = true from hs) Bool.false_ne_true
  | byt i =>
    obtain ⟨t, rfl⟩ := rx
    cases y with
    | byt j => obtain ⟨t', rfl⟩ := ry; exact PySem.W.eq_bytes (fin_bl I q dec_byt)
    | _ => exact absurd (show false = true from hs) Bool.false_ne_true
  | _ => cases y <;> exact absurd (show false = true from hs) Bool.false_ne_true
theorem op_ne : OpR X (compareOp .NotEq) rNe := by
  intro pins s σ H x y v u Q I rx ry h
  obtain ⟨hs, q⟩ := h
  cases x with
  | non =>
    cases rx
    cases y with
    | non => cases ry; exact PySem.EqNone.ne_none_none (fin_bl I q (by simp))
    | bl j => cases ry; exact PySem.EqNone.ne_none_bool (fin_bl I q (by simp))
    | int j => obtain ⟨t', rfl⟩ := ry; exact PySem.EqNone.ne_none_int (fin_bl I q (by simp))
    | str j => obtain ⟨t', rfl⟩ := ry; exact PySem.EqNone.ne_none_str (fin_bl I q (by simp))
    | _ => exact absurd (show false = true from hs) Bool.false_ne_true
  | bl i =>
    cases rx
    cases y with
    | non => cases ry; exact PySem.EqNone.ne_bool_none (fin_bl I q (by simp))
    | bl j => cases ry; exact ne_bool (fin_bl I q (congrArg not dec_bl))
    | str j => obtain ⟨t', rfl⟩ := ry; exact PySem.EqMixed.ne_bool_str (fin_bl I q (by simp))
    | _ => exact absurd (show false = true from hs) Bool.false_ne_true
  | int i =>
    obtain ⟨t, rfl⟩ := rx
    cases y with
    | non => cases ry; exact PySem.EqNone.ne_int_none (fin_bl I q (by simp))
    | int j => obtain ⟨t', rfl⟩ := ry; exact ne_int (fin_bl I q (congrArg not dec_int))
    | str j => obtain ⟨t', rfl⟩ := ry; exact PySem.EqMixed.ne_int_str (fin_bl I q (by simp))
    | _ => exact absurd (show false = true from hs) Bool.false_ne_true
  | str i =>
    obtain ⟨t, rfl⟩ := rx
    cases y with
    | non => cases ry; exact PySem.EqNone.ne_str_none (fin_bl I q (by simp))
    | bl j => cases ry; exact PySem.EqMixed.ne_str_bool (fin_bl I q (by simp))
    | int j => obtain ⟨t', rfl⟩ := ry; exact PySem.EqMixed.ne_str_int (fin_bl I q (by simp))
    | str j => obtain ⟨t', rfl⟩ := ry; exact ne_str (fin_bl I q (congrArg not dec_str))
    | _ => exact absurd (show false = true from hs) Bool.false_ne_true
  | byt i =>
    obtain ⟨t, rfl⟩ := rx
    cases y with
    | byt j => obtain ⟨t', rfl⟩ := ry; exact PySem.W.ne_bytes (fin_bl I q (congrArg not dec_byt))
    | _ => exact absurd (show false = true from hs) Bool.false_ne_true
  | _ => cases y <;> exact absurd (show false = true from hs) Bool.false_ne_true
theorem op_lt : OpR X (compareOp .Lt) (rI0 fun i j => .bl (decide (i < j))) := opB0 fun _ _ _ _ _ _ _ q => lt_int q
theorem op_le : OpR X (compareOp .LtE) (rI0 fun i j => .bl (decide (i ≤ j))) := opB0 fun _ _ _ _ _ _ _ q => le_int q
theorem op_gt : OpR X (compareOp .Gt) (rI0 fun i j => .bl (decide (j < i))) := opB0 fun _ _ _ _ _ _ _ q => gt_int q
theorem op_ge : OpR X (compareOp .GtE) (rI0 fun i j => .bl (decide (j ≤ i))) := opB0 fun _ _ _ _ _ _ _ q => ge_int q
theorem nomark (b : Expr) {op : CmpOp} (h : op ≠ .In := by decide) (h2 : op ≠ .NotIn := by decide) : behindInMarks op b = false := by
  have e1 : (op == CmpOp.In) = false := by cases op <;> first | rfl | exact absurd rfl h
  have e2 : (op == CmpOp.NotIn) = false := by cases op <;> first | rfl | exact absurd rfl h2
  cases b <;> simp [behindInMarks, e1, e2]
theorem pe_cmpR {op : CmpOp} {r : R2} (ho : OpR X (compareOp op) r) (ha : PE X a ta) (hb : PE X b tb) (hm : behindInMarks op b = false) : PE X (.Compare a [op] [b] pos) (tOp r ta tb) := by
  intro pins s σ H Q I h
  exact wpAny_Compare1 (binT ha hb I h fun v u s2 x y H2 I2 rx ry q => ho pins s2 σ H2 x y v u Q I2 rx ry q) hm
def tTest (t : TE) : TT := fun σ H Q => t σ H fun x H' => ∃ k, x = .bl k ∧ Q k H'
theorem pt_cmpR {op : CmpOp} {r : R2} (ho : OpR X (compareOp op) r) (ha : PE X a ta) (hb : PE X b tb) (hm : behindInMarks op b = false) : PT X (.Compare a [op] [b] pos) (tTest (tOp r ta tb)) := by
  intro pins s σ H Q I h
  refine wpAny_isTrue_Compare1 (thn (ha pins s σ H _ I h) fun v s1 ⟨x, H1, I1, r1, q1⟩ => thn (hb pins s1 σ H1 _ I1 q1) fun u s2 ⟨y, H2, I2, r2, q2⟩ =>
    thn (ho pins s2 σ H2 x y v u _ I2 r1 r2 q2) fun c s3 ⟨z, H3, I3, r3, k, e, q3⟩ => ?_) hm
  subst e
  cases r3
  exact wpAny_truthy_bool ⟨H3, I3, q3⟩
def tChain (r r' : R2) (ta tb tc : TE) : TE := fun σ H Q => ta σ H fun x H1 => tb σ H1 fun y H2 => r x y H2 fun z H3 => ∃ k, z = .bl k ∧
  (if k = true then tc σ H3 fun w' H4 => r' y w' H4 Q else Q (.bl false) H3)
theorem pe_chain {op op' : CmpOp} {r r' : R2} (ho : OpR X (compareOp op) r) (ho' : OpR X (compareOp op') r') (ha : PE X a ta) (hb : PE X b tb) (hc : PE X c tc)
    (hm : lastMarks [op, op'] [b, c] = false := by with_unfolding_all rfl) : PE X (.Compare a [op, op'] [b, c] pos) (tChain r r' ta tb tc) := by
  intro pins s σ H Q I h
  refine Compare_chain (thn (ha pins s σ H _ I h) fun v s1 ⟨x, H1, I1, r1, q1⟩ => chain_link (thn (hb pins s1 σ H1 _ I1 q1) fun u s2 ⟨y, H2, I2, r2, q2⟩ =>
    thn (ho pins s2 σ H2 x y v u _ I2 r1 r2 q2) fun d s3 ⟨z, H3, I3, r3, k, e, q3⟩ => ?_)) hm
  subst e
  cases r3
  refine wpAny_truthy_bool ?_
  cases k with
  | false => exact ite_ff ⟨.bl false, H3, I3, rfl, q3⟩
  | true => exact ite_tt (chain_last (thn (hc pins s3 σ H3 _ I3 q3) fun w' s4 ⟨z', H4, I4, r4, q4⟩ => ho' pins s4 σ H4 y z' u w' Q I4 r2 r4 q4))
theorem pt_chain {op op' : CmpOp} {r r' : R2} (ho : OpR X (compareOp op) r) (ho' : OpR X (compareOp op') r') (ha : PE X a ta) (hb : PE X b tb) (hc : PE X c tc)
    (hm : lastMarks [op, op'] [b, c] = false := by with_unfolding_all rfl) : PT X (.Compare a [op, op'] [b, c] pos) (tTest (tChain r r' ta tb tc)) := by
  intro pins s σ H Q I h
  refine isTrue_chain (thn (ha pins s σ H _ I h) fun v s1 ⟨x, H1, I1, r1, q1⟩ => test_link (thn (hb pins s1 σ H1 _ I1 q1) fun u s2 ⟨y, H2, I2, r2, q2⟩ =>
    thn (ho pins s2 σ H2 x y v u _ I2 r1 r2 q2) fun d s3 ⟨z, H3, I3, r3, k, e, q3⟩ => ?_)) hm
  subst e
  cases r3
  refine wpAny_truthy_bool ?_
  cases k with
  | false =>
    obtain ⟨k', e', q'⟩ := q3
    cases e'
    exact ite_ff ⟨H3, I3, q'⟩
  | true =>
    refine ite_tt (test_last (thn (hc pins s3 σ H3 _ I3 q3) fun w' s4 ⟨z', H4, I4, r4, q4⟩ => thn (ho' pins s4 σ H4 y z' u w' _ I4 r2 r4 q4) fun d' s5 ⟨z2, H5, I5, r5, k2, e2, q5⟩ => ?_))
    subst e2
    cases r5
    exact wpAny_truthy_bool ⟨H5, I5, q5⟩
theorem line63 : (sizeLine : Nat) < 2 ^ 63 := by rw [sizeLine_eq]; decide
theorem op_add_str : OpR X (binaryOp .Add) (fun x y H Q => ∃ i j, x = .str i ∧ y = .str j ∧ i.length + j.length ≤ sizeLine ∧ Q (.str (i ++ j)) H) := by
  intro pins s σ H x y v u Q I rx ry h
  obtain ⟨i, j, rfl, rfl, hz, q⟩ := h
  obtain ⟨t, rfl⟩ := rx
  obtain ⟨t', rfl⟩ := ry
  exact add_str (fun t' tk => ⟨.str (i ++ j), H, I.tok _, ⟨_, rfl⟩, q⟩) hz
theorem vals1 {x : V} {us : List Value} (r : Vals [x] us) : ∃ u, us = [u] ∧ RelV x u := by
  cases r with
  | cons r1 r2 => cases r2; exact ⟨_, rfl, r1⟩
theorem vals2 {x y : V} {us : List Value} (r : Vals [x, y] us) : ∃ u w', us = [u, w'] ∧ RelV x u ∧ RelV y w' := by
  cases r with
  | cons r1 r2 =>
    cases r2 with
    | cons r3 r4 => cases r4; exact ⟨_, _, rfl, r1, r3⟩
theorem call_abs : CallR X (.builtin "abs") (fun xs H Q => ∃ i, xs = [.int i] ∧ Q (.int (if i < 0 then -i else i)) H) := by
  intro pins s σ H xs us Q I r h
  obtain ⟨i, rfl, q⟩ := h
  obtain ⟨u, rfl, t, rfl⟩ := vals1 r
  exact call_abs_int fun u tk => ⟨.int (if i < 0 then -i else i), H, I.tok _, ⟨_, rfl⟩, q⟩
theorem call_max2 (hc : X.calm = true) : CallR X (.builtin "max") (fun xs H Q => ∃ i j, xs = [.int i, .int j] ∧ Q (.int (if j > i then j else i)) H) := by
  intro pins s σ H xs us Q I r h
  obtain ⟨i, j, rfl, q⟩ := h
  obtain ⟨u, w', rfl, ⟨t, rfl⟩, ⟨t', rfl⟩⟩ := vals2 r
  refine max_two_ints (I.ok.hd hc) fun h' tk k => ⟨_, H, I.kept k, ?_, q⟩
  by_cases hj : j > i
  · rw [if_pos hj, if_pos hj]; exact ⟨_, rfl⟩
  · rw [if_neg hj, if_neg hj]; exact ⟨_, rfl⟩
theorem call_min2 (hc : X.calm = true) : CallR X (.builtin "min") (fun xs H Q => ∃ i j, xs = [.int i, .int j] ∧ Q (.int (if j < i then j else i)) H) := by
  intro pins s σ H xs us Q I r h
  obtain ⟨i, j, rfl, q⟩ := h
  obtain ⟨u, w', rfl, ⟨t, rfl⟩, ⟨t', rfl⟩⟩ := vals2 r
  refine min_two_ints (I.ok.hd hc) fun h' tk k => ⟨_, H, I.kept k, ?_, q⟩
  by_cases hj : j < i
  · rw [if_pos hj, if_pos hj]; exact ⟨_, rfl⟩
  · rw [if_neg hj, if_neg hj]; exact ⟨_, rfl⟩
theorem call_int1 : CallR X (.type "int") (fun xs H Q => (∃ i, xs = [.int i] ∧ Q (.int i) H) ∨ ∃ k, xs = [.bl k] ∧ Q (.int (if k then 1 else 0)) H) := by
  intro pins s σ H xs us Q I r h
  rcases h with ⟨i, rfl, q⟩ | ⟨k, rfl, q⟩
  · obtain ⟨u, rfl, t, rfl⟩ := vals1 r
    exact call_int_int ⟨.int i, H, I, ⟨_, rfl⟩, q⟩
  · obtain ⟨u, rfl, r1⟩ := vals1 r
    cases r1
    exact call_int_bool ⟨.int (if k then 1 else 0), H, I.tok _, ⟨_, rfl⟩, q⟩
end
end L2
namespace L2
open PySem PySem.Spec PyProof.Rows
structure ObjM (h : Heap) (x dx C : Addr) (mA : Str → Option Value) : Prop where
  obj : h.get? x = some (PySem.W.instObj C dx)
  ns : h.Ns1 dx mA
  ne : dx ≠ x
theorem lookIn_ns {h : Heap} {dx : Addr} {mA : Str → Option Value} (n : h.Ns1 dx mA) : ∃ od, h.get? dx = some od ∧ ∀ name, PySem.W.lookIn name od = some (mA name) := by
  obtain ⟨o, es, ep, ho, hd, hk, _, hm⟩ := n
  refine ⟨o, ho, fun name => ?_⟩
  have e := hm name
  unfold nsFind findBy at e
  rw [← Array.find?_toList] at e
  unfold PySem.W.lookIn
  rw [hd]
  dsimp only
  split
  · rename_i y q
    rw [q] at e
    exact congrArg some e
  · rename_i q
    rw [q] at e
    have a : es.toList.any (·.refKey) = false := by
      rw [List.any_eq_false]
      intro y hy
      obtain ⟨z, t, hkey⟩ := hk y (Array.mem_toList_iff.mp hy)
      simp [DictEntry.refKey, hkey]
    have a' : ¬ es.toList.any (·.refKey) = true := by rw [a]; exact Bool.false_ne_true
    rw [if_neg a']
    exact congrArg some e
theorem ObjM.look {h : Heap} {x dx C : Addr} {mA : Str → Option Value} (I : ObjM h x dx C mA) : ∃ od, PySem.W.InstAt h x (PySem.W.instObj C dx) C (some od) ∧ ∀ name, PySem.W.lookIn name od = some (mA name) :=
  let ⟨od, ho, hl⟩ := lookIn_ns I.ns
  ⟨od, ⟨I.obj, rfl, rfl, ho⟩, hl⟩
section
variable {prog : Program} {w : World} {A : Around} {E : Value → Shared → Prop} {s : Shared} {K : PySem.W.Frag} {x dx C f : Addr} {mA : Str → Option Value} {name : Str} {v : Value}
end
section
variable {P : Program} {w : World} {H H' : Hp} {h h' : Heap} {a C dx : Addr} {fs fs' : List (Str × V)}
theorem ins_get (hok : HOk P w H h) (e : H a = some (.ins C dx fs)) : ∃ mA, ObjM h a dx C mA ∧ (∀ f, RelO (fs.lookup f) (mA f)) ∧ PySem.Within mA (fs.map (·.1)) ∧ fs.length ≤ 1000 ∧ H dx = some (.own a) := by
  obtain ⟨d, z, ne, ob, mA, n, r, q⟩ := (show ObjOk P w H h a (.ins C dx fs) from hok a _ e)
  exact ⟨mA, ⟨ob, n, ne⟩, r, q, z, d⟩
end
structure Cls (K : PySem.W.Frag) (C : Addr) : Prop where
  pg : PySem.W.plainGet K C Str.empty = true
  hd : PySem.W.hasDictIn K C = true
  po : PySem.W.plainOver K C = true
  sa : PySem.W.findIn K (.ref C) "__setattr__" = some (some (.builtin "object.__setattr__"))
theorem Cls.get {K : PySem.W.Frag} {C : Addr} (c : Cls K C) (f : Str) : PySem.W.plainGet K C f = true := c.pg
structure Con (K : PySem.W.Frag) (C : Addr) (f : Str) (v : V) (u : Value) : Prop where
  at_ : PySem.W.findIn K (.ref C) f = some (some u)
  rel : RelV v u
  get : PySem.W.specialIn K u "__get__" = some none
  cp : PySem.W.copiedNames.contains f = false
structure Meth (K : PySem.W.Frag) (C : Addr) (m : Str) (f : Addr) : Prop where
  at_ : PySem.W.findIn K (.ref C) m = some (some (.ref f))
  fn : PySem.W.isFn K (.ref f) = true
  kp : PySem.W.keepIn K (.ref f) = true
section
variable {X : Cx} {pins : List (Addr × Obj)} {σ : St} {H : Hp} {s : Shared} {a C dx : Addr} {fs : List (Str × V)} {f : Str} {v : V} {A : Around} {E : Value → Shared → Prop}
end
section
variable {X : Cx} {o e value : Expr} {f : Str} {pos pos' tpos : Pos} {ta tv : TE}
end
section
variable {X : Cx} {pins : List (Addr × Obj)} {σ : St} {H : Hp} {s : Shared} {A : Around} {E : Value → Shared → Prop} {Q : Value → Shared → Prop} {c : Value} {b : Bool}
inductive TyOf (K : PySem.W.Frag) (H : Hp) : V → Value → Prop where
  | non : TyOf K H .non (.type "NoneType")
  | bl (x : Bool) : TyOf K H (.bl x) (.type "bool")
  | int (i : Int) : TyOf K H (.int i) (.type "int")
  | str (x : Str) : TyOf K H (.str x) (.type "str")
  | flt (x : UInt64) : TyOf K H (.flt x) (.type "float")
  | lst {a : Addr} {xs : List V} (e : H a = some (.lst xs)) : TyOf K H (.ref a) (.type "list")
  | frz {a : Addr} {o : Obj} {xs : List V} (e : H a = some (.frz o (.lst xs))) : TyOf K H (.ref a) (.type "list")
  | tup {a : Addr} {xs : List V} (e : H a = some (.tup xs)) : TyOf K H (.ref a) (.type "tuple")
  | dK {a : Addr} {kvs : List (Key × V)} (e : H a = some (.dK kvs)) : TyOf K H (.ref a) (.type "dict")
  | dT {a : Addr} {kvs : List (List Key × V)} (e : H a = some (.dT kvs)) : TyOf K H (.ref a) (.type "dict")
  | ins {a C dx : Addr} {fs : List (Str × V)} (e : H a = some (.ins C dx fs)) (cl : Cls K C) (ha : PySem.W.findIn K (.ref C) "__class__" = some (some (.builtin "object.__class__")))
      (hn : PySem.W.specialIn K (.builtin "object.__class__") "__get__" = some (some (.builtin "getset_descriptor.__get__"))) (htk : PySem.W.takesIn K (.builtin "object.__class__") = some true)
      (hm : PySem.W.mroIn K C (.type "object") = some true) : TyOf K H (.ref a) (.ref C)
theorem isinst_ok {x : V} {u t : Value} (I : Inv X pins σ H s) (rx : RelV x u) (ty : TyOf X.K H x t) (e : PySem.W.kitOne X.K t c = some b) (h : ∀ tk, Q (.bool b) { s with toks := tk }) :
    wpAny (model X.prog X.w) A (call (.builtin "isinstance") [u, c]) Q E s := by
  cases ty with
  | non => cases (show u = Value.none from rx); exact PySem.W.kia_one PySem.W.kitx_none I.kIn True.intro e (fun z => nomatch z) h
  | bl y => cases (show u = Value.bool y from rx); exact PySem.W.kia_one PySem.W.kitx_bool I.kIn True.intro e (fun z => nomatch z) h
  | int i => obtain ⟨t, q⟩ := (show ∃ t, u = Value.int i t from rx); cases q; exact PySem.W.kia_one PySem.W.kitx_int I.kIn True.intro e (fun z => nomatch z) h
  | str y => obtain ⟨t, q⟩ := (show ∃ t, u = Value.str y t from rx); cases q; exact PySem.W.kia_one PySem.W.kitx_str I.kIn True.intro e (fun z => nomatch z) h
  | flt y => obtain ⟨t, q⟩ := (show ∃ t, u = Value.float y t from rx); cases q; exact PySem.W.kia_one PySem.W.kitx_float I.kIn True.intro e (fun z => nomatch z) h
  | @lst a xs ea =>
    cases (show u = Value.ref a from rx)
    obtain ⟨_, _, n, _, h1⟩ := (show ObjOk X.prog X.w H s.heap a (.lst xs) from I.hok a _ ea)
    exact PySem.W.kia_one PySem.W.kitx_list I.kIn ⟨_, h1, rfl⟩ e (fun z => nomatch z) h
  | @frz a ob xs ea =>
    cases (show u = Value.ref a from rx)
    obtain ⟨_, _, _, n, _, h1⟩ := (show ObjOk X.prog X.w H s.heap a (.frz ob (.lst xs)) from I.hok a _ ea)
    exact PySem.W.kia_one PySem.W.kitx_list I.kIn ⟨_, h1, rfl⟩ e (fun z => nomatch z) h
  | @tup a xs ea =>
    cases (show u = Value.ref a from rx)
    obtain ⟨_, _, _, p⟩ := (show ObjOk X.prog X.w H s.heap a (.tup xs) from I.hok a _ ea)
    obtain ⟨o, h1, h2, _⟩ := p
    exact PySem.W.kia_one PySem.W.kitx_tuple I.kIn ⟨o, h1, h2⟩ e (fun z => nomatch z) h
  | @dK a kvs ea =>
    cases (show u = Value.ref a from rx)
    obtain ⟨_, _, vs, _, p⟩ := (show ObjOk X.prog X.w H s.heap a (.dK kvs) from I.hok a _ ea)
    obtain ⟨o, es, ep, h1, h2, _⟩ := p
    exact PySem.W.kia_one PySem.W.kitx_dict I.kIn ⟨o, h1, h2.1⟩ e (fun z => nomatch z) h
  | @dT a kvs ea =>
    cases (show u = Value.ref a from rx)
    obtain ⟨_, _, xs, _, o, es, ep, h1, h2, _⟩ := (show ObjOk X.prog X.w H s.heap a (.dT kvs) from I.hok a _ ea)
    exact PySem.W.kia_one PySem.W.kitx_dict I.kIn ⟨o, h1, h2.1⟩ e (fun z => nomatch z) h
  | @ins a C dx fs ea cl ha hn htk hm =>
    cases (show u = Value.ref a from rx)
    obtain ⟨mA, O, _⟩ := ins_get I.hok ea
    obtain ⟨od, J, _⟩ := O.look
    exact PySem.W.kia_one (PySem.W.kitx_own (cl.get _) cl.hd ha hn htk hm) I.kIn J e (fun z => nomatch z) h
end
end L2
namespace L2
open PySem PySem.Spec PyProof.Rows
structure Room (k : Nat) (A : Around) : Prop where
  hd : A.handled = none
  dp : A.depth + k + 5 < recursionLimit
  un : A.units + 16 * k + 200 < cLine
  gd : A.guards = some []
theorem Room.mono {j k : Nat} {A : Around} (r : Room k A) (h : j ≤ k) : Room j A := ⟨r.hd, by have := r.dp; omega, by have := r.un; omega, r.gd⟩
theorem Room.deeper {k : Nat} {A : Around} (r : Room (k + 1) A) (env : Env) : Room k (A.deeper env) :=
  ⟨r.hd, by have := r.dp; show A.depth + 1 + k + 5 < _; omega, by have := r.un; show A.units + 3 + 16 * k + 200 < _; omega, r.gd⟩
theorem Room.in1 {k : Nat} {A : Around} (r : Room (k + 1) A) : Room k A.in1 :=
  ⟨r.hd, by have := r.dp; show A.depth + k + 5 < _; omega, by have := r.un; show A.units + 1 + 16 * k + 200 < _; omega, r.gd⟩
theorem Room.depth {k : Nat} {A : Around} (r : Room k A) : A.depth < recursionLimit := by have := r.dp; omega
theorem Room.units {k : Nat} {A : Around} (r : Room k A) : A.units + 64 < cLine := by have := r.un; omega
def tNil : TA := fun _ H Q => Q [] H
def tCons (ta : TE) (tr : TA) : TA := fun σ H Q => ta σ H fun x H1 => tr σ H1 fun xs H2 => Q (x :: xs) H2
section
variable {X : Cx} {e : Expr} {es : List Expr} {te : TE} {t : TA} {pos : Pos}
theorem pa_nil : PA X [] tNil := fun _ _ _ _ H Q I h => Calls.spliced_nil ⟨[], H, I, .nil, h⟩
theorem pa_cons (ha : PE X e te) (hr : PA X es t) (hs : starEach (e :: es) X.env = (false, eval e X.env) :: starEach es X.env := by rfl) : PA X (e :: es) (tCons te t) := by
  intro pos pins s σ H Q I h
  rw [hs]
  show wpAny _ _ (spliced ((false, eval e X.env) :: backTo pos (starEach es X.env))) _ _ s
  refine Calls.spliced_cons (thn (ha pins s σ H _ I h) fun u s1 ⟨x, H1, I1, r1, q1⟩ => ?_)
  exact thn (hr pos pins s1 σ H1 _ I1 q1) fun us s2 ⟨xs, H2, I2, r2, q2⟩ => ⟨x :: xs, H2, I2, .cons r1 r2, q2⟩
def tTup (t : TA) : TE := fun σ H Q => t σ H fun xs H1 => xs.length ≤ sizeLine ∧ ∀ p, H1 p = none → Q (.ref p) (upd H1 p (.tup xs))
def tLst (t : TA) : TE := fun σ H Q => t σ H fun xs H1 => xs.length ≤ sizeLine ∧ ∀ p, H1 p = none → Q (.ref p) (upd H1 p (.lst xs))
theorem pe_tup {x1} (h : PA X es t) : PE X (.Tuple es x1 pos) (tTup t) := by
  intro pins s σ H Q I hq
  refine wpAny_Tuple_spliced (thn (h pos pins s σ H _ I hq) fun us s1 ⟨xs, H1, I1, r, z, q⟩ => ⟨by rw [← r.length]; exact z, ?_⟩)
  have hf : H1 s1.heap.objs.size = none := I1.hok.fresh (Nat.le_refl _)
  refine ⟨.ref s1.heap.objs.size, upd H1 s1.heap.objs.size (.tup xs), I1.laid (t' := s1.toks) (fun b u e => Heap.get?_push_of_some _ e) (Nat.le_refl _) ?_, rfl, q _ hf⟩
  exact ⟨z, us, r, ⟨_, Heap.get?_push_size _ rfl, rfl, _, rfl⟩⟩
theorem pe_lst (h : PA X es t) : PE X (.List es pos) (tLst t) := by
  intro pins s σ H Q I hq
  refine wpAny_List_spliced (thn (h pos pins s σ H _ I hq) fun us s1 ⟨xs, H1, I1, r, z, q⟩ => ⟨by rw [← r.length]; exact z, ?_⟩)
  have hf : H1 s1.heap.objs.size = none := I1.hok.fresh (Nat.le_refl _)
  refine ⟨.ref s1.heap.objs.size, upd H1 s1.heap.objs.size (.lst xs), I1.laid (t' := s1.toks) (fun b u e => Heap.get?_push_of_some _ e) (Nat.le_refl _) ?_, rfl, q _ hf⟩
  exact ⟨z, us, 0, r, Heap.get?_push_size _ rfl⟩
end
abbrev Sp := List V → Hp → VK → XK → Prop
abbrev CXT := List Env → Hp → Shared → XK → Value → Shared → Prop
structure Env0 (P : Program) (w : World) (K : PySem.W.Frag) (mg : Str → Option Value) (base : Heap) (A : Around) (outer : List Env) (s : Shared) (H : Hp) : Prop where
  frames : A.frames = some outer
  mod : Mod K mg base
  bs : ∀ b o, base.get? b = some o → s.heap.get? b = some o ∧ H b = none
  bsz : base.objs.size ≤ s.heap.objs.size
  funs : s.heap.FunFrames base outer
  frf : ∀ b ∈ frs outer, H b = none
  hok : HOk P w H s.heap
  bare : AllBare s.gens
def CE (outer : List Env) (P : Program) (w : World) (H : Hp) (s : Shared) (Q : VK) (u : Value) (s' : Shared) : Prop :=
  ∃ v H', s'.os = s.os ∧ AllBare s'.gens ∧ Un (frs outer) [] H H' s.heap s'.heap ∧ HOk P w H' s'.heap ∧ RelV v u ∧ Q v H'
def CR (CX : CXT) (outer : List Env) (P : Program) (w : World) (H : Hp) (s : Shared) (Q : VK) (E : XK) (r : Result) (s' : Shared) : Prop :=
  match r with
  | .ok (.ret u) => CE outer P w H s Q u s'
  | .ok _ => False
  | .error e => CX outer H s E e s'
structure FnOk (P : Program) (w : World) (K : PySem.W.Frag) (mg : Str → Option Value) (base : Heap) (CX : CXT) (k : Nat) (f : Addr) (fd : FuncData) (ps : List Str) (sp : Sp) : Prop where
  len : ∀ vs H Q E, sp vs H Q E → vs.length = ps.length
  run : ∀ (A : Around) (outer : List Env) (s : Shared) (H : Hp) (args : Args) (us : List Value) (vs : List V) (Q : VK) (E : XK), Room k A → Env0 P w K mg base A outer s H → BindsTo s fd args (ps.zip us) → Vals vs us → sp vs H Q E →
    codeAny (model P w) A (.call (.ref f) args) (CR CX outer P w H s Q E) s
theorem FnOk.mono {P : Program} {w : World} {K : PySem.W.Frag} {mg : Str → Option Value} {base : Heap} {CX : CXT} {j k : Nat} {f : Addr} {fd : FuncData} {ps : List Str} {sp : Sp} (F : FnOk P w K mg base CX j f fd ps sp) (h : j ≤ k) :
    FnOk P w K mg base CX k f fd ps sp := ⟨F.len, fun A outer s H args us vs Q E hr => F.run A outer s H args us vs Q E (hr.mono h)⟩
theorem FnOk.imp {P : Program} {w : World} {K : PySem.W.Frag} {mg : Str → Option Value} {base : Heap} {CX : CXT} {k : Nat} {f : Addr} {fd : FuncData} {ps : List Str} {sp sp' : Sp} (F : FnOk P w K mg base CX k f fd ps sp)
    (h : ∀ vs H Q E, sp' vs H Q E → sp vs H Q E) : FnOk P w K mg base CX k f fd ps sp' :=
  ⟨fun vs H Q E q => F.len vs H Q E (h _ _ _ _ q), fun A outer s H args us vs Q E hr he hb hv hs => F.run A outer s H args us vs Q E hr he hb hv (h _ _ _ _ hs)⟩
theorem Env0.in1 {P : Program} {w : World} {K : PySem.W.Frag} {mg : Str → Option Value} {base : Heap} {A : Around} {outer : List Env} {s : Shared} {H : Hp} (e : Env0 P w K mg base A outer s H) :
    Env0 P w K mg base A.in1 outer s H := ⟨e.frames, e.mod, e.bs, e.bsz, e.funs, e.frf, e.hok, e.bare⟩
section
variable {X : Cx} {pins : List (Addr × Obj)} {σ : St} {H : Hp} {s s' : Shared}
theorem Inv.env0 (I : Inv X pins σ H s) : Env0 X.prog X.w X.K X.mg X.base X.A X.stack s H :=
  ⟨I.ok.frames, I.ok.mod, I.bs, Nat.le_trans I.ok.bsz I.sz, I.stack, I.stkFree, I.hok, I.bare⟩
theorem Inv.after {Q : VK} {u : Value} (I : Inv X pins σ H s) (h : CE X.stack X.prog X.w H s Q u s') : EP X pins σ Q u s' := by
  obtain ⟨v, H', os, bare, un, hok, r, q⟩ := h
  obtain ⟨hh, g, d, t, os'⟩ := s'
  obtain rfl : os' = s.os := os
  exact ⟨v, H', I.call (h' := hh) (g' := g) (d' := d) (t' := t) (ch := []) un hok bare (fun b z => absurd z (by simp)), r, q⟩
end
def tCall (sp : Sp) (dvs : List V) (E : XK) (t : TA) : TE := fun σ H Q => t σ H fun vs H1 => sp (vs ++ dvs) H1 Q E
def Binds (K : PySem.W.Frag) (fd : FuncData) (ps : List Str) (ds : List Value) : Prop :=
  ∀ (s : Shared) (us : List Value), K.In s.heap → (us ++ ds).length = ps.length → BindsTo s fd ⟨us, []⟩ (ps.zip (us ++ ds))
theorem Binds.all {K : PySem.W.Frag} {fd : FuncData} {ps : List Str} (h : ∀ us : List Value, us.length = ps.length → bindArgs fd ⟨us, []⟩ = pure (ps.zip us)) : Binds K fd ps [] := fun s us _ hl => by
  rw [List.append_nil] at hl ⊢
  exact .of_eq (h us hl)
def Passes (CX : CXT) (X : Cx) (E : XK) : Prop := ∀ (pins : List (Addr × Obj)) (σ : St) (H : Hp) (s : Shared) (e : Value) (s' : Shared), Inv X pins σ H s → CX X.stack H s E e s' → X.xe e s'
section
variable {X : Cx} {CX : CXT} {k : Nat} {f C : Addr} {fd : FuncData} {ps : List Str} {sp : Sp} {dvs : List V} {ds : List Value} {E : XK} {x m : Str} {p pos apos : Pos} {e o : Expr} {es : List Expr} {ta : TE} {t : TA}
theorem run_fn {pins : List (Addr × Obj)} {σ : St} {H : Hp} {s : Shared} {Q : VK} {us : List Value} {vs : List V} (F : FnOk X.prog X.w X.K X.mg X.base CX k f fd ps sp) (hr : Room k X.A) (hb : Binds X.K fd ps ds) (hd : Vals dvs ds) (hx : Passes CX X E)
    (I : Inv X pins σ H s) (r : Vals vs us) (h : sp (vs ++ dvs) H Q E) : wpAny (model X.prog X.w) X.A (call (.ref f) us) (EP X pins σ Q) X.xe s := by
  have r2 : Vals (vs ++ dvs) (us ++ ds) := r.append hd
  have hl : (us ++ ds).length = ps.length := by rw [← r2.length]; exact F.len _ _ _ _ h
  refine wpAny_call (codeAny_mono (F.run X.A X.stack s H ⟨us, []⟩ (us ++ ds) (vs ++ dvs) Q E hr I.env0 (hb s us I.kIn hl) r2 h) fun r s' hq => ?_)
  cases r with
  | error e => exact hx pins σ H s e s' I hq
  | ok fl =>
    cases fl with
    | ret u => exact I.after hq
    | next => exact False.elim hq
    | brk => exact False.elim hq
    | cont => exact False.elim hq
theorem pe_call (F : FnOk X.prog X.w X.K X.mg X.base CX k f fd ps sp) (hr : Room k X.A) (hg : Gl X x) (hm : X.mg x = some (.ref f)) (hk : PySem.W.keepIn X.K (.ref f) = true) (hb : Binds X.K fd ps ds) (hd : Vals dvs ds) (hx : Passes CX X E)
    (ha : PA X (e :: es) t) (hdb : (x == ("__debug__" : Str)) = false := by decide) (he : starEach (e :: es) X.env = (false, eval e X.env) :: starEach es X.env := by rfl) (hpl : (backTo pos (starEach es X.env)).any (·.1) = false := by rfl) :
    PE X (.Call (.Name x p) (e :: es) [] pos) (tCall sp dvs E t) := by
  intro pins s σ H Q I h
  refine wpAny_Call_Name_kw (ld_glob I hg hm ?_ hdb)
  refine PySem.W.callWith_K (h₀ := X.base) I.ok.mod.kin hk (thn (ha pos pins s σ H _ I h) fun us s1 ⟨vs, H1, I1, r, q⟩ => ⟨I1.kIn, ?_⟩) he hpl
  exact run_fn F hr hb hd hx I1 r q
structure Mk (K : PySem.W.Frag) (C f : Addr) : Prop where
  makes : PySem.W.makesIn K C = true
  init : PySem.W.findIn K (.ref C) "__init__" = some (some (.ref f))
  fn : PySem.W.isFn K (.ref f) = true
  kp : PySem.W.keepIn K (.ref C) = true
end
section
variable {X : Cx} {CX : CXT} {k : Nat} {f C : Addr} {fd : FuncData} {ps ks : List Str} {sp : Sp} {E : XK} {x m : Str} {p pos apos kpos : Pos} {e o : Expr} {es : List Expr} {kws : List Keyword} {te ta : TE} {t tk : TA} {nm : Option Str}
structure KBinds (K : PySem.W.Frag) (fd : FuncData) (ps ks : List Str) (g : List Value → List Value → List Value) (gV : List V → List V → List V) : Prop where
  to : ∀ (s : Shared) (us ws : List Value), K.In s.heap → (g us ws).length = ps.length → BindsTo s fd ⟨us, ks.zip ws⟩ (ps.zip (g us ws))
  rel : ∀ {vs : List V} {us : List Value} {zs : List V} {ws : List Value}, Vals vs us → Vals zs ws → Vals (gV vs zs) (g us ws)
variable {g : List Value → List Value → List Value} {gV : List V → List V → List V}
end
structure FnScope (N P : List Str) (sc : Scope) : Prop where
  kind : sc.kind = .function
  co : sc.isCoroutine = false
  gen : sc.isGenerator = false
  nd : N.Nodup
  pre : N.take P.length = P
  par : ∀ x ∈ P, sc.names.lookup x = some .local ∨ sc.names.lookup x = some .cell
  nofree : ∀ y ∈ sc.names, y.2 ≠ .free
theorem bindL_out {kindOf : Str → Option NameKind} {x : Str} : ∀ {binds : List (Str × Value)} {m : Str → Option Value}, (∀ v, (x, v) ∉ binds) → bindL kindOf binds m x = m x
  | [], _, _ => rfl
  | (n, v) :: r, m, h => by
    unfold bindL
    rw [bindL_out fun w hw => h w (List.mem_cons_of_mem _ hw)]
    split
    · have : x ≠ n := by rintro rfl; exact h v List.mem_cons_self
      simp [this]
    · rfl
theorem bindC_out {kindOf : Str → Option NameKind} {x : Str} : ∀ {binds : List (Str × Value)} {m : Str → Option Value}, (∀ v, (x, v) ∉ binds) → bindC kindOf binds m x = m x
  | [], _, _ => rfl
  | (n, v) :: r, m, h => by
    unfold bindC
    rw [bindC_out fun w hw => h w (List.mem_cons_of_mem _ hw)]
    split
    · rfl
    · have : x ≠ n := by rintro rfl; exact h v List.mem_cons_self
      simp [this]
theorem bindL_get {kindOf : Str → Option NameKind} {x : Str} {v : Value} : ∀ {P : List Str} {vs : List Value} {i : Nat} {m : Str → Option Value}, P.Nodup → P[i]? = some x → vs[i]? = some v → kindOf x = some .local →
    bindL kindOf (P.zip vs) m x = some v
  | [], _, _, _, _, h, _, _ => by simp at h
  | _ :: _, [], _, _, _, _, h, _ => by simp at h
  | p :: P, w :: vs, 0, m, nd, h1, h2, hk => by
    simp at h1 h2; subst h1; subst h2
    show bindL kindOf ((p, w) :: P.zip vs) m p = _
    unfold bindL
    rw [bindL_out fun v hv => (List.nodup_cons.mp nd).1 (List.of_mem_zip hv).1, if_pos hk]
    simp
  | p :: P, w :: vs, i + 1, m, nd, h1, h2, hk => by
    show bindL kindOf ((p, w) :: P.zip vs) m x = _
    unfold bindL
    exact bindL_get (i := i) (List.nodup_cons.mp nd).2 (by simpa using h1) (by simpa using h2) hk
theorem bindC_get {kindOf : Str → Option NameKind} {x : Str} {v : Value} : ∀ {P : List Str} {vs : List Value} {i : Nat} {m : Str → Option Value}, P.Nodup → P[i]? = some x → vs[i]? = some v → kindOf x ≠ some .local →
    bindC kindOf (P.zip vs) m x = some v
  | [], _, _, _, _, h, _, _ => by simp at h
  | _ :: _, [], _, _, _, _, h, _ => by simp at h
  | p :: P, w :: vs, 0, m, nd, h1, h2, hk => by
    simp at h1 h2; subst h1; subst h2
    show bindC kindOf ((p, w) :: P.zip vs) m p = _
    unfold bindC
    rw [bindC_out fun v hv => (List.nodup_cons.mp nd).1 (List.of_mem_zip hv).1, if_neg hk]
    simp
  | p :: P, w :: vs, i + 1, m, nd, h1, h2, hk => by
    show bindC kindOf ((p, w) :: P.zip vs) m x = _
    unfold bindC
    exact bindC_get (i := i) (List.nodup_cons.mp nd).2 (by simpa using h1) (by simpa using h2) hk
def start (N : List Str) (vs : List V) : St := vs.map some ++ List.replicate (N.length - vs.length) none
def cxOf (CX : CXT) (P : Program) (w : World) (K : PySem.W.Frag) (mg : Str → Option Value) (base : Heap) (N : List Str) (qual : Str) (scope : Scope) (f : Addr) (cd : Value) (A : Around) (outer : List Env) (s : Shared) (H : Hp) (E : XK) : Cx where
  prog := P
  w := w
  K := K
  mg := mg
  base := base
  A := A.deeper (envOfC qual scope s.heap.objs.size f cd)
  N := N
  s₀ := s
  H₀ := H
  env := envOfC qual scope s.heap.objs.size f cd
  outer := outer
  stack := envOfC qual scope s.heap.objs.size f cd :: outer
  ex := []
  calm := true
  fn := fun _ => true
  pn := []
  xe := fun e s' => wpAny (model P w) (A.deeper (envOfC qual scope s.heap.objs.size f cd)) (leaving (envOfC qual scope s.heap.objs.size f cd) e) (fun _ s'' => CX outer H s E e s'') (fun e' s'' => CX outer H s E e' s'') s'
theorem cell_has {sc : Scope} {n : Nat} {x : Str} (h : sc.names.lookup x = some .cell) : ∃ c, (cellsFrom n sc.names []).lookup x = some c := by
  have q := PySem.W.cellsFrom_some sc.names n [] (.inl h)
  exact Option.isSome_iff_exists.mp q
theorem inv_start {CX : CXT} {P : Program} {w : World} {K : PySem.W.Frag} {mg : Str → Option Value} {base : Heap} {N ps : List Str} {qual : Str} {scope : Scope} {f : Addr} {cd : Value} {A : Around} {outer : List Env} {s s1 : Shared} {H : Hp} {E : XK} {us : List Value} {vs : List V}
    (S : FnScope N ps scope) (hd : A.handled = none) (e0 : Env0 P w K mg base A outer s H) (hl : vs.length = ps.length) (r : Vals vs us)
    (x : InCallC s s.heap.objs.size (bindL (envOfC qual scope s.heap.objs.size f cd).kindOf (ps.zip us) fun _ => none) (cellsFrom (s.heap.objs.size + 1) scope.names []) (bindC (envOfC qual scope s.heap.objs.size f cd).kindOf (ps.zip us) fun _ => none) s1) :
    Inv (cxOf CX P w K mg base N qual scope f cd A outer s H E) [] (start N vs) H s1 := by
  have hpl : ps.length ≤ N.length := by have := congrArg List.length S.pre; rw [List.length_take] at this; omega
  obtain ⟨h1, tk, rfl, hk⟩ := x.done
  have noA : ∀ b : Addr, b ∉ (cxOf CX P w K mg base N qual scope f cd A outer s H E).ex := fun b z => absurd (show b ∈ ([] : List Addr) from z) (by simp)
  refine ⟨⟨e0.mod, S.kind, rfl, rfl, Nat.le_refl _, fun y z c h1 h2 => ?_, fun y hy => ?_, fun y c _ h => ?_, fun _ => hd, Around.frames_deeper e0.frames, .inr ⟨rfl, rfl⟩, fun b z => absurd z (noA b), e0.bs, e0.bsz, fun b _ _ => noA b, fun b z => absurd z (noA b), e0.funs, e0.frf⟩,
    rfl, e0.bare, Un.kept hk, ⟨_, x.toInCall.ns, fun i y v h1 h2 h3 => ?_⟩, fun y c h => ⟨_, x.cell y c h⟩, e0.hok.fresh (Nat.le_refl _), fun y c h => ?_, fun p hp => absurd (show p ∈ ([] : List (Addr × Obj)) from hp) (by simp), e0.hok.kept hk, ?_⟩
  · exact name_of_addr x.apart (PySem.mem_of_lookup h1) (PySem.mem_of_lookup h2)
  · have hy : scope.names.lookup y = some .cell ∨ scope.names.lookup y = some .free := hy
    rcases hy with hy | hy
    · exact cell_has hy
    · exact absurd rfl (S.nofree _ (PySem.mem_of_lookup hy))
  · exact Nat.le_of_lt (x.above y c (PySem.mem_of_lookup h))
  · have hi : i < vs.length := by
      unfold start at h2
      by_cases hi : i < vs.length
      · exact hi
      · rw [List.getElem?_append_right (by simpa using hi)] at h2
        rw [List.getElem?_replicate] at h2
        split at h2 <;> cases h2
    have ha : vs[i]? = some v := by
      unfold start at h2
      rw [List.getElem?_append_left (by simpa using hi), List.getElem?_map] at h2
      cases e : vs[i]? with
      | none => rw [e] at h2; cases h2
      | some a => rw [e] at h2; cases h2; rfl
    obtain ⟨u, hu, rv⟩ := r.get ha
    have hp : ps[i]? = some y := by
      rw [← S.pre, List.getElem?_take_of_lt (by omega)]; exact h1
    have ndP : ps.Nodup := by rw [← S.pre]; exact S.nd.sublist (List.take_sublist _ _)
    refine ⟨u, rv, ?_⟩
    rcases S.par y (List.mem_of_getElem? hp) with k | k
    · exact .inl ⟨k, bindL_get ndP hp hu k⟩
    · obtain ⟨c, e⟩ := cell_has (n := s.heap.objs.size + 1) k
      refine .inr ⟨.inl k, c, e, ?_⟩
      have q := x.cell y c e
      rw [bindC_get ndP hp hu (by show scope.names.lookup y ≠ _; rw [k]; decide)] at q
      exact q
  · exact e0.hok.fresh (Nat.le_of_lt (x.above y c (PySem.mem_of_lookup h)))
  · unfold start
    show _ = N.length
    rw [List.length_append, List.length_map, List.length_replicate]
    omega
theorem fn_of {CX : CXT} {P : Program} {w : World} {K : PySem.W.Frag} {mg : Str → Option Value} {base : Heap} {k : Nat} {f : Addr} {name qual : Str} {params : Arguments} {body : List Stmt} {scope : Scope} {dV kV doc pm cdv ct oc : Value} {an od : Option Addr}
    {osl : Array (Option Value)} {N ps : List Str} {sp : Sp} (lk : K.lookup f = some ⟨oc, od, .func (PySem.W.fnOf name qual params body scope dV kV doc pm an cdv ct), osl⟩) (hcd : PySem.W.codeIn K cdv qual = true) (S : FnScope N ps scope)
    (len : ∀ vs H Q E, sp vs H Q E → vs.length = ps.length)
    (hbody : ∀ (A : Around) (outer : List Env) (s : Shared) (H : Hp) (vs : List V) (Q : VK) (E : XK), Room k (A.deeper (envOfC qual scope s.heap.objs.size f cdv)) → sp vs H Q E →
      ∃ t, PSs (cxOf CX P w K mg base N qual scope f cdv A outer s H E) body t ∧ t { nx := fun _ H' => Q .non H', rt := Q } (start N vs) H) :
    FnOk P w K mg base CX (k + 1) f (PySem.W.fnOf name qual params body scope dV kV doc pm an cdv ct) ps sp := by
  refine ⟨len, fun A outer s H args us vs Q E hr e0 hb r hsp => ?_⟩
  have hl := len _ _ _ _ hsp
  have KX : K.In s.heap := e0.mod.kin.keeps fun b o e => (e0.bs b o e).1
  have lim : s.heap.NoLimit := e0.mod.nolimit.keeps fun b o e => (e0.bs b o e).1
  have hkind : ∀ y ∈ ps.zip us, scope.names.lookup y.1 = some .local ∨ (scope.names.lookup y.1 = some .cell ∧ ((cellsFrom (s.heap.objs.size + 1) scope.names []).lookup y.1).isSome = true) := fun ⟨n, v⟩ hy => by
    rcases S.par n (List.of_mem_zip hy).1 with q | q
    · exact .inl q
    · exact .inr ⟨q, PySem.W.cellsFrom_some _ _ _ (.inl q)⟩
  refine codeAny_call_function hr.depth (KX _ _ lk) rfl S.co S.gen rfl (PySem.W.codeRec_of KX hcd) (hb _ _ _ _ ?_)
  refine wpAny_newFunctionEnv_cells S.kind hkind fun env he s1 x => ?_
  subst he
  refine ⟨lim.keeps x.toInCall.keep, codeAny_func ?_⟩
  obtain ⟨t, ht, hq⟩ := hbody A outer s H vs Q E (hr.deeper _) hsp
  have I : Inv (cxOf CX P w K mg base N qual scope f cdv A outer s H E) [] (start N vs) H s1 := inv_start S hr.hd e0 hl r x
  refine wpAny_mono (ht [] s1 (start N vs) H _ I hq) (fun fl s' hs => ?_) fun e s' hs => hs
  have fin : ∀ {σ' : St} {H' : Hp} {v : V} {u : Value}, Inv (cxOf CX P w K mg base N qual scope f cdv A outer s H E) [] σ' H' s' → RelV v u → Q v H' → CE outer P w H s Q u s' :=
    fun {σ' H' v u} J rv q => ⟨v, H', J.os, J.bare, J.base, J.hok, rv, q⟩
  cases fl with
  | ret u =>
    obtain ⟨v, σ', H', J, rv, q⟩ := hs
    exact fin J rv q
  | next =>
    obtain ⟨σ', H', J, q⟩ := hs
    exact fin (v := V.non) (u := Value.none) J rfl q
  | brk =>
    obtain ⟨_, _, _, q⟩ := hs
    exact False.elim q
  | cont =>
    obtain ⟨_, _, _, q⟩ := hs
    exact False.elim q
end L2
namespace L2
open PySem PySem.Spec PyProof.Rows
section
variable {X : Cx} {x : Str} {p pos : Pos} {e : Expr} {es : List Expr} {t : TA} {id T : String} {r : List V → Hp → VK → Prop}
def tCB (r : List V → Hp → VK → Prop) (t : TA) : TE := fun σ H Q => t σ H fun vs H1 => r vs H1 Q
theorem pe_callB (hc : CallR X (.builtin id) r) (hg : Gl X x) (hm : X.mg x = none) (hv : bootBuiltins x = some (.builtin id)) (ha : PA X (e :: es) t) (hn : x ≠ "__name__" := by decide) (hdb : (x == ("__debug__" : Str)) = false := by decide)
    (he : starEach (e :: es) X.env = (false, eval e X.env) :: starEach es X.env := by rfl) (hpl : (backTo pos (starEach es X.env)).any (·.1) = false := by rfl) : PE X (.Call (.Name x p) (e :: es) [] pos) (tCB r t) := by
  intro pins s σ H Q I h
  refine wpAny_Call_Name_kw (ld_blt I hg hm hv ?_ hn hdb)
  exact PyProof.Rows.callWith_builtin1 (thn (ha pos pins s σ H _ I h) fun us s1 ⟨vs, H1, I1, r1, q1⟩ => hc pins s1 σ H1 vs us Q I1 r1 q1) he hpl
theorem pe_callTy (hc : CallR X (.type T) r) (hg : Gl X x) (hm : X.mg x = none) (hv : bootBuiltins x = some (.type T)) (ha : PA X (e :: es) t) (hn : x ≠ "__name__" := by decide) (hdb : (x == ("__debug__" : Str)) = false := by decide)
    (he : starEach (e :: es) X.env = (false, eval e X.env) :: starEach es X.env := by rfl) (hpl : (backTo pos (starEach es X.env)).any (·.1) = false := by rfl) : PE X (.Call (.Name x p) (e :: es) [] pos) (tCB r t) := by
  intro pins s σ H Q I h
  refine wpAny_Call_Name_kw (ld_blt I hg hm hv ?_ hn hdb)
  exact PyProof.Rows.callWith_type1 (thn (ha pos pins s σ H _ I h) fun us s1 ⟨vs, H1, I1, r1, q1⟩ => hc pins s1 σ H1 vs us Q I1 r1 q1) he hpl
end
end L2
namespace HT
open PySem PyProof.Rows
def lexLt : List Int → List Int → Bool
  | [], [] => false
  | [], _ :: _ => true
  | _ :: _, [] => false
  | x :: xs, y :: ys => if x = y then lexLt xs ys else decide (x < y)
theorem lexLt_cons (x y : Int) (xs ys : List Int) : lexLt (x :: xs) (y :: ys) = if x = y then lexLt xs ys else decide (x < y) := rfl
theorem lexLt_nil_nil : lexLt [] [] = false := rfl
theorem lexLt_nil_cons (y : Int) (ys : List Int) : lexLt [] (y :: ys) = true := rfl
theorem lexLt_cons_nil (x : Int) (xs : List Int) : lexLt (x :: xs) [] = false := rfl
theorem eqAt_int (A : Around) (s : Shared) (a : Int) (t : Tok) (c : Int) (u : Tok) : ∃ e, SeqAt.EqAt A s (.int a t) (.int c u) e ∧ (e = true ↔ a = c) :=
  ⟨(a == c), SeqAt.EqAt.int_int a t c u, by simp⟩
theorem rcLt_int (A : Around) (s : Shared) (a : Int) (t : Tok) (c : Int) (u : Tok) (prog : Program) (w : World) (E : Value → Shared → Prop) (Q : Value → Shared → Prop) (h : Q (.bool (decide (a < c))) s) :
    wpAny (model prog w) A (richCompare .Lt (.int a t) (.int c u)) Q E s :=
  (PyProof.Rows.lt_int h : wpAny (model prog w) A (compareOp .Lt (.int a t) (.int c u)) Q E s)
section
open PySem.SeqAt
open PySem.AutoSeq1 (wpAny_loadPart')
open PySem.MeetsSeq PySem.MeetsSeq2 PySem.MeetsSeq3
end
section
variable {prog : Program} {w : World} {A : Around} {E : Value → Shared → Prop} {s : Shared}
def sIx (n d : Nat) : Option Int → Nat
  | none => d
  | some v => if v < 0 then (v + (n : Int)).toNat else min v.toNat n
theorem sIx_none (n d : Nat) : sIx n d none = d := rfl
theorem sIx_nat (n d k : Nat) : sIx n d (some (k : Int)) = min k n := by
  show (if (k : Int) < 0 then ((k : Int) + (n : Int)).toNat else min (k : Int).toNat n) = min k n
  rw [if_neg (by omega), Int.toNat_natCast]
end
end HT
namespace L2
open PySem PySem.Spec PyProof.Rows
abbrev TO := St → Hp → (Option Int → Hp → Prop) → Prop
def PO (X : Cx) (e : Option Expr) (t : TO) : Prop :=
  ∀ (pins : List (Addr × Obj)) (s : Shared) (σ : St) (H : Hp) (Q : Option Int → Hp → Prop), Inv X pins σ H s → t σ H Q →
    wpAny (model X.prog X.w) X.A (evalPart e X.env) (fun u s' => ∃ o H', Inv X pins σ H' s' ∧ IsPart u o ∧ Q o H') X.xe s
def tNoPart : TO := fun _ H Q => Q none H
def tPart (t : TE) : TO := fun σ H Q => t σ H fun x H1 => ∃ i, x = .int i ∧ Q (some i) H1
theorem intsAre_of {ns : List Int} : ∀ {us : List Value}, Vals (ns.map V.int) us → IntsAre us ns := by
  induction ns with
  | nil => intro us r; rw [List.map_nil] at r; cases r; exact .nil
  | cons n ns ih =>
    intro us r
    rw [List.map_cons] at r
    cases r with
    | cons r1 r2 =>
      obtain ⟨t, e⟩ := r1
      subst e
      exact .cons n t (ih r2)
section
variable {X : Cx} {e : Expr} {te : TE} {lo hi : Option Expr} {tl th : TO} {pos p2 : Pos}
theorem po_none : PO X none tNoPart := by
  intro pins s σ H Q I h
  rw [evalPart_none]
  exact wpAny_pure ⟨none, H, I, .none, h⟩
theorem po_some (h : PE X e te) : PO X (some e) (tPart te) := by
  intro pins s σ H Q I hw
  rw [evalPart_some]
  refine thn (h pins s σ H _ I hw) fun u s1 ⟨x, H1, I1, r1, q1⟩ => ?_
  obtain ⟨i, rfl, q⟩ := q1
  obtain ⟨t, rfl⟩ := r1
  exact ⟨some i, H1, I1, .int i t, q⟩
def SlR (X : Cx) (r : V → Option Int → Option Int → Hp → VK → Prop) : Prop :=
  ∀ (pins : List (Addr × Obj)) (s : Shared) (σ : St) (H : Hp) (x : V) (v vl vu : Value) (lo hi : Option Int) (sl : Addr) (Q : VK), Inv X pins σ H s → RelV x v → s.heap.IsSliceOf sl vl vu .none → IsPart vl lo → IsPart vu hi → r x lo hi H Q →
    ∃ T id, typeLookup (.type T) "__getitem__" = pure (some (.builtin id)) ∧ s.TypeIs v T ∧ wpAny (model X.prog X.w) X.A (getItem v (.ref sl)) (EP X pins σ Q) X.xe s
def tSl (r : V → Option Int → Option Int → Hp → VK → Prop) (te : TE) (tl th : TO) : TE := fun σ H Q => te σ H fun x H1 => tl σ H1 fun l H2 => th σ H2 fun u H3 => r x l u H3 Q
theorem pe_slice {r : V → Option Int → Option Int → Hp → VK → Prop} (hr : SlR X r) (he : PE X e te) (hl : PO X lo tl) (hu : PO X hi th) : PE X (.Subscript e (.Slice lo hi none p2) pos) (tSl r te tl th) := by
  intro pins s σ H Q I h
  refine Subscript_ (thn (he pins s σ H _ I h) fun v s1 ⟨x, H1, I1, r1, q1⟩ => ?_)
  refine wpAny_Slice (thn (hl pins s1 σ H1 _ I1 q1) fun vl s2 ⟨l, H2, I2, pl, q2⟩ => thn (hu pins s2 σ H2 _ I2 q2) fun vu s3 ⟨u, H3, I3, pu, q3⟩ => ?_)
  rw [evalPart_none]
  refine wpAny_pure ?_
  have I4 : Inv X pins σ H3 { s3 with heap := s3.heap.push { cls := .type "slice", data := .fields #[vl, vu, .none] } } := I3.kept (t' := s3.toks) fun b ob q => Heap.get?_push_of_some _ q
  obtain ⟨T, id, hT, ht, hg⟩ := hr pins { s3 with heap := s3.heap.push { cls := .type "slice", data := .fields #[vl, vu, .none] } } σ H3 x v vl vu l u s3.heap.objs.size Q I4 r1 (Heap.IsSliceOf.new ..) pl pu q3
  show wpAny (model X.prog X.w) X.A (subscriptTail e (.Slice lo hi none p2) v (.ref s3.heap.objs.size)) (EP X pins σ Q) X.xe { s3 with heap := s3.heap.push { cls := .type "slice", data := .fields #[vl, vu, .none] } }
  exact tail_any (ops := [.ref s3.heap.objs.size, v]) ht hT hg (by with_unfolding_all rfl)
def cutV (xs : List V) (lo hi : Option Int) : List V := (xs.drop (HT.sIx xs.length 0 lo)).take (HT.sIx xs.length xs.length hi - HT.sIx xs.length 0 lo)
theorem cutV_length (xs : List V) (lo hi : Option Int) : (cutV xs lo hi).length ≤ xs.length := by
  unfold cutV
  rw [List.length_take, List.length_drop]
  omega
end
end L2
namespace L2
open PySem PySem.Spec PyProof.Rows
def ixN (n : Nat) (i : Int) : Option Nat := if 0 ≤ i then (if i < n then some i.toNat else none) else if -(n : Int) ≤ i then some (i + n).toNat else none
def atI {α : Type} (xs : List α) (i : Int) : Option α := (ixN xs.length i).bind fun j => xs[j]?
theorem ixN_seq {n : Nat} {i : Int} {j : Nat} (h : ixN n i = some j) : seqIndex? i n = some j ∧ j < n ∧ -(n : Int) ≤ i ∧ i < n := by
  unfold ixN at h
  by_cases h0 : 0 ≤ i
  · rw [if_pos h0] at h
    by_cases h1 : i < n
    · rw [if_pos h1] at h
      have e : i.toNat = j := Option.some.inj h
      exact ⟨by rw [seqIndex_of h0 h1, e], by omega, by omega, h1⟩
    · rw [if_neg h1] at h; cases h
  · rw [if_neg h0] at h
    by_cases h1 : -(n : Int) ≤ i
    · rw [if_pos h1] at h
      have e : (i + n).toNat = j := Option.some.inj h
      exact ⟨by rw [seqIndex_neg (by omega) h1, e], by omega, h1, by omega⟩
    · rw [if_neg h1] at h; cases h
theorem atI_get {α : Type} {xs : List α} {i : Int} {v : α} (h : atI xs i = some v) : ∃ j, seqIndex? i xs.length = some j ∧ xs[j]? = some v ∧ j < xs.length ∧ -(xs.length : Int) ≤ i ∧ i < xs.length := by
  unfold atI at h
  cases e : ixN xs.length i with
  | none => rw [e] at h; cases h
  | some j =>
    rw [e] at h
    obtain ⟨h1, h2, h3, h4⟩ := ixN_seq e
    exact ⟨j, h1, h, h2, h3, h4⟩
theorem atI_nat {α : Type} {xs : List α} {j : Nat} {v : α} (h : xs[j]? = some v) : atI xs (j : Int) = some v := by
  have hj : j < xs.length := (List.getElem?_eq_some_iff.mp h).1
  have e : ixN xs.length (j : Int) = some j := by
    unfold ixN
    rw [if_pos (by omega), if_pos (by omega)]; simp
  unfold atI; rw [e]; exact h
def PlainIx (b : Expr) : Prop := ∀ o i, subscripted b false o i = operate [o, i] (getItem o i)
def IxR (X : Cx) (r : R2) : Prop :=
  ∀ (value slice : Expr) (pins : List (Addr × Obj)) (s : Shared) (σ : St) (H : Hp) (x y : V) (v u : Value) (Q : VK), Inv X pins σ H s → RelV x v → RelV y u → r x y H Q →
    subscripted slice false v u = operate [v, u] (getItem v u) → wpAny (model X.prog X.w) X.A (subscriptTail value slice v u) (EP X pins σ Q) X.xe s
def MtR (X : Cx) (id : String) (r : V → List V → Hp → VK → Prop) : Prop :=
  ∀ (pins : List (Addr × Obj)) (s : Shared) (σ : St) (H : Hp) (x : V) (xs : List V) (v : Value) (us : List Value) (Q : VK), Inv X pins σ H s → RelV x v → Vals xs us → r x xs H Q →
    wpAny (model X.prog X.w) X.A (call (.builtin id) (v :: us)) (EP X pins σ Q) X.xe s
section
variable {X : Cx} {a b : Expr} {ta tb : TE} {pos : Pos}
theorem pe_ix {r : R2} (hr : IxR X r) (ha : PE X a ta) (hb : PE X b tb) (hs : PlainIx b) : PE X (.Subscript a b pos) (tOp r ta tb) := by
  intro pins s σ H Q I h
  exact Subscript_ (binT ha hb I h fun v u s2 x y H2 I2 rx ry q => hr a b pins s2 σ H2 x y v u Q I2 rx ry q (hs _ _))
def rIxL (K : PySem.W.Frag) : R2 := fun x y H Q => ∃ p xs i v, x = .ref p ∧ y = .int i ∧ SqL K H p xs ∧ atI xs i = some v ∧ Q v H
def rIxT (K : PySem.W.Frag) : R2 := fun x y H Q => ∃ p xs i v, x = .ref p ∧ y = .int i ∧ SqT K H p xs ∧ atI xs i = some v ∧ Q v H
def rIxS : R2 := fun x y H Q => ∃ z i c, x = .str z ∧ y = .int i ∧ z.length ≤ sizeLine ∧ atI z.cps.toList i = some c ∧ Q (.str ⟨#[c]⟩) H
theorem ix_list : IxR X (rIxL X.K) := by
  intro value slice pins s σ H x y v u Q I rx ry h hs
  obtain ⟨p, xs, i, z, rfl, rfl, hq, he, q⟩ := h
  cases rx
  obtain ⟨t, rfl⟩ := ry
  obtain ⟨its, r, pl, hz⟩ := I.list hq
  obtain ⟨j, h1, h2, h3, h4, h5⟩ := atI_get he
  obtain ⟨w, ew, rw'⟩ := r.get h2
  have hl := r.length
  have hn := line63
  have fin : EP X pins σ Q w s := ⟨z, H, I, rw', q⟩
  by_cases h0 : 0 ≤ i
  · have hj : i.toNat = j := by
      rw [seqIndex_of h0 h5] at h1
      exact Option.some.inj h1
    exact item_listR pl.isList h0 (by omega) (by rw [hj]; simpa using ew) fin hs
  · have hj : (i + (its.toArray.size : Int)).toNat = j := by
      rw [seqIndex_neg (by omega) h4] at h1
      rw [List.size_toArray, ← hl]
      exact Option.some.inj h1
    exact subscriptTail_builtinR (x := w) pl.isList.typeIs slot_list_getitem.lookup
      (wpAny_getItem_list_neg (Q := fun r s' => r = w ∧ EP X pins σ Q r s') pl.isList (by omega) (by rw [List.size_toArray] <;> omega) (by omega) (by rw [hj]; simpa using ew) ⟨rfl, fin⟩) hs
theorem ix_tup : IxR X (rIxT X.K) := by
  intro value slice pins s σ H x y v u Q I rx ry h hs
  obtain ⟨p, xs, i, z, rfl, rfl, hq, he, q⟩ := h
  cases rx
  obtain ⟨t, rfl⟩ := ry
  obtain ⟨its, r, pl, hz⟩ := I.tuple hq
  obtain ⟨j, h1, h2, h3, h4, h5⟩ := atI_get he
  obtain ⟨w, ew, rw'⟩ := r.get h2
  have hl := r.length
  have hn := line63
  have fin : EP X pins σ Q w s := ⟨z, H, I, rw', q⟩
  exact subscriptTail_builtinR (x := w) pl.typeIs slot_tuple_getitem.lookup
    (getItem_tuple (j := j) (Q := fun r s' => r = w ∧ EP X pins σ Q r s') pl (by omega) (by omega) (by rw [List.size_toArray, ← hl]; exact h1) (by simpa using ew) ⟨rfl, fin⟩) hs
theorem ix_str : IxR X rIxS := by
  intro value slice pins s σ H x y v u Q I rx ry h hs
  obtain ⟨z, i, c, rfl, rfl, hz, he, q⟩ := h
  obtain ⟨t, rfl⟩ := rx
  obtain ⟨t', rfl⟩ := ry
  obtain ⟨j, h1, h2, h3, h4, h5⟩ := atI_get he
  have hl : z.cps.toList.length = z.length := by simp [Str.length]
  rw [hl] at h1 h4 h5
  have hn := line63
  exact tail_any (typeIs_str s z t) slot_str_getitem.lookup (getItem_str (c := c) (by
    have e1 : decide (i < -(2 ^ 63 : Int)) = false := decide_eq_false (by omega)
    have e2 : decide (i ≥ 2 ^ 63) = false := decide_eq_false (by omega)
    rw [e1, e2, Bool.or_false]) (by rw [h1]; simpa using h2) ⟨.str ⟨#[c]⟩, H, I.tok _, ⟨_, rfl⟩, q⟩) hs
theorem mapSeq_set (its : List Value) (n j : Nat) (u : Value) : Obj.mapSeq (·.setIfInBounds j u) { cls := .type "list", data := .seq its.toArray n } = { cls := .type "list", data := .seq (its.set j u).toArray n } := by
  simp [Obj.mapSeq]
theorem Inv.lst {pins : List (Addr × Obj)} {σ : St} {H : Hp} {s : Shared} {p : Addr} {xs : List V} (I : Inv X pins σ H s) (h : H p = some (.lst xs)) :
    ∃ (its : List Value) (n : Nat), Vals xs its ∧ s.heap.get? p = some { cls := .type "list", data := .seq its.toArray n } ∧ xs.length ≤ sizeLine := by
  obtain ⟨z, its, n, r, e⟩ := I.hok p _ h
  exact ⟨its, n, r, e, z⟩
theorem Inv.lstUpd {pins : List (Addr × Obj)} {σ : St} {H : Hp} {s : Shared} {p : Addr} {xs ys : List V} {its its' : List Value} {n n' : Nat} {f : Obj → Obj} (I : Inv X pins σ H s) (h : H p = some (.lst xs))
    (ho : s.heap.get? p = some { cls := .type "list", data := .seq its.toArray n }) (hf : f { cls := .type "list", data := .seq its.toArray n } = { cls := .type "list", data := .seq its'.toArray n' }) (r : Vals ys its') (hz : ys.length ≤ sizeLine) (t : Nat) :
    Inv X pins σ (upd H p (.lst ys)) { s with heap := s.heap.update p f, toks := t } := by
  have e : (s.heap.update p f).get? p = some { cls := .type "list", data := .seq its'.toArray n' } := by
    rw [Heap.get?_update_self f ho (by rw [hf] <;> rfl), hf]
  refine I.write (x := p) (e := p) (by rw [h]; trivial) (.inl rfl) (fun b u hb q => (Heap.get?_update_other _ _ (Ne.symm hb)).trans q) ⟨_, e⟩ ?_
  exact ⟨hz, its', n', r, e⟩
def rSetL : V → V → V → Hp → (Hp → Prop) → Prop := fun o i v H Q => ∃ p xs k j, o = .ref p ∧ i = .int k ∧ H p = some (.lst xs) ∧ ixN xs.length k = some j ∧ Q (upd H p (.lst (xs.set j v)))
theorem set_list : PSet X rSetL := by
  intro pins s σ H o i v ov iv u Q I ro ri rv h
  obtain ⟨p, xs, k, j, rfl, rfl, hp, hj, q⟩ := h
  cases ro
  obtain ⟨t, rfl⟩ := ri
  obtain ⟨its, n, r, ho, hz⟩ := I.lst hp
  obtain ⟨h1, h2, h3, h4⟩ := ixN_seq hj
  have hl := r.length
  have hn := line63
  have I' : Inv X pins σ (upd H p (.lst (xs.set j v))) { s with heap := s.heap.update p (Obj.mapSeq (·.setIfInBounds j u)) } :=
    I.lstUpd hp ho (mapSeq_set its n j u) (r.set rv j) (by rw [List.length_set]; exact hz) s.toks
  by_cases h0 : 0 ≤ k
  · have hk : k.toNat = j := by
      rw [seqIndex_of h0 h4] at h1
      exact Option.some.inj h1
    exact PySem.W.ki_setAt ho h0 (by omega) (by rw [List.size_toArray, ← hl]; exact h4) (by rw [hk]; exact ⟨_, I', q⟩)
  · have hk : (k + (its.toArray.size : Int)).toNat = j := by
      rw [seqIndex_neg (by omega) h3] at h1
      rw [List.size_toArray, ← hl]
      exact Option.some.inj h1
    exact PySem.W.ki_setBack ho (by omega) (by rw [List.size_toArray, ← hl]; exact h3) (by omega) (by rw [hk]; exact ⟨_, I', q⟩)
theorem slice_bounds (lo hi : Option Int) (n : Nat) : (sliceBounds lo hi none n).1 = ((HT.sIx n 0 lo : Nat) : Int) ∧ (sliceBounds lo hi none n).2.1 = ((HT.sIx n n hi : Nat) : Int) ∧ (sliceBounds lo hi none n).2.2 = 1 := by
  refine ⟨?_, ?_, rfl⟩
  · cases lo with
    | none => simp [sliceBounds, HT.sIx]
    | some i =>
      simp only [sliceBounds, HT.sIx, Option.getD_none, show (1 : Int) > 0 by decide, if_true]
      by_cases h : i < 0
      · simp only [h, if_true] <;> omega
      · simp only [h, if_false] <;> omega
  · cases hi with
    | none => simp [sliceBounds, HT.sIx]
    | some i =>
      simp only [sliceBounds, HT.sIx, Option.getD_none, show (1 : Int) > 0 by decide, if_true]
      by_cases h : i < 0
      · simp only [h, if_true] <;> omega
      · simp only [h, if_false] <;> omega
theorem slicePick_cut (its : List Value) (lo hi : Option Int) : slicePick its.toArray lo hi none = ((its.drop (HT.sIx its.length 0 lo)).take (HT.sIx its.length its.length hi - HT.sIx its.length 0 lo)).toArray := by
  obtain ⟨h1, h2, h3⟩ := slice_bounds lo hi its.toArray.size
  unfold slicePick
  rw [h1, h2, h3]
  simp only [sliceRange_one, pick_run, List.size_toArray] <;> rfl
def rSlL (K : PySem.W.Frag) : V → Option Int → Option Int → Hp → VK → Prop := fun x lo hi H Q => ∃ a xs, x = .ref a ∧ SqL K H a xs ∧ ∀ p, H p = none → Q (.ref p) (upd H p (.lst (cutV xs lo hi)))
theorem sl_list : SlR X (rSlL X.K) := by
  intro pins s σ H x v vl vu lo hi sl Q I rx hs pl pu h
  obtain ⟨a, xs, rfl, hx, q⟩ := h
  cases rx
  obtain ⟨its, r, ht, hz⟩ := I.list hx
  have hlen := r.length
  refine ⟨"list", _, slot_list_getitem.lookup, ht.isList.typeIs, ?_⟩
  refine wpAny_getItem_list_slice ht.isList hs pl pu .none (by simp) ?_ (by rw [List.size_toArray] <;> omega)
  rw [slicePick_cut, ← hlen]
  refine ⟨.ref s.heap.objs.size, _, I.laid (t' := s.toks) (o := .lst (cutV xs lo hi)) (fun b ob q => Heap.get?_push_of_some _ q) (Nat.le_refl _) ?_, rfl, q _ (I.hok.fresh (Nat.le_refl _))⟩
  exact ⟨Nat.le_trans (cutV_length xs lo hi) hz, _, 0, (r.drop (HT.sIx xs.length 0 lo)).take (HT.sIx xs.length xs.length hi - HT.sIx xs.length 0 lo), Heap.get?_push_size _ rfl⟩
theorem op_notIn_str : OpR X (compareOp .NotIn) (fun x y H Q => ∃ i j, x = .str i ∧ y = .str j ∧ Q (.bl (!(!(Builtin.Str.occurrences j i 0 j.length 1).isEmpty))) H) := by
  intro pins s σ H x y v u Q I rx ry h
  obtain ⟨i, j, rfl, rfl, q⟩ := h
  obtain ⟨t, rfl⟩ := rx
  obtain ⟨t', rfl⟩ := ry
  exact notIn_str ⟨.bl _, H, I, rfl, q⟩
theorem call_len_seq : CallR X (.builtin "len") (fun xs H Q => ∃ p ys, xs = [.ref p] ∧ (SqL X.K H p ys ∨ SqT X.K H p ys) ∧ Q (.int ys.length) H) := by
  intro pins s σ H xs us Q I r h
  obtain ⟨p, ys, rfl, hq, q⟩ := h
  obtain ⟨u, rfl, rx⟩ := vals1 r
  cases rx
  have hn := line63
  rcases hq with hq | hq
  · obtain ⟨its, r', pl, hz⟩ := I.list hq
    have hlen := r'.length
    exact Calls.call_len_list pl.isList (by simp only [List.size_toArray] <;> omega) ⟨.int ys.length, H, I.tok _, ⟨s.toks + 1, by rw [List.size_toArray, hlen]⟩, q⟩
  · obtain ⟨its, r', pl, hz⟩ := I.tuple hq
    have hlen := r'.length
    exact len_tuple pl (by simp only [List.size_toArray] <;> omega) ⟨.int ys.length, H, I.tok _, ⟨s.toks + 1, by rw [List.size_toArray, hlen]⟩, q⟩
theorem call_len_str : CallR X (.builtin "len") (fun xs H Q => ∃ z, xs = [.str z] ∧ z.length ≤ sizeLine ∧ Q (.int z.length) H) := by
  intro pins s σ H xs us Q I r h
  obtain ⟨z, rfl, hz, q⟩ := h
  obtain ⟨u, rfl, t, rfl⟩ := vals1 r
  have hn := line63
  exact len_str (by omega) ⟨.int z.length, H, I.tok _, ⟨_, rfl⟩, q⟩
theorem call_tuple_of : CallR X (.type "tuple") (fun xs H Q => ∃ p ys, xs = [.ref p] ∧ ((SqL X.K H p ys ∧ ∀ l, H l = none → Q (.ref l) (upd H l (.tup ys))) ∨ (SqT X.K H p ys ∧ Q (.ref p) H))) := by
  intro pins s σ H xs us Q I r h
  obtain ⟨p, ys, rfl, h⟩ := h
  obtain ⟨u, rfl, rx⟩ := vals1 r
  cases rx
  rcases h with ⟨hq, q⟩ | ⟨hq, q⟩
  · obtain ⟨its, r', pl, hz⟩ := I.list hq
    have hlen := r'.length
    refine call_tuple_list pl.isList (fun h' kp => ?_) (by simp only [List.size_toArray] <;> omega)
    have I1 : Inv X pins σ H { s with heap := h' } := I.kept (t' := s.toks) kp
    have I2 : Inv X pins σ (upd H h'.objs.size (.tup ys)) { s with heap := h'.push { cls := .type "tuple", data := .seq its.toArray } } :=
      I1.laid (t' := s.toks) (fun b o e => Heap.get?_push_of_some _ e) (Nat.le_refl _) (show ObjOk X.prog X.w _ _ _ (.tup ys) from ⟨hz, its, r', IsTup.new _ _⟩)
    exact ⟨.ref h'.objs.size, _, I2, rfl, q _ (I1.hok.fresh (Nat.le_refl _))⟩
  · obtain ⟨its, r', pl, hz⟩ := I.tuple hq
    exact call_tuple_same pl ⟨.ref p, H, I, rfl, q⟩
def tyV (K : PySem.W.Frag) (T : String) (x : V) (H : Hp) : Prop := match x with
  | .str _ => T = "str"
  | .int _ => T = "int"
  | .ref p => (T = "list" ∧ ∃ xs, SqL K H p xs) ∨ (T = "tuple" ∧ ∃ o, K.lookup p = some o ∧ o.cls = .type "tuple" ∧ o.dict = none) ∨
      (T = "dict" ∧ ((∃ kvs, H p = some (.dK kvs)) ∨ ∃ kvs, H p = some (.dT kvs))) ∨ (T = "set" ∧ ∃ S n, H p = some (.set S n))
  | _ => False
theorem tyV_is {pins : List (Addr × Obj)} {σ : St} {H : Hp} {s : Shared} {T : String} {x : V} {v : Value} (I : Inv X pins σ H s) (r : RelV x v) (ty : tyV X.K T x H) :
    s.TypeIs v T ∧ ∀ a, v = .ref a → ∃ ob, s.heap.get? a = some ob ∧ ob.dict = none := by
  cases x with
  | str z =>
    obtain ⟨t, rfl⟩ := r
    cases (show T = "str" from ty)
    exact ⟨typeIs_str s z t, fun _ e => nomatch e⟩
  | int i =>
    obtain ⟨t, rfl⟩ := r
    cases (show T = "int" from ty)
    exact ⟨typeIs_int s i t, fun _ e => nomatch e⟩
  | ref p =>
    cases r
    rcases ty with ⟨rfl, xs, hq⟩ | ⟨rfl, o, hk, hc, hd⟩ | ⟨rfl, hk⟩ | ⟨rfl, S, n, hk⟩
    · obtain ⟨its, _, pl, _⟩ := I.list hq
      refine ⟨pl.isList.typeIs, fun a e => ?_⟩
      cases e
      obtain ⟨o, n, e, c, hd, _⟩ := pl
      exact ⟨o, e, hd⟩
    · refine ⟨⟨o, I.kIn p o hk, hc⟩, fun a e => ?_⟩
      cases e
      exact ⟨o, I.kIn _ o hk, hd⟩
    · have z : ∃ o, s.heap.get? p = some o ∧ o.ExactDict := by
        rcases hk with ⟨kvs, hk⟩ | ⟨kvs, hk⟩
        · obtain ⟨_, _, _, _, o, _, _, e, ex, _⟩ := I.hok p _ hk
          exact ⟨o, e, ex⟩
        · obtain ⟨_, _, _, _, o, _, _, e, ex, _⟩ := I.hok p _ hk
          exact ⟨o, e, ex⟩
      obtain ⟨o, e, ex⟩ := z
      refine ⟨⟨o, e, ex.1⟩, fun a e2 => ?_⟩
      cases e2
      exact ⟨o, e, ex.2.1⟩
    · obtain ⟨o, _, _, _, e, ex, _⟩ := I.hok p _ hk
      refine ⟨⟨o, e, ex.1⟩, fun a e2 => ?_⟩
      cases e2
      exact ⟨o, e, ex.2.1⟩
  | _ => exact False.elim ty
def tBM (K : PySem.W.Frag) (T : String) (r : V → List V → Hp → VK → Prop) (to : TE) (t : TA) : TE := fun σ H Q => to σ H fun x H1 => tyV K T x H1 ∧ t σ H1 fun xs H2 => r x xs H2 Q
variable {o e : Expr} {es : List Expr} {to : TE} {t : TA} {name : Str} {apos cpos : Pos} {T id : String} {r : V → List V → Hp → VK → Prop}
theorem pe_bm (pa : PlainAttrs T) (slot : Slot T name id) (hty : typeOf (.builtin id) = pure (.type "method_descriptor")) (hm : MtR X id r) (ho : PE X o to) (ha : PA X (e :: es) t)
    (hbase : attributeBase o name X.env (eval o X.env) = eval o X.env := by rfl)
    (hfew : ((backTo cpos (starEach (e :: es) X.env)).all (fun x => !x.1) && (backToKw cpos (keywordEach [] X.env)).all (fun x => x.1.isSome)
      && decide ((e :: es).length + ([] : List Keyword).length + (if ([] : List Keyword).isEmpty then 0 else 1) < 30)) = true := by rfl)
    (hline : (apos.endLine == cpos.line) = true := by rfl) (hs : starEach (e :: es) X.env = (false, eval e X.env) :: starEach es X.env := by rfl) (hplain : (backTo cpos (starEach es X.env)).any (·.1) = false := by rfl) :
    PE X (.Call (.Attribute o name apos) (e :: es) [] cpos) (tBM X.K T r to t) := by
  intro pins s σ H Q I h
  refine wpAny_Call_method_late hbase hfew hline rfl (thn (ho pins s σ H _ I h) fun v s1 ⟨x, H1, I1, r1, ty, q1⟩ => ?_)
  obtain ⟨h1, h2⟩ := tyV_is I1 r1 ty
  refine ⟨T, id, pa, slot, hty, h1, h2, ?_⟩
  have hA := ha cpos pins s1 σ H1 _ I1 q1
  rw [hs] at hA ⊢
  refine Calls.callWith_builtin (by show (false || (backTo cpos (starEach es X.env)).any (·.1)) = false; rw [hplain] <;> rfl) (Calls.evalArgs_plain ?_)
  exact thn hA fun us s2 ⟨vs, H2, I2, r2, q2⟩ => hm pins s2 σ H2 x vs v us Q I2 r1 r2 q2
end
end L2
namespace L2
open PySem PySem.Spec PyProof.Rows
def MtM (X : Cx) (id : String) (r : V → List V → Hp → VK → Prop) : Prop :=
  ∀ (pins : List (Addr × Obj)) (s : Shared) (σ : St) (H : Hp) (x : V) (xs : List V) (v : Value) (us : List Value) (Q : VK), Inv X pins σ H s → RelV x v → Vals xs us → r x xs H Q →
    wpAny (model X.prog X.w) X.A (call (.builtin id) (v :: us)) (EP X pins σ Q) X.xe s
theorem Vals.one : ∀ {x : V} {us : List Value}, Vals [x] us → ∃ u, us = [u] ∧ RelV x u
  | _, _, .cons r .nil => ⟨_, rfl, r⟩
theorem Vals.two : ∀ {x y : V} {us : List Value}, Vals [x, y] us → ∃ u v, us = [u, v] ∧ RelV x u ∧ RelV y v
  | _, _, _, .cons r (.cons q .nil) => ⟨_, _, rfl, r, q⟩
theorem Vals.zero : ∀ {us : List Value}, Vals [] us → us = []
  | _, .nil => rfl
theorem Vals.dropLast {xs : List V} {us : List Value} (h : Vals xs us) : Vals xs.dropLast us.dropLast := by
  induction h with
  | nil => exact .nil
  | cons r t ih =>
    cases t with
    | nil => exact .nil
    | cons q t' => exact .cons r ih
theorem Vals.reverse {xs : List V} {us : List Value} (h : Vals xs us) : Vals xs.reverse us.reverse := by
  induction h with
  | nil => exact .nil
  | cons r t ih => rw [List.reverse_cons, List.reverse_cons]; exact Vals.append ih (.cons r .nil)
section
variable {X : Cx} {pins : List (Addr × Obj)} {σ : St} {H : Hp} {s : Shared} {l b : Addr} {xs ys zs : List V}
theorem Inv.lset {its its' : List Value} {n : Nat} {f : Array Value → Array Value} {t' : Nat} (I : Inv X pins σ H s) (hH : H l = some (.lst xs))
    (e : s.heap.get? l = some { cls := .type "list", data := .seq its.toArray n }) (hf : f its.toArray = its'.toArray) (hv : Vals ys its') (hz : ys.length ≤ sizeLine) :
    Inv X pins σ (upd H l (.lst ys)) { s with heap := s.heap.update l (Obj.mapSeq f), toks := t' } := by
  have q := PySem.IsL.update e f
  rw [hf] at q
  refine I.write (x := l) (e := l) (by rw [hH]; exact trivial) (.inl rfl) (fun b' u hb hu => (Heap.get?_update_other s.heap (Obj.mapSeq f) (Ne.symm hb)).trans hu) ⟨_, q⟩ ?_
  exact ⟨hz, its', _, hv, q⟩
theorem Inv.lnew {its : List Value} {t' : Nat} (I : Inv X pins σ H s) (hv : Vals ys its) (hz : ys.length ≤ sizeLine) :
    Inv X pins σ (upd H s.heap.objs.size (.lst ys)) { s with heap := s.heap.push { cls := .type "list", data := .seq its.toArray }, toks := t' } :=
  I.laid (fun _ _ q => Heap.get?_push_of_some _ q) (Nat.le_refl _) ⟨hz, its, 0, hv, Heap.get?_push_size _ rfl⟩
theorem Inv.fresh (I : Inv X pins σ H s) : H s.heap.objs.size = none := I.hok.fresh (Nat.le_refl _)
theorem Inv.lstM (I : Inv X pins σ H s) (hH : H l = some (.lst xs)) : xs.length ≤ sizeLine ∧ ∃ (its : List Value) (n : Nat), Vals xs its ∧ xs.length = its.length ∧ s.heap.get? l = some { cls := .type "list", data := .seq its.toArray n } := by
  obtain ⟨z, its, n, r, e⟩ := I.hok l _ hH
  exact ⟨z, its, n, r, r.length, e⟩
end
section
variable {X : Cx}
def rAppend : V → List V → Hp → VK → Prop := fun x vs H Q => ∃ l xs y, x = .ref l ∧ vs = [y] ∧ H l = some (.lst xs) ∧ xs.length < sizeLine ∧ Q .non (upd H l (.lst (xs ++ [y])))
theorem mt_append : MtM X "list.append" rAppend := by
  intro pins s σ H x vs v us Q I rx rv h
  obtain ⟨l, xs, y, rfl, rfl, hH, hz, q⟩ := h
  cases rx
  obtain ⟨u, rfl, ru⟩ := rv.one
  obtain ⟨z, its, n, r, hl, e⟩ := I.lstM hH
  refine call_meets F.slot_list_append ⟨_, e, rfl⟩ F.entry_list_append (F.args_list_append_2 _ _) (PySem.list_append l its.toArray n u (by rw [List.size_toArray]; omega)) ⟨e, ?_⟩
  refine ⟨.non, _, I.lset (its' := its ++ [u]) hH e (by simp) (r.append (.cons ru .nil)) ?_, rfl, q⟩
  rw [List.length_append, List.length_singleton]
  omega
def rCat : R2 := fun x y H Q => ∃ l b xs zs, x = .ref l ∧ y = .ref b ∧ H l = some (.lst xs) ∧ H b = some (.lst zs) ∧ xs.length + zs.length ≤ sizeLine ∧ ∀ p, H p = none → Q (.ref p) (upd H p (.lst (xs ++ zs)))
theorem op_cat : OpR X (binaryOp .Add) rCat := by
  intro pins s σ H x y v u Q I rx ry h
  obtain ⟨l, b, xs, zs, rfl, rfl, hH, hB, hz, q⟩ := h
  cases rx
  cases ry
  obtain ⟨z, its, n, r, hl, e⟩ := I.lstM hH
  obtain ⟨z2, its2, n2, r2, hl2, e2⟩ := I.lstM hB
  refine PySem.P.add_list e e2 ?_ (by rw [List.size_toArray, List.size_toArray]; omega)
  have ea : its.toArray ++ its2.toArray = (its ++ its2).toArray := by simp
  rw [ea]
  exact ⟨.ref _, _, I.lnew (t' := s.toks) (r.append r2) (by rw [List.length_append]; omega), rfl, q _ I.fresh⟩
end
section
variable {prog : Program} {w : World} {A : Around} {E : Value → Shared → Prop} {s : Shared}
end
section
variable {X : Cx}
end
end L2
namespace Att
open PySem PySem.W PySem.Calls PyProof.Rows
theorem ints_of_wellAll {P : Params} {h : Heap} : ∀ (ns : List Int) (vs : List Value), WellAll P h vs (ns.map WData.int) → IntsAre vs ns := by
  intro ns
  induction ns with
  | nil =>
    intro vs w
    rw [List.map_nil] at w
    cases w
    exact .nil
  | cons n ns ih =>
    intro vs w
    rw [List.map_cons] at w
    cases w with
    | cons a b =>
      cases a
      exact .cons _ _ (ih _ b)
theorem script_of {l : OpenLaw} {n : Nat} (hn : l.most = some n) {P : Params} {h : Heap} {args : List WData} {vals : List Value}
    (hpre : l.row.toRowW.claim.pre args = true) (hwl : WellAll P h vals args) :
    ∃ a vs ns, vals = [Value.ref a] ∧ args = [WData.list (ns.map WData.int)] ∧ h.get? a = some { cls := .type "list", data := .seq vs.toArray } ∧ IntsAre vs ns ∧ ns.length ≤ n := by
  have hsh : WShape.hasAll [] args [.list .int] = true := (pre_splitW hpre).1
  have hc : l.pre.holds [] { args := args } = true := (pre_splitW hpre).2
  obtain ⟨d, r, rfl, h1, h2⟩ := hasAllW_cons hsh
  obtain rfl := hasAllW_nil h2
  obtain ⟨xs, rfl, h3⟩ := hasW_list h1
  obtain ⟨ns, rfl⟩ := items_int h3
  have hlen : ns.length ≤ n := by
    unfold OpenLaw.pre at hc
    have h4 : (WTm.not (.lt (.lit (.int (n : Int))) (.len (.arg 0)))).holds [] { args := [.list (ns.map .int)] } = true := by
      have h4 := (holds_andW hc).1
      rw [hn] at h4
      exact h4
    have h5 := condW_of h4 (w_not (w_lt w_lit (w_len_list (w_arg rfl))))
    rw [List.length_map] at h5
    refine Nat.le_of_not_lt fun q => ?_
    have q' : (n : Int) < ((ns.length : Nat) : Int) := by omega
    first
      | (rw [decide_eq_true q'] at h5; exact absurd h5 (by decide))
      | (simp at h5; omega)
  cases hwl with
  | cons w1 w2 =>
    cases w2
    cases w1 with
    | list ho hall => exact ⟨_, _, ns, rfl, rfl, ho, ints_of_wellAll ns _ hall, hlen⟩
theorem post_true (l : OpenLaw) (args : List WData) : l.row.toRowW.claim.post args (.bool true) args = true :=
  postW_of (r := l.row.toRowW) (X := (true == true))
    (show WShape.has [] (.bool true) .bool = true by first | rfl | decide | simp [WShape.has, WShape.arms, WShape.armsAll])
    (show (WTm.eq .res (.lit (.bool true))).value [] { args := args, res := some (.bool true), after := args } = some (.bool (true == true)) from w_eq_bool (w_res rfl) w_lit) rfl
theorem attach_call {l : OpenLaw} {n : Nat} {q : Program} {loose : List Str} {XP : (Str → Option Value) → Heap → Prop} {YP : World → Heap → Prop} {d : DefRec}
    (hn : l.most = some n) (hdf : d.params.defaults = [])
    (call : ∀ (w : World) (s₀ s₁ : Shared) (mg mb : Str → Option Value) (fa : Addr) (o : Obj) (pm cd doc : Value) (a : Addr) (vs : List Value) (ns : List Int),
      Ground q loose [] XP w s₀ mg mb s₁.heap → YP w s₁.heap →
      s₁.heap.get? fa = some o → o.data = .func (docDef d.name d.params d.body d.scope pm cd doc) → s₁.heap.CodeRec cd d.name → mg d.name = some (.ref fa) →
      s₁.heap.get? a = some { cls := .type "list", data := .seq vs.toArray } → IntsAre vs ns → ns.length ≤ n → s₁.gens = #[] →
      codeAny (model l.prog w) callerA (.call (.ref fa) ⟨[.ref a], []⟩) (fun r s' => r = .ok (.ret (.bool true)) ∧ OldK s₁.heap s'.heap ∧ s'.os = s₁.os ∧ AllBare s'.gens) s₁) :
    WalkO q loose XP YP l.row.toRowW d [] (fun f vs => PySem.call f vs) := by
  intro w s₀ s₁ mg mb G Y fa o pm cd doc dV kV ho hd hcd hD hmg hg args vals as hpre hlay hrd hwl hlo
  obtain rfl : dV = .none := Dflts.none hD hdf
  obtain rfl : kV = .none := Dflts.noKw hD
  obtain ⟨a, vs, ns, rfl, rfl, hobj, hints, hlen⟩ := script_of hn hpre hwl
  refine enter_call (codeAny_mono (call w s₀ s₁ mg mb fa o pm cd doc a vs ns G Y ho (fd_plain hd) hcd hmg hobj hints hlen hg) fun r s' hq => ?_)
  obtain ⟨rfl, h2, h3, h4⟩ := hq
  exact ⟨.inl ⟨.bool true, .bool true, [], rfl, fun _ => rfl, .bool true, post_true l _, fun _ => ⟨List.Pairwise.nil, fun _ hm => (nomatch hm)⟩⟩, h2, h3, h4⟩
section
variable {prog : Program} {w : World} {A : Around} {E : Value → Shared → Prop} {s : Shared} {K : Frag}
end
end Att
namespace L2
open PySem PySem.Spec PyProof.Rows
theorem vals_ints : ∀ {vs : List Value} {ns : List Int}, IntsAre vs ns → Vals (ns.map V.int) vs
  | _, _, .nil => .nil
  | _, _, .cons n t h => .cons ⟨t, rfl⟩ (vals_ints h)
def Only (H : Hp) : Prop := ∀ b, H b = none ∨ ∃ o xs, H b = some (.frz o (.lst xs))
theorem law_call {P : Program} {w : World} {K : PySem.W.Frag} {mg mb : Str → Option Value} {CX : CXT} {k : Nat} {fa a : Addr} {fd : FuncData} {x : Str} {sp : Sp} {s₁ : Shared} {vs : List Value} {ns : List Int}
    (KX : K.In s₁.heap) (hns : s₁.heap.Ns mainGlobals mg) (hb : s₁.heap.Ns builtinsNs mb) (hbb : ∀ x : Str, x ≠ "__name__" → mb x = bootBuiltins x) (hlim : s₁.heap.NoLimit) (hg : s₁.gens = #[])
    (ha : s₁.heap.get? a = some { cls := .type "list", data := .seq vs.toArray }) (hi : IntsAre vs ns) (hl : ns.length ≤ sizeLine) (hr : Room k callerA)
    (F : ∀ base : Heap, K.In base → base.Ns mainGlobals mg → FnOk P w K mg base CX k fa fd [x] sp) (hbind : ∀ (s : Shared) (u : Value), BindsTo s fd ⟨[u], []⟩ [(x, u)])
    (hsp : ∀ H : Hp, Only H → SqL K H a (ns.map V.int) → sp [.ref a] H (fun v _ => v = .bl true) fun _ _ _ => False)
    (hCX : ∀ H e s', CX [] H s₁ (fun _ _ _ => False) e s' → False) :
    codeAny (model P w) callerA (.call (.ref fa) ⟨[.ref a], []⟩) (fun r s' => r = .ok (.ret (.bool true)) ∧ OldK s₁.heap s'.heap ∧ s'.os = s₁.os ∧ AllBare s'.gens) s₁ := by
  have rv := vals_ints hi
  have lenV := hi.length
  have core : ∀ H : Hp, Only H → SqL K H a (ns.map V.int) → HOk P w H s₁.heap → (∀ b, H b ≠ none → b = a) → (H a ≠ none → K.lookup a = none) →
      codeAny (model P w) callerA (.call (.ref fa) ⟨[.ref a], []⟩) (fun r s' => r = .ok (.ret (.bool true)) ∧ OldK s₁.heap s'.heap ∧ s'.os = s₁.os ∧ AllBare s'.gens) s₁ := by
    intro H hO hS hok hA hK
    have base_of : ∀ {b : Addr} {o : Obj}, s₁.heap.get? b = some o → H b = none → (hidT s₁.heap H).get? b = some o := fun e n => hidT_get e n
    have noA : ∀ {b : Addr} {o : Obj} {es : Array DictEntry} {ep : Nat}, s₁.heap.get? b = some o → o.data = .dict es ep → H b = none := fun {b o es ep} e d => by
      cases q : H b with
      | none => rfl
      | some u =>
        have e' : b = a := hA b (by rw [q]; simp)
        subst e'
        rw [ha] at e; cases e
        have d' : Data.seq vs.toArray _ = Data.dict es ep := d
        cases d'
    have nsK : ∀ {b : Addr} {m : Str → Option Value}, s₁.heap.Ns b m → (hidT s₁.heap H).Ns b m := fun {b m} ⟨o, es, ep, e, d, r⟩ => ⟨o, es, ep, base_of e (noA e d), d, r⟩
    have hKb : K.In (hidT s₁.heap H) := fun b o e => base_of (KX b o e) (by
      cases q : H b with
      | none => rfl
      | some u =>
        have e' : b = a := hA b (by rw [q]; simp)
        subst e'
        rw [hK (by rw [q]; simp)] at e; cases e)
    have hM : Mod K mg (hidT s₁.heap H) := ⟨hKb, nsK hns, ⟨mb, nsK hb, hbb⟩, let ⟨mc, h1, h2⟩ := hlim; ⟨mc, nsK h1, h2⟩⟩
    have e0 : Env0 P w K mg (hidT s₁.heap H) callerA [] s₁ H := ⟨rfl, hM, fun b o e => of_hidT e, Nat.le_of_eq (hidT_size _ _), trivial, fun b hb => absurd (show b ∈ ([] : List Addr) from hb) (by simp), hok, .of_eq hg⟩
    refine codeAny_mono ((F _ hKb (nsK hns)).run callerA [] s₁ H ⟨[.ref a], []⟩ [.ref a] [.ref a] _ _ hr e0 (hbind s₁ (.ref a)) (.cons rfl .nil) (hsp H hO hS)) fun r s' h => ?_
    cases r with
    | error e => exact (hCX H e s' h).elim
    | ok fl =>
      cases fl with
      | next => exact False.elim h
      | brk => exact False.elim h
      | cont => exact False.elim h
      | ret u =>
        obtain ⟨v, H', os, bare, un, hok', r', q⟩ := h
        have q' : v = .bl true := q
        subst q'
        obtain rfl : u = Value.bool true := r'
        refine ⟨rfl, OldK.of_keep fun b o e => ?_, os, bare⟩
        cases q : H b with
        | none => exact un.keep b o e q (by intro z; exact absurd (show b ∈ ([] : List Addr) from z) (by simp)) (by simp)
        | some u =>
          rcases hO b with z | ⟨ob, xs, z⟩
          · rw [q] at z; cases z
          · have z2 := un.frzs b ob _ z
            obtain ⟨e1, _⟩ := hok b _ z
            obtain ⟨e2, _⟩ := hok' b _ z2
            rw [e] at e1; cases e1
            exact e2
  cases hk : K.lookup a with
  | some o =>
    have e := KX a o hk
    rw [ha] at e
    cases e
    refine core (fun _ => none) (fun _ => .inl rfl) (.inr ⟨_, vs.toArray, _, hk, rfl, rfl, rfl, by rw [List.size_toArray, lenV]; exact hl, by simpa using rv⟩) (fun b u z => by have z' : (none : Option HO) = some u := z; cases z') (fun b z => absurd rfl z) fun z => absurd rfl z
  | none =>
    refine core (fun b => if b = a then some (.frz { cls := .type "list", data := .seq vs.toArray } (.lst (ns.map V.int))) else none) (fun b => ?_) (.inl (.inr ⟨{ cls := .type "list", data := .seq vs.toArray }, if_pos rfl⟩)) (fun b u z => ?_) (fun b z => ?_) fun _ => hk
    · by_cases hb : b = a
      · exact .inr ⟨_, _, if_pos hb⟩
      · exact .inl (if_neg hb)
    · by_cases hb : b = a
      · have z' := (if_pos hb).symm.trans z
        cases z'
        subst hb
        exact ⟨ha, by rw [List.length_map]; exact hl, vs, _, rv, ha⟩
      · have z' := (if_neg hb).symm.trans z
        cases z'
    · by_cases hb : b = a
      · exact hb
      · exact absurd (if_neg hb) z
end L2
namespace L2
open PySem PySem.Spec PyProof.Rows
theorem walk_of {l : PySem.W.OpenLaw} {n k : Nat} {q : Program} {loose : List Str} {XP : (Str → Option Value) → Heap → Prop} {YP : World → Heap → Prop} {d : DefRec} {K : Params → PySem.W.Frag} {CX : World → CXT} {sp : World → Sp} {x : Str}
    (hn : l.most = some n) (hn2 : n ≤ sizeLine) (hdf : d.params.defaults = []) (hr : Room k callerA)
    (hY : ∀ (w : World) (h : Heap), YP w h → (K w.params).In h)
    (F : ∀ (w : World) (mg : Str → Option Value) (fa : Addr) (h : Heap), (K w.params).In h → h.Ns mainGlobals mg → mg d.name = some (.ref fa) →
      ∃ fd : FuncData, (∀ (s : Shared) (u : Value), BindsTo s fd ⟨[u], []⟩ [(x, u)]) ∧
        ∀ base : Heap, (K w.params).In base → base.Ns mainGlobals mg → FnOk l.prog w (K w.params) mg base (CX w) k fa fd [x] (sp w))
    (hsp : ∀ (w : World) (H : Hp) (a : Addr) (ns : List Int), ns.length ≤ n → Only H → SqL (K w.params) H a (ns.map V.int) → sp w [.ref a] H (fun v _ => v = .bl true) fun _ _ _ => False)
    (hCX : ∀ (w : World) (H : Hp) (s : Shared) (e : Value) (s' : Shared), CX w [] H s (fun _ _ _ => False) e s' → False) :
    PySem.W.WalkO q loose XP YP l.row.toRowW d [] (fun f vs => PySem.call f vs) := by
  refine Att.attach_call hn hdf fun w s₀ s₁ mg mb fa o pm cd doc a vs ns G Y ho hd hcd hmg hobj hints hlen hg => ?_
  have KX := hY w _ Y
  obtain ⟨fd, hb, hF⟩ := F w mg fa _ KX G.T.g hmg
  exact law_call KX G.T.g G.T.b G.T.builtins G.T.nolimit hg hobj hints (Nat.le_trans hlen hn2) hr hF hb (fun H hO hS => hsp w H a ns hlen hO hS) fun H e s' => hCX w H s₁ e s'
end L2
namespace L2
open PySem PySem.Spec PyProof.Rows
def defArgs (s : Stmt) : Arguments := match s with
  | .FunctionDef _ a _ _ _ _ _ _ _ _ => a
  | _ => { posonlyargs := [], args := [], vararg := none, kwonlyargs := [], kw_defaults := [], kwarg := none, defaults := [] }
def defBody (s : Stmt) : List Stmt := match s with
  | .FunctionDef _ _ b _ _ _ _ _ _ _ => b
  | _ => []
def defScope (s : Stmt) : Scope := match s with
  | .FunctionDef _ _ _ _ _ _ sc _ _ _ => sc
  | _ => { kind := .function, names := [], isGenerator := false, isCoroutine := false }
abbrev CX0 : CXT := fun _ _ _ _ _ _ => False
abbrev E0 : XK := fun _ _ _ => False
theorem pass0 {X : Cx} : Passes CX0 X E0 := fun _ _ _ _ _ _ _ h => h.elim
structure Fun (K : PySem.W.Frag) (x qual : Str) (st : Stmt) (f : Addr) (fd : FuncData) : Prop where
  ex : ∃ (oc : Value) (od : Option Addr) (kV doc pm : Value) (an : Option Addr) (cdv ct : Value) (osl : Array (Option Value)),
    fd = PySem.W.fnOf x qual (defArgs st) (defBody st) (defScope st) .none kV doc pm an cdv ct ∧ K.lookup f = some ⟨oc, od, .func fd, osl⟩ ∧ PySem.W.codeIn K cdv qual = true
  kp : PySem.W.keepIn K (.ref f) = true
section
variable {P : Program} {w : World} {K : PySem.W.Frag} {mg : Str → Option Value} {base : Heap}
theorem Fun.ok {x qual : Str} {st : Stmt} {f : Addr} {fd : FuncData} {N ps : List Str} {k : Nat} {sp : Sp} (F : Fun K x qual st f fd) (S : FnScope N ps (defScope st)) (len : ∀ vs H Q E, sp vs H Q E → vs.length = ps.length)
    (hbody : ∀ (cdv : Value) (A : Around) (outer : List Env) (s : Shared) (H : Hp) (vs : List V) (Q : VK) (E : XK), Room k (A.deeper (envOfC qual (defScope st) s.heap.objs.size f cdv)) → sp vs H Q E →
      ∃ t, PSs (cxOf CX0 P w K mg base N qual (defScope st) f cdv A outer s H E).nox (defBody st) t ∧ t { nx := fun _ H' => Q .non H', rt := Q } (start N vs) H) : FnOk P w K mg base CX0 (k + 1) f fd ps sp := by
  obtain ⟨oc, od, kV, doc, pm, an, cdv, ct, osl, rfl, lk, hcd⟩ := F.ex
  refine fn_of lk hcd S len fun A outer s H vs Q E hr hsp => ?_
  obtain ⟨t, h, q⟩ := hbody cdv A outer s H vs Q E hr hsp
  exact ⟨t, h.nox, q⟩
theorem Fun.binds {x qual : Str} {st : Stmt} {f : Addr} {fd : FuncData} {ps : List Str} (F : Fun K x qual st f fd)
    (h : ∀ (kV doc pm : Value) (an : Option Addr) (cdv ct : Value) (us : List Value), us.length = ps.length → bindArgs (PySem.W.fnOf x qual (defArgs st) (defBody st) (defScope st) .none kV doc pm an cdv ct) ⟨us, []⟩ = pure (ps.zip us)) : Binds K fd ps [] := by
  obtain ⟨oc, od, kV, doc, pm, an, cdv, ct, osl, rfl, lk, hcd⟩ := F.ex
  exact .all (h kV doc pm an cdv ct)
theorem fun_mk {x qual : Str} {st : Stmt} {f : Addr} {oc : Value} {od an : Option Addr} {osl : Array (Option Value)} {kV doc pm cdv ct : Value} (l : K.lookup f = some ⟨oc, od, .func (PySem.W.fnOf x qual (defArgs st) (defBody st) (defScope st) .none kV doc pm an cdv ct), osl⟩)
    (c : PySem.W.codeIn K cdv qual = true) (k : PySem.W.keepIn K (.ref f) = true) : Fun K x qual st f (PySem.W.fnOf x qual (defArgs st) (defBody st) (defScope st) .none kV doc pm an cdv ct) := ⟨⟨oc, od, kV, doc, pm, an, cdv, ct, osl, rfl, l, c⟩, k⟩
end
section
variable {X : Cx}
theorem pv (i : Nat) {x : Str} {pos : Pos} (hN : X.N[i]? = some x := by rfl) (hv : Vis X.env.scope x := by first | exact Or.inl rfl | exact Or.inr (Or.inl rfl) | exact Or.inr (Or.inr rfl)) (hd : (x == ("__debug__" : Str)) = false := by decide)
    (hcd : (x == ("__classdict__" : Str)) = false := by decide) : PE X (.Name x pos) (tVar i) := pe_var hN hv hd hcd
end
theorem iteF {A B : Prop} (h : B) : if false = true then A else B := by
  rw [if_neg Bool.false_ne_true]
  exact h
theorem iteT {A B : Prop} (h : A) : if true = true then A else B := by
  rw [if_pos rfl]
  exact h
theorem ite2 {c A B : Prop} [Decidable c] (h1 : c → A) (h2 : ¬ c → B) : if c then A else B := by
  by_cases h : c
  · rw [if_pos h]
    exact h1 h
  · rw [if_neg h]
    exact h2 h
def Same (H H' : Hp) : Prop := ∀ b o, H b = some o → H' b = some o
theorem Same.refl (H : Hp) : Same H H := fun _ _ h => h
theorem Same.trans {H H1 H2 : Hp} (a : Same H H1) (b : Same H1 H2) : Same H H2 := fun c o h => b c o (a c o h)
theorem Same.free {H H' : Hp} (e : Same H H') {l : Addr} (h : H' l = Option.none) : H l = Option.none := by
  cases q : H l with
  | none => rfl
  | some o =>
    rw [e l o q] at h
    cases h
theorem Same.seq {K : PySem.W.Frag} {H H' : Hp} {a : Addr} {xs : List V} (e : Same H H') (h : SqL K H a xs) : SqL K H' a xs := by
  rcases h with (h | ⟨o, h⟩) | h
  · exact .inl (.inl (e _ _ h))
  · exact .inl (.inr ⟨o, e _ _ h⟩)
  · exact .inr h
end L2
set_option Elab.async false
set_option linter.all false
set_option maxRecDepth 100000
namespace L2
open PySem PySem.Spec PyProof.Rows
def closOf (cells : List (Str × Addr)) : List (Str × NameKind) → List (Str × Addr) → List (Str × Addr)
  | [], cs => cs
  | (n, k) :: r, cs => closOf cells r (if k = .free then (match cells.lookup n with | some c => (n, c) :: cs | none => cs) else cs)
theorem closureFor_loop {env : Env} : ∀ (names : List (Str × NameKind)) (cs : List (Str × Addr)), (∀ x ∈ names, x.2 = .free → ∃ c, env.cells.lookup x.1 = some c) →
    (forIn names cs fun (x : Str × NameKind) (r : List (Str × Addr)) => if (x.2 == .free) = true then (do let c ← cellOf env x.1; pure (ForInStep.yield ((x.1, c) :: r)) : Sem _) else pure (ForInStep.yield r)) = pure (closOf env.cells names cs)
  | [], cs, _ => rfl
  | (n, k) :: r, cs, h => by
    have ih := fun cs' => closureFor_loop (env := env) r cs' fun x hx => h x (List.mem_cons_of_mem _ hx)
    rw [List.forIn_cons]
    by_cases hk : k = .free
    · subst hk
      obtain ⟨c, hc⟩ := h (n, .free) List.mem_cons_self rfl
      have e : cellOf env n = pure c := by unfold cellOf; rw [hc]
      simp only [beq_self_eq_true, if_true, e, pure_bind, closOf, hc]
      exact ih _
    · have hb : (k == NameKind.free) = false := by simpa using hk
      simp only [hb, Bool.false_eq_true, if_false, pure_bind, closOf, hk]
      exact ih _
theorem closureFor_eq {scope : Scope} {env : Env} (h : ∀ x ∈ scope.names, x.2 = .free → ∃ c, env.cells.lookup x.1 = some c) : closureFor scope env = pure (closOf env.cells scope.names []) := by
  have e := closureFor_loop scope.names [] h
  unfold closureFor
  first
    | (simp only [bind_pure]; exact e)
    | (show (forIn scope.names [] _ >>= fun r => pure r) = _
       rw [show (forIn scope.names ([] : List (Str × Addr)) _ : Sem _) = _ from e]
       rfl)
theorem closOf_sub {cells : List (Str × Addr)} {y : Str} {c : Addr} : ∀ {names : List (Str × NameKind)} {cs : List (Str × Addr)}, (∀ y c, cs.lookup y = some c → cells.lookup y = some c) → (closOf cells names cs).lookup y = some c → cells.lookup y = some c
  | [], cs, h, e => h y c e
  | (n, k) :: r, cs, h, e => by
    refine closOf_sub (names := r) ?_ e
    intro y' c' e'
    by_cases hk : k = .free
    · rw [if_pos hk] at e'
      cases q : cells.lookup n with
      | none => rw [q] at e'; exact h _ _ e'
      | some d =>
        rw [q] at e'
        simp only [List.lookup_cons] at e'
        cases hb : y' == n with
        | true =>
          rw [hb] at e'
          cases e'
          have : y' = n := by simpa using hb
          rw [this]; exact q
        | false => rw [hb] at e'; exact h _ _ e'
    · rw [if_neg hk] at e'; exact h _ _ e'
theorem closOf_has {cells : List (Str × Addr)} {y : Str} : ∀ {names : List (Str × NameKind)} {cs : List (Str × Addr)}, ((∃ c, cs.lookup y = some c) ∨ ((y, NameKind.free) ∈ names ∧ ∃ c, cells.lookup y = some c)) → ∃ c, (closOf cells names cs).lookup y = some c
  | [], cs, h => by
    rcases h with h | ⟨h, _⟩
    · exact h
    · cases h
  | (n, k) :: r, cs, h => by
    refine closOf_has (names := r) ?_
    rcases h with ⟨c, h⟩ | ⟨h, c, hc⟩
    · left
      by_cases hk : k = .free
      · rw [if_pos hk]
        cases q : cells.lookup n with
        | none => exact ⟨c, h⟩
        | some d =>
          simp only [List.lookup_cons]
          cases hb : y == n with
          | true => exact ⟨d, rfl⟩
          | false => exact ⟨c, h⟩
      · rw [if_neg hk]; exact ⟨c, h⟩
    · rcases List.mem_cons.mp h with e | h
      · cases e
        left
        rw [if_pos rfl, hc]
        exact ⟨c, by simp⟩
      · exact .inr ⟨h, c, hc⟩
theorem lookup_relabel {env : Env} : ∀ {names : List (Str × NameKind)} {x : Str} {k : NameKind},
    (names.map fun (n, k) => if (k == NameKind.free && env.scope.kind == .function && env.kindOf n == some .cell) then (n, NameKind.cell) else (n, k)).lookup x = some k → names.lookup x = some k ∨ (k = .cell ∧ names.lookup x = some .free)
  | [], _, _, h => by simp at h
  | (n, k0) :: r, x, k, h => by
    have ih := @lookup_relabel env r x k
    rw [List.map_cons] at h
    by_cases hc : (k0 == NameKind.free && env.scope.kind == .function && env.kindOf n == some .cell) = true
    · simp only [hc, if_true, List.lookup_cons] at h
      have hk0 : k0 = .free := by
        simp only [Bool.and_eq_true] at hc
        simpa using hc.1.1
      cases hx : x == n with
      | true => rw [hx] at h; cases h; right; simp [List.lookup_cons, hx, hk0]
      | false => rw [hx] at h; simp only [List.lookup_cons, hx]; exact ih h
    · have hc' : (k0 == NameKind.free && env.scope.kind == .function && env.kindOf n == some .cell) = false := by simpa using hc
      simp only [hc', Bool.false_eq_true, if_false, List.lookup_cons] at h
      cases hx : x == n with
      | true => rw [hx] at h; cases h; left; simp [List.lookup_cons, hx]
      | false => rw [hx] at h; simp only [List.lookup_cons, hx]; exact ih h
def cxC (X : Cx) (N : List Str) (scope : Scope) (C : Addr) (s₀ : Shared) (H₀ : Hp) (ex : List Addr) : Cx where
  prog := X.prog
  w := X.w
  K := X.K
  mg := X.mg
  base := X.base
  A := X.A
  N := N
  s₀ := s₀
  H₀ := H₀
  env := compEnvC scope (closOf X.env.cells scope.names []) C X.env
  outer := X.stack
  stack := X.stack
  ex := ex
  fn := fun _ => false
  calm := X.calm
  pn := []
  xe := fun _ _ => False
def capt (js : List Nat) (σ : St) : St := js.map fun j => (σ[j]?).join
theorem capt_get {js : List Nat} {σ : St} {i : Nat} {v : V} (h : (capt js σ)[i]? = some (some v)) : ∃ j, js[i]? = some j ∧ σ[j]? = some (some v) := by
  unfold capt at h
  rw [List.getElem?_map] at h
  cases e : js[i]? with
  | none => rw [e] at h; cases h
  | some j =>
    rw [e] at h
    have h' : (σ[j]?).join = some v := Option.some.inj h
    refine ⟨j, rfl, ?_⟩
    cases q : σ[j]? with
    | none => rw [q] at h'; cases h'
    | some z => rw [q] at h'; exact congrArg some h'
structure CScope (sc : Scope) (scope : Scope) (x : Str) (M : List Str) (ys : List Str) (js : List Nat) : Prop where
  kind : scope.kind = .function
  cell : ∀ y ∈ scope.names, y.2 ≠ .cell
  loc : ∀ y ∈ scope.names, y.2 = .local → scope.names.lookup y.1 = some .local
  var : scope.names.lookup x = some .local
  free : ∀ y ∈ scope.names, y.2 = .free → sc.names.lookup y.1 = some .cell ∨ sc.names.lookup y.1 = some .free
  caps : js.map (M[·]?) = ys.map some
  fr : ∀ y ∈ ys, scope.names.lookup y = some .free
  nd : (x :: ys).Nodup
section
variable {X : Cx} {pins : List (Addr × Obj)} {σ : St} {H : Hp} {s : Shared}
theorem inv_comp {scope : Scope} {x : Str} {ys : List Str} {js : List Nat} {fp : List Addr} {h₁ : Heap} {tk : Nat} {C : Addr} (I : Inv X pins σ H s) (S : CScope X.env.scope scope x X.N ys js) (hf : ∀ b ∈ fp, FpOk X pins H b) (ho : ∀ b ∈ fp, ∃ o, s.heap.get? b = some o)
    (hC : s.heap.objs.size ≤ C) (hk : ∀ b o, s.heap.get? b = some o → h₁.get? b = some o) (hn : h₁.Ns C fun _ => none) :
    Inv (cxC X (x :: ys) scope C s H fp) [] (none :: capt js σ) H { s with heap := h₁, toks := tk } := by
  have sub : ∀ y c, (closOf X.env.cells scope.names []).lookup y = some c → X.env.cells.lookup y = some c := fun y c e => closOf_sub (fun _ _ z => by simp at z) e
  have has : ∀ y, scope.names.lookup y = some .free → ∃ c, (closOf X.env.cells scope.names []).lookup y = some c := fun y e => by
    have m : (y, NameKind.free) ∈ scope.names := PySem.mem_of_lookup e
    exact closOf_has (.inr ⟨m, I.ok.has y (S.free _ m rfl)⟩)
  have lt : ∀ b ∈ fp, b < s.heap.objs.size := fun b hb => by obtain ⟨o, e⟩ := ho b hb; exact Heap.lt_size e
  have ok : (cxC X (x :: ys) scope C s H fp).Ok := by
    refine ⟨I.ok.mod, S.kind, I.ok.glob, I.ok.blt, hC, fun y z c e1 e2 => I.ok.inj y z c (sub _ _ e1) (sub _ _ e2), fun y hy => ?_, fun y c z => ?_, I.ok.hd, I.ok.frames, .inl rfl, fun b hb => ?_, I.bs, Nat.le_trans I.ok.bsz I.sz, fun b o e hb => ?_, fun b hb z => ?_, I.stack, I.stkFree⟩
    · have hy' : (relabel scope X.env).names.lookup y = some .cell ∨ (relabel scope X.env).names.lookup y = some .free := hy
      have nocell : scope.names.lookup y ≠ some .cell := fun z => S.cell _ (PySem.mem_of_lookup z) rfl
      rcases hy' with e | e
      · rcases lookup_relabel e with z | ⟨_, z⟩
        · exact absurd z nocell
        · exact has y z
      · rcases lookup_relabel e with z | ⟨z, _⟩
        · exact has y z
        · cases z
    · exact absurd (show false = true from z) Bool.false_ne_true
    · refine ⟨Nat.ne_of_lt (Nat.lt_of_lt_of_le (lt b hb) hC), fun y c e => (hf b hb).2.2.2.2.1 y c (sub y c e)⟩
    · rcases (hf b hb).2.2.2.1 with z | z
      · exact I.ok.noex b o e z
      · exact absurd (Nat.lt_of_lt_of_le (Heap.lt_size e) (Nat.le_trans I.ok.bsz z)) (Nat.lt_irrefl _)
    · rcases List.mem_cons.mp (I.stkSub b z) with e | e
      · exact (hf b hb).2.1 e
      · exact (hf b hb).2.2.1 e
  refine ⟨ok, rfl, I.bare, Un.kept hk, ⟨_, hn, fun i y v e1 e2 e3 => ?_⟩, fun y c e => ?_, I.hok.fresh hC, fun y c e => I.freeC y c (sub y c e), fun p hp => absurd (show p ∈ ([] : List (Addr × Obj)) from hp) (by simp), I.hok.kept hk, ?_⟩
  · cases i with
    | zero => simp at e2
    | succ i =>
      have e1' : ys[i]? = some y := by simpa [cxC] using e1
      have e2' : (capt js σ)[i]? = some (some v) := by simpa using e2
      obtain ⟨j, hj, hσ⟩ := capt_get e2'
      have hN : X.N[j]? = some y := by
        have z := congrArg (fun l => l[i]?) S.caps
        simp only [List.getElem?_map, hj, e1', Option.map_some] at z
        exact Option.some.inj z
      have hfr := S.fr y (List.mem_of_getElem? e1')
      have m : (y, NameKind.free) ∈ scope.names := PySem.mem_of_lookup hfr
      have hkind := S.free _ m rfl
      obtain ⟨m', hns, hl⟩ := I.loc
      obtain ⟨u, r, lk⟩ := hl j y v hN hσ (by rcases hkind with z | z; exact .inr (.inl z); exact .inr (.inr z))
      refine ⟨u, r, .inr ⟨?_, ?_⟩⟩
      · have e3' : (relabel scope X.env).names.lookup y = some .local ∨ (relabel scope X.env).names.lookup y = some .cell ∨ (relabel scope X.env).names.lookup y = some .free := e3
        rcases e3' with z | z | z
        · rcases lookup_relabel z with q | ⟨q, _⟩
          · rw [hfr] at q; cases q
          · cases q
        · exact .inl z
        · exact .inr z
      · obtain ⟨c, hc⟩ := has y hfr
        refine ⟨c, hc, ?_⟩
        rcases lk with ⟨z, _⟩ | ⟨_, c', hc', cell⟩
        · rcases hkind with q | q
          · have q' : X.env.kindOf y = some .cell := q
            rw [show X.env.kindOf y = some .local from z] at q'; cases q'
          · have q' : X.env.kindOf y = some .free := q
            rw [show X.env.kindOf y = some .local from z] at q'; cases q'
        · rw [sub y c hc] at hc'
          cases hc'
          obtain ⟨o, e, d⟩ := cell
          exact ⟨o, hk _ _ e, d⟩
  · obtain ⟨v, o, e', d⟩ := I.cell y c (sub y c e)
    exact ⟨v, o, hk _ _ e', d⟩
  · have z := congrArg List.length S.caps
    simp only [List.length_map] at z
    show (none :: capt js σ).length = (x :: ys).length
    simp [capt, z]
end
end L2
set_option Elab.async false
set_option linter.all false
set_option maxRecDepth 100000
namespace L2
open PySem PySem.Spec PyProof.Rows
theorem from_pure {α β : Type} {M : Model} {A : Around} {a : α} {Q : α → Shared → Prop} {E E' : Value → Shared → Prop} {s : Shared} {t : Sem β} {Q' : β → Shared → Prop} (h : wpAny M A (pure a) Q E s) (k : Q a s → wpAny M A t Q' E' s) : wpAny M A t Q' E' s :=
  fun Γ p hΓ => k (h Γ p hΓ) Γ p hΓ
def PTs (X : Cx) (ifs : List Expr) (t : TT) : Prop :=
  ∀ (pins : List (Addr × Obj)) (s : Shared) (σ : St) (H : Hp) (Q : Bool → Hp → Prop), Inv X pins σ H s → t σ H Q →
    wpAny (model X.prog X.w) X.A (forIn ifs true fun c r => if r = true then do let ok ← isTrue c X.env (eval c X.env); pure (ForInStep.yield ok) else pure (ForInStep.yield r)) (TP X pins σ Q) X.xe s
def tYes : TT := fun _ H Q => Q true H
theorem pts_nil {X : Cx} : PTs X [] tYes := fun pins s σ H Q I h => wpAny_tests_nil ⟨H, I, h⟩
theorem pts_one {X : Cx} {c : Expr} {t : TT} (h : PT X c t) : PTs X [c] t := fun pins s σ H Q I hw => wpAny_tests_one (h pins s σ H Q I hw)
def CompLoop (J : It) (js : List Nat) (tt : TT) (te : TE) (σ : St) (Q : VK) (H : Hp) : Prop := ∃ W : Nat → Nat → List V → Hp → Prop, (∃ m, W 0 m [] H) ∧ ∀ i m ys H, W i m ys H →
  (J.stop i H ∧ ∀ D, H D = none → Q (.ref D) (upd H D (.lst ys))) ∨
  (J.go i H ∧ ys.length < sizeLine ∧ ∃ N : List V → Hp → Prop, (∀ ys' H', N ys' H' → ∃ m', m' < m ∧ W (i + 1) m' ys' H') ∧ ∀ x H', J.yld i H x H' → tt (some x :: capt js σ) H' fun b H2 => if b = true then te (some x :: capt js σ) H2 fun v H3 => N (ys ++ [v]) H3 else N ys H2)
def tComp (wi : TI) (js : List Nat) (tt : TT) (te : TE) : TE := fun σ H Q => wi σ H fun J H1 => CompLoop J js tt te σ Q H1
theorem HOk.track {P : Program} {w : World} {H : Hp} {h : Heap} {a : Addr} {o : HO} (x : HOk P w H h) (hn : H a = none) (new : ObjOk P w (upd H a o) h a o) : HOk P w (upd H a o) h := fun b u e => by
  by_cases hb : b = a
  · subst hb; rw [upd_same] at e; cases e; exact new
  · rw [upd_ne hb] at e
    exact (x b u e).stay (fun _ _ _ q => q) (fun c q => by rw [upd_ne (ne_of_none q hn)]; exact q) fun c xs q => by rw [upd_ne (ne_of_none q hn)]; exact q
section
variable {X : Cx} {elt iter : Expr} {ifs : List Expr} {x : Str} {px pos : Pos} {scope : Scope} {ys : List Str} {js : List Nat} {wi : TI} {tt : TT} {te : TE}
theorem comp_block {pins : List (Addr × Obj)} {σ : St} {H : Hp} {s : Shared} {J : It} {fp : List Addr} {it : Addr} {tn : Nat → Heap → Prop} {Q : VK} {E : Value → Shared → Prop} {R : Value → Addr → Result → Shared → Prop}
    (S : CScope X.env.scope scope x X.N ys js) (hc : X.calm = true) (ht : ∀ C s₀ H₀ ex, PTs (cxC X (x :: ys) scope C s₀ H₀ ex) ifs tt) (he : ∀ C s₀ H₀ ex, PE (cxC X (x :: ys) scope C s₀ H₀ ex) elt te)
    (I : Inv X pins σ H s) (T : Turn X.prog X.w X.K (.Name x px) J fp it tn) (st : tn 0 s.heap) (hf : ∀ b ∈ fp, FpOk X pins H b)
    (hw : ∃ W : Nat → Nat → List V → Hp → Prop, (∃ m, W 0 m [] H) ∧ ∀ i m zs H, W i m zs H →
      (J.stop i H ∧ ∀ D, H D = none → Q (.ref D) (upd H D (.lst zs))) ∨
      (J.go i H ∧ zs.length < sizeLine ∧ ∃ N : List V → Hp → Prop, (∀ ys' H', N ys' H' → ∃ m', m' < m ∧ W (i + 1) m' ys' H') ∧ ∀ x H', J.yld i H x H' → tt (some x :: capt js σ) H' fun b H2 => if b = true then te (some x :: capt js σ) H2 fun v H3 => N (zs ++ [v]) H3 else N zs H2))
    (hR : ∀ D C s' H' m', Inv X pins σ H' s' → Q (.ref D) H' → s.heap.objs.size ≤ C → H' C = none → s'.heap.Ns C m' → R (.ref D) C (.ok .next) s') :
    wpAny (model X.prog X.w) X.A (newList []) (fun acc s₃ => wpAny (model X.prog X.w) X.A (newFunctionEnv scope X.env.globals (closOf X.env.cells scope.names []) [] X.env.qual none .none (some X.env)) (fun cenv s₄ =>
      codeAny (model X.prog X.w) X.A (.compStart (.ListComp elt [⟨.Name x px, iter, ifs, 0⟩] scope pos) 0 (.ref it) acc { cenv with scope := relabel scope X.env }) (R acc cenv.locals) s₄) E s₃) E s := by
  obtain ⟨W, ⟨m0, w0⟩, turn⟩ := hw
  refine wpAny_newObj_type (wpAny_newFunctionEnv S.cell (by intro y hy; simp at hy) (fun h₁ hns₁ hsb₁ => ?_) S.kind)
  dsimp only at hns₁ hsb₁ ⊢
  generalize hH2 : s.heap.push { cls := .type "list", dict := none, data := .seq ([] : List Value).toArray } = G at hns₁ hsb₁ ⊢
  generalize hD : s.heap.objs.size = D at *
  generalize hCe : G.objs.size = C at *
  have hC : C = D + 1 := by rw [← hCe, ← hH2, Heap.size_push, hD]
  have hDlt : D < C := by rw [hC]; exact Nat.lt_succ_self D
  have hDC : D ≠ C := Nat.ne_of_lt hDlt
  have old : ∀ b o, s.heap.get? b = some o → h₁.get? b = some o := fun b o e => by
    have hb : b < D := hD ▸ Heap.lt_size e
    exact (hsb₁.2 b (Nat.ne_of_lt (Nat.lt_trans hb hDlt))).trans (Heap.get?_push_of_some _ (hH2 ▸ Heap.get?_push_of_some _ e))
  have hacc : h₁.get? D = some { cls := .type "list", data := .seq ([] : List Value).toArray 0 } := by
    refine (hsb₁.2 D hDC).trans (Heap.get?_push_of_some _ ?_)
    rw [← hH2, ← hD]
    exact Heap.get?_push_size _ rfl
  have obj0 := T.obj 0 _ st
  have fplt : ∀ b ∈ fp, b < D := fun b hb => by obtain ⟨o, e, _⟩ := obj0 b hb; exact hD ▸ Heap.lt_size e
  generalize hX : cxC X (x :: ys) scope C s H fp = X'
  have I1 : Inv X' [] (none :: capt js σ) H { s with heap := h₁, toks := s.toks + ([] : List (Str × Value)).length } := by
    subst hX
    exact inv_comp I S hf (fun b hb => by obtain ⟨o, e, _⟩ := obj0 b hb; exact ⟨o, e⟩) (by omega) old (by simpa using hns₁)
  have eP : X'.prog = X.prog := by subst hX; rfl
  have eW : X'.w = X.w := by subst hX; rfl
  have eK : X'.K = X.K := by subst hX; rfl
  have eA : X'.A = X.A := by subst hX; rfl
  have eC : X'.calm = true := by subst hX; exact hc
  have eL : X'.env.locals = C := by subst hX; rfl
  have eS : X'.s₀ = s := by subst hX; rfl
  have eN : X'.N = x :: ys := by subst hX; rfl
  have eE : X'.env = compEnvC scope (closOf X.env.cells scope.names []) C X.env := by subst hX; rfl
  have eXe : X'.xe = fun _ _ => False := by subst hX; rfl
  have eX : X'.ex = fp := by subst hX; rfl
  have ePn : X'.pn = [] := by subst hX; rfl
  have efs : ∀ b, b ∈ X'.fs → b ∈ frs X.stack := fun b z => by subst hX; exact z
  have cellLt : ∀ y c, X'.env.cells.lookup y = some c → c < D := fun y c e => by
    have e' : (closOf X.env.cells scope.names []).lookup y = some c := by rw [eE] at e; exact e
    obtain ⟨v, o, e2, _⟩ := I.cell y c (closOf_sub (fun _ _ z => by simp at z) e')
    exact hD ▸ Heap.lt_size e2
  have frLt : ∀ b, b ∈ X'.fs → b < D := fun b z => by
    rcases List.mem_cons.mp (I.stkSub b (efs b z)) with e | e
    · rw [e]; exact hD ▸ I.lt
    · exact Nat.lt_of_not_le fun h => I.nofs (hD ▸ h) e
  have fpOk : ∀ (p : List (Addr × Obj)) (H' : Hp), (∀ b ∈ fp, H' b = none) → (∀ q ∈ p, q.1 = D) → ∀ b ∈ fp, FpOk X' p H' b := fun p H' hn hp b hb => by
    refine ⟨hn b hb, ?_, fun z => ?_, .inl (eX ▸ hb), fun y c e => ?_, fun q hq => ?_⟩
    · rw [eL]; exact Nat.ne_of_lt (Nat.lt_trans (fplt b hb) hDlt)
    · rcases List.mem_cons.mp (I.stkSub b (efs b z)) with e | e
      · exact (hf b hb).2.1 e
      · exact (hf b hb).2.2.1 e
    · have e' : (closOf X.env.cells scope.names []).lookup y = some c := by rw [eE] at e; exact e
      exact (hf b hb).2.2.2.2.1 y c (closOf_sub (fun _ _ z => by simp at z) e')
    · rw [ePn, List.nil_append] at hq
      rw [hp q hq]; exact Nat.ne_of_gt (fplt b hb)
  have noCell : ∀ (its : List Value) (k : Nat) v, ({ cls := .type "list", data := .seq its.toArray k } : Obj).data ≠ .cell v := fun its k v z => by cases z
  have done : ∀ {zs : List V} {its : List Value} {k : Nat} {H' : Hp} {s' : Shared}, Inv X' [] (none :: capt js σ) H' s' → s'.heap.get? D = some { cls := .type "list", data := .seq its.toArray k } → Vals zs its → H' D = none → zs.length ≤ sizeLine →
      (∀ D, H' D = none → Q (.ref D) (upd H' D (.lst zs))) → R (.ref D) C (.ok .next) s' := fun {zs its k H' s'} I' hd hv hn hz q => by
    have un := I'.base
    obtain ⟨m', hns, _⟩ := I'.loc
    rw [eL] at hns
    have hCn : H' C = none := by have := I'.free; rw [eL] at this; exact this
    have hH0 : X'.H₀ = H := by subst hX; rfl
    rw [hH0, eS, eX] at un
    have un2 : Un (frs X.stack) fp H (upd H' D (.lst zs)) s.heap s'.heap := by
      have ne : ∀ b o, s.heap.get? b = some o → b ≠ D := fun b o e => Nat.ne_of_lt (hD ▸ Heap.lt_size e)
      have un' : Un (frs X.stack) fp H H' s.heap s'.heap := by subst hX; exact un
      exact ⟨un'.keep, un'.slot, fun b o e n hx => by rw [upd_ne (ne b o e)]; exact un'.free b o e n hx, un'.there, fun b xs e => by rw [upd_ne (ne_of_none (un'.tups b xs e) hn)]; exact un'.tups b xs e,
        fun b o u e => by rw [upd_ne (ne_of_none (un'.frzs b o u e) hn)]; exact un'.frzs b o u e, fun b ps e => by
          obtain ⟨more, z⟩ := un'.tbls b ps e
          exact ⟨more, by rw [upd_ne (ne_of_none z hn)]; exact z⟩⟩
    have hok : HOk X.prog X.w (upd H' D (.lst zs)) s'.heap := by
      have h0 := I'.hok
      rw [eP, eW] at h0
      exact h0.track hn ⟨hz, its, k, hv, hd⟩
    have I2 : Inv X pins σ (upd H' D (.lst zs)) s' := I.call' (by have := I'.os; rw [eS] at this; exact this) un2 hok I'.bare fun b hb => ⟨(hf b hb).2.2.2.1, (hf b hb).2.1, (hf b hb).2.2.2.2.1, (hf b hb).2.2.2.2.2⟩
    exact hR D C s' _ m' I2 (q D hn) (by omega) (by rw [upd_ne (Ne.symm hDC)]; exact hCn) hns
  have loop : codeAny (model X.prog X.w) X.A (.compLoop (.ListComp elt [⟨.Name x px, iter, ifs, 0⟩] scope pos) 0 (.ref it) (.ref D) X'.env) (R (.ref D) C) { s with heap := h₁, toks := s.toks + ([] : List (Str × Value)).length } := by
    refine codeAny_compLoop_tests (fun n s' => ∃ i zs its k H', Inv X' [] (none :: capt js σ) H' s' ∧ tn i s'.heap ∧ (∀ b ∈ fp, H' b = none) ∧ s'.heap.get? D = some { cls := .type "list", data := .seq its.toArray k } ∧ Vals zs its ∧ H' D = none ∧ zs.length ≤ sizeLine ∧ W i n zs H')
      ?_ m0 ⟨0, [], [], 0, H, I1, T.keep _ _ _ st (fun b hb o e => old b o e), fun b hb => (hf b hb).1, hacc, .nil, I.hok.fresh (by omega), Nat.zero_le _, w0⟩ (fun _ => rfl)
    rintro n s3 ⟨i, zs, its, k, H3, I3, st3, fr3, d3, v3, n3, z3, w3⟩
    have pinD : Inv X' [(D, { cls := .type "list", data := .seq its.toArray k })] (none :: capt js σ) H3 s3 := I3.pins_of fun p hp => by
      have e : p = (D, { cls := .type "list", data := .seq its.toArray k }) := by simpa using hp
      subst e
      exact ⟨d3, n3, by rw [eL]; exact hDC, fun z => Nat.lt_irrefl _ (frLt D z), noCell its k⟩
    have hpD : ∀ q ∈ [(D, ({ cls := .type "list", data := .seq its.toArray k } : Obj))], q.1 = D := fun q hq => by
      have e : q = (D, { cls := .type "list", data := .seq its.toArray k }) := by simpa using hq
      rw [e]
    rcases turn i n zs H3 w3 with ⟨stop, qn⟩ | ⟨go, hzl, NN, hNN, step⟩
    · refine thn (eA ▸ T.done X' eP eW eK eC i _ s3 _ H3 _ pinD (fpOk _ _ fr3 hpD) st3 stop) fun r s4 ⟨hr, I4⟩ => ?_
      subst hr
      exact done (I4.pins_of fun p hp => absurd hp (by simp)) (I4.pin (D, { cls := .type "list", data := .seq its.toArray k }) (List.mem_append_right _ (by simp))).1 v3 n3 z3 qn
    · refine thn (eA ▸ T.item X' eP eW eK eC i _ s3 _ H3 _ pinD (fpOk _ _ fr3 hpD) st3 go) fun r s4 ⟨u, hr, h4⟩ => ?_
      subst hr
      refine from_pure (a := ()) h4 fun ⟨v, H5, I5, r5, y5, st5, fr5⟩ => ?_
      have I5' := I5.pinned (fpOk _ _ fr5 hpD) (T.obj _ _ st5)
      have ev : ∀ {α : Type} {t : Sem α} {Q' : α → Shared → Prop} {E' : Value → Shared → Prop} {s' : Shared}, wpAny (model X'.prog X'.w) X'.A t Q' X'.xe s' → wpAny (model X.prog X.w) X.A t Q' E' s' := fun {α t Q' E' s'} hh => by
        rw [eP, eW, eA, eXe] at hh
        exact wpAny_mono hh (fun _ _ q => q) fun _ _ z => z.elim
      refine ev (thn (pg_name (X := X') (i := 0) (by rw [eN]; exact S.nd) (by rw [eN]; rfl) (.inl (by rw [eE]; exact lookup_relabel_local S.var)) (.inr (by rw [eE]; exact lookup_relabel_local S.var)) _ s4 _ H5 v u (fun σ' H' => σ' = some v :: capt js σ ∧ H' = H5) I5' r5 ⟨rfl, rfl⟩) fun _ s6 ⟨σ6, H6, I6, e6, e6'⟩ => ?_)
      subst e6 e6'
      have back : ∀ {σ' : St} {H7 : Hp} {s7 : Shared}, Inv X' ([(D, { cls := .type "list", data := .seq its.toArray k })] ++ pinsAt fp s4.heap) (some v :: capt js σ) H7 s7 → Inv X' [] (none :: capt js σ) H7 s7 := fun {_ H7 s7} I7 => by
        refine (I7.pins_of fun p hp => absurd hp (by simp)).weak rfl fun i v' e => ?_
        cases i with
        | zero => simp at e
        | succ i => simpa using e
      have fps : ∀ {σ' : St} {H7 : Hp} {s7 : Shared}, Inv X' ([(D, { cls := .type "list", data := .seq its.toArray k })] ++ pinsAt fp s4.heap) σ' H7 s7 → (∀ b ∈ fp, H7 b = none) ∧ (∀ b ∈ fp, ∀ o, s4.heap.get? b = some o → s7.heap.get? b = some o) ∧ s7.heap.get? D = some { cls := .type "list", data := .seq its.toArray k } ∧ H7 D = none := fun {σ' H7 s7} I7 => by
        have g : ∀ b ∈ fp, ∀ o, s4.heap.get? b = some o → s7.heap.get? b = some o ∧ H7 b = none := fun b hb o e => by
          have z := I7.pin (b, o) (List.mem_append_right _ (List.mem_append_right _ (mem_pinsAt hb e)))
          exact ⟨z.1, z.2.1⟩
        refine ⟨fun b hb => ?_, fun b hb o e => (g b hb o e).1, (I7.pin (D, { cls := .type "list", data := .seq its.toArray k }) (List.mem_append_right _ (by simp))).1, (I7.pin (D, { cls := .type "list", data := .seq its.toArray k }) (List.mem_append_right _ (by simp))).2.1⟩
        obtain ⟨o, e, _⟩ := T.obj _ _ st5 b hb
        exact (g b hb o e).2
      have hte : PTs X' ifs tt := hX ▸ ht C s H fp
      have hee : PE X' elt te := hX ▸ he C s H fp
      refine ev (thn (hte _ s6 _ H6 _ I6 (step v H6 y5)) fun b s7 ⟨H7, I7, q7⟩ => ?_)
      cases b with
      | false =>
        rw [if_neg Bool.false_ne_true]
        rw [if_neg Bool.false_ne_true] at q7
        obtain ⟨m', hm, w7⟩ := hNN _ _ q7
        obtain ⟨g1, g2, g3, g4⟩ := fps I7
        exact ⟨m', hm, i + 1, zs, its, k, H7, back (σ' := []) I7, T.keep _ _ _ st5 g2, g1, g3, v3, g4, z3, w7⟩
      | true =>
        rw [if_pos rfl]
        rw [if_pos rfl] at q7
        refine ev (thn (hee _ s7 _ H7 _ I7 q7) fun u8 s8 ⟨v8, H8, I8, r8, q8⟩ => ?_)
        obtain ⟨m', hm, w8⟩ := hNN _ _ q8
        obtain ⟨g1, g2, g3, g4⟩ := fps I8
        have hil := v3.length
        refine call_meets F.slot_list_append ⟨_, g3, rfl⟩ F.entry_list_append (F.args_list_append_2 _ _) (PySem.list_append D its.toArray k u8 (by rw [List.size_toArray]; omega)) ⟨g3, ?_⟩
        have q := PySem.IsL.update g3 (fun a => a.push u8)
        have ea : its.toArray.push u8 = (its ++ [u8]).toArray := by simp
        rw [ea] at q
        have kk : ∀ b o, b ≠ D → s8.heap.get? b = some o → (s8.heap.update D (Obj.mapSeq fun a => a.push u8)).get? b = some o := fun b o hb e => (Heap.get?_update_other _ _ (Ne.symm hb)).trans e
        have I9 : Inv X' [] (none :: capt js σ) H8 { s8 with heap := s8.heap.update D (Obj.mapSeq fun a => a.push u8), toks := s8.toks } := by
          refine (back (σ' := []) I8).turned kk g4 (by rw [eL]; exact hDC) (.inr (by rw [eS]; omega)) (fun y c e => Nat.ne_of_lt (cellLt y c e)) fun p hp => ?_
          rw [ePn] at hp
          exact absurd hp (by simp)
        refine ⟨m', hm, i + 1, zs ++ [v8], its ++ [u8], _, H8, I9, T.keep _ _ _ st5 (fun b hb o e => kk b o (Nat.ne_of_lt (fplt b hb)) (g2 b hb o e)), g1, q, v3.append (.cons r8 .nil), g4, ?_, w8⟩
        rw [List.length_append, List.length_singleton]
        omega
  rw [eE] at loop
  exact codeAny_compStart_list loop (T.self _ 0 _ _ _ (T.keep _ _ _ st (fun b hb o e => old b o e)) loop)
theorem pe_comp (S : CScope X.env.scope scope x X.N ys js) (hc : X.calm = true) (hi : PI X (.Name x px) iter wi) (ht : ∀ C s₀ H₀ ex, PTs (cxC X (x :: ys) scope C s₀ H₀ ex) ifs tt) (he : ∀ C s₀ H₀ ex, PE (cxC X (x :: ys) scope C s₀ H₀ ex) elt te)
    (hs : ∀ x, foldedSetIterable iter X.env x = pure x := by intro _; rfl) : PE X (.ListComp elt [⟨.Name x px, iter, ifs, 0⟩] scope pos) (tComp wi js tt te) := by
  intro pins s σ H Q I h
  rw [eval_ListComp]
  refine wpAny_comprehension_free (use := none) rfl hs (closureFor_eq fun y hy e => I.ok.has _ (S.free y hy e)) S.kind S.loc (thn (hi pins s σ H _ I h) fun v s1 h1 => thn h1 fun itv s2 h2 => ?_)
  obtain ⟨it, fp, tn, J, H2, e, I2, T, st2, f2, hw⟩ := h2
  subst e
  refine comp_block (Q := Q) (R := fun acc C => compPost (model X.prog X.w) X.A X.xe none (EP X pins σ Q) acc C) S hc ht he I2 T st2 f2 hw ?_
  intro D C s' H' m' I' q hC hn hns
  refine ⟨m', hns, fun h' hs' => ⟨.ref D, H', ?_, rfl, q⟩⟩
  have e := I2.fpOk hC hn
  exact I'.turned (t' := s'.toks) (fun b o hb e => (hs'.2 b hb).trans e) hn e.2.1 e.2.2.2.1 e.2.2.2.2.1 e.2.2.2.2.2
theorem ps_setComp {i : Nat} {y : Str} {py spos : Pos} (S : CScope X.env.scope scope x X.N ys js) (hc : X.calm = true) (hN : X.N.Nodup) (hy : X.N[i]? = some y) (hl : Loc X.env.scope y) (hi : PI X (.Name x px) iter wi) (ht : ∀ C s₀ H₀ ex, PTs (cxC X (x :: ys) scope C s₀ H₀ ex) ifs tt) (he : ∀ C s₀ H₀ ex, PE (cxC X (x :: ys) scope C s₀ H₀ ex) elt te)
    (hf : X.fn y = true ∨ X.env.scope.names.lookup y = some .local := by first | exact .inl rfl | exact .inr rfl | assumption)
    (hsw : swapsWith (.ListComp elt [⟨.Name x px, iter, ifs, 0⟩] scope pos) (some (.Name y py)) spos.line X.env = pure true := by rfl)
    (hs : ∀ x, foldedSetIterable iter X.env x = pure x := by intro _; rfl) : PS X (.Assign [.Name y py] (.ListComp elt [⟨.Name x px, iter, ifs, 0⟩] scope pos) spos) (tAsg (tComp wi js tt te) (gName i)) := by
  intro pins s σ H D I h
  rw [exec_Assign_Name_used _ _ _ _ hsw]
  refine wpAny_bind (wpAny_standAt (wpAny_bind ?_))
  show wpAny _ X.A (do let _ ← comprehension (.ListComp elt [⟨.Name x px, iter, ifs, 0⟩] scope pos) scope X.env _ (newList []) false (eval iter X.env) (some (assign (.Name y py) X.env))) _ _ s
  refine wpAny_bind (wpAny_mono (wpAny_comprehension_free (use := some (assign (.Name y py) X.env)) (Q := fun _ s' => SP X pins D .next s') rfl hs (closureFor_eq fun y hy e => I.ok.has _ (S.free y hy e)) S.kind S.loc
    (thn (hi pins s σ H _ I h) fun v s1 h1 => thn h1 fun itv s2 h2 => ?_)) (fun _ s' hq => wpAny_pure (wpAny_pure hq)) fun _ _ e => e)
  obtain ⟨it, fp, tn, J, H2, e, I2, T, st2, f2, hw⟩ := h2
  subst e
  refine comp_block (Q := fun v H' => gName i v σ H' D.nx) (R := fun acc C => compPost (model X.prog X.w) X.A X.xe (some (assign (.Name y py) X.env)) (fun _ s' => SP X pins D .next s') acc C) S hc ht he I2 T st2 f2 hw ?_
  intro Da C s' H' m' I' q hC hn hns
  have e := I2.fpOk hC hn
  show wpAny _ X.A (assign (.Name y py) X.env (.ref Da)) _ _ _
  refine wpAny_assign_Name (store_ok2 I' hN hy hl (show RelV (.ref Da) (.ref Da) from rfl) (fun s2' I3 ⟨a, sb, ha⟩ => ?_) hf)
  have hCa : C ≠ a := by
    rcases ha with z | z
    · rw [z]; exact e.2.1
    · intro w; exact e.2.2.2.2.1 _ _ z w.symm
  refine ⟨m', hns.sameBut sb hCa, fun h' hs' => ⟨_, H', ?_, q⟩⟩
  exact I3.turned (t' := s2'.toks) (fun b o hb e => (hs'.2 b hb).trans e) hn e.2.1 e.2.2.2.1 e.2.2.2.2.1 e.2.2.2.2.2
end
theorem comp_list {K : PySem.W.Frag} {a : Addr} {xs : List V} {js : List Nat} {tt : TT} {te : TE} {σ : St} {H : Hp} {Q : VK} (Pv : Nat → List V → Hp → Prop) (h0 : Pv 0 [] H) (hl : ∀ i ys H, i ≤ xs.length → Pv i ys H → SqL K H a xs)
    (hs : ∀ i x ys H, xs[i]? = some x → Pv i ys H → ys.length < sizeLine ∧ tt (some x :: capt js σ) H fun b H2 => if b = true then te (some x :: capt js σ) H2 fun v H3 => Pv (i + 1) (ys ++ [v]) H3 else Pv (i + 1) ys H2)
    (hd : ∀ ys H, Pv xs.length ys H → ∀ D, H D = none → Q (.ref D) (upd H D (.lst ys))) :
    CompLoop (Itl K a) js tt te σ Q H := by
  refine ⟨fun i m ys H => m = xs.length - i ∧ i ≤ xs.length ∧ Pv i ys H, ⟨xs.length, by simp, Nat.zero_le _, h0⟩, ?_⟩
  rintro i m ys H ⟨rfl, hi, p⟩
  have q := hl i ys H hi p
  by_cases hlt : i < xs.length
  · have hx : xs[i]? = some xs[i] := List.getElem?_eq_getElem hlt
    obtain ⟨hz, hst⟩ := hs i xs[i] ys H hx p
    refine .inr ⟨⟨xs, xs[i], q, hx⟩, hz, Pv (i + 1), fun ys' H' p' => ⟨xs.length - (i + 1), by omega, rfl, hlt, p'⟩, fun x H' y => ?_⟩
    obtain ⟨e, y⟩ := y
    subst e
    have e2 := y xs q
    rw [hx] at e2
    cases e2
    exact hst
  · have e : i = xs.length := by omega
    subst e
    exact .inl ⟨⟨xs, q, Nat.le_refl _⟩, hd ys H p⟩
theorem comp_range {lo : Int} {n : Nat} {js : List Nat} {tt : TT} {te : TE} {σ : St} {H : Hp} {Q : VK} (Pv : Nat → List V → Hp → Prop) (h0 : Pv 0 [] H)
    (hs : ∀ i ys H, i < n → Pv i ys H → ys.length < sizeLine ∧ tt (some (.int (lo + i)) :: capt js σ) H fun b H2 => if b = true then te (some (.int (lo + i)) :: capt js σ) H2 fun v H3 => Pv (i + 1) (ys ++ [v]) H3 else Pv (i + 1) ys H2)
    (hd : ∀ ys H, Pv n ys H → ∀ D, H D = none → Q (.ref D) (upd H D (.lst ys))) :
    CompLoop (Itr lo n) js tt te σ Q H := by
  refine ⟨fun i m ys H => m = n - i ∧ i ≤ n ∧ Pv i ys H, ⟨n, by simp, Nat.zero_le _, h0⟩, ?_⟩
  rintro i m ys H ⟨rfl, hi, p⟩
  by_cases hlt : i < n
  · obtain ⟨hz, hst⟩ := hs i ys H hlt p
    refine .inr ⟨hlt, hz, Pv (i + 1), fun ys' H' p' => ⟨n - (i + 1), by omega, rfl, hlt, p'⟩, fun x H' y => ?_⟩
    obtain ⟨e, y⟩ := y
    subst e y
    exact hst
  · have e : i = n := by omega
    subst e
    exact .inl ⟨Nat.le_refl _, hd ys H p⟩
end L2
set_option Elab.async false
set_option linter.all false
set_option maxRecDepth 100000
namespace L2
open PySem PySem.Spec PyProof.Rows PySem.SeqAt
inductive Tr where
  | non | bl (b : Bool) | int (i : Int) | str (x : Str) | lst (ts : List Tr) | tup (ts : List Tr)
mutual
def TrAt (K : PySem.W.Frag) (H : Hp) : Tr → V → Prop
  | .non, v => v = .non
  | .bl b, v => v = .bl b
  | .int i, v => v = .int i
  | .str x, v => v = .str x
  | .lst ts, v => ∃ a xs, v = .ref a ∧ SqL K H a xs ∧ TrsAt K H ts xs
  | .tup ts, v => ∃ a xs, v = .ref a ∧ SqT K H a xs ∧ TrsAt K H ts xs
def TrsAt (K : PySem.W.Frag) (H : Hp) : List Tr → List V → Prop
  | [], xs => xs = []
  | t :: ts, xs => ∃ y ys, xs = y :: ys ∧ TrAt K H t y ∧ TrsAt K H ts ys
end
mutual
def teq : Tr → Tr → Bool
  | .non, .non => true
  | .bl a, .bl b => a == b
  | .bl a, .int b => (if a then 1 else 0) == b
  | .int a, .bl b => a == (if b then 1 else 0)
  | .int a, .int b => a == b
  | .str a, .str b => a == b
  | .lst a, .lst b => teqs a b
  | .tup a, .tup b => teqs a b
  | _, _ => false
def teqs : List Tr → List Tr → Bool
  | [], [] => true
  | t :: ts, u :: us => teq t u && teqs ts us
  | _, _ => false
end
mutual
def tdep : Tr → Nat
  | .lst ts => tdeps ts + 1
  | .tup ts => tdeps ts + 1
  | _ => 0
def tdeps : List Tr → Nat
  | [] => 0
  | t :: ts => max (tdep t) (tdeps ts)
end
theorem tdep_mem {t : Tr} : ∀ {ts : List Tr}, t ∈ ts → tdep t ≤ tdeps ts
  | u :: ts, h => by
    rw [tdeps]
    rcases List.mem_cons.mp h with e | h
    · rw [e]; exact Nat.le_max_left _ _
    · exact Nat.le_trans (tdep_mem h) (Nat.le_max_right _ _)
section
variable {K : PySem.W.Frag} {H : Hp}
theorem TrsAt.length : ∀ {ts : List Tr} {xs : List V}, TrsAt K H ts xs → ts.length = xs.length
  | [], xs, h => by rw [TrsAt] at h; subst h; rfl
  | t :: ts, xs, h => by
    rw [TrsAt] at h
    obtain ⟨y, ys, rfl, _, h⟩ := h
    rw [List.length_cons, List.length_cons, TrsAt.length h]
theorem TrsAt.get : ∀ {ts : List Tr} {xs : List V} {j : Nat} {t : Tr}, TrsAt K H ts xs → ts[j]? = some t → ∃ x, xs[j]? = some x ∧ TrAt K H t x
  | [], xs, j, t, h, e => by simp at e
  | u :: ts, xs, 0, t, h, e => by
    rw [TrsAt] at h
    obtain ⟨y, ys, rfl, hy, h⟩ := h
    simp at e
    subst e
    exact ⟨y, rfl, hy⟩
  | u :: ts, xs, j + 1, t, h, e => by
    rw [TrsAt] at h
    obtain ⟨y, ys, rfl, hy, h⟩ := h
    obtain ⟨x, e1, e2⟩ := TrsAt.get (j := j) h (by simpa using e)
    exact ⟨x, by simpa using e1, e2⟩
theorem TrsAt.mk : ∀ {ts : List Tr} {xs : List V}, ts.length = xs.length → (∀ (j : Nat) (t : Tr) (x : V), ts[j]? = some t → xs[j]? = some x → TrAt K H t x) → TrsAt K H ts xs
  | [], [], _, _ => by rw [TrsAt]
  | [], _ :: _, h, _ => by simp at h
  | _ :: _, [], h, _ => by simp at h
  | t :: ts, x :: xs, h, f => by
    rw [TrsAt]
    exact ⟨x, xs, rfl, f 0 t x rfl rfl, TrsAt.mk (by simpa using h) fun j t x e1 e2 => f (j + 1) t x (by simpa using e1) (by simpa using e2)⟩
theorem TrsAt.ints : ∀ {ns : List Int}, TrsAt K H (ns.map Tr.int) (ns.map V.int)
  | [] => by rw [List.map_nil, TrsAt]; rfl
  | n :: ns => by rw [List.map_cons, TrsAt]; exact ⟨_, _, rfl, by rw [TrAt], TrsAt.ints⟩
def tInts (ns : List Int) : Tr := .lst (ns.map Tr.int)
theorem TrAt.ints {a : Addr} {ns : List Int} (h : SqL K H a (ns.map V.int)) : TrAt K H (tInts ns) (.ref a) := by
  unfold tInts; rw [TrAt]; exact ⟨a, _, rfl, h, TrsAt.ints⟩
end
mutual
theorem teq_refl : ∀ t : Tr, teq t t = true
  | .non => by rw [teq]
  | .bl b => by rw [teq]; simp
  | .int i => by rw [teq]; simp
  | .str x => by rw [teq]; simp
  | .lst ts => by rw [teq]; exact teqs_refl ts
  | .tup ts => by rw [teq]; exact teqs_refl ts
theorem teqs_refl : ∀ ts : List Tr, teqs ts ts = true
  | [] => by rw [teqs]
  | t :: ts => by rw [teqs, teq_refl t, teqs_refl ts]; rfl
end
theorem teqs_map {α : Type} [DecidableEq α] {f : α → Tr} (h : ∀ a b, teq (f a) (f b) = decide (a = b)) : ∀ (xs ys : List α), teqs (xs.map f) (ys.map f) = decide (xs = ys)
  | [], [] => by simp [teqs]
  | [], _ :: _ => by simp [teqs]
  | _ :: _, [] => by simp [teqs]
  | x :: xs, y :: ys => by
    rw [List.map_cons, List.map_cons, teqs, h, teqs_map h xs ys, Bool.eq_iff_iff]
    simp
theorem teq_int (a b : Int) : teq (.int a) (.int b) = decide (a = b) := by rw [teq, Bool.eq_iff_iff]; simp
theorem teq_ints (a b : List Int) : teq (tInts a) (tInts b) = decide (a = b) := by unfold tInts; rw [teq]; exact teqs_map teq_int a b
theorem tdeps_ints : ∀ ns : List Int, tdeps (ns.map Tr.int) = 0
  | [] => by simp [tdeps]
  | n :: ns => by rw [List.map_cons, tdeps, tdeps_ints ns, tdep] <;> simp
theorem tdep_tInts (ns : List Int) : tdep (tInts ns) = 1 := by unfold tInts; rw [tdep, tdeps_ints]
theorem teqs_length : ∀ {ts us : List Tr}, ts.length ≠ us.length → teqs ts us = false
  | [], [], h => absurd rfl h
  | [], _ :: _, _ => by simp [teqs]
  | _ :: _, [], _ => by simp [teqs]
  | t :: ts, u :: us, h => by rw [teqs, teqs_length (by simpa using h), Bool.and_false]
def eAt (ts us : List Tr) (j : Nat) : Bool := match ts[j]?, us[j]? with
  | some t, some u => teq t u
  | _, _ => true
theorem all_eAt : ∀ {ts us : List Tr}, ts.length = us.length → (List.range ts.length).all (eAt ts us) = teqs ts us
  | [], [], _ => by simp [teqs]
  | [], _ :: _, h => by simp at h
  | _ :: _, [], h => by simp at h
  | t :: ts, u :: us, h => by
    rw [List.length_cons, List.range_succ_eq_map, List.all_cons, List.all_map, teqs, ← all_eAt (ts := ts) (us := us) (by simpa using h)]
    rfl
section
variable {X : Cx} {pins : List (Addr × Obj)} {σ : St} {H : Hp} {s : Shared}
theorem tr_inj (I : Inv X pins σ H s) : ∀ (n : Nat) {t u : Tr} {v : V}, tdep t ≤ n → TrAt X.K H t v → TrAt X.K H u v → t = u := by
  intro n
  induction n with
  | zero =>
    intro t u v hd ht hu
    cases t with
    | lst ts => rw [tdep] at hd; omega
    | tup ts => rw [tdep] at hd; omega
    | _ => (rw [TrAt] at ht; subst ht; cases u <;> (rw [TrAt] at hu) <;> first | rfl | (obtain ⟨_, _, z, _⟩ := hu; cases z) | (cases hu; rfl) | cases hu)
  | succ n ih =>
    intro t u v hd ht hu
    have lists : ∀ {ts us : List Tr} {xs : List V}, tdeps ts ≤ n → TrsAt X.K H ts xs → TrsAt X.K H us xs → ts = us := by
      intro ts us xs hd h1 h2
      apply List.ext_getElem?
      intro j
      have l1 := h1.length
      have l2 := h2.length
      by_cases hj : j < ts.length
      · obtain ⟨t, e⟩ : ∃ t, ts[j]? = some t := ⟨_, List.getElem?_eq_getElem hj⟩
        obtain ⟨u, e'⟩ : ∃ u, us[j]? = some u := ⟨_, List.getElem?_eq_getElem (by omega)⟩
        obtain ⟨x, ex, hx⟩ := h1.get e
        obtain ⟨y, ey, hy⟩ := h2.get e'
        rw [ex] at ey
        cases ey
        rw [e, e', ih (Nat.le_trans (tdep_mem (List.mem_of_getElem? e)) hd) hx hy]
      · rw [List.getElem?_eq_none (by omega), List.getElem?_eq_none (by omega)]
    cases t with
    | lst ts =>
      rw [TrAt] at ht
      obtain ⟨a, xs, rfl, q, h1⟩ := ht
      cases u with
      | lst us =>
        rw [TrAt] at hu
        obtain ⟨b, ys, e, q', h2⟩ := hu
        cases e
        rw [I.list_inj q' q] at h2
        rw [lists (by rw [tdep] at hd; omega) h1 h2]
      | tup us =>
        rw [TrAt] at hu
        obtain ⟨b, ys, e, q', h2⟩ := hu
        cases e
        obtain ⟨_, _, pl, _⟩ := I.list q
        obtain ⟨_, _, pt, _⟩ := I.tuple q'
        exact absurd rfl (ne_of_list_tuple pl.isList pt)
      | _ => rw [TrAt] at hu; cases hu
    | tup ts =>
      rw [TrAt] at ht
      obtain ⟨a, xs, rfl, q, h1⟩ := ht
      cases u with
      | tup us =>
        rw [TrAt] at hu
        obtain ⟨b, ys, e, q', h2⟩ := hu
        cases e
        rw [I.tuple_inj q' q] at h2
        rw [lists (by rw [tdep] at hd; omega) h1 h2]
      | lst us =>
        rw [TrAt] at hu
        obtain ⟨b, ys, e, q', h2⟩ := hu
        cases e
        obtain ⟨_, _, pl, _⟩ := I.list q'
        obtain ⟨_, _, pt, _⟩ := I.tuple q
        exact absurd rfl (ne_of_list_tuple pl.isList pt)
      | _ => rw [TrAt] at hu; cases hu
    | _ => (rw [TrAt] at ht; subst ht; cases u <;> (rw [TrAt] at hu) <;> first | rfl | (obtain ⟨_, _, z, _⟩ := hu; cases z) | (cases hu; rfl) | cases hu)
structure Cmps (A : Around) (s : Shared) (a b : Value) (r : Bool) : Prop where
  rc : RcAt A s a b r
  ne : RcNeAt A s a b (!r)
  eq : EqAt A s a b r
theorem units_in1 (A : Around) : A.in1.units = A.units + 1 := rfl
theorem tr_cmps (I : Inv X pins σ H s) : ∀ (n : Nat) {t u : Tr} {v w : V} {a b : Value} {A : Around}, tdep t ≤ n → TrAt X.K H t v → TrAt X.K H u w → RelV v a → RelV w b → A.units + n < cLine → Cmps A s a b (teq t u) := by
  intro n
  induction n with
  | zero =>
    intro t u v w a b A hd ht hu ra rb hA
    have hA' : A.units < cLine := by omega
    cases t with
    | lst ts => rw [tdep] at hd; omega
    | tup ts => rw [tdep] at hd; omega
    | non =>
      rw [TrAt] at ht; subst ht; cases ra
      cases u with
      | non => rw [TrAt] at hu; subst hu; cases rb; rw [teq]; exact ⟨.none_none, .none_none, .same _⟩
      | bl b => rw [TrAt] at hu; subst hu; cases rb; simp only [teq]; exact ⟨.none_bool _, .none_bool _, .none_bool _⟩
      | int b => rw [TrAt] at hu; subst hu; obtain ⟨_, rfl⟩ := rb; simp only [teq]; exact ⟨.none_int _ _, .none_int _ _, .none_int _ _⟩
      | str b => rw [TrAt] at hu; subst hu; obtain ⟨_, rfl⟩ := rb; simp only [teq]; exact ⟨.none_str _ _, .none_str _ _, .none_str _ _⟩
      | lst us => rw [TrAt] at hu; obtain ⟨p, ys, rfl, q, _⟩ := hu; cases rb; obtain ⟨_, _, pl, _⟩ := I.list q; simp only [teq]; exact ⟨.none_list pl.isList hA', .none_list pl.isList hA', .none_list pl.isList hA'⟩
      | tup us => rw [TrAt] at hu; obtain ⟨p, ys, rfl, q, _⟩ := hu; cases rb; obtain ⟨_, _, pl, _⟩ := I.tuple q; simp only [teq]; exact ⟨.none_tuple pl hA', .none_tuple pl hA', .none_tuple pl hA'⟩
    | bl c =>
      rw [TrAt] at ht; subst ht; cases ra
      cases u with
      | non => rw [TrAt] at hu; subst hu; cases rb; simp only [teq]; exact ⟨.bool_none _, .bool_none _, .bool_none _⟩
      | bl b => rw [TrAt] at hu; subst hu; cases rb; rw [teq]; exact ⟨.bool_bool _ _, .bool_bool _ _, .bool_bool _ _⟩
      | int b => rw [TrAt] at hu; subst hu; obtain ⟨_, rfl⟩ := rb; rw [teq]; exact ⟨.bool_int _ _ _, .bool_int _ _ _, .bool_int _ _ _⟩
      | str b => rw [TrAt] at hu; subst hu; obtain ⟨_, rfl⟩ := rb; simp only [teq]; exact ⟨.bool_str _ _ _, .bool_str _ _ _, .bool_str _ _ _⟩
      | lst us => rw [TrAt] at hu; obtain ⟨p, ys, rfl, q, _⟩ := hu; cases rb; obtain ⟨_, _, pl, _⟩ := I.list q; simp only [teq]; exact ⟨.bool_list _ pl.isList hA', .bool_list _ pl.isList hA', .bool_list _ pl.isList hA'⟩
      | tup us => rw [TrAt] at hu; obtain ⟨p, ys, rfl, q, _⟩ := hu; cases rb; obtain ⟨_, _, pl, _⟩ := I.tuple q; simp only [teq]; exact ⟨.bool_tuple _ pl hA', .bool_tuple _ pl hA', .bool_tuple _ pl hA'⟩
    | int c =>
      rw [TrAt] at ht; subst ht; obtain ⟨_, rfl⟩ := ra
      cases u with
      | non => rw [TrAt] at hu; subst hu; cases rb; simp only [teq]; exact ⟨.int_none _ _, .int_none _ _, .int_none _ _⟩
      | bl b => rw [TrAt] at hu; subst hu; cases rb; rw [teq]; exact ⟨.int_bool _ _ _, .int_bool _ _ _, .int_bool _ _ _⟩
      | int b => rw [TrAt] at hu; subst hu; obtain ⟨_, rfl⟩ := rb; rw [teq]; exact ⟨.int_int _ _ _ _, .int_int _ _ _ _, .int_int _ _ _ _⟩
      | str b => rw [TrAt] at hu; subst hu; obtain ⟨_, rfl⟩ := rb; simp only [teq]; exact ⟨.int_str _ _ _ _, .int_str _ _ _ _, .int_str _ _ _ _⟩
      | lst us => rw [TrAt] at hu; obtain ⟨p, ys, rfl, q, _⟩ := hu; cases rb; obtain ⟨_, _, pl, _⟩ := I.list q; simp only [teq]; exact ⟨.int_list _ _ pl.isList hA', .int_list _ _ pl.isList hA', .int_list _ _ pl.isList hA'⟩
      | tup us => rw [TrAt] at hu; obtain ⟨p, ys, rfl, q, _⟩ := hu; cases rb; obtain ⟨_, _, pl, _⟩ := I.tuple q; simp only [teq]; exact ⟨.int_tuple _ _ pl hA', .int_tuple _ _ pl hA', .int_tuple _ _ pl hA'⟩
    | str c =>
      rw [TrAt] at ht; subst ht; obtain ⟨_, rfl⟩ := ra
      cases u with
      | non => rw [TrAt] at hu; subst hu; cases rb; simp only [teq]; exact ⟨.str_none _ _, .str_none _ _, .str_none _ _⟩
      | bl b => rw [TrAt] at hu; subst hu; cases rb; simp only [teq]; exact ⟨.str_bool _ _ _, .str_bool _ _ _, .str_bool _ _ _⟩
      | int b => rw [TrAt] at hu; subst hu; obtain ⟨_, rfl⟩ := rb; simp only [teq]; exact ⟨.str_int _ _ _ _, .str_int _ _ _ _, .str_int _ _ _ _⟩
      | str b => rw [TrAt] at hu; subst hu; obtain ⟨_, rfl⟩ := rb; rw [teq]; exact ⟨.str_str _ _ _ _, .str_str _ _ _ _, .str_str _ _ _ _⟩
      | lst us => rw [TrAt] at hu; obtain ⟨p, ys, rfl, q, _⟩ := hu; cases rb; obtain ⟨_, _, pl, _⟩ := I.list q; simp only [teq]; exact ⟨.str_list _ _ pl.isList hA', .str_list _ _ pl.isList hA', .str_list _ _ pl.isList hA'⟩
      | tup us => rw [TrAt] at hu; obtain ⟨p, ys, rfl, q, _⟩ := hu; cases rb; obtain ⟨_, _, pl, _⟩ := I.tuple q; simp only [teq]; exact ⟨.str_tuple _ _ pl hA', .str_tuple _ _ pl hA', .str_tuple _ _ pl hA'⟩
  | succ n ih =>
    intro t u v w a b A hd ht hu ra rb hA
    have hA' : A.units < cLine := by omega
    have items : ∀ {ts us : List Tr} {xs ys : List V} {its its2 : List Value}, tdeps ts ≤ n → TrsAt X.K H ts xs → TrsAt X.K H us ys → Vals xs its → Vals ys its2 →
        ∀ j (h1 : j < its.toArray.size) (h2 : j < its2.toArray.size), EqAt A.in1 s its.toArray[j] its2.toArray[j] (eAt ts us j) := by
      intro ts us xs ys its its2 hdn h1 h2 r1 r2 j hj1 hj2
      have l1 := h1.length
      have l2 := h2.length
      have m1 := r1.length
      have m2 := r2.length
      rw [List.size_toArray] at hj1 hj2
      obtain ⟨t, e⟩ : ∃ t, ts[j]? = some t := ⟨_, List.getElem?_eq_getElem (by omega)⟩
      obtain ⟨u, e'⟩ : ∃ u, us[j]? = some u := ⟨_, List.getElem?_eq_getElem (by omega)⟩
      obtain ⟨x, ex, hx⟩ := h1.get e
      obtain ⟨y, ey, hy⟩ := h2.get e'
      obtain ⟨vx, fx, rx⟩ := r1.get ex
      obtain ⟨vy, fy, ry⟩ := r2.get ey
      have g1 : its.toArray[j]'(by simpa using hj1) = vx := by
        have z : its[j] = vx := Option.some.inj ((List.getElem?_eq_getElem hj1).symm.trans fx)
        simpa using z
      have g2 : its2.toArray[j]'(by simpa using hj2) = vy := by
        have z : its2[j] = vy := Option.some.inj ((List.getElem?_eq_getElem hj2).symm.trans fy)
        simpa using z
      rw [g1, g2]
      have q := (ih (A := A.in1) (Nat.le_trans (tdep_mem (List.mem_of_getElem? e)) hdn) hx hy rx ry (by rw [units_in1]; omega)).eq
      unfold eAt
      rw [e, e']
      exact q
    by_cases hz : tdep t ≤ n
    · exact ih hz ht hu ra rb (by omega)
    cases t with
    | lst ts =>
      rw [TrAt] at ht; obtain ⟨p, xs, rfl, q, h1⟩ := ht; cases ra
      obtain ⟨its, r1, pl, _⟩ := I.list q
      cases u with
      | non => rw [TrAt] at hu; subst hu; cases rb; simp only [teq]; exact ⟨.list_none pl.isList hA', .list_none pl.isList hA', .list_none pl.isList hA'⟩
      | bl b => rw [TrAt] at hu; subst hu; cases rb; simp only [teq]; exact ⟨.list_bool _ pl.isList hA', .list_bool _ pl.isList hA', .list_bool _ pl.isList hA'⟩
      | int b => rw [TrAt] at hu; subst hu; obtain ⟨_, rfl⟩ := rb; simp only [teq]; exact ⟨.list_int _ _ pl.isList hA', .list_int _ _ pl.isList hA', .list_int _ _ pl.isList hA'⟩
      | str b => rw [TrAt] at hu; subst hu; obtain ⟨_, rfl⟩ := rb; simp only [teq]; exact ⟨.list_str _ _ pl.isList hA', .list_str _ _ pl.isList hA', .list_str _ _ pl.isList hA'⟩
      | tup us => rw [TrAt] at hu; obtain ⟨p', ys, rfl, q', _⟩ := hu; cases rb; obtain ⟨_, _, pl', _⟩ := I.tuple q'; simp only [teq]; exact ⟨.list_tuple pl.isList pl' hA', .list_tuple pl.isList pl' hA', .list_tuple pl.isList pl' hA'⟩
      | lst us =>
        have hu0 := hu
        rw [TrAt] at hu; obtain ⟨p', ys, rfl, q', h2⟩ := hu; cases rb
        obtain ⟨its2, r2, pl', _⟩ := I.list q'
        have l1 := h1.length
        have l2 := h2.length
        have m1 := r1.length
        have m2 := r2.length
        have hdn : tdeps ts ≤ n := by rw [tdep] at hd; omega
        have both : RcAt A s (.ref p) (.ref p') (teqs ts us) ∧ RcNeAt A s (.ref p) (.ref p') (!teqs ts us) := by
          by_cases hsz : ts.length = us.length
          · have hs : its.toArray.size = its2.toArray.size := by rw [List.size_toArray, List.size_toArray]; omega
            have it := items hdn h1 h2 r1 r2
            have e1 : (List.range its.toArray.size).all (eAt ts us) = teqs ts us := by
              rw [List.size_toArray, ← m1, ← l1]; exact all_eAt hsz
            have a1 := RcAt.lists pl.isList pl'.isList hs hA' it
            have a2 := RcNeAt.lists pl.isList pl'.isList hs hA' it
            rw [e1] at a1 a2
            exact ⟨a1, a2⟩
          · have hs : (its.toArray.size != its2.toArray.size) = true := by
              rw [List.size_toArray, List.size_toArray, bne_iff_ne]; omega
            rw [teqs_length hsz]
            exact ⟨.lists_lengths pl.isList pl'.isList hs hA', .lists_lengths pl.isList pl'.isList hs hA'⟩
        rw [teq]
        refine ⟨both.1, both.2, ?_⟩
        by_cases hpp : p = p'
        · subst hpp
          have e : Tr.lst ts = Tr.lst us := tr_inj I (n + 1) hd (show TrAt X.K H (.lst ts) (.ref p) by rw [TrAt]; exact ⟨p, xs, rfl, q, h1⟩) hu0
          cases e
          rw [teqs_refl]
          exact .same _
        · exact .of_refs hpp both.1
    | tup ts =>
      rw [TrAt] at ht; obtain ⟨p, xs, rfl, q, h1⟩ := ht; cases ra
      obtain ⟨its, r1, pl, _⟩ := I.tuple q
      cases u with
      | non => rw [TrAt] at hu; subst hu; cases rb; simp only [teq]; exact ⟨.tuple_none pl hA', .tuple_none pl hA', .tuple_none pl hA'⟩
      | bl b => rw [TrAt] at hu; subst hu; cases rb; simp only [teq]; exact ⟨.tuple_bool _ pl hA', .tuple_bool _ pl hA', .tuple_bool _ pl hA'⟩
      | int b => rw [TrAt] at hu; subst hu; obtain ⟨_, rfl⟩ := rb; simp only [teq]; exact ⟨.tuple_int _ _ pl hA', .tuple_int _ _ pl hA', .tuple_int _ _ pl hA'⟩
      | str b => rw [TrAt] at hu; subst hu; obtain ⟨_, rfl⟩ := rb; simp only [teq]; exact ⟨.tuple_str _ _ pl hA', .tuple_str _ _ pl hA', .tuple_str _ _ pl hA'⟩
      | lst us => rw [TrAt] at hu; obtain ⟨p', ys, rfl, q', _⟩ := hu; cases rb; obtain ⟨_, _, pl', _⟩ := I.list q'; simp only [teq]; exact ⟨.tuple_list pl pl'.isList hA', .tuple_list pl pl'.isList hA', .tuple_list pl pl'.isList hA'⟩
      | tup us =>
        have hu0 := hu
        rw [TrAt] at hu; obtain ⟨p', ys, rfl, q', h2⟩ := hu; cases rb
        obtain ⟨its2, r2, pl', _⟩ := I.tuple q'
        have l1 := h1.length
        have l2 := h2.length
        have m1 := r1.length
        have m2 := r2.length
        have hdn : tdeps ts ≤ n := by rw [tdep] at hd; omega
        have e1 : ((List.range (min its.toArray.size its2.toArray.size)).all (eAt ts us) && its.toArray.size == its2.toArray.size) = teqs ts us := by
          rw [List.size_toArray, List.size_toArray, ← m1, ← l1, ← m2, ← l2]
          by_cases hsz : ts.length = us.length
          · rw [← hsz, Nat.min_self, beq_self_eq_true, Bool.and_true]; exact all_eAt hsz
          · rw [teqs_length hsz, beq_eq_false_iff_ne.mpr hsz, Bool.and_false]
        have it := items hdn h1 h2 r1 r2
        have a1 := RcAt.tuples pl pl' hA' it
        have a2 := RcNeAt.tuples pl pl' hA' it
        rw [e1] at a1 a2
        rw [teq]
        refine ⟨a1, a2, ?_⟩
        by_cases hpp : p = p'
        · subst hpp
          have e : Tr.tup ts = Tr.tup us := tr_inj I (n + 1) hd (show TrAt X.K H (.tup ts) (.ref p) by rw [TrAt]; exact ⟨p, xs, rfl, q, h1⟩) hu0
          cases e
          rw [teqs_refl]
          exact .same _
        · exact .of_refs hpp a1
    | non => exact absurd (Nat.zero_le _) hz
    | bl b => exact absurd (Nat.zero_le _) hz
    | int b => exact absurd (Nat.zero_le _) hz
    | str b => exact absurd (Nat.zero_le _) hz
end
section
variable {X : Cx}
def rEqT (K : PySem.W.Frag) (neg : Bool) : R2 := fun x y H Q => ∃ t u, TrAt K H t x ∧ TrAt K H u y ∧ tdep t ≤ 8 ∧ Q (.bl (if neg then !teq t u else teq t u)) H
theorem op_eqT (hu : X.A.units + 64 < cLine) : OpR X (compareOp .Eq) (rEqT X.K false) := by
  intro pins s σ H x y v u Q I rx ry h
  obtain ⟨t, t', h1, h2, hd, q⟩ := h
  exact (tr_cmps I 8 hd h1 h2 rx ry (by omega)).rc _ _ _ _ ⟨.bl _, H, I, rfl, q⟩
theorem op_neT (hu : X.A.units + 64 < cLine) : OpR X (compareOp .NotEq) (rEqT X.K true) := by
  intro pins s σ H x y v u Q I rx ry h
  obtain ⟨t, t', h1, h2, hd, q⟩ := h
  exact (tr_cmps I 8 hd h1 h2 rx ry (by omega)).ne _ _ _ _ ⟨.bl _, H, I, rfl, q⟩
open Classical in
def rInT (K : PySem.W.Frag) (neg : Bool) : R2 := fun x y H Q => ∃ p xs ts u, y = .ref p ∧ SqL K H p xs ∧ TrsAt K H ts xs ∧ TrAt K H u x ∧ tdeps ts ≤ 8 ∧ Q (.bl (if neg then !(ts.any fun t => teq t u) else ts.any fun t => teq t u)) H
open Classical in
theorem in_any {pins : List (Addr × Obj)} {σ : St} {H : Hp} {s : Shared} (I : Inv X pins σ H s) {u : Tr} : ∀ {ts : List Tr} {xs : List V} {its : List Value}, tdeps ts ≤ 8 → TrsAt X.K H ts xs → Vals xs its →
    its.any (fun y => decide (∃ t x, RelV x y ∧ TrAt X.K H t x ∧ teq t u = true)) = ts.any fun t => teq t u
  | [], xs, its, _, h, r => by rw [TrsAt] at h; subst h; cases r; rfl
  | t :: ts, xs, its, hd, h, r => by
    rw [TrsAt] at h
    obtain ⟨y, ys, rfl, hy, h⟩ := h
    cases r with
    | cons r1 r2 =>
      rw [tdeps] at hd
      rw [List.any_cons, List.any_cons, in_any I (by omega) h r2]
      congr 1
      rw [Bool.eq_iff_iff, decide_eq_true_iff]
      constructor
      · rintro ⟨t', x', r', h', e⟩
        rw [r1.inj r'] at hy
        rw [tr_inj I 8 (by omega) hy h']; exact e
      · intro e
        exact ⟨t, y, r1, hy, e⟩
open Classical in
theorem in_core {pins : List (Addr × Obj)} {σ : St} {H : Hp} {s : Shared} (I : Inv X pins σ H s) (hu : X.A.units + 64 < cLine) {u : Tr} {x : V} {v : Value} (hx : TrAt X.K H u x) (rx : RelV x v) {ts : List Tr} {xs : List V} {its : List Value} (hd : tdeps ts ≤ 8) (h : TrsAt X.K H ts xs) (r : Vals xs its) :
    ∀ y, y ∈ its.toArray → SeqAt.EqAt X.A.in1 s y v (decide (∃ t x, RelV x y ∧ TrAt X.K H t x ∧ teq t u = true)) := by
  intro y hy
  have hy' : y ∈ its := by simpa using hy
  obtain ⟨j, hj, e⟩ := List.getElem_of_mem hy'
  have l1 := h.length
  have m1 := r.length
  obtain ⟨t, et⟩ : ∃ t, ts[j]? = some t := ⟨_, List.getElem?_eq_getElem (by omega)⟩
  obtain ⟨z, ez, hz⟩ := h.get et
  obtain ⟨w, ew, rw'⟩ := r.get ez
  have e' : y = w := by
    rw [List.getElem?_eq_getElem hj] at ew
    exact e.symm.trans (Option.some.inj ew)
  subst e'
  have hd' : tdep t ≤ 8 := Nat.le_trans (tdep_mem (List.mem_of_getElem? et)) hd
  have q := (tr_cmps I 8 (A := X.A.in1) hd' hz hx rw' rx (by rw [units_in1]; omega)).eq
  have e2 : decide (∃ t x, RelV x y ∧ TrAt X.K H t x ∧ teq t u = true) = teq t u := by
    rw [Bool.eq_iff_iff, decide_eq_true_iff]
    constructor
    · rintro ⟨t', x', r', h', e3⟩
      rw [rw'.inj r'] at hz
      rw [tr_inj I 8 hd' hz h']; exact e3
    · intro e3
      exact ⟨t, z, rw', hz, e3⟩
  rw [e2]
  exact q
open Classical in
theorem op_notInT (hu : X.A.units + 64 < cLine) : OpR X (compareOp .NotIn) (rInT X.K true) := by
  intro pins s σ H x y v u Q I rx ry h
  obtain ⟨p, xs, ts, t, rfl, hq, hts, ht, hd, q⟩ := h
  cases ry
  obtain ⟨its, r, pl, hz⟩ := I.list hq
  refine SeqAt.notIn_listAt _ pl.isList (in_core I hu ht rx hd hts r) ⟨.bl _, H, I, rfl, ?_⟩
  simp only [List.any_toArray]
  rw [in_any I hd hts r]
  exact q
end
end L2
set_option Elab.async false
set_option linter.all false
set_option maxRecDepth 100000
namespace L2
open PySem PySem.Spec PyProof.Rows
theorem kit_ty {K : PySem.W.Frag} {T U : String} {b : Bool} (h1 : PySem.W.kitMeta U = true) (h2 : (fastBuiltinMro T).map (·.contains (Value.type U)) = some b) (hb : T = U → b = true) : PySem.W.kitOne K (.type T) (.type U) = some b := by
  unfold PySem.W.kitOne
  by_cases e : T = U
  · subst e
    rw [if_pos (by simp), hb rfl]
  · rw [if_neg (by simpa using e)]
    show (if PySem.W.kitMeta U = true then PySem.W.subIn K (.type T) (.type U) else none) = some b
    rw [if_pos h1]
    exact h2
section
variable {K : PySem.W.Frag}
end
section
variable {X : Cx}
def rIsi (K : PySem.W.Frag) : List V → Hp → VK → Prop := fun xs H Q => ∃ x T t b, xs = [x, .ty T] ∧ TyOf K H x t ∧ PySem.W.kitOne K t (.type T) = some b ∧ Q (.bl b) H
theorem call_isi : CallR X (.builtin "isinstance") (rIsi X.K) := by
  intro pins s σ H xs us Q I r h
  obtain ⟨x, T, t, b, rfl, ty, e, q⟩ := h
  obtain ⟨u, v, rfl, rx, rt⟩ := vals2 r
  cases rt
  exact isinst_ok I rx ty e fun tk => ⟨.bl b, H, I.tok tk, rfl, q⟩
def CDivB (i j : Int) : Prop := 0 < j ∧ j < 2 ^ 200
theorem op_fdivB : OpR X (binaryOp .FloorDiv) (rI CDivB fun i j => .int (i / j)) := opI fun i j _ _ _ _ _ hc q => by
  have h1 : (0 : Int) < j := hc.1
  have h2 : j < 2 ^ 200 := hc.2
  refine floordiv_int (by omega) (by rw [Int.fdiv_eq_ediv_of_nonneg i (by omega)]; exact q) (.inl (PyProof.noPylong_of_log2 ?_))
  have h3 : j.natAbs < 2 ^ 200 := by omega
  have h4 : j.natAbs.log2 < 200 := (Nat.log2_lt (by omega)).mpr h3
  omega
theorem truth_bools {P : Program} {w : World} {A : Around} {its : List Value} {bs : List Bool} (r : Vals (bs.map V.bl) its) : TruthOf P w A (fun i v => its.toArray[i]? = some v) (fun i => bs.getD i false) := by
  intro i v s Q E hP hQ
  have hl := r.length
  rw [List.length_map] at hl
  have e : its[i]? = some v := by simpa using hP
  have hi : i < its.length := (List.getElem?_eq_some_iff.mp e).1
  have e2 : (bs.map V.bl)[i]? = some (.bl (bs[i]'(by omega))) := by rw [List.getElem?_map, List.getElem?_eq_getElem (by omega)]; rfl
  obtain ⟨u, e3, r3⟩ := r.get e2
  rw [e] at e3
  cases e3
  cases r3
  have e4 : bs.getD i false = bs[i] := by rw [List.getD_eq_getElem?_getD, List.getElem?_eq_getElem (by omega)]; rfl
  exact wpAny_truthy_bool (e4 ▸ hQ)
theorem all_getD : ∀ bs : List Bool, (List.range bs.length).all (fun i => bs.getD i false) = bs.all id
  | [] => rfl
  | b :: bs => by
    rw [List.length_cons, List.range_succ_eq_map, List.all_cons, List.all_map, List.all_cons, ← all_getD bs]
    rfl
def rAll (K : PySem.W.Frag) : List V → Hp → VK → Prop := fun xs H Q => ∃ (a : Addr) (bs : List Bool), xs = [.ref a] ∧ SqL K H a (bs.map V.bl) ∧ Q (.bl (bs.all id)) H
theorem call_all (hc : X.calm = true) : CallR X (.builtin "all") (rAll X.K) := by
  intro pins s σ H xs us Q I r h
  obtain ⟨a, bs, rfl, hq, q⟩ := h
  obtain ⟨u, rfl, rx⟩ := vals1 r
  cases rx
  obtain ⟨its, rv, pl, hz⟩ := I.list hq
  have hl := rv.length
  rw [List.length_map] at hl
  obtain ⟨o, n, eo, _⟩ := id pl
  have hne : a ≠ s.heap.objs.size := Nat.ne_of_lt (Heap.lt_size eo)
  refine call_all_walk (wpAny_pyIter_list pl.isList ?_)
  refine ⟨_, _, _, _, _, _, _, rfl, Walks.list (A := X.A.in1) (show X.A.in1.handled = none from I.ok.hd hc) s.heap.objs.size a hne its.toArray, ⟨⟨_, Heap.get?_push_size _ rfl, rfl, rfl⟩, pl.isList.at fun o e => Heap.get?_push_of_some _ e⟩, truth_bools rv, fun h' tk hk => ?_⟩
  have I1 : Inv X pins σ H { s with heap := h', toks := tk } := I.kept fun b o e => hk b o (by have := Heap.lt_size e; simp; exact Nat.ne_of_lt this) (Heap.get?_push_of_some _ e)
  refine ⟨.bl _, H, I1, rfl, ?_⟩
  rw [List.size_toArray, ← hl, all_getD]
  exact q
def rRevS (K : PySem.W.Frag) (te : TE) : TE := fun σ H Q => te σ H fun x H1 => ∃ a xs, x = .ref a ∧ SqL K H1 a xs ∧ ∀ p, H1 p = none → Q (.ref p) (upd H1 p (.lst xs.reverse))
theorem pe_revSlice {e : Expr} {te : TE} {j : Nat} {p1 p2 p3 pos : Pos} (he : PE X e te) : PE X (.Subscript e (.Slice none none (some (.UnaryOp .USub (.Constant (.int 1) j p1) p2)) p3) pos) (rRevS X.K te) := by
  intro pins s σ H Q I h
  refine Subscript_ (thn (he pins s σ H _ I h) fun v s1 ⟨x, H1, I1, r1, q1⟩ => ?_)
  obtain ⟨a, xs, rfl, hx, q⟩ := q1
  cases r1
  refine wpAny_Slice ?_
  rw [evalPart_none]
  refine wpAny_pure (wpAny_pure ?_)
  rw [evalPart_some]
  refine thn (pe_un un_neg (pe_int (X := X)) pins s1 σ H1 (fun v H2 => v = .int (-1) ∧ H2 = H1) I1 ⟨1, rfl, rfl, rfl⟩) fun u s2 ⟨y, H2, I2, r2, e1, e2⟩ => ?_
  subst e1 e2
  obtain ⟨t, rfl⟩ := r2
  obtain ⟨its, r, ht, hz⟩ := I2.list hx
  have hlen := r.length
  have I3 : Inv X pins σ H2 { s2 with heap := s2.heap.push { cls := .type "slice", data := .fields #[.none, .none, .int (-1) t] } } := I2.kept (t' := s2.toks) fun b ob q => Heap.get?_push_of_some _ q
  obtain ⟨its', r', ht', hz'⟩ := I3.list hx
  have hlen' := r'.length
  show wpAny (model X.prog X.w) X.A (subscriptTail e (.Slice none none (some _) p3) (.ref a) (.ref s2.heap.objs.size)) (EP X pins σ Q) X.xe { s2 with heap := s2.heap.push { cls := .type "slice", data := .fields #[.none, .none, .int (-1) t] } }
  refine tail_any (ops := [.ref a, .ref s2.heap.objs.size]) ht'.isList.typeIs slot_list_getitem.lookup ?_ (by with_unfolding_all rfl)
  refine wpAny_getItem_list_slice ht'.isList (Heap.IsSliceOf.new ..) .none .none (.int (-1) t) (by simp) ?_ (by rw [List.size_toArray] <;> omega)
  rw [PySem.W.krv_pick]
  refine ⟨.ref _, _, I3.laid (t' := s2.toks) (o := .lst xs.reverse) (fun b ob q => Heap.get?_push_of_some _ q) (Nat.le_refl _) ?_, rfl, q _ (I3.hok.fresh (Nat.le_refl _))⟩
  exact ⟨by rw [List.length_reverse]; exact hz, _, 0, r'.reverse, Heap.get?_push_size _ rfl⟩
theorem nolen_ri : typeLookup (.type "list_reverseiterator") "__len__" = pure none := by rw [typeLookup_type, builtinLookup_eq_fast]; kernel_rfl
theorem hint_ri : typeLookup (.type "list_reverseiterator") "__length_hint__" = pure (some (.builtin "list_reverseiterator.__length_hint__")) := by rw [typeLookup_type, builtinLookup_eq_fast]; kernel_rfl
section
variable {prog : Program} {w : World} {A : Around} {E : Value → Shared → Prop} {s : Shared}
theorem extend_rev {R : Result → Shared → Prop} (hh : A.handled = none) {I l : Addr} {items : Array Value} (hit : s.heap.IsRevIter I l ((items.size : Int) - 1)) (hL : s.heap.IsList l items) (S : Addr) (res : Value) (c₀ : Nat) (hS : s.heap.get? S = some { cls := .type "list", data := .seq #[] c₀ })
    (hSl : S ≠ l) (hR : ∀ s' acc' c', Moved [S, I] (fun a b => b = a) s s' → s'.heap.get? S = some { cls := .type "list", dict := none, data := .seq acc' c', slots := #[] } →
      ItemsOf (fun i v => items[items.size - 1 - i]? = some v) acc' items.size → R (.ok (.ret res)) s') (hn : items.size ≤ sizeLine) :
    wpAny (model prog w) A.in1 (Builtin.List.listExtendWith (.ref S) (.ref I) res)
      (fun fin s' => match fin with | .done f => R (.ok f) s' | .again c' => c'.quiet = true ∧ codeAny (model prog w) A c' R s') (fun e s' => R (.error e) s') s := by
  obtain ⟨oi, hoi, hci, hdi⟩ := id hit
  obtain ⟨ol, hol, hcl, nl, hdl⟩ := id hL
  have hSI : S ≠ I := by
    rintro rfl
    rw [hS] at hoi; cases hoi; exact absurd (show Value.type "list" = Value.type "list_reverseiterator" from hci) (by decide)
  have hne : l ≠ I := by
    rintro rfl
    rw [hol] at hoi; cases hoi; rw [hcl] at hci; exact absurd hci (by decide)
  have hSf : S ∉ [I, l] := fun hm => by
    rcases List.mem_cons.mp hm with e | hm
    · exact hSI e
    · exact hSl (List.mem_singleton.mp hm)
  unfold Builtin.List.listExtendWith
  refine wpAny_bind (wpAny_typeOf (T := "list_reverseiterator") hit.typeIs ?_)
  have h1 : Builtin.List.listSameRef (.ref S) (.ref I) = false := by simp [Builtin.List.listSameRef, hSI]
  have h2 : (Value.type "list_reverseiterator" == Value.type "list") = false := by decide
  have h3 : (Value.type "list_reverseiterator" == Value.type "tuple") = false := by decide
  simp only [h1, h2, h3, Bool.or_false, Bool.false_eq_true, if_false]
  refine wpAny_bind (wpAny_pyIter_revIter hit ?_)
  refine wpAny_bind (wpAny_holding ?_)
  unfold Builtin.List.listLengthHint
  refine wpAny_bind (wpAny_specialOf hit.typeIs nolen_ri ?_)
  show wpAny _ A.in1 (specialOf (Value.ref I) (Str.ofString "__length_hint__") >>= _) _ _ _
  refine wpAny_bind (wpAny_specialOf hit.typeIs hint_ri ?_)
  generalize hid : ("list_reverseiterator.__length_hint__" : String) = id0
  wp_delta
  rw [show splitId id0 = some ("list_reverseiterator", "__length_hint__") from by subst hid; decide +kernel]
  subst hid
  refine wpAny_bind (wpAny_isInstance (b := true) hit.typeIs (by rw [isSubtype_type]; kernel_rfl) ?_)
  refine wpAny_pure ?_
  rw [if_neg (by decide)]
  have W := Walks.listRev (prog := prog) (w := w) (A := A.in1) hh I l hne items
  refine wpAny_pure ⟨plainId_quiet F.plain_extend_loop _, codeAny_extend_loopS W.toS hn _ hSf _ items.size 0 _ _ _ rfl (Nat.zero_le _) ⟨Nat.zero_le _, by simpa using hit, hL⟩ hS (ItemsOf.nil _) fun s' acc' c' hm hS' hacc => ?_⟩
  exact hR s' acc' c' hm hS' hacc
theorem init_rev {R : Result → Shared → Prop} (hh : A.handled = none) {I l : Addr} {items : Array Value} (hit : s.heap.IsRevIter I l ((items.size : Int) - 1)) (hL : s.heap.IsList l items) (S : Addr) (hS : s.heap.get? S = some { cls := .type "list", data := .seq #[] }) (hSl : S ≠ l) (hSI : S ≠ I)
    (hR : ∀ s' acc' c', s'.gens = s.gens → s'.os = s.os → (∀ b o, b ≠ S → b ≠ I → s.heap.get? b = some o → s'.heap.get? b = some o) → s'.heap.get? S = some { cls := .type "list", dict := none, data := .seq acc' c', slots := #[] } →
      ItemsOf (fun i v => items[items.size - 1 - i]? = some v) acc' items.size → R (.ok (.ret .none)) s') (hn : items.size ≤ sizeLine) :
    wpAny (model prog w) A.in1 (Builtin.«list.__init__» ⟨[.ref S, .ref I], []⟩)
      (fun fin s' => match fin with | .done f => R (.ok f) s' | .again c' => c'.quiet = true ∧ codeAny (model prog w) A c' R s') (fun e s' => R (.error e) s') s := by
  show wpAny _ _ (do let old ← Builtin.List.listItems (.ref S); Builtin.List.listUpdate (.ref S) (fun _ => #[]); letGo old.toList.reverse; Builtin.List.listExtendWith (.ref S) (.ref I) .none) _ _ s
  refine wpAny_bind ?_
  unfold Builtin.List.listItems
  refine wpAny_bind (wpAny_seqItems hS rfl (wpAny_pure ?_))
  show wpAny _ _ (updateSeq S (fun _ => #[]) >>= fun _ => letGo (#[] : Array Value).toList.reverse >>= fun _ => Builtin.List.listExtendWith (.ref S) (.ref I) .none) _ _ s
  refine wpAny_bind (wpAny_updateSeq hS rfl ?_)
  have hS₂ := Heap.get?_update_self (Obj.mapSeq (fun _ => (#[] : Array Value))) hS rfl
  have oth : ∀ b o, b ≠ S → s.heap.get? b = some o → (s.heap.update S (Obj.mapSeq (fun _ => (#[] : Array Value)))).get? b = some o :=
    fun b o hb e => (Heap.get?_update_other _ _ (Ne.symm hb)).trans e
  refine wpAny_bind (wpAny_letGo ?_)
  refine extend_rev (hn := hn) hh (hit.at fun o e => oth I o (Ne.symm hSI) e) (hL.at fun o e => oth l o (Ne.symm hSl) e) S .none _ hS₂ hSl fun s' acc' c' hm hS' hacc => ?_
  refine hR s' acc' c' hm.gens hm.os (fun b o hb hi e => hm.heap b o (fun z => ?_) (oth b o hb e)) hS' hacc
  rcases List.mem_cons.mp z with e' | z
  · exact hb e'
  · exact hi (List.mem_singleton.mp z)
theorem call_list_revIter {Q : Value → Shared → Prop} (hh : A.handled = none) {I l : Addr} {items : Array Value} (hit : s.heap.IsRevIter I l ((items.size : Int) - 1)) (hL : s.heap.IsList l items)
    (hQ : ∀ s' acc' c', s'.gens = s.gens → s'.os = s.os → (∀ b o, b ≠ I → s.heap.get? b = some o → s'.heap.get? b = some o) →
      s'.heap.get? s.heap.objs.size = some { cls := .type "list", dict := none, data := .seq acc' c', slots := #[] } → ItemsOf (fun i v => items[items.size - 1 - i]? = some v) acc' items.size → Q (.ref s.heap.objs.size) s') (hn : items.size ≤ sizeLine) :
    wpAny (model prog w) A (call (.type "list") [.ref I]) Q E s := by
  refine callType_codes (Q₁ := fun obj s₁ => obj = .ref s.heap.objs.size ∧ s₁ = { s with heap := s.heap.push { cls := .type "list", data := .seq #[] } }) F.called_list (F.typeCall_list_1 _) F.entry_list_init
    (code_list_new _ ⟨rfl, rfl⟩) fun obj s₁ h₁ => ?_
  obtain ⟨rfl, rfl⟩ := h₁
  have hS : (s.heap.push { cls := .type "list", data := .seq #[] }).get? s.heap.objs.size = some { cls := .type "list", data := .seq #[] } := Heap.get?_push_size _ rfl
  obtain ⟨oi, hoi, _⟩ := id hit
  obtain ⟨ol, hol, _⟩ := id hL
  refine ⟨⟨_, hS, rfl⟩, F.args_list_init_2 _ _, init_rev (A := A.in1) (hn := hn) hh (hit.at fun o e => Heap.get?_push_of_some _ e) (hL.at fun o e => Heap.get?_push_of_some _ e) _ hS (Nat.ne_of_gt (Heap.lt_size hol)) (Nat.ne_of_gt (Heap.lt_size hoi)) fun s' acc' c' hg ho hk hS' hacc => ?_⟩
  exact ⟨rfl, hQ s' acc' c' hg ho (fun b o hI e => hk b o (Nat.ne_of_lt (Heap.lt_size e)) hI (Heap.get?_push_of_some _ e)) hS' hacc⟩
end
theorem rev_items {items acc : Array Value} (h : ItemsOf (fun i v => items[items.size - 1 - i]? = some v) acc items.size) : acc = items.toList.reverse.toArray := by
  apply Array.ext_getElem?
  intro i
  by_cases hi : i < items.size
  · have e : acc[i]? = some (acc[i]'(by rw [h.1]; exact hi)) := Array.getElem?_eq_getElem _
    have q := h.2 i _ e
    rw [e, ← q]
    simp [List.getElem?_reverse, hi]
  · rw [Array.getElem?_eq_none (by rw [h.1]; omega), Array.getElem?_eq_none (by simp; omega)]
def tListRev (K : PySem.W.Frag) (te : TE) : TE := fun σ H Q => te σ H fun x H1 => ∃ (l : Addr) (ys : List V), x = .ref l ∧ SqL K H1 l ys ∧ ∀ q, H1 q = none → Q (.ref q) (upd H1 q (.lst ys.reverse))
theorem pe_listRev {e : Expr} {te : TE} {p1 p2 pos1 pos2 : Pos} (hc : X.calm = true) (hg1 : Gl X "list") (hm1 : X.mg "list" = none) (hg2 : Gl X "reversed") (hm2 : X.mg "reversed" = none) (he : PE X e te)
    (hs : starEach [e] X.env = [(false, eval e X.env)] := by rfl) (hs2 : starEach [.Call (.Name "reversed" p2) [e] [] pos2] X.env = [(false, eval (.Call (.Name "reversed" p2) [e] [] pos2) X.env)] := by rfl) :
    PE X (.Call (.Name "list" p1) [.Call (.Name "reversed" p2) [e] [] pos2] [] pos1) (tListRev X.K te) := by
  intro pins s σ H Q I h
  refine wpAny_Call_Name_kw (ld_blt I hg1 hm1 boot_list ?_)
  refine PyProof.Rows.callWith_type1 ?_ hs2 rfl
  rw [hs2]
  show wpAny _ _ (spliced ((false, eval (.Call (.Name "reversed" p2) [e] [] pos2) X.env) :: backTo pos1 [])) _ _ s
  refine Calls.spliced_cons ?_
  refine wpAny_Call_Name_kw (ld_blt I hg2 hm2 boot_reversed ?_)
  refine PyProof.Rows.callWith_type1 ?_ hs rfl
  rw [hs]
  show wpAny _ _ (spliced ((false, eval e X.env) :: backTo pos2 [])) _ _ s
  refine Calls.spliced_cons (thn (he pins s σ H _ I h) fun v s1 ⟨x, H1, I1, r1, q1⟩ => Calls.spliced_nil ?_)
  obtain ⟨l, ys, rfl, hq, q⟩ := q1
  cases r1
  obtain ⟨its, rv, pl, hz⟩ := I1.list hq
  have hl := rv.length
  refine call_reversed_list pl.isList (Calls.spliced_nil ?_)
  have hsz : (its.toArray.size : Int) = (ys.length : Int) := by rw [List.size_toArray, hl]
  refine call_list_revIter (s := { s1 with heap := s1.heap.push (revObj l ((its.toArray.size : Int) - 1)) }) (I1.ok.hd hc) (I := s1.heap.objs.size) (l := l) (items := its.toArray) ⟨_, Heap.get?_push_size _ rfl, rfl, rfl⟩ (pl.isList.at fun o e => Heap.get?_push_of_some _ e) (fun s' acc c hgn ho hk hS hacc => ?_) (by rw [List.size_toArray, ← hl]; exact hz)
  have e1 : (s1.heap.push (revObj l ((its.toArray.size : Int) - 1))).objs.size = s1.heap.objs.size + 1 := Heap.size_push _ _
  rw [show ({ s1 with heap := s1.heap.push (revObj l ((its.toArray.size : Int) - 1)) } : Shared).heap.objs.size = s1.heap.objs.size + 1 from e1] at hS ⊢
  have kept : ∀ b o, s1.heap.get? b = some o → s'.heap.get? b = some o := fun b o e => hk b o (Nat.ne_of_lt (Heap.lt_size e)) (Heap.get?_push_of_some _ e)
  have hokL := I1.laid (a := s1.heap.objs.size + 1) (o := .lst ys.reverse) (h' := s'.heap) (t' := s'.toks) kept (Nat.le_succ _) ⟨by rw [List.length_reverse]; exact hz, its.reverse, c, rv.reverse, by rw [hS, rev_items hacc]⟩
  have I2 : Inv X pins σ (upd H1 (s1.heap.objs.size + 1) (.lst ys.reverse)) s' := by
    refine I1.call' (ch := []) (by rw [ho]) ?_ hokL.hok (by rw [hgn]; exact I1.bare) fun b z => absurd z (by simp)
    exact Un.laid kept (Nat.le_succ _) (I1.hok.fresh (Nat.le_succ _))
  exact ⟨.ref _, _, I2, rfl, q _ (I1.hok.fresh (Nat.le_succ _))⟩
end
section
variable {X : Cx} (K : PySem.W.Frag)
theorem k_isi (e : X.K = K := by rfl) : CallR X (.builtin "isinstance") (rIsi K) := by subst e; exact call_isi
theorem k_len (e : X.K = K := by rfl) : CallR X (.builtin "len") (fun xs H Q => ∃ p ys, xs = [.ref p] ∧ (SqL K H p ys ∨ SqT K H p ys) ∧ Q (.int ys.length) H) := by subst e; exact call_len_seq
theorem k_ixL (e : X.K = K := by rfl) : IxR X (rIxL K) := by subst e; exact ix_list
theorem k_ixT (e : X.K = K := by rfl) : IxR X (rIxT K) := by subst e; exact ix_tup
theorem k_slL (e : X.K = K := by rfl) : SlR X (rSlL K) := by subst e; exact sl_list
theorem k_all (hc : X.calm = true) (e : X.K = K := by rfl) : CallR X (.builtin "all") (rAll K) := by subst e; exact call_all hc
theorem k_eqT (hu : X.A.units + 64 < cLine) (e : X.K = K := by rfl) : OpR X (compareOp .Eq) (rEqT K false) := by subst e; exact op_eqT hu
theorem k_neT (hu : X.A.units + 64 < cLine) (e : X.K = K := by rfl) : OpR X (compareOp .NotEq) (rEqT K true) := by subst e; exact op_neT hu
theorem k_notInT (hu : X.A.units + 64 < cLine) (e : X.K = K := by rfl) : OpR X (compareOp .NotIn) (rInT K true) := by subst e; exact op_notInT hu
theorem k_pi {tg l : Expr} {tl : TE} (hl : PE X l tl) (e : X.K = K := by rfl) : PI X tg l (iList K tl) := by subst e; exact pi_list hl
end
structure Df (K : PySem.W.Frag) (mg : Str → Option Value) (x : Str) (st : Stmt) (ps : List Str) (f : Addr) (fd : FuncData) : Prop where
  fn : Fun K x x st f fd
  b : Binds K fd ps []
  g : mg x = some (.ref f)
theorem pcall {X : Cx} {x : Str} {st : Stmt} {ps : List Str} {f : Addr} {fd : FuncData} {k : Nat} {sp : Sp} {e : Expr} {es : List Expr} {t : TA} {p pos : Pos} (D : Df X.K X.mg x st ps f fd) (G : FnOk X.prog X.w X.K X.mg X.base CX0 k f fd ps sp) (hr : Room k X.A) (ha : PA X (e :: es) t) (hg : Gl X x := by rfl)
    (hdb : (x == ("__debug__" : Str)) = false := by decide) (he : starEach (e :: es) X.env = (false, eval e X.env) :: starEach es X.env := by rfl) (hpl : (backTo pos (starEach es X.env)).any (·.1) = false := by rfl) : PE X (.Call (.Name x p) (e :: es) [] pos) (tCall sp [] E0 t) :=
  pe_call G hr hg D.g D.fn.kp D.b .nil pass0 ha hdb he hpl
theorem df_mk {K : PySem.W.Frag} {h : Heap} {mg : Str → Option Value} {x : Str} {st : Stmt} {ps : List Str} {f : Addr} {oc : Value} {od an : Option Addr} {osl : Array (Option Value)} {kV doc pm cdv ct : Value} (X : K.In h) (G : h.Ns mainGlobals mg)
    (a : PySem.W.nsIn K mainGlobals x = some (some (.ref f))) (l : K.lookup f = some ⟨oc, od, .func (PySem.W.fnOf x x (defArgs st) (defBody st) (defScope st) .none kV doc pm an cdv ct), osl⟩) (c : PySem.W.codeIn K cdv x = true) (k : PySem.W.keepIn K (.ref f) = true)
    (hb : ∀ (kV doc pm : Value) (an : Option Addr) (cdv ct : Value) (us : List Value), us.length = ps.length → bindArgs (PySem.W.fnOf x x (defArgs st) (defBody st) (defScope st) .none kV doc pm an cdv ct) ⟨us, []⟩ = pure (ps.zip us)) :
    Df K mg x st ps f (PySem.W.fnOf x x (defArgs st) (defBody st) (defScope st) .none kV doc pm an cdv ct) :=
  ⟨fun_mk l c k, (fun_mk (st := st) l c k).binds hb, PySem.W.mg_of X G a⟩
structure Blt (mg : Str → Option Value) : Prop where
  n_isinstance : mg "isinstance" = none
  n_int : mg "int" = none
  n_bool : mg "bool" = none
  n_list : mg "list" = none
  n_tuple : mg "tuple" = none
  n_reversed : mg "reversed" = none
  n_len : mg "len" = none
  n_max : mg "max" = none
  n_min : mg "min" = none
  n_range : mg "range" = none
  n_all : mg "all" = none
  n_any : mg "any" = none
  n_sorted : mg "sorted" = none
  n_enumerate : mg "enumerate" = none
  n_repr : mg "repr" = none
theorem HUof {A : Around} {k : Nat} (hr : Room k A) : A.units + 64 < cLine := hr.units
def aw (fp : List Addr) (H : Hp) : Hp := fun b => if b ∈ fp then none else H b
theorem aw_in {fp : List Addr} {H : Hp} {b : Addr} (h : b ∈ fp) : aw fp H b = none := by unfold aw; rw [if_pos h]
theorem aw_out {fp : List Addr} {H : Hp} {b : Addr} (h : b ∉ fp) : aw fp H b = H b := by unfold aw; rw [if_neg h]
theorem aw_same (fp : List Addr) (H : Hp) : Same (aw fp H) H := fun b o e => by
  by_cases h : b ∈ fp
  · rw [aw_in h] at e; cases e
  · rw [aw_out h] at e; exact e
theorem Same.aw {H H' : Hp} (h : Same H H') (fp : List Addr) : Same (aw fp H) (aw fp H') := fun b o e => by
  by_cases hb : b ∈ fp
  · rw [aw_in hb] at e; cases e
  · rw [aw_out hb] at e ⊢; exact h b o e
theorem same_upd {H : Hp} {p : Addr} {o : HO} (h : H p = none) : Same H (upd H p o) := fun b u e => by rw [upd_ne (ne_of_none e h)]; exact e
end L2
set_option Elab.async false
set_option linter.all false
set_option maxRecDepth 100000
namespace L2
open PySem PyProof.Rows
def unD : List (PyData × PyData) → List (Int × Int)
  | (.int k, .int v) :: r => (k, v) :: unD r
  | _ => []
def dD (ps : List (Int × Int)) : List (PyData × PyData) := ps.map fun p => (.int p.1, .int p.2)
def dV (ps : List (Int × Int)) : List (Key × V) := ps.map fun p => (.inl p.1, .int p.2)
theorem dV_inj : ∀ {ps qs : List (Int × Int)}, dV ps = dV qs → ps = qs
  | [], [], _ => rfl
  | [], _ :: _, h => by cases h
  | _ :: _, [], h => by cases h
  | (k, v) :: r, (k', v') :: r', h => by
    have h' : ((Sum.inl k : Key), V.int v) :: dV r = (Sum.inl k', V.int v') :: dV r' := h
    injection h' with h1 h2
    injection h1 with h3 h4
    injection h3 with h3
    injection h4 with h4
    rw [h3, h4, dV_inj h2]
mutual
def ThAt (H : Hp) : PyData → V → Prop
  | .none, v => v = .non
  | .bool b, v => v = .bl b
  | .int i, v => v = .int i
  | .str x, v => v = .str x
  | .list xs, v => ∃ a ys, v = .ref a ∧ H a = some (.lst ys) ∧ ThsAt H xs ys
  | .tuple xs, v => ∃ a ys, v = .ref a ∧ H a = some (.tup ys) ∧ ThsAt H xs ys
  | .dict kvs, v => kvs = dD (unD kvs) ∧ ∃ a, v = .ref a ∧ H a = some (.dK (dV (unD kvs)))
def ThsAt (H : Hp) : List PyData → List V → Prop
  | [], ys => ys = []
  | d :: ds, ys => ∃ y zs, ys = y :: zs ∧ ThAt H d y ∧ ThsAt H ds zs
end
mutual
theorem ThAt.same {H H' : Hp} (m : Same H H') : ∀ {d : PyData} {v : V}, ThAt H d v → ThAt H' d v
  | .none, v, h => by rw [ThAt] at h ⊢; exact h
  | .bool b, v, h => by rw [ThAt] at h ⊢; exact h
  | .int i, v, h => by rw [ThAt] at h ⊢; exact h
  | .str x, v, h => by rw [ThAt] at h ⊢; exact h
  | .list xs, v, h => by
    rw [ThAt] at h ⊢
    obtain ⟨a, ys, h1, h2, h3⟩ := h
    exact ⟨a, ys, h1, m _ _ h2, ThsAt.same m h3⟩
  | .tuple xs, v, h => by
    rw [ThAt] at h ⊢
    obtain ⟨a, ys, h1, h2, h3⟩ := h
    exact ⟨a, ys, h1, m _ _ h2, ThsAt.same m h3⟩
  | .dict kvs, v, h => by
    rw [ThAt] at h ⊢
    obtain ⟨h0, a, h1, h2⟩ := h
    exact ⟨h0, a, h1, m _ _ h2⟩
theorem ThsAt.same {H H' : Hp} (m : Same H H') : ∀ {ds : List PyData} {ys : List V}, ThsAt H ds ys → ThsAt H' ds ys
  | [], ys, h => by rw [ThsAt] at h ⊢; exact h
  | d :: ds, ys, h => by
    rw [ThsAt] at h ⊢
    obtain ⟨y, zs, h1, h2, h3⟩ := h
    exact ⟨y, zs, h1, ThAt.same m h2, ThsAt.same m h3⟩
end
theorem ThsAt.len {H : Hp} : ∀ {ds : List PyData} {ys : List V}, ThsAt H ds ys → ys.length = ds.length
  | [], ys, h => by rw [ThsAt] at h; rw [h]; rfl
  | d :: ds, ys, h => by
    rw [ThsAt] at h
    obtain ⟨y, zs, h1, h2, h3⟩ := h
    rw [h1, List.length_cons, List.length_cons, ThsAt.len h3]
theorem ThsAt.get {H : Hp} : ∀ {ds : List PyData} {ys : List V} {k : Nat} {v : V}, ThsAt H ds ys → ys[k]? = some v → ∃ d, ds[k]? = some d ∧ ThAt H d v
  | [], ys, k, v, h, e => by rw [ThsAt] at h; rw [h] at e; simp at e
  | d :: ds, ys, k, v, h, e => by
    rw [ThsAt] at h
    obtain ⟨y, zs, h1, h2, h3⟩ := h
    rw [h1] at e
    cases k with
    | zero =>
      have e' : y = v := by simpa using e
      exact ⟨d, rfl, by rw [← e']; exact h2⟩
    | succ k => exact ThsAt.get (ds := ds) (k := k) h3 (by simpa using e)
theorem ThsAt.app {H : Hp} : ∀ {ds es : List PyData} {ys zs : List V}, ThsAt H ds ys → ThsAt H es zs → ThsAt H (ds ++ es) (ys ++ zs)
  | [], es, ys, zs, h, q => by rw [ThsAt] at h; rw [h]; exact q
  | d :: ds, es, ys, zs, h, q => by
    rw [ThsAt] at h
    obtain ⟨y, us, h1, h2, h3⟩ := h
    rw [h1, List.cons_append, List.cons_append, ThsAt]
    exact ⟨y, us ++ zs, rfl, h2, ThsAt.app h3 q⟩
def tyT : PyData → String
  | .none => "NoneType" | .bool _ => "bool" | .int _ => "int" | .str _ => "str" | .list _ => "list" | .tuple _ => "tuple" | .dict _ => "dict"
theorem ThAt.ty {K : PySem.W.Frag} {H : Hp} {d : PyData} {v : V} (h : ThAt H d v) : TyOf K H v (.type (tyT d)) := by
  cases d with
  | none => rw [ThAt] at h; rw [h]; exact .non
  | bool b => rw [ThAt] at h; rw [h]; exact .bl b
  | int i => rw [ThAt] at h; rw [h]; exact .int i
  | str x => rw [ThAt] at h; rw [h]; exact .str x
  | list xs => rw [ThAt] at h; obtain ⟨a, ys, rfl, h2, _⟩ := h; exact .lst h2
  | tuple xs => rw [ThAt] at h; obtain ⟨a, ys, rfl, h2, _⟩ := h; exact .tup h2
  | dict kvs => rw [ThAt] at h; obtain ⟨_, a, rfl, h2⟩ := h; exact .dK h2
def isS (T t : String) : Bool := t == T || (t == "bool" && T == "int")
def isT (T : String) (d : PyData) : Bool := isS T (tyT d)
section
variable {K : PySem.W.Frag}
theorem kit_ts {T t : String} (hT : T = "int" ∨ T = "bool" ∨ T = "list" ∨ T = "tuple" ∨ T = "str") (ht : t = "NoneType" ∨ t = "bool" ∨ t = "int" ∨ t = "str" ∨ t = "list" ∨ t = "tuple" ∨ t = "dict") : PySem.W.kitOne K (.type t) (.type T) = some (isS T t) := by
  rcases hT with rfl | rfl | rfl | rfl | rfl <;> rcases ht with rfl | rfl | rfl | rfl | rfl | rfl | rfl <;>
    first
    | exact kit_ty (by decide +kernel) (by decide +kernel) (fun _ => rfl)
    | exact kit_ty (by decide +kernel) (by decide +kernel) (fun e => absurd e (by decide))
theorem tyT_one (d : PyData) : tyT d = "NoneType" ∨ tyT d = "bool" ∨ tyT d = "int" ∨ tyT d = "str" ∨ tyT d = "list" ∨ tyT d = "tuple" ∨ tyT d = "dict" := by
  cases d <;> simp [tyT]
theorem kit_int (d : PyData) : PySem.W.kitOne K (.type (tyT d)) (.type "int") = some (isT "int" d) := kit_ts (by simp) (tyT_one d)
theorem kit_bool (d : PyData) : PySem.W.kitOne K (.type (tyT d)) (.type "bool") = some (isT "bool" d) := kit_ts (by simp) (tyT_one d)
theorem kit_list (d : PyData) : PySem.W.kitOne K (.type (tyT d)) (.type "list") = some (isT "list" d) := kit_ts (by simp) (tyT_one d)
theorem kit_tuple (d : PyData) : PySem.W.kitOne K (.type (tyT d)) (.type "tuple") = some (isT "tuple" d) := kit_ts (by simp) (tyT_one d)
theorem kit_str (d : PyData) : PySem.W.kitOne K (.type (tyT d)) (.type "str") = some (isT "str" d) := kit_ts (by simp) (tyT_one d)
end
end L2
set_option Elab.async false
set_option linter.all false
set_option maxRecDepth 100000
namespace L2
open PySem PyProof.Rows
section
variable {P : Program} {w : World} {H : Hp} {h : Heap}
theorem lst_obj {a : Addr} {ys : List V} (ok : HOk P w H h) (e : H a = some (.lst ys)) : ∃ (its : List Value) (n : Nat), Vals ys its ∧ h.get? a = some { cls := .type "list", data := .seq its.toArray n } := (ok a _ e).2
theorem tup_obj {a : Addr} {ys : List V} (ok : HOk P w H h) (e : H a = some (.tup ys)) : ∃ (its : List Value) (o : Obj) (n : Nat), Vals ys its ∧ h.get? a = some o ∧ o.cls = .type "tuple" ∧ o.data = .seq its.toArray n := by
  obtain ⟨_, its, r, o, h1, h2, n, h3⟩ := ok a _ e
  exact ⟨its, o, n, r, h1, h2, h3⟩
theorem ents_reads : ∀ {l : List DictEntry} {vs : List (Key × Value)} {ps : List (Int × Int)}, Pairs (mixKind P w) l vs → KV (dV ps) vs →
    ReadsAll h (l.map (·.key)) ((dD ps).map (·.1)) [] ∧ ReadsAll h (l.map (·.val)) ((dD ps).map (·.2)) []
  | _, _, [], pr, r => by
    cases r; cases pr
    exact ⟨.nil, .nil⟩
  | _, _, (k, v) :: ps, pr, r => by
    have r' : KV ((Sum.inl k, V.int v) :: dV ps) _ := r
    cases r' with
    | cons r1 r2 =>
      cases pr with
      | cons p1 p2 p3 =>
        obtain ⟨q1, q2⟩ := ents_reads p3 r2
        obtain ⟨e1, t1, e2⟩ := r1
        rw [← e1] at p1
        obtain ⟨t, e3⟩ := Value.isInt_shape (show Value.isInt k _ = true from p1)
        refine ⟨?_, ?_⟩
        · refine ReadsAll.cons (as := []) (bs := []) (d := .int k) ?_ q1
          show Reads h (DictEntry.key _) (.int k) []
          rw [e3]; exact .int _ _
        · refine ReadsAll.cons (as := []) (bs := []) (d := .int v) ?_ q2
          show Reads h (DictEntry.val _) (.int v) []
          rw [p2, e2]; exact .int _ _
theorem ents_shown {as : List Addr} {d : Nat} : ∀ {l : List DictEntry} {vs : List (Key × Value)} {ps : List (Int × Int)}, Pairs (mixKind P w) l vs → KV (dV ps) vs → PyData.showableKv (dD ps) = true →
    ReprEntriesK P w as h d l (PyData.shownKv (dD ps))
  | _, _, [], pr, r, _ => by
    cases r; cases pr
    show ReprEntriesK P w as h d [] (PyData.shownKv [])
    rw [PyData.shownKv]; exact .nil
  | _, _, (k, v) :: ps, pr, r, hs => by
    have r' : KV ((Sum.inl k, V.int v) :: dV ps) _ := r
    have hs' : PyData.showableKv ((.int k, .int v) :: dD ps) = true := hs
    rw [PyData.showableKv, PyData.showable, PyData.showable, Bool.and_eq_true, Bool.and_eq_true] at hs'
    cases r' with
    | cons r1 r2 =>
      cases pr with
      | cons p1 p2 p3 =>
        obtain ⟨e1, t1, e2⟩ := r1
        rw [← e1] at p1
        obtain ⟨t, e3⟩ := Value.isInt_shape (show Value.isInt k _ = true from p1)
        show ReprEntriesK P w as h d _ (PyData.shownKv ((.int k, .int v) :: dD ps))
        rw [PyData.shownKv, PyData.shown, PyData.shown]
        refine .cons ?_ ?_ (ents_shown p3 r2 hs'.2)
        · rw [e3]; exact .of_is (ReprIs.int t (of_decide_eq_true hs'.1.1)) _ _ _
        · rw [p2, e2]; exact .of_is (ReprIs.int t1 (of_decide_eq_true hs'.1.2)) _ _ _
theorem depth_dD : ∀ ps : List (Int × Int), PyData.depthKv (dD ps) = 0
  | [] => by show PyData.depthKv [] = 0; rw [PyData.depthKv]
  | (k, v) :: ps => by
    show PyData.depthKv ((.int k, .int v) :: dD ps) = 0
    rw [PyData.depthKv, PyData.depth, PyData.depth, depth_dD ps]; rfl
theorem dic_obj {a : Addr} {ps : List (Int × Int)} (ok : HOk P w H h) (e : H a = some (.dK (dV ps))) : (a == sysModules) = false ∧ ∃ (o : Obj) (es : Array DictEntry) (n : Nat) (vs : List (Key × Value)), h.get? a = some o ∧ o.cls = .type "dict" ∧ o.data = .dict es n ∧ Pairs (mixKind P w) es.toList vs ∧ KV (dV ps) vs := by
  obtain ⟨_, hs, vs, r, o, es, ep, e1, ex, ed, _, pr, _⟩ := ok a _ e
  exact ⟨hs, o, es, ep, vs, e1, ex.1, ed, pr, r⟩
mutual
theorem th_reads (ok : HOk P w H h) : ∀ {d : PyData} {v : V} {u : Value}, ThAt H d v → RelV v u → ∃ as, Reads h u d as
  | .none, v, u, t, r => by
    rw [ThAt] at t; subst t
    have e : u = Value.none := r
    subst e; exact ⟨_, .none⟩
  | .bool b, v, u, t, r => by
    rw [ThAt] at t; subst t
    have e : u = Value.bool b := r
    subst e; exact ⟨_, .bool b⟩
  | .int i, v, u, t, r => by
    rw [ThAt] at t; subst t
    obtain ⟨k, rfl⟩ : ∃ k, u = Value.int i k := r
    exact ⟨_, .int i k⟩
  | .str x, v, u, t, r => by
    rw [ThAt] at t; subst t
    obtain ⟨k, rfl⟩ : ∃ k, u = Value.str x k := r
    exact ⟨_, .str x k⟩
  | .list xs, v, u, t, r => by
    rw [ThAt] at t
    obtain ⟨a, ys, rfl, ha, hx⟩ := t
    have e : u = Value.ref a := r
    subst e
    obtain ⟨its, n, rv, ho⟩ := lst_obj ok ha
    obtain ⟨as, q⟩ := ths_reads ok hx rv
    exact ⟨_, .list ho rfl rfl q⟩
  | .tuple xs, v, u, t, r => by
    rw [ThAt] at t
    obtain ⟨a, ys, rfl, ha, hx⟩ := t
    have e : u = Value.ref a := r
    subst e
    obtain ⟨its, o, n, rv, h1, h2, h3⟩ := tup_obj ok ha
    obtain ⟨as, q⟩ := ths_reads ok hx rv
    exact ⟨_, .tuple h1 h2 h3 q⟩
  | .dict kvs, v, u, t, r => by
    rw [ThAt] at t
    obtain ⟨hk, a, rfl, ha⟩ := t
    generalize unD kvs = ps at hk ha
    subst hk
    have e : u = Value.ref a := r
    subst e
    obtain ⟨_, o, es, n, vs, h1, h2, h3, h4, h5⟩ := dic_obj ok ha
    obtain ⟨q1, q2⟩ := ents_reads (h := h) h4 h5
    exact ⟨_, .dict h1 h2 h3 q1 q2⟩
theorem ths_reads (ok : HOk P w H h) : ∀ {ds : List PyData} {ys : List V} {us : List Value}, ThsAt H ds ys → Vals ys us → ∃ as, ReadsAll h us ds as
  | [], ys, us, t, r => by
    rw [ThsAt] at t; subst t
    cases r
    exact ⟨_, .nil⟩
  | d :: ds, ys, us, t, r => by
    rw [ThsAt] at t
    obtain ⟨y, zs, rfl, h1, h2⟩ := t
    cases r with
    | cons r1 r2 =>
      obtain ⟨as, q⟩ := th_reads ok h1 r1
      obtain ⟨bs, q2⟩ := ths_reads ok h2 r2
      exact ⟨_, .cons q q2⟩
end
mutual
theorem th_shown (ok : HOk P w H h) : ∀ {d : PyData} {v : V} {u : Value}, ThAt H d v → RelV v u → d.showable = true → d.shown.length ≤ sizeLine → ∃ bs, ReadAtMost h d.depth bs ∧ ReprK P w bs h d.depth u d.shown
  | .none, v, u, t, r, _, _ => by
    rw [ThAt] at t; subst t
    have e : u = Value.none := r
    subst e
    exact ⟨[], by simp [ReadAtMost], by rw [PyData.shown]; exact .of_is ReprIs.none _ _ _⟩
  | .bool b, v, u, t, r, _, _ => by
    rw [ThAt] at t; subst t
    have e : u = Value.bool b := r
    subst e
    exact ⟨[], by simp [ReadAtMost], by rw [PyData.shown]; exact .of_is (ReprIs.bool b) _ _ _⟩
  | .int i, v, u, t, r, hs, _ => by
    rw [ThAt] at t; subst t
    obtain ⟨k, rfl⟩ : ∃ k, u = Value.int i k := r
    rw [PyData.showable] at hs
    exact ⟨[], by simp [ReadAtMost], by rw [PyData.shown]; exact .of_is (ReprIs.int k (of_decide_eq_true hs)) _ _ _⟩
  | .str x, v, u, t, r, _, hz => by
    rw [ThAt] at t; subst t
    obtain ⟨k, rfl⟩ : ∃ k, u = Value.str x k := r
    rw [PyData.shown] at hz
    exact ⟨[], by simp [ReadAtMost], by rw [PyData.shown]; exact .of_is (ReprIs.str x k hz) _ _ _⟩
  | .list xs, v, u, t, r, hs, hz => by
    obtain ⟨as, rd⟩ := th_reads ok t r
    rw [ThAt] at t
    obtain ⟨a, ys, rfl, ha, hx⟩ := t
    have e : u = Value.ref a := r
    subst e
    obtain ⟨its, n, rv, ho⟩ := lst_obj ok ha
    rw [PyData.showable] at hs
    rw [PyData.shown] at hz
    obtain ⟨bs, hb, hk⟩ := ths_shown ok hx rv hs fun s hsm => Nat.le_trans (listText_mem_le hsm) hz
    have dd : (PyData.list xs).depth = PyData.depthAll xs + 1 := by rw [PyData.depth]
    refine ⟨a :: bs, ReadAtMost.cons rd (by omega) hb, ?_⟩
    rw [dd, PyData.shown]
    cases its with
    | nil =>
      cases rv
      cases xs with
      | nil => rw [PyData.shownAll, listText_nil]; exact ReprK.listEmpty ho rfl rfl
      | cons _ _ => rw [ThsAt] at hx; obtain ⟨_, _, z, _⟩ := hx; cases z
    | cons x l => exact ReprK.list ho rfl rfl (not_mem_of_deeper rd (by omega) hb) (by rw [hk.length_eq]; simp) fun i y q => hk.item i y (by simpa using q)
  | .tuple xs, v, u, t, r, hs, hz => by
    obtain ⟨as, rd⟩ := th_reads ok t r
    rw [ThAt] at t
    obtain ⟨a, ys, rfl, ha, hx⟩ := t
    have e : u = Value.ref a := r
    subst e
    obtain ⟨its, o, n, rv, h1, h2, h3⟩ := tup_obj ok ha
    rw [PyData.showable] at hs
    rw [PyData.shown] at hz
    obtain ⟨bs, hb, hk⟩ := ths_shown ok hx rv hs fun s hsm => Nat.le_trans (tupleText_mem_le hsm) hz
    have dd : (PyData.tuple xs).depth = PyData.depthAll xs + 1 := by rw [PyData.depth]
    refine ⟨a :: bs, ReadAtMost.cons rd (by omega) hb, ?_⟩
    rw [dd, PyData.shown]
    exact ReprK.tuple h1 h2 h3 (not_mem_of_deeper rd (by omega) hb) hk
  | .dict kvs, v, u, t, r, hs, hz => by
    obtain ⟨as, rd⟩ := th_reads ok t r
    rw [ThAt] at t
    obtain ⟨hk, a, rfl, ha⟩ := t
    generalize unD kvs = ps at hk ha
    subst hk
    have e : u = Value.ref a := r
    subst e
    obtain ⟨sy, o, es, n, vs, h1, h2, h3, h4, h5⟩ := dic_obj ok ha
    have dd : (PyData.dict (dD ps)).depth = 0 + 1 := by rw [PyData.depth, depth_dD]
    rw [PyData.showable] at hs
    refine ⟨[a], ReadAtMost.cons (d := .dict (dD ps)) (n := 0) rd (Nat.zero_le _) (by simp [ReadAtMost]), ?_⟩
    rw [dd, PyData.shown]
    exact ReprK.dict h1 h2 h3 sy (by simp) (ents_shown h4 h5 hs)
theorem ths_shown (ok : HOk P w H h) : ∀ {ds : List PyData} {ys : List V} {us : List Value}, ThsAt H ds ys → Vals ys us → PyData.showableAll ds = true → (∀ s ∈ PyData.shownAll ds, s.length ≤ sizeLine) → ∃ bs, ReadAtMost h (PyData.depthAll ds) bs ∧ ReprAllK P w bs h (PyData.depthAll ds) us (PyData.shownAll ds)
  | [], ys, us, t, r, _, _ => by
    rw [ThsAt] at t; subst t
    cases r
    exact ⟨[], by simp [ReadAtMost], by rw [PyData.shownAll]; exact .nil⟩
  | d :: ds, ys, us, t, r, hs, hz => by
    rw [ThsAt] at t
    obtain ⟨y, zs, rfl, h1, h2⟩ := t
    rw [PyData.showableAll, Bool.and_eq_true] at hs
    rw [PyData.shownAll] at hz
    cases r with
    | cons r1 r2 =>
      obtain ⟨b1, q1, k1⟩ := th_shown ok h1 r1 hs.1 (hz _ (.head _))
      obtain ⟨b2, q2, k2⟩ := ths_shown ok h2 r2 hs.2 fun s hsm => hz s (.tail _ hsm)
      have dd : PyData.depthAll (d :: ds) = max d.depth (PyData.depthAll ds) := by rw [PyData.depthAll]
      refine ⟨b1 ++ b2, (q1.mono (by omega)).append (q2.mono (by omega)), ?_⟩
      rw [PyData.shownAll]
      exact .cons ((k1.more fun b hb => List.mem_append_left _ hb).level_le (by omega)) (k2.more_le (fun b hb => List.mem_append_right _ hb) (by omega))
end
end
def rReprT : List V → Hp → VK → Prop := fun xs H Q => ∃ v d, xs = [v] ∧ ThAt H d v ∧ d.showable = true ∧ d.shown.length ≤ sizeLine ∧ d.depth ≤ 40 ∧ Q (.str d.shown) H
theorem call_reprT {X : Cx} (hg : X.A.guards = some []) (hu : X.A.units + 64 < cLine) : CallR X (.builtin "repr") rReprT := by
  intro pins s σ H xs us Q I r hq
  obtain ⟨v, d, rfl, t, hs, hz, hd, q⟩ := hq
  obtain ⟨u, rfl, ru⟩ := vals1 r
  obtain ⟨as, rd⟩ := th_reads I.hok t ru
  cases d with
  | none =>
    rw [ThAt] at t; subst t
    have e : u = Value.none := ru
    subst e
    rw [PyData.shown] at q
    exact P.repr_of_none ⟨.str "None", H, I.tok _, ⟨_, rfl⟩, q⟩
  | bool b =>
    rw [ThAt] at t; subst t
    have e : u = Value.bool b := ru
    subst e
    rw [PyData.shown] at q
    exact P.repr_of_bool ⟨.str _, H, I.tok _, ⟨_, rfl⟩, q⟩
  | int i =>
    rw [ThAt] at t; subst t
    obtain ⟨k, rfl⟩ : ∃ k, u = Value.int i k := ru
    rw [PyData.shown] at q
    rw [PyData.showable] at hs
    exact P.repr_of_int (of_decide_eq_true hs) ⟨.str _, H, I.tok _, ⟨_, rfl⟩, q⟩
  | str x =>
    rw [ThAt] at t; subst t
    obtain ⟨k, rfl⟩ : ∃ k, u = Value.str x k := ru
    rw [PyData.shown] at q hz
    exact P.repr_of_str ⟨.str _, H, I.tok _, ⟨_, rfl⟩, q⟩ hz
  | list xs =>
    rw [ThAt] at t
    obtain ⟨a, ys, rfl, ha, hx⟩ := t
    have e : u = Value.ref a := ru
    subst e
    obtain ⟨its, n, rv, ho⟩ := lst_obj I.hok ha
    rw [PyData.showable] at hs
    rw [PyData.shown] at hz q
    obtain ⟨bs, hb, hk⟩ := ths_shown I.hok hx rv hs fun s hsm => Nat.le_trans (listText_mem_le hsm) hz
    have dd : (PyData.list xs).depth = PyData.depthAll xs + 1 := by rw [PyData.depth]
    refine call_repr_slot (by omega) ⟨_, ho, rfl⟩ PySem.F.slot_list_repr.toG ?_
    cases its with
    | nil =>
      cases rv
      cases xs with
      | nil =>
        rw [PyData.shownAll, listText_nil] at q
        exact call_list_repr_empty ⟨_, ho, rfl⟩ ho rfl ⟨_, _, rfl, .str "[]", H, I.tok _, ⟨_, rfl⟩, q⟩
      | cons _ _ => rw [ThsAt] at hx; obtain ⟨_, _, z, _⟩ := hx; cases z
    | cons x l =>
      exact call_list_reprK ho rfl rfl (not_mem_of_deeper rd (by omega) hb) (by rw [hk.length_eq]; simp) (fun i y q => hk.item i y (by simpa using q)) (A := X.A.in1) hg (fun b _ => Clear.nil b) (by show X.A.units + 1 + (PyData.depthAll xs + 1) < cLine; omega) (fun _ _ e => e) (fun h' u tk hk => ⟨_, _, rfl, .str _, H, I.kept hk, ⟨_, rfl⟩, q⟩) hz
  | tuple xs =>
    rw [ThAt] at t
    obtain ⟨a, ys, rfl, ha, hx⟩ := t
    have e : u = Value.ref a := ru
    subst e
    obtain ⟨its, o, n, rv, h1, h2, h3⟩ := tup_obj I.hok ha
    rw [PyData.showable] at hs
    rw [PyData.shown] at hz q
    obtain ⟨bs, hb, hk⟩ := ths_shown I.hok hx rv hs fun s hsm => Nat.le_trans (tupleText_mem_le hsm) hz
    have dd : (PyData.tuple xs).depth = PyData.depthAll xs + 1 := by rw [PyData.depth]
    exact call_repr_slot (by omega) ⟨_, h1, h2⟩ PySem.F.slot_tuple_repr (call_tuple_reprK h1 h2 h3 (not_mem_of_deeper rd (by omega) hb) hk (A := X.A.in1) hg (fun b _ => Clear.nil b) (by show X.A.units + 1 + (PyData.depthAll xs + 1) < cLine; omega) (fun _ _ e => e) (fun h' u tk hk => ⟨_, _, rfl, .str _, H, I.kept hk, ⟨_, rfl⟩, q⟩) hz)
  | dict kvs =>
    rw [ThAt] at t
    obtain ⟨hk, a, rfl, ha⟩ := t
    generalize unD kvs = ps at hk ha
    subst hk
    have e : u = Value.ref a := ru
    subst e
    obtain ⟨sy, o, es, n, vs, h1, h2, h3, h4, h5⟩ := dic_obj I.hok ha
    rw [PyData.showable] at hs
    rw [PyData.shown] at q hz
    exact call_repr_slot (by omega) ⟨_, h1, h2⟩ PySem.F.slot_dict_repr (call_dict_reprK (as := []) (d := 0) h1 h2 h3 sy (by simp) (ents_shown h4 h5 hs) (A := X.A.in1) hg (fun b _ => Clear.nil b) (by show X.A.units + 1 + (0 + 1) < cLine; omega) (fun _ _ e => e) (fun h' u tk hk => ⟨_, _, rfl, .str _, H, I.kept hk, ⟨_, rfl⟩, q⟩) hz)
end L2
set_option Elab.async false
set_option linter.all false
set_option maxRecDepth 100000
namespace HT
open PySem PyProof.Rows
section
open PySem.SeqAt
open PySem.AutoSeq1 (wpAny_loadPart')
open PySem.MeetsSeq PySem.MeetsSeq2 PySem.MeetsSeq3 PySem.SeqRoads2
theorem ints_at {vs : List Value} {ns : List Int} (h : IntsAre vs ns) {i : Nat} (hi : i < ns.length) : ∃ t, vs[i]? = some (.int (ns[i]) t) := by
  induction h generalizing i with
  | nil => simp at hi
  | cons a t h ih =>
    cases i with
    | zero => exact ⟨t, rfl⟩
    | succ i =>
      obtain ⟨t', e⟩ := ih (i := i) (by simpa using hi)
      exact ⟨t', by simpa using e⟩
theorem lt_loop (l b : Addr) (items items2 : Array Value) (n n2 : Nat) (dd dd2 : Option Addr) (sl sl2 : Array (Option Value)) (ns ms : List Int) (hi : IntsAre items.toList ns) (hj : IntsAre items2.toList ms) (k : Nat) :
    ∀ i : Nat, ns.length - i = k → i ≤ ns.length → i ≤ ms.length → Meets (Builtin.«list.__eq__.loop» ⟨[.ref l, .ref b, rawInt i, rawInt 0], []⟩)
      (fun _ R s => s.heap.get? l = some { cls := .type "list", dict := dd, data := .seq items n, slots := sl } ∧ s.heap.get? b = some { cls := .type "list", dict := dd2, data := .seq items2 n2, slots := sl2 } ∧
        R (.ok (.ret (.bool (lexLt (ns.drop i) (ms.drop i))))) s) := by
  have z1 : items.size = ns.length := by rw [← hi.length]; simp
  have z2 : items2.size = ms.length := by rw [← hj.length]; simp
  induction k with
  | zero =>
    intro i hk h1 h2 prog w A R s h
    obtain ⟨hp, g, d, tk, os⟩ := s; obtain ⟨hl, hb, h⟩ := h
    have hin : i = ns.length := by omega
    wp_walk using wpAny_loadPart' hl, wpAny_loadPart' hb
    have hi1 : items[((i : Nat) : Int).toNat]? = none := by simp; omega
    have hd : ns.drop i = [] := by simp; omega
    rw [hd] at h
    rw [hi1]
    wp_walk using wpAny_loadPart' hl, wpAny_loadPart' hb
    show R (.ok (.ret (.bool (decide (items.size < items2.size))))) _
    have e : lexLt [] (ms.drop i) = decide (items.size < items2.size) := by
      cases q : ms.drop i with
      | nil =>
        rw [lexLt_nil_nil]
        have : ms.length ≤ i := by simpa using List.drop_eq_nil_iff.mp q
        exact (decide_eq_false (by omega)).symm
      | cons x y =>
        rw [lexLt_nil_cons]
        have : i < ms.length := by
          by_cases z : i < ms.length
          · exact z
          · rw [List.drop_of_length_le (by omega)] at q; cases q
        exact (decide_eq_true (by omega)).symm
    rw [← e]
    exact h
  | succ k ih =>
    intro i hk h1 h2 prog w A R s h
    obtain ⟨hp, g, d, tk, os⟩ := s; obtain ⟨hl, hb, h⟩ := h
    have hlt : i < ns.length := by omega
    obtain ⟨t, et⟩ := ints_at hi hlt
    have hi1 : items[((i : Nat) : Int).toNat]? = some (.int (ns[i]) t) := by simpa using et
    by_cases hm : i < ms.length
    · obtain ⟨u, eu⟩ := ints_at hj hm
      have hi2 : items2[((i : Nat) : Int).toNat]? = some (.int (ms[i]) u) := by simpa using eu
      wp_walk using wpAny_loadPart' hl, wpAny_loadPart' hb
      rw [List.drop_eq_getElem_cons hlt, List.drop_eq_getElem_cons hm, lexLt_cons] at h
      have hc : ((i : Int) + 1) = ((i + 1 : Nat) : Int) := by push_cast; rfl
      rw [hi1, hi2]
      obtain ⟨e, he, hiff⟩ := eqAt_int A.in1 ⟨hp, g, d, tk, os⟩ (ns[i]) t (ms[i]) u
      refine wpAny_bind (he prog w _ _ ?_)
      cases e with
      | true =>
        rw [if_pos (hiff.mp rfl)] at h
        wp_walk
        rw [hc]
        exact ⟨plainId_quiet plain_eq_loop _, codeAny_builtin entry_eq_loop (by
          rw [Around.under_plainId plain_eq_loop _]
          exact ih (i + 1) (by omega) (by omega) (by omega) prog w A R _ ⟨hl, hb, h⟩)⟩
      | false =>
        rw [if_neg (fun q => absurd (hiff.mpr q) Bool.false_ne_true)] at h
        have hri := rcLt_int A.in1 ⟨hp, g, d, tk, os⟩ (ns[i]) t (ms[i]) u prog w
        wp_walk using wpAny_loadPart' hl, wpAny_loadPart' hb
        rw [hi1, hi2]
        wp_walk using hri
        simpa using h
    · have hi2 : items2[((i : Nat) : Int).toNat]? = none := by simp; omega
      wp_walk using wpAny_loadPart' hl, wpAny_loadPart' hb
      rw [List.drop_eq_getElem_cons hlt, List.drop_of_length_le (show ms.length ≤ i by omega), lexLt_cons_nil] at h
      rw [hi1, hi2]
      wp_walk using wpAny_loadPart' hl, wpAny_loadPart' hb
      show R (.ok (.ret (.bool (decide (items.size < items2.size))))) _
      rw [decide_eq_false (by omega)]
      exact h
theorem list_lt_ints (l b : Addr) (items items2 : Array Value) (n n2 : Nat) (dd dd2 : Option Addr) (sl sl2 : Array (Option Value)) (ns ms : List Int) (hi : IntsAre items.toList ns) (hj : IntsAre items2.toList ms) :
    Meets (Builtin.«list.__lt__» ⟨[.ref l, .ref b], []⟩)
      (fun _ R s => s.heap.get? l = some { cls := .type "list", dict := dd, data := .seq items n, slots := sl } ∧ s.heap.get? b = some { cls := .type "list", dict := dd2, data := .seq items2 n2, slots := sl2 } ∧
        R (.ok (.ret (.bool (lexLt ns ms)))) s) := by
  intro prog w A R s h
  obtain ⟨hp, g, d, tk, os⟩ := s; obtain ⟨hl, hb, h⟩ := h
  have f3 := AutoSeq1.sub_list_list
  wp_walk using wpAny_loadPart' hl, wpAny_loadPart' hb
  exact ⟨plainId_quiet plain_eq_loop _, codeAny_builtin entry_eq_loop (by
    rw [Around.under_plainId plain_eq_loop _]
    exact lt_loop l b items items2 n n2 dd dd2 sl sl2 ns ms hi hj _ 0 rfl (Nat.zero_le _) (Nat.zero_le _) prog w A R _ ⟨hl, hb, by simpa using h⟩)⟩
end
section
variable {prog : Program} {w : World} {A : Around} {E : Value → Shared → Prop} {s : Shared}
theorem lt_listInts {l b : Addr} {items items2 : Array Value} {ns ms : List Int} {Q : Value → Shared → Prop} (hl : s.heap.IsList l items) (hb : s.heap.IsList b items2) (hi : IntsAre items.toList ns) (hj : IntsAre items2.toList ms)
    (hu : A.units < cLine) (h : Q (.bool (lexLt ns ms)) s) : wpAny (model prog w) A (richCompare .Lt (.ref l) (.ref b)) Q E s := by
  obtain ⟨⟨cls, dd, data, sl⟩, ho, hc, n, hd⟩ := id hl
  obtain ⟨⟨cls2, dd2, data2, sl2⟩, ho2, hc2, n2, hd2⟩ := id hb
  simp only at hc hd hc2 hd2
  subst hc hd hc2 hd2
  exact richCompare_meets_room (op := .Lt) ⟨_, ho, rfl⟩ ⟨_, ho2, rfl⟩ PySem.F.slot_list_lt PySem.F.entry_list_lt (PySem.F.args_list_lt_2 _ _) (list_lt_ints l b items items2 n n2 dd dd2 sl sl2 ns ms hi hj)
    ⟨ho, ho2, show Value.bool (lexLt ns ms) ≠ Value.notImplemented ∧ Q (.bool (lexLt ns ms)) s from ⟨(fun x => nomatch x), h⟩⟩ hu
end
end HT
namespace HT
open PySem PyProof.Rows PySem.W
def krun {α : Type} (c : Nat → Nat → Bool) : KasT α → α
  | .ret a => a
  | .ask i j k => krun c (k (c i j))
def kin {α : Type} (n : Nat) : KasT α → Bool
  | .ret _ => true
  | .ask i j k => decide (i < n) && decide (j < n) && kin n (k true) && kin n (k false)
theorem krun_wp {α : Type} {n : Nat} {c : Nat → Nat → Bool} {cmp : Nat → Nat → (Bool → Shared → Prop) → Shared → Prop} {s : Shared} {Q : α → Shared → Prop} (hc : ∀ i j C, i < n → j < n → C (c i j) s → cmp i j C s) :
    ∀ t : KasT α, kin n t = true → Q (krun c t) s → t.kasWp cmp Q s
  | .ret a, _, q => q
  | .ask i j k, h, q => by
    unfold kin at h
    simp only [Bool.and_eq_true, decide_eq_true_eq] at h
    refine hc i j _ h.1.1.1 h.1.1.2 ?_
    have q' : Q (krun c (k (c i j))) s := q
    cases e : c i j with
    | true => rw [e] at q'; exact krun_wp hc (k true) h.1.2 q'
    | false => rw [e] at q'; exact krun_wp hc (k false) h.2 q'
theorem krun_congr {α : Type} {n : Nat} {c d : Nat → Nat → Bool} (h : ∀ i j, i < n → j < n → c i j = d i j) : ∀ t : KasT α, kin n t = true → krun c t = krun d t
  | .ret a, _ => rfl
  | .ask i j k, hk => by
    unfold kin at hk
    simp only [Bool.and_eq_true, decide_eq_true_eq] at hk
    unfold krun
    rw [h i j hk.1.1.1 hk.1.1.2]
    cases d i j with
    | true => exact krun_congr h (k true) hk.1.2
    | false => exact krun_congr h (k false) hk.2
def tab (b : Nat → Nat → Bool) (i j : Nat) : Bool := if i < j then b i j else if j < i then !b j i else false
def okOut (n : Nat) (c : Nat → Nat → Bool) (p : List Nat) : Bool := p.isPerm (List.range n) && (List.range n).all fun i => (List.range n).all fun j => !decide (i < j) || c (p.getD i 0) (p.getD j 0)
def tr3 (n : Nat) (c : Nat → Nat → Bool) : Bool := (List.range n).all fun i => (List.range n).all fun j => (List.range n).all fun k => !c i j || !c j k || c i k
def half (b01 b02 b03 b12 b13 b23 : Bool) (i j : Nat) : Bool := match i, j with
  | 0, 1 => b01 | 0, 2 => b02 | 0, 3 => b03 | 1, 2 => b12 | 1, 3 => b13 | 2, 3 => b23 | _, _ => false
theorem kin2 : kin 2 (kas_sort 2) = true := by decide +kernel
theorem kin3 : kin 3 (kas_sort 3) = true := by decide +kernel
theorem kin4 : kin 4 (kas_sort 4) = true := by decide +kernel
theorem sort2 : ∀ b01 : Bool, okOut 2 (tab (half b01 true true true true true)) (krun (tab (half b01 true true true true true)) (kas_sort 2)).toList = true := by decide +kernel
theorem sort3 : ∀ b01 b02 b12 : Bool, tr3 3 (tab (half b01 b02 true b12 true true)) = true → okOut 3 (tab (half b01 b02 true b12 true true)) (krun (tab (half b01 b02 true b12 true true)) (kas_sort 3)).toList = true := by decide +kernel
theorem sort4 : ∀ b01 b02 b03 b12 b13 b23 : Bool, tr3 4 (tab (half b01 b02 b03 b12 b13 b23)) = true → okOut 4 (tab (half b01 b02 b03 b12 b13 b23)) (krun (tab (half b01 b02 b03 b12 b13 b23)) (kas_sort 4)).toList = true := by decide +kernel
theorem lexLt_irrefl : ∀ a : List Int, lexLt a a = false
  | [] => rfl
  | x :: a => by rw [lexLt_cons, if_pos rfl, lexLt_irrefl a]
theorem lexLt_flip : ∀ a b : List Int, a ≠ b → lexLt b a = !lexLt a b
  | [], [], h => absurd rfl h
  | [], _ :: _, _ => rfl
  | _ :: _, [], _ => rfl
  | x :: a, y :: b, h => by
    rw [lexLt_cons, lexLt_cons]
    by_cases e : x = y
    · subst e
      rw [if_pos rfl, if_pos rfl]
      exact lexLt_flip a b fun z => h (by rw [z])
    · rw [if_neg e, if_neg (Ne.symm e), Bool.eq_iff_iff]
      simp
      omega
theorem lexLt_trans : ∀ a b c : List Int, lexLt a b = true → lexLt b c = true → lexLt a c = true
  | [], [], _, h, _ => by rw [lexLt_nil_nil] at h; cases h
  | [], _ :: _, [], _, h => by rw [lexLt_cons_nil] at h; cases h
  | [], _ :: _, _ :: _, _, _ => rfl
  | _ :: _, [], _, h, _ => by rw [lexLt_cons_nil] at h; cases h
  | _ :: _, _ :: _, [], _, h => by rw [lexLt_cons_nil] at h; cases h
  | x :: a, y :: b, z :: c, h1, h2 => by
    rw [lexLt_cons] at h1 h2 ⊢
    by_cases e1 : x = y
    · subst e1
      rw [if_pos rfl] at h1
      by_cases e2 : x = z
      · subst e2
        rw [if_pos rfl] at h2 ⊢
        exact lexLt_trans a b c h1 h2
      · rw [if_neg e2] at h2 ⊢; exact h2
    · rw [if_neg e1] at h1
      have h1' := of_decide_eq_true h1
      by_cases e2 : y = z
      · subst e2
        rw [if_neg e1]; exact h1
      · rw [if_neg e2] at h2
        have h2' := of_decide_eq_true h2
        rw [if_neg (show x ≠ z by omega)]
        exact decide_eq_true (by omega)
theorem half_eq {n : Nat} (hn : n ≤ 4) {c : Nat → Nat → Bool} {b01 b02 b03 b12 b13 b23 : Bool} (h01 : 1 < n → b01 = c 0 1) (h02 : 2 < n → b02 = c 0 2) (h03 : 3 < n → b03 = c 0 3) (h12 : 2 < n → b12 = c 1 2) (h13 : 3 < n → b13 = c 1 3) (h23 : 3 < n → b23 = c 2 3) :
    ∀ i j, i < j → j < n → half b01 b02 b03 b12 b13 b23 i j = c i j := by
  intro i j h1 h2
  have hh : (i = 0 ∧ j = 1) ∨ (i = 0 ∧ j = 2) ∨ (i = 0 ∧ j = 3) ∨ (i = 1 ∧ j = 2) ∨ (i = 1 ∧ j = 3) ∨ (i = 2 ∧ j = 3) := by omega
  rcases hh with ⟨rfl, rfl⟩ | ⟨rfl, rfl⟩ | ⟨rfl, rfl⟩ | ⟨rfl, rfl⟩ | ⟨rfl, rfl⟩ | ⟨rfl, rfl⟩
  · exact h01 h2
  · exact h02 h2
  · exact h03 h2
  · exact h12 h2
  · exact h13 h2
  · exact h23 h2
theorem sort_ok {ls : List (List Int)} (nd : ls.Nodup) (h2 : 2 ≤ ls.length) (h4 : ls.length ≤ 4) :
    kin ls.length (kas_sort ls.length) = true ∧ okOut ls.length (fun i j => lexLt (ls.getD i []) (ls.getD j [])) (krun (fun i j => lexLt (ls.getD i []) (ls.getD j [])) (kas_sort ls.length)).toList = true := by
  generalize hc : (fun i j => lexLt (ls.getD i []) (ls.getD j [])) = c
  have cd : ∀ i j, c i j = lexLt (ls.getD i []) (ls.getD j []) := fun i j => by rw [← hc]
  have flip : ∀ i j, i < ls.length → j < ls.length → i ≠ j → c j i = !c i j := fun i j hi hj hij => by
    rw [cd, cd]
    refine lexLt_flip _ _ fun e => hij ?_
    have e1 : ls.getD i [] = ls[i] := by rw [List.getD_eq_getElem?_getD, List.getElem?_eq_getElem hi]; rfl
    have e2 : ls.getD j [] = ls[j] := by rw [List.getD_eq_getElem?_getD, List.getElem?_eq_getElem hj]; rfl
    rw [e1, e2] at e
    exact (List.getElem_inj nd).mp e
  have tabc : ∀ b : Nat → Nat → Bool, (∀ i j, i < j → j < ls.length → b i j = c i j) → ∀ i j, i < ls.length → j < ls.length → tab b i j = c i j := fun b hb i j hi hj => by
    unfold tab
    by_cases h : i < j
    · rw [if_pos h, hb i j h hj]
    · rw [if_neg h]
      by_cases h' : j < i
      · rw [if_pos h', hb j i h' hi, flip j i hj hi (by omega)]
      · rw [if_neg h']
        have : i = j := by omega
        subst this
        rw [cd, lexLt_irrefl]
  have outc : ∀ (b : Nat → Nat → Bool) (p : List Nat), (∀ i j, i < ls.length → j < ls.length → tab b i j = c i j) → okOut ls.length (tab b) p = true → okOut ls.length c p = true := fun b p hb h => by
    unfold okOut at h ⊢
    rw [Bool.and_eq_true] at h ⊢
    refine ⟨h.1, ?_⟩
    have pm := List.isPerm_iff.mp h.1
    have hl : p.length = ls.length := by rw [pm.length_eq, List.length_range]
    rw [List.all_eq_true] at h ⊢
    intro i hi
    have q := h.2 i hi
    rw [List.all_eq_true] at q ⊢
    intro j hj
    have q2 := q j hj
    have hi' := List.mem_range.mp hi
    have hj' := List.mem_range.mp hj
    have m : ∀ k, k < ls.length → p.getD k 0 < ls.length := fun k hk => by
      have e : p.getD k 0 = p[k]'(by omega) := by rw [List.getD_eq_getElem?_getD, List.getElem?_eq_getElem (by omega)]; rfl
      rw [e]
      exact List.mem_range.mp (pm.mem_iff.mp (List.getElem_mem _))
    rw [hb _ _ (m i hi') (m j hj')] at q2
    exact q2
  have trc : ∀ (b : Nat → Nat → Bool), (∀ i j, i < ls.length → j < ls.length → tab b i j = c i j) → tr3 ls.length (tab b) = true := fun b hb => by
    unfold tr3
    simp only [List.all_eq_true, List.mem_range]
    intro i hi j hj k hk
    rw [hb i j hi hj, hb j k hj hk, hb i k hi hk]
    cases e1 : c i j
    · rfl
    · cases e2 : c j k
      · rfl
      · rw [cd] at e1 e2
        rw [cd, lexLt_trans _ _ _ e1 e2]; rfl
  have hn : ls.length = 2 ∨ ls.length = 3 ∨ ls.length = 4 := by omega
  rcases hn with hn | hn | hn
  · rw [hn] at tabc outc trc ⊢
    have t := tabc (half (c 0 1) true true true true true) (half_eq (by decide) (fun _ => rfl) (fun z => by omega) (fun z => by omega) (fun z => by omega) (fun z => by omega) (fun z => by omega))
    refine ⟨kin2, ?_⟩
    rw [krun_congr (fun i j hi hj => (t i j hi hj).symm) _ kin2]
    exact outc _ _ t (sort2 _)
  · rw [hn] at tabc outc trc ⊢
    have t := tabc (half (c 0 1) (c 0 2) true (c 1 2) true true) (half_eq (by decide) (fun _ => rfl) (fun _ => rfl) (fun z => by omega) (fun _ => rfl) (fun z => by omega) (fun z => by omega))
    refine ⟨kin3, ?_⟩
    rw [krun_congr (fun i j hi hj => (t i j hi hj).symm) _ kin3]
    exact outc _ _ t (sort3 _ _ _ (trc _ t))
  · rw [hn] at tabc outc trc ⊢
    have t := tabc (half (c 0 1) (c 0 2) (c 0 3) (c 1 2) (c 1 3) (c 2 3)) (half_eq (by decide) (fun _ => rfl) (fun _ => rfl) (fun _ => rfl) (fun _ => rfl) (fun _ => rfl) (fun _ => rfl))
    refine ⟨kin4, ?_⟩
    rw [krun_congr (fun i j hi hj => (t i j hi hj).symm) _ kin4]
    exact outc _ _ t (sort4 _ _ _ _ _ _ (trc _ t))
end HT
namespace L2
open PySem PySem.Spec PyProof.Rows
section
variable {X : Cx}
def rLtL (K : PySem.W.Frag) : R2 := fun x y H Q => ∃ (a b : Addr) (ns ms : List Int), x = .ref a ∧ y = .ref b ∧ SqL K H a (ns.map V.int) ∧ SqL K H b (ms.map V.int) ∧ Q (.bl (HT.lexLt ns ms)) H
theorem k_ltL (K : PySem.W.Frag) (hu : X.A.units + 64 < cLine) (e : X.K = K := by rfl) : OpR X (compareOp .Lt) (rLtL K) := by
  subst e
  intro pins s σ H x y v u Q I rx ry h
  obtain ⟨a, b, ns, ms, rfl, rfl, ha, hb, q⟩ := h
  cases rx
  cases ry
  obtain ⟨its, r1, p1, _⟩ := I.list ha
  obtain ⟨its2, r2, p2, _⟩ := I.list hb
  exact HT.lt_listInts p1.isList p2.isList (intsAre_of r1) (intsAre_of r2) (by omega) ⟨.bl (HT.lexLt ns ms), H, I, rfl, q⟩
end
end L2
set_option Elab.async false
set_option linter.all false
set_option maxRecDepth 100000
namespace HT
open PySem PyProof.Rows PySem.W
def KW {α : Type} (c : Nat → Nat → Bool) (n : Nat) : KasT α → (α → Prop) → Prop
  | .ret a, Q => Q a
  | .ask i j k, Q => i < n ∧ j < n ∧ KW c n (k (c i j)) Q
theorem KW.bind {α β : Type} {c : Nat → Nat → Bool} {n : Nat} {f : α → KasT β} {Q : β → Prop} : ∀ {t : KasT α}, KW c n t (fun a => KW c n (f a) Q) → KW c n (t.bind f) Q
  | .ret _, h => h
  | .ask _ _ k, h => ⟨h.1, h.2.1, KW.bind (t := k _) h.2.2⟩
theorem KW.mono {α : Type} {c : Nat → Nat → Bool} {n : Nat} {Q Q' : α → Prop} (hq : ∀ a, Q a → Q' a) : ∀ {t : KasT α}, KW c n t Q → KW c n t Q'
  | .ret a, h => hq a h
  | .ask _ _ k, h => ⟨h.1, h.2.1, KW.mono hq (t := k _) h.2.2⟩
structure Ord (c : Nat → Nat → Bool) (n : Nat) : Prop where
  tr : ∀ i j k, i < n → j < n → k < n → c i j = true → c j k = true → c i k = true
  tot : ∀ i j, i < n → j < n → i ≠ j → c i j = false → c j i = true
  asy : ∀ i j, i < n → j < n → c i j = true → c j i = false
structure Pm (n : Nat) (p : Array Nat) : Prop where
  sz : p.size = n
  pm : p.toList.Perm (List.range n)
theorem Pm.lt {n : Nat} {p : Array Nat} (h : Pm n p) (i : Nat) (hi : i < n) : p.getD i 0 < n := by
  have hs := h.sz
  have e : p.getD i 0 = p[i] := by simp [Array.getD, hs, hi]
  rw [e]
  exact List.mem_range.mp (h.pm.mem_iff.mp (by simp))
theorem Pm.ne {n : Nat} {p : Array Nat} (h : Pm n p) {i j : Nat} (hi : i < n) (hj : j < n) (hij : i ≠ j) : p.getD i 0 ≠ p.getD j 0 := by
  have hs := h.sz
  have e1 : p.getD i 0 = p.toList[i]'(by simp [hs, hi]) := by simp [Array.getD, hs, hi]
  have e2 : p.getD j 0 = p.toList[j]'(by simp [hs, hj]) := by simp [Array.getD, hs, hj]
  rw [e1, e2]
  have nd : p.toList.Nodup := h.pm.nodup_iff.mpr List.nodup_range
  intro z
  exact hij ((List.getElem_inj nd).mp z)
theorem Pm.of {n : Nat} {p q : Array Nat} (h : Pm n p) (z : q.Perm p) : Pm n q := ⟨by rw [z.size_eq]; exact h.sz, (Array.perm_iff_toList_perm.mp z).trans h.pm⟩
section
variable {c : Nat → Nat → Bool} {n : Nat}
end
end HT
set_option Elab.async false
set_option linter.all false
set_option maxRecDepth 100000
namespace HT
open PySem PyProof.Rows PySem.W
section
variable {prog : Program} {w : World} {A : Around} {E : Value → Shared → Prop} {s : Shared}
theorem one_lt {l b : Addr} {items items2 : Array Value} {ns ms : List Int} {Q : Bool → Shared → Prop} (hl : s.heap.IsList l items) (hb : s.heap.IsList b items2) (hi : IntsAre items.toList ns) (hj : IntsAre items2.toList ms) (hu : A.units + 1 < cLine)
    (h : Q (lexLt ns ms) s) : wpAny (model prog w) A (keyLt' oneType' (.ref l) (.ref b)) Q E s := by
  obtain ⟨⟨cls, dd, data, sl⟩, ho, hc, n, hd⟩ := id hl
  obtain ⟨⟨cls2, dd2, data2, sl2⟩, ho2, hc2, n2, hd2⟩ := id hb
  simp only at hc hd hc2 hd2
  subst hc hd hc2 hd2
  rw [keyLt'_oneType, oneLt'_eq]
  simp only [if_true]
  refine wpAny_bind (wpAny_cRoomFor (by omega) (wpAny_bind (wpAny_callSpecialIfBound?_slot (T := "list") (name := "__lt__") ⟨_, ho, rfl⟩ PySem.F.slot_list_lt
    (call_meets PySem.F.slot_list_lt ⟨_, ho, rfl⟩ PySem.F.entry_list_lt (PySem.F.args_list_lt_2 _ _) (list_lt_ints l b items items2 n n2 dd dd2 sl sl2 ns ms hi hj) ⟨ho, ho2, ?_⟩))))
  exact wpAny_truthy_bool h
theorem perm_getD {α : Type} (d : α) (zs : List α) {p : List Nat} (h : p.Perm (List.range zs.length)) : (p.map fun i => zs.getD i d).Perm zs := by
  have e : (List.range zs.length).map (fun i => zs.getD i d) = zs := by
    apply List.ext_getElem?
    intro i
    rw [List.getElem?_map]
    by_cases hi : i < zs.length
    · rw [List.getElem?_range hi, Option.map_some, List.getD_eq_getElem?_getD, List.getElem?_eq_getElem hi]; rfl
    · rw [List.getElem?_eq_none (by simpa using hi), List.getElem?_eq_none (by omega)]; rfl
  have q := h.map fun i => zs.getD i d
  rw [e] at q
  exact q
theorem sortL_tree {a : Addr} {zs : List (Addr × List Int)} {n0 : Nat} {P : Fin → Shared → Prop} (ho : s.heap.get? a = some (seqObj "list" (zs.map fun z => Value.ref z.1).toArray n0))
    (hz : ∀ z ∈ zs, z.1 ≠ a ∧ ∃ its : List Value, s.heap.IsList z.1 its.toArray ∧ IntsAre its z.2) (nd : (zs.map (·.2)).Nodup) (h4 : zs.length ≤ 4) (hu : A.units + 1 < cLine)
    (h : ∀ zs' : List (Addr × List Int), zs'.Perm zs → zs'.Pairwise (fun x y => lexLt x.2 y.2 = true) → P (.done (.ret .none)) { s with heap := sortedHeap s.heap a (zs.map fun z => Value.ref z.1) (zs'.map fun z => Value.ref z.1).toArray }) :
    wpAny (model prog w) A (Builtin.«list.sort» ⟨[.ref a], []⟩) P E s := by
  rw [list_sort_plain]
  generalize hvs : (zs.map fun z => Value.ref z.1) = vs at ho h ⊢
  have hvl : vs.length = zs.length := by rw [← hvs, List.length_map]
  have hsl : vs.length ≤ sizeLine := by rw [hvl, sizeLine_eq]; omega
  have ha : a < s.heap.objs.size := Heap.lt_size ho
  obtain ⟨e1, ho1⟩ : ∃ e1, (s.heap.update a (Obj.mapSeq fun _ => #[])).get? a = some (seqObj "list" #[] e1) := ⟨_, get?_update_seq ho (fun _ => #[])⟩
  refine wpAny_bind (listItems_at ho rfl (wpAny_bind (listUpdate_at ho rfl (wpAny_bind (seqEpoch_at ho1 rfl (wpAny_bind (wpAny_newTuple (wpAny_bind (wpAny_newList (wpAny_holding ?_) (Nat.zero_le _))) (by show vs.length ≤ _; exact hsl))))) (by rw [List.size_toArray]; exact hsl) (Nat.zero_le _))))
  generalize hG : (((s.heap.update a (Obj.mapSeq fun _ => (#[] : Array Value))).push (seqObj "tuple" vs.toArray 0)).push (seqObj "list" #[] 0)) = G
  have ho6 : G.get? a = some (seqObj "list" #[] e1) := by
    rw [← hG, Heap.get?_push_ne _ _ _ (by rw [size_push', Heap.size_update]; exact Nat.ne_of_lt (Nat.lt_succ_of_lt ha)), Heap.get?_push_ne _ _ _ (by rw [Heap.size_update]; exact Nat.ne_of_lt ha)]; exact ho1
  have keep : ∀ b o, b ≠ a → s.heap.get? b = some o → G.get? b = some o := fun b o hb e => by
    have hlt := Heap.lt_size e
    rw [← hG, Heap.get?_push_ne _ _ _ (by rw [size_push', Heap.size_update]; exact Nat.ne_of_lt (Nat.lt_succ_of_lt hlt)), Heap.get?_push_ne _ _ _ (by rw [Heap.size_update]; exact Nat.ne_of_lt hlt), Heap.get?_update_other _ _ (Ne.symm hb)]; exact e
  show wpAny (model prog w) A _ P E { s with heap := G }
  dsimp only
  by_cases h2 : vs.toArray.size < 2
  · rw [if_pos h2, if_pos h2]
    refine wpAny_bind (wpAny_pure ?_)
    rw [StateT.run_pure]
    refine wpAny_bind (wpAny_pure ?_)
    dsimp only
    have hout : (arrOf (SortSt.mk' general' (vs.toArray.zip vs.toArray) #[] 7 none)).map (·.2) = vs.toArray := by
      show (vs.toArray.zip vs.toArray).map (·.2) = vs.toArray
      apply Array.toList_inj.mp
      rw [Array.toList_map, Array.toList_zip, List.map_snd_zip (by simp)]
    rw [hout]
    refine wpAny_bind (seqEpoch_at ho6 rfl (wpAny_bind (listUpdate_at ho6 rfl ?_ (Nat.zero_le _) (by rw [List.size_toArray]; exact Nat.le_succ_of_le hsl))))
    have q := h zs (List.Perm.refl _) (by
      rw [List.size_toArray, hvl] at h2
      match zs, h2 with
      | [], _ => exact .nil
      | [_], _ => exact List.pairwise_singleton _ _)
    rw [hvs] at q
    simp only [bne_self_eq_false, Bool.false_eq_true, if_false]
    have e2 : G.update a (Obj.mapSeq fun _ => vs.toArray) = sortedHeap s.heap a vs vs.toArray := by rw [← hG]; rfl
    rw [e2]
    exact wpAny_pure q
  · rw [if_neg h2, if_neg h2]
    rw [List.size_toArray, hvl] at h2
    have ls2 : (zs.map (·.2)).length = zs.length := List.length_map ..
    obtain ⟨hkin, hok⟩ := sort_ok nd (by rw [ls2]; omega) (by rw [ls2]; exact h4)
    rw [ls2] at hkin hok
    generalize hcd : (fun i j => lexLt ((zs.map (·.2)).getD i []) ((zs.map (·.2)).getD j [])) = c at hok
    have gz : ∀ i, i < zs.length → vs.getD i Value.none = .ref (zs.getD i (0, [])).1 ∧ (zs.map (·.2)).getD i [] = (zs.getD i (0, [])).2 ∧ zs.getD i (0, []) ∈ zs := fun i hi => by
      have e : zs.getD i (0, []) = zs[i] := by rw [List.getD_eq_getElem?_getD, List.getElem?_eq_getElem hi]; rfl
      rw [e]
      refine ⟨?_, ?_, List.getElem_mem _⟩
      · rw [← hvs, List.getD_eq_getElem?_getD, List.getElem?_map, List.getElem?_eq_getElem hi]; rfl
      · rw [List.getD_eq_getElem?_getD, List.getElem?_map, List.getElem?_eq_getElem hi]; rfl
    refine wpAny_bind (kas_kind (T := .type "list") (by rw [hvl]; omega) (fun v hv => ?_) (by decide) (by decide) ?_)
    · rw [← hvs] at hv
      obtain ⟨z, hzm, rfl⟩ := List.mem_map.mp hv
      obtain ⟨hza, its, hl, _⟩ := hz z hzm
      obtain ⟨o, e, hcl, _⟩ := hl
      intro A' Q' E' s' k q
      exact wpAny_typeOf (T := "list") ⟨o, k _ _ (keep _ _ hza e), hcl⟩ q
    have est : SortSt.mk' oneType' (vs.toArray.zip vs.toArray) #[] 7 none = kas_st oneType' (pairsOf vs) (List.toArray (List.range vs.length)) := by
      have e := kas_range (pairsOf vs)
      rw [pairsOf_size] at e
      unfold kas_st; rw [e]; rfl
    have ask : (kas_sort vs.length).kasWp (kas_cmp prog w A oneType' (pairsOf vs)) (fun p s' => s' = { s with heap := G } ∧ p = krun c (kas_sort zs.length)) { s with heap := G } := by
      rw [hvl, ← kas_ask_eq]
      refine krun_wp (n := zs.length) (c := c) (fun i j C hi hj hC => ?_) _ hkin ⟨rfl, rfl⟩
      obtain ⟨a1, a2, a3⟩ := gz i hi
      obtain ⟨b1, b2, b3⟩ := gz j hj
      obtain ⟨hza, its, hl, hI⟩ := hz _ a3
      obtain ⟨hzb, its2, hl2, hI2⟩ := hz _ b3
      unfold kas_ask
      rw [a1, b1]
      refine one_lt (s := { s with heap := G }) (hl.at fun o e => keep _ o hza e) (hl2.at fun o e => keep _ o hzb e) (by simpa using hI) (by simpa using hI2) hu ?_
      rw [← hcd] at hC
      simp only [a2, b2] at hC
      exact hC
    have run := kas_runs (E := E) (Q := fun _ st' s' => s' = { s with heap := G } ∧ arrOf st' = (krun c (kas_sort zs.length)).map (kas_item (pairsOf vs)) ∧ failedOf st' = none) (by rw [hvl]; omega) (by rw [hvl]; omega)
      (fun p' st' s' a1 a2 a3 a4 => ⟨a4.1, by rw [a2, a4.2], a3⟩) ask
    rw [← est] at run
    refine wpAny_bind (wpAny_mono run ?_ fun _ _ e => e)
    rintro ⟨⟨⟩, st'⟩ s' ⟨rfl, har, hf⟩
    dsimp only
    generalize hp : krun c (kas_sort zs.length) = p at har hok
    have hout : (arrOf st').map (·.2) = ((p.toList.map fun i => zs.getD i (0, [])).map fun z => Value.ref z.1).toArray := by
      apply Array.toList_inj.mp
      rw [har, Array.map_map, Array.toList_map, List.map_map]
      refine List.map_congr_left fun i hi => ?_
      show (kas_item (pairsOf vs) i).2 = _
      rw [kas_item_eq]
      unfold okOut at hok
      rw [Bool.and_eq_true] at hok
      exact (gz i (List.mem_range.mp ((List.isPerm_iff.mp hok.1).mem_iff.mp hi))).1
    rw [hout]
    have pm : p.toList.Perm (List.range zs.length) := by
      unfold okOut at hok
      rw [Bool.and_eq_true] at hok
      exact List.isPerm_iff.mp hok.1
    have q := h (p.toList.map fun i => zs.getD i (0, [])) (perm_getD _ zs pm) (by
      rw [List.pairwise_map, List.pairwise_iff_getElem]
      intro i j hi hj hij
      have hpl : p.toList.length = zs.length := by rw [pm.length_eq, List.length_range]
      unfold okOut at hok
      simp only [Bool.and_eq_true, List.all_eq_true, List.mem_range] at hok
      have q1 := hok.2 i (by omega) j (by omega)
      rw [decide_eq_true hij] at q1
      have e1 : p.toList.getD i 0 = p.toList[i] := by rw [List.getD_eq_getElem?_getD, List.getElem?_eq_getElem hi]; rfl
      have e2 : p.toList.getD j 0 = p.toList[j] := by rw [List.getD_eq_getElem?_getD, List.getElem?_eq_getElem hj]; rfl
      rw [e1, e2, ← hcd] at q1
      have m1 := List.mem_range.mp (pm.mem_iff.mp (List.getElem_mem hi))
      have m2 := List.mem_range.mp (pm.mem_iff.mp (List.getElem_mem hj))
      rw [← (gz _ m1).2.1, ← (gz _ m2).2.1]
      simpa using q1)
    have hol : ((p.toList.map fun i => zs.getD i (0, [])).map fun z => Value.ref z.1).length = zs.length := by rw [List.length_map, List.length_map, pm.length_eq, List.length_range]
    refine wpAny_bind (seqEpoch_at ho6 rfl (wpAny_bind (listUpdate_at ho6 rfl ?_ (Nat.zero_le _) (by rw [List.size_toArray, hol]; rw [hvl] at hsl; exact Nat.le_succ_of_le hsl))))
    rw [hf]
    simp only [bne_self_eq_false, Bool.false_eq_true, if_false]
    have e2 : ∀ out : Array Value, G.update a (Obj.mapSeq fun _ => out) = sortedHeap s.heap a vs out := fun out => by rw [← hG]; rfl
    rw [e2]
    exact wpAny_pure q
theorem sortedL {l : Addr} {zs : List (Addr × List Int)} {Q : Value → Shared → Prop} (hl : s.heap.IsList l (zs.map fun z => Value.ref z.1).toArray) (hz : ∀ z ∈ zs, ∃ its : List Value, s.heap.IsList z.1 its.toArray ∧ IntsAre its z.2) (nd : (zs.map (·.2)).Nodup) (h4 : zs.length ≤ 4) (hu : A.units + 8 < cLine)
    (h : ∀ zs' : List (Addr × List Int), zs'.Perm zs → zs'.Pairwise (fun x y => lexLt x.2 y.2 = true) → Q (.ref (s.heap.objs.size + 1)) { s with heap := sortedAll s.heap (zs.map fun z => Value.ref z.1) (zs'.map fun z => Value.ref z.1).toArray }) :
    wpAny (model prog w) A (call (.builtin "sorted") [.ref l]) Q E s := by
  have hsl : (zs.map fun z => Value.ref z.1).length ≤ sizeLine := by rw [List.length_map, sizeLine_eq]; omega
  refine Calls.call_function_entry kind_sorted plain_sorted entry_sorted (args_sorted1 _) ?_
  unfold Builtin.«sorted»
  refine wpAny_bind (m := checkCount "sorted" 1 1 _) (wpAny_pure (wpAny_bind (collect_list hl (wpAny_bind (wpAny_newList ?_ hsl)) hsl)))
  generalize hB : (s.heap.push (seqObj "list" #[] 0)).update s.heap.objs.size (Obj.mapSeq (· ++ (zs.map fun z => Value.ref z.1).toArray)) = B
  have hsz : B.objs.size = s.heap.objs.size + 1 := by rw [← hB, Heap.size_update, size_push']
  have keep : ∀ b o, s.heap.get? b = some o → (B.push (seqObj "list" (zs.map fun z => Value.ref z.1).toArray 0)).get? b = some o := fun b o q => by
    have hlt : b < s.heap.objs.size := Heap.lt_size q
    rw [Heap.get?_push_ne _ _ _ (by rw [hsz]; exact Nat.ne_of_lt (Nat.lt_succ_of_lt hlt)), ← hB, Heap.get?_update_ne _ _ _ _ (Nat.ne_of_lt hlt), Heap.get?_push_ne _ _ _ (Nat.ne_of_lt hlt)]; exact q
  have hoL : (B.push (seqObj "list" (zs.map fun z => Value.ref z.1).toArray 0)).get? (s.heap.objs.size + 1) = some (seqObj "list" (zs.map fun z => Value.ref z.1).toArray 0) := by
    rw [← hsz]; exact Heap.get?_push_size _ rfl
  show wpAny _ _ _ _ _ { s with heap := B.push (seqObj "list" (zs.map fun z => Value.ref z.1).toArray 0) }
  dsimp only
  rw [hsz]
  refine wpAny_bind (wpAny_holding (wpAny_call_entry slot_list_sort ⟨_, hoL, rfl⟩ entry_list_sort (sortL_tree (A := A.in1.in1) (s := { s with heap := B.push (seqObj "list" (zs.map fun z => Value.ref z.1).toArray 0) }) hoL (fun z hzm => ?_) nd h4 (by show A.units + 1 + 1 + 1 < cLine; omega) fun zs' a1 a2 => ⟨_, rfl, ?_⟩) (args_list_sort _)))
  · obtain ⟨its, hl', hI⟩ := hz z hzm
    obtain ⟨o, e, _⟩ := id hl'
    exact ⟨Nat.ne_of_lt (Nat.lt_succ_of_lt (Heap.lt_size e)), its, hl'.at fun o e => keep _ o e, hI⟩
  · have q := h zs' a1 a2
    have e2 : sortedHeap (B.push (seqObj "list" (zs.map fun z => Value.ref z.1).toArray 0)) (s.heap.objs.size + 1) (zs.map fun z => Value.ref z.1) (zs'.map fun z => Value.ref z.1).toArray = sortedAll s.heap (zs.map fun z => Value.ref z.1) (zs'.map fun z => Value.ref z.1).toArray := by rw [← hB]; rfl
    show wpAny _ _ _ _ _ { s with heap := sortedHeap (B.push (seqObj "list" (zs.map fun z => Value.ref z.1).toArray 0)) (s.heap.objs.size + 1) (zs.map fun z => Value.ref z.1) (zs'.map fun z => Value.ref z.1).toArray }
    rw [e2]
    exact wpAny_pure ⟨_, rfl, q⟩
end
end HT
namespace L2
open PySem PySem.Spec PyProof.Rows
section
variable {X : Cx}
def rSortL (K : PySem.W.Frag) : List V → Hp → VK → Prop := fun xs H Q => ∃ (a : Addr) (zs : List (Addr × List Int)), xs = [.ref a] ∧ SqL K H a (zs.map fun z => V.ref z.1) ∧ zs.length ≤ 4 ∧ (∀ z ∈ zs, SqL K H z.1 (z.2.map V.int)) ∧ (zs.map (·.2)).Nodup ∧
  ∀ (p : Addr) (zs' : List (Addr × List Int)), H p = none → zs'.Perm zs → zs'.Pairwise (fun x y => HT.lexLt x.2 y.2 = true) → Q (.ref p) (upd H p (.lst (zs'.map fun z => V.ref z.1)))
theorem vals_refs : ∀ {zs : List (Addr × List Int)} {its : List Value}, Vals (zs.map fun z => V.ref z.1) its → its = zs.map fun z => Value.ref z.1
  | [], its, h => by cases h; rfl
  | z :: zs, its, h => by
    cases h with
    | cons r t => rw [vals_refs t]; cases r; rfl
theorem refs_vals : ∀ (zs : List (Addr × List Int)), Vals (zs.map fun z => V.ref z.1) (zs.map fun z => Value.ref z.1)
  | [] => .nil
  | z :: zs => .cons rfl (refs_vals zs)
theorem k_sortL (K : PySem.W.Frag) (hu : X.A.units + 64 < cLine) (e : X.K = K := by rfl) : CallR X (.builtin "sorted") (rSortL K) := by
  subst e
  intro pins s σ H xs us Q I r h
  obtain ⟨a, zs, rfl, ha, h4, hz, nd, q⟩ := h
  obtain ⟨u, rfl, rx⟩ := vals1 r
  cases rx
  obtain ⟨its, r1, p1, _⟩ := I.list ha
  have e1 := vals_refs r1
  subst e1
  refine HT.sortedL p1.isList (fun z hzm => ?_) nd h4 (by omega) fun zs' pm pw => ?_
  · obtain ⟨its, r2, p2, _⟩ := I.list (hz z hzm)
    exact ⟨its, p2.isList, by simpa using intsAre_of r2⟩
  · obtain ⟨c, hat⟩ := sortedAll_at s.heap (zs.map fun z => Value.ref z.1) (zs'.map fun z => Value.ref z.1).toArray
    have hfree : H (s.heap.objs.size + 1) = none := I.hok.fresh (Nat.le_succ _)
    refine ⟨.ref (s.heap.objs.size + 1), _, I.laid (t' := s.toks) (o := .lst (zs'.map fun z => V.ref z.1)) (fun b o e => sortedAll_old e) (Nat.le_succ _) ?_, rfl, q _ zs' hfree pm pw⟩
    exact ⟨by rw [List.length_map, pm.length_eq]; exact Nat.le_trans h4 (by decide), _, c, refs_vals zs', hat⟩
end
end L2
set_option Elab.async false
set_option linter.all false
set_option maxRecDepth 100000
namespace L2
open PySem PySem.Spec PyProof.Rows
section
variable {κ : Type} [DecidableEq κ]
def valV (kvs : List (κ × V)) (k : κ) : Option V := (kvs.find? fun kv => decide (kv.1 = k)).map (·.2)
def putK (kvs : List (κ × V)) (k : κ) (v : V) : List (κ × V) :=
  if (kvs.any fun kv => decide (kv.1 = k)) = true then kvs.map (fun kv => if kv.1 = k then (kv.1, v) else kv) else kvs ++ [(k, v)]
def dropK (kvs : List (κ × V)) (k : κ) : List (κ × V) := kvs.filter fun kv => decide (kv.1 ≠ k)
theorem valV_pos {p : κ × V} {r : List (κ × V)} {k : κ} (e : p.1 = k) : valV (p :: r) k = some p.2 := by simp [valV, List.find?_cons, e]
theorem valV_neg {p : κ × V} {r : List (κ × V)} {k : κ} (e : ¬ p.1 = k) : valV (p :: r) k = valV r k := by simp [valV, List.find?_cons, e]
theorem valV_any (k : κ) : ∀ kvs : List (κ × V), (kvs.any fun kv => decide (kv.1 = k)) = (valV kvs k).isSome
  | [] => rfl
  | p :: r => by
    rw [List.any_cons]
    by_cases e : p.1 = k
    · simp only [valV_pos e, decide_eq_true e, Bool.true_or, Option.isSome_some]
    · rw [valV_neg e, decide_eq_false e, Bool.false_or]; exact valV_any k r
theorem RelO.isSome_eq {o : Option V} {u : Option Value} (r : RelO o u) : o.isSome = u.isSome := by
  cases o with
  | none => cases u with
    | none => rfl
    | some _ => exact (show False from r).elim
  | some _ => cases u with
    | none => exact (show False from r).elim
    | some _ => rfl
theorem RelO.getD {o : Option V} {u : Option Value} {d : V} {d' : Value} (r : RelO o u) (rd : RelV d d') : RelV (o.getD d) (u.getD d') := by
  cases o with
  | none => cases u with
    | none => exact rd
    | some _ => exact (show False from r).elim
  | some _ => cases u with
    | none => exact (show False from r).elim
    | some _ => exact r
theorem KV.val {kvs : List (κ × V)} {vs : List (κ × Value)} (r : KV kvs vs) (k : κ) : RelO (valV kvs k) (valueAt vs k) := by
  unfold KV at r
  induction r with
  | nil => exact True.intro
  | @cons p q ps qs h t ih =>
    obtain ⟨h1, h2⟩ := h
    by_cases e : p.1 = k
    · have e' : q.1 = k := h1.symm.trans e
      have b : valueAt (q :: qs) k = some q.2 := by simp [valueAt, List.find?_cons, e']
      rw [valV_pos e, b]; exact h2
    · have e' : ¬ q.1 = k := fun z => e (h1.trans z)
      have b : valueAt (q :: qs) k = valueAt qs k := by simp [valueAt, List.find?_cons, e']
      rw [valV_neg e, b]; exact ih
theorem KV.any {kvs : List (κ × V)} {vs : List (κ × Value)} (r : KV kvs vs) (k : κ) : (kvs.any fun kv => decide (kv.1 = k)) = vs.any fun kv => decide (kv.1 = k) := by
  unfold KV at r
  induction r with
  | nil => rfl
  | cons h t ih => rw [List.any_cons, List.any_cons, ih, h.1]
theorem KV.repl {kvs : List (κ × V)} {vs : List (κ × Value)} (r : KV kvs vs) (k : κ) {y : V} {u : Value} (ry : RelV y u) :
    KV (kvs.map fun kv => if kv.1 = k then (kv.1, y) else kv) (vs.map fun kv => if kv.1 = k then (kv.1, u) else kv) := by
  unfold KV at r ⊢
  induction r with
  | nil => exact .nil
  | @cons p q ps qs h t ih =>
    rw [List.map_cons, List.map_cons]
    refine .cons ?_ ih
    obtain ⟨h1, h2⟩ := h
    by_cases e : p.1 = k
    · rw [if_pos e, if_pos (h1.symm.trans e)]; exact ⟨h1, ry⟩
    · rw [if_neg e, if_neg (fun z => e (h1.trans z))]; exact ⟨h1, h2⟩
theorem KV.put {kvs : List (κ × V)} {vs : List (κ × Value)} (r : KV kvs vs) (k : κ) {y : V} {u : Value} (ry : RelV y u) : KV (putK kvs k y) (stored vs k u) := by
  unfold putK stored
  rw [r.any k]
  by_cases e : (vs.any fun kv => decide (kv.1 = k)) = true
  · rw [if_pos e, if_pos e]; exact r.repl k ry
  · rw [if_neg e, if_neg e]; exact Paired.snoc r ⟨rfl, ry⟩
theorem KV.drop {kvs : List (κ × V)} {vs : List (κ × Value)} (r : KV kvs vs) (k : κ) : KV (dropK kvs k) (without vs k) := by
  unfold KV at r ⊢
  unfold dropK without
  induction r with
  | nil => exact .nil
  | @cons p q ps qs h t ih =>
    obtain ⟨h1, h2⟩ := h
    rw [List.filter_cons, List.filter_cons]
    by_cases e : p.1 = k
    · have a : ¬ decide (p.1 ≠ k) = true := by simp [e]
      have b : ¬ decide (q.1 ≠ k) = true := by simp [h1.symm.trans e]
      rw [if_neg a, if_neg b]; exact ih
    · have e' : ¬ q.1 = k := fun z => e (h1.trans z)
      have a : decide (p.1 ≠ k) = true := by simp [e]
      have b : decide (q.1 ≠ k) = true := by simp [e']
      rw [if_pos a, if_pos b]; exact .cons ⟨h1, h2⟩ ih
theorem KV.length {kvs : List (κ × V)} {vs : List (κ × Value)} (r : KV kvs vs) : kvs.length = vs.length := Paired.length r
end
abbrev KT (H : Hp) : List (List Key × V) → List (List Key × Addr × Value) → Prop := Paired fun p q => p.1 = q.1 ∧ H q.2.1 = some (.tup (p.1.map kV)) ∧ RelV p.2 q.2.2
theorem KT.val {H : Hp} {kvs : List (List Key × V)} {xs : List (List Key × Addr × Value)} (r : KT H kvs xs) (k : List Key) : RelO (valV kvs k) ((atKey xs k).map (·.2)) := by
  induction r with
  | nil => exact True.intro
  | @cons p q ps qs h t ih =>
    obtain ⟨h1, _, h2⟩ := h
    by_cases e : p.1 = k
    · have e' : q.1 = k := h1.symm.trans e
      have b : atKey (q :: qs) k = some q.2 := by simp [atKey, List.find?_cons, e']
      rw [valV_pos e, b]; exact h2
    · have e' : ¬ q.1 = k := fun z => e (h1.trans z)
      have b : atKey (q :: qs) k = atKey qs k := by simp [atKey, List.find?_cons, e']
      rw [valV_neg e, b]; exact ih
theorem KT.repl {H : Hp} {kvs : List (List Key × V)} {xs : List (List Key × Addr × Value)} (r : KT H kvs xs) (k : List Key) {y : V} {u : Value} (ry : RelV y u) :
    KT H (kvs.map fun kv => if kv.1 = k then (kv.1, y) else kv) (xs.map (putAt k u)) := by
  induction r with
  | nil => exact .nil
  | @cons p q ps qs h t ih =>
    rw [List.map_cons, List.map_cons]
    refine .cons ?_ ih
    obtain ⟨h1, h2, h3⟩ := h
    unfold putAt
    by_cases e : p.1 = k
    · rw [if_pos e, if_pos (h1.symm.trans e)]; exact ⟨h1, h2, ry⟩
    · rw [if_neg e, if_neg (fun z => e (h1.trans z))]; exact ⟨h1, h2, h3⟩
theorem KT.put {H : Hp} {kvs : List (List Key × V)} {xs : List (List Key × Addr × Value)} (r : KT H kvs xs) (k : List Key) {b : Addr} {y : V} {u : Value} (hb : H b = some (.tup (k.map kV))) (ry : RelV y u) :
    KT H (putK kvs k y) (storedH xs k b u) := by
  have e : (kvs.any fun kv => decide (kv.1 = k)) = (atKey xs k).isSome := by
    rw [valV_any, (r.val k).isSome_eq, Option.isSome_map]
  unfold putK storedH
  rw [e]
  by_cases q : (atKey xs k).isSome = true
  · rw [if_pos q, if_pos q]; exact r.repl k ry
  · rw [if_neg q, if_neg q]; exact Paired.snoc r ⟨rfl, hb, ry⟩
theorem KT.keeps {H H' : Hp} {kvs : List (List Key × V)} {xs : List (List Key × Addr × Value)} (r : KT H kvs xs) (ht : ∀ b ys, H b = some (.tup ys) → H' b = some (.tup ys)) : KT H' kvs xs :=
  Paired.mapP r fun _ _ z => ⟨z.1, ht _ _ z.2.1, z.2.2⟩
section
variable {P : Program} {w : World} {H : Hp} {h : Heap} {a : Addr}
end
def DGet (H : Hp) (a : Addr) (y : V) (r : Option V) : Prop :=
  (∃ kvs k, Rd H a (.dK kvs) ∧ y = kV k ∧ r = valV kvs k) ∨ ∃ kvs k b, Rd H a (.dT kvs) ∧ y = .ref b ∧ H b = some (.tup (k.map kV)) ∧ r = valV kvs k
def DPut (H : Hp) (a : Addr) (y v : V) (H' : Hp) : Prop :=
  (∃ kvs k, H a = some (.dK kvs) ∧ y = kV k ∧ kvs.length < sizeLine ∧ H' = upd H a (.dK (putK kvs k v))) ∨
  ∃ kvs k b, H a = some (.dT kvs) ∧ y = .ref b ∧ H b = some (.tup (k.map kV)) ∧ kvs.length < sizeLine ∧ H' = upd H a (.dT (putK kvs k v))
theorem DGet.k {H : Hp} {a : Addr} {kvs : List (Key × V)} {k : Key} (e : H a = some (.dK kvs)) : DGet H a (kV k) (valV kvs k) := .inl ⟨kvs, k, .inl e, rfl, rfl⟩
theorem DGet.t {H : Hp} {a b : Addr} {kvs : List (List Key × V)} {k : List Key} (e : H a = some (.dT kvs)) (eb : H b = some (.tup (k.map kV))) : DGet H a (.ref b) (valV kvs k) := .inr ⟨kvs, k, b, .inl e, rfl, eb, rfl⟩
theorem DPut.k {H : Hp} {a : Addr} {kvs : List (Key × V)} {k : Key} {v : V} (e : H a = some (.dK kvs)) (hl : kvs.length < sizeLine) : DPut H a (kV k) v (upd H a (.dK (putK kvs k v))) := .inl ⟨kvs, k, e, rfl, hl, rfl⟩
theorem DPut.t {H : Hp} {a b : Addr} {kvs : List (List Key × V)} {k : List Key} {v : V} (e : H a = some (.dT kvs)) (eb : H b = some (.tup (k.map kV))) (hl : kvs.length < sizeLine) :
    DPut H a (.ref b) v (upd H a (.dT (putK kvs k v))) := .inr ⟨kvs, k, b, e, rfl, eb, hl, rfl⟩
section
variable {X : Cx} {pins : List (Addr × Obj)} {σ : St} {H : Hp} {s : Shared} {a : Addr} {y v : V} {u r : Value} {o : Option V} {A : Around} {E : Value → Shared → Prop}
theorem Inv.big (I : Inv X pins σ H s) : sysModules < s.heap.objs.size := by
  have h : mainGlobals < s.heap.objs.size := (I.mod.glob.keeps I.bk).lt
  exact Nat.lt_trans (by decide) h
end
section
variable {X : Cx} {pins : List (Addr × Obj)} {σ : St} {H : Hp} {s : Shared} {a : Addr} {kvs : List (Key × V)} {k : Key} {u : Value} {A : Around} {E : Value → Shared → Prop}
end
section
variable {X : Cx} {o i e value : Expr} {pos pos' tpos : Pos} {td ty tv : TE}
end
theorem dk_empty {P : Program} {w : World} {H : Hp} (h : Heap) (hb : sysModules < h.objs.size) : ObjOk P w H (h.push { cls := .type "dict", data := .dict #[] }) h.objs.size (.dK []) :=
  ⟨Nat.zero_le _, beq_eq_false_iff_ne.mpr (Ne.symm (Nat.ne_of_lt hb)), [], .nil, Heap.DictOf.new h⟩
def tDNewK : TE := fun _ H Q => ∀ p, H p = none → Q (.ref p) (upd H p (.dK []))
section
variable {X : Cx} {pos : Pos}
theorem pe_dnewK : PE X (.Dict [] [] pos) tDNewK := fun pins s σ H Q I h =>
  wpAny_Dict_empty ⟨.ref s.heap.objs.size, _, I.laid (a := s.heap.objs.size) (o := .dK []) (t' := s.toks) (fun _ _ q => Heap.get?_push_of_some _ q) (Nat.le_refl _) (dk_empty s.heap I.big), rfl, h _ (I.hok.fresh (Nat.le_refl _))⟩
end
structure M1 (X : Cx) (o : Expr) (m : Str) (apos : Pos) (e : Expr) (cpos : Pos) : Prop where
  base : attributeBase o m X.env (eval o X.env) = eval o X.env
  few : ((backTo cpos (starEach [e] X.env)).all (fun x => !x.1) && (backToKw cpos (keywordEach [] X.env)).all (fun x => x.1.isSome)
    && decide (([e] : List Expr).length + ([] : List Keyword).length + (if ([] : List Keyword).isEmpty then 0 else 1) < 30)) = true
  line : (apos.endLine == cpos.line) = true
  trees : backTo cpos (starEach [e] X.env) = [(false, eval e X.env)]
structure M2 (X : Cx) (o : Expr) (m : Str) (apos : Pos) (e f : Expr) (cpos : Pos) : Prop where
  base : attributeBase o m X.env (eval o X.env) = eval o X.env
  few : ((backTo cpos (starEach [e, f] X.env)).all (fun x => !x.1) && (backToKw cpos (keywordEach [] X.env)).all (fun x => x.1.isSome)
    && decide (([e, f] : List Expr).length + ([] : List Keyword).length + (if ([] : List Keyword).isEmpty then 0 else 1) < 30)) = true
  line : (apos.endLine == cpos.line) = true
  trees : backTo cpos (starEach [e, f] X.env) = [(false, eval e X.env), (false, eval f X.env)]
section
variable {X : Cx} {pins : List (Addr × Obj)} {σ : St} {H : Hp} {s : Shared} {a : Addr} {y d : V} {u r : Value} {o : Option V} {A : Around} {E : Value → Shared → Prop}
end
section
variable {X : Cx} {o e f : Expr} {apos cpos : Pos} {td ty tx : TE}
end
section
variable {X : Cx} {pins : List (Addr × Obj)} {σ : St} {H : Hp} {s : Shared} {a : Addr} {kvs : List (Key × V)} {A : Around} {E : Value → Shared → Prop}
end
section
variable {X : Cx} {pins : List (Addr × Obj)} {σ : St} {H : Hp} {s : Shared} {a : Addr} {y : V} {u : Value} {A : Around} {E : Value → Shared → Prop}
end
end L2
namespace L2
open PySem PySem.Spec PyProof.Rows
section
variable {X : Cx}
end
section
variable {κ : Type} [DecidableEq κ]
end
end L2
set_option Elab.async false
set_option linter.all false
set_option maxRecDepth 100000
namespace HT
open PySem PyProof.Rows PySem.W
section
variable {prog : Program} {w : World} {A : Around} {E : Value → Shared → Prop} {s : Shared}
end
end HT
set_option Elab.async false
set_option linter.all false
set_option maxRecDepth 100000
namespace HT
open PySem PyProof.Rows PySem.W
def RawD (h : Heap) (d : Addr) (ks : List Value) (ep : Nat) : Prop := ∃ (o : Obj) (es : Array DictEntry), h.get? d = some o ∧ o.ExactDict ∧ o.data = .dict es ep ∧ es.toList.map (·.key) = ks
theorem RawD.at {h h' : Heap} {d : Addr} {ks : List Value} {ep : Nat} (x : RawD h d ks ep) (e : ∀ o, h.get? d = some o → h'.get? d = some o) : RawD h' d ks ep := let ⟨o, es, ho, r⟩ := x; ⟨o, es, e _ ho, r⟩
theorem RawD.lt {h : Heap} {d : Addr} {ks : List Value} {ep : Nat} (x : RawD h d ks ep) : d < h.objs.size := let ⟨_, _, ho, _⟩ := x; Heap.lt_size ho
theorem RawD.ty {s : Shared} {d : Addr} {ks : List Value} {ep : Nat} (x : RawD s.heap d ks ep) : s.TypeIs (.ref d) "dict" := let ⟨o, _, ho, hc, _⟩ := x; ⟨o, ho, hc.1⟩
section
variable {prog : Program} {w : World} {A : Around} {E : Value → Shared → Prop} {s : Shared} {d it : Addr} {ks : List Value} {ep i : Nat}
end
end HT
namespace L2
open PySem PySem.Spec PyProof.Rows PySem.W
section
variable {X : Cx} {pins : List (Addr × Obj)} {σ : St} {H : Hp} {s : Shared}
end
section
variable {X : Cx} {pins : List (Addr × Obj)} {σ : St} {H : Hp} {s : Shared}
end
section
variable {X : Cx}
end
end L2
set_option Elab.async false
set_option linter.all false
set_option maxRecDepth 100000
namespace L2
open PySem PySem.Spec PyProof.Rows
section
variable {X : Cx} {tg : Expr}
end
end L2
set_option Elab.async false
set_option linter.all false
set_option maxRecDepth 100000
namespace L2
open PySem PySem.Spec PyProof.Rows PySem.SeqAt
section
variable {X : Cx}
end
end L2
set_option Elab.async false
set_option linter.all false
set_option maxRecDepth 100000
namespace L2
open PySem PySem.Spec PyProof.Rows PySem.SeqAt
section
variable {X : Cx}
def rIndexT (K : PySem.W.Frag) : V → List V → Hp → VK → Prop := fun x vs H Q => ∃ l xs y ts u j, x = .ref l ∧ vs = [y] ∧ SqL K H l xs ∧ TrsAt K H ts xs ∧ TrAt K H u y ∧ tdeps ts ≤ 8 ∧ j < ts.length ∧
  (∀ t, ts[j]? = some t → teq t u = true) ∧ (∀ m t, m < j → ts[m]? = some t → teq t u = false) ∧ Q (.int (j : Nat)) H
open Classical in
theorem mt_indexT (hu : X.A.units + 64 < cLine) : MtM X "list.index" (rIndexT X.K) := by
  intro pins s σ H x vs v us Q I rx rv h
  obtain ⟨l, xs, y, ts, u, j, rfl, rfl, hq, hts, ht, hd, hj, hit, hno, q⟩ := h
  cases rx
  obtain ⟨u0, rfl, ru⟩ := Vals.one rv
  obtain ⟨its, r, pl, hz⟩ := I.list hq
  obtain ⟨⟨cls, dd, data, sl⟩, ho, hc, n, hdat⟩ := id pl.isList
  simp only at hc hdat
  subst hc hdat
  have l1 := hts.length
  have m1 := r.length
  have val : ∀ (m : Nat) (hm : m < its.length) (t : Tr), ts[m]? = some t → decide (∃ t x, RelV x its[m] ∧ TrAt X.K H t x ∧ teq t u = true) = teq t u := by
    intro m hm t et
    obtain ⟨z, ez, hz'⟩ := hts.get et
    obtain ⟨w, ew, rw'⟩ := r.get ez
    have e' : its[m] = w := by
      rw [List.getElem?_eq_getElem hm] at ew
      exact Option.some.inj ew
    rw [e', Bool.eq_iff_iff, decide_eq_true_iff]
    constructor
    · rintro ⟨t', x', r', h', e3⟩
      rw [rw'.inj r'] at hz'
      rw [tr_inj I 8 (Nat.le_trans (tdep_mem (List.mem_of_getElem? et)) hd) hz' h']; exact e3
    · intro e3
      exact ⟨t, z, rw', hz', e3⟩
  have hjs : j < its.length := by omega
  have hsl : (sizeLine : Int) < 2 ^ 63 - 1 := by decide
  refine call_meets PySem.F.slot_list_index ⟨_, ho, rfl⟩ PySem.F.entry_list_index (PySem.F.args_list_index_2 _ _)
    (list_indexAt l its.toArray n dd sl u0 (fun y => decide (∃ t x, RelV x y ∧ TrAt X.K H t x ∧ teq t u = true)) j (by simpa using hjs) (by omega) ?_ ?_) ⟨ho, in_core I hu ht ru hd hts r, ?_⟩
  · have q := val j hjs _ (List.getElem?_eq_getElem hj)
    rw [hit _ (List.getElem?_eq_getElem hj)] at q
    simpa using q
  · intro m hm hlt
    have hm' : m < ts.length := by omega
    have q := val m (by omega) _ (List.getElem?_eq_getElem hm')
    rw [hno m _ hlt (List.getElem?_eq_getElem hm')] at q
    simpa using q
  · exact ⟨.int (j : Nat), H, I.kept fun b o e => e, ⟨_, rfl⟩, q⟩
theorem k_indexT (K : PySem.W.Frag) (hu : X.A.units + 64 < cLine) (e : X.K = K := by rfl) : MtM X "list.index" (rIndexT K) := by subst e; exact mt_indexT hu
end
end L2
set_option Elab.async false
set_option linter.all false
set_option maxRecDepth 100000
namespace L2
open PySem PySem.Spec PyProof.Rows
structure CScopeT (sc : Scope) (scope : Scope) (xs : List Str) (M : List Str) (ys : List Str) (js : List Nat) : Prop where
  kind : scope.kind = .function
  cell : ∀ y ∈ scope.names, y.2 ≠ .cell
  loc : ∀ y ∈ scope.names, y.2 = .local → scope.names.lookup y.1 = some .local
  var : ∀ x ∈ xs, scope.names.lookup x = some .local
  free : ∀ y ∈ scope.names, y.2 = .free → sc.names.lookup y.1 = some .cell ∨ sc.names.lookup y.1 = some .free
  caps : js.map (M[·]?) = ys.map some
  fr : ∀ y ∈ ys, scope.names.lookup y = some .free
  nd : (xs ++ ys).Nodup
theorem CScope.nofree {sc scope : Scope} {x : Str} {M : List Str} (kind : scope.kind = .function) (cell : ∀ y ∈ scope.names, y.2 ≠ .cell) (loc : ∀ y ∈ scope.names, y.2 = .local → scope.names.lookup y.1 = some .local) (var : scope.names.lookup x = some .local) (free : ∀ y ∈ scope.names, y.2 ≠ .free) : CScope sc scope x M [] [] :=
  ⟨kind, cell, loc, var, fun y hy e => absurd e (free y hy), rfl, by simp, by simp⟩
section
variable {X : Cx} {pins : List (Addr × Obj)} {σ : St} {H : Hp} {s : Shared}
end
section
variable {prog : Program} {w : World} {A : Around} {R : Result → Shared → Prop} {s : Shared}
end
section
variable {X : Cx} {elt iter : Expr} {ifs : List Expr} {tg : Expr} {xs : List Str} {pos : Pos} {g : TG} {scope : Scope} {ys : List Str} {js : List Nat} {wi : TI} {tt : TT} {te : TE}
end
end L2
set_option Elab.async false
set_option linter.all false
set_option maxRecDepth 100000
namespace L2
open PySem PySem.Spec PyProof.Rows
structure Mt (K : PySem.W.Frag) (C : Addr) (q x : Str) (st : Stmt) (ps : List Str) (f : Addr) (fd : FuncData) : Prop where
  fn : Fun K x q st f fd
  b : Binds K fd ps []
  m : Meth K C x f
structure Blt2 (mg : Str → Option Value) : Prop where
  n_sum : mg "sum" = none
  n_abs : mg "abs" = none
  n_zip : mg "zip" = none
  n_str : mg "str" = none
section
variable {X : Cx} {tg : Expr}
end
end L2
set_option Elab.async false
set_option linter.all false
set_option maxRecDepth 100000
namespace L2
open PySem PySem.Spec PyProof.Rows
section
variable {X : Cx}
end
end L2
set_option Elab.async false
set_option linter.all false
set_option maxRecDepth 100000
namespace L2
open PySem PySem.Spec PyProof.Rows PySem.W
section
variable {X : Cx}
end
end L2
set_option Elab.async false
set_option linter.all false
set_option maxRecDepth 100000
namespace L2
open PySem PySem.Spec PyProof.Rows
structure CScopeD (sc : Scope) (scope : Scope) (x : Str) (M : List Str) (ys : List Str) (js : List Nat) : Prop where
  kind : scope.kind = .function
  cell : ∀ y ∈ scope.names, y.2 = .cell → y.1 = x
  loc : ∀ y ∈ scope.names, y.2 = .local → scope.names.lookup y.1 = some .local
  var : scope.names.lookup x = some .cell
  free : ∀ y ∈ scope.names, y.2 = .free → sc.names.lookup y.1 = some .cell ∨ sc.names.lookup y.1 = some .free
  caps : js.map (M[·]?) = ys.map some
  fr : ∀ y ∈ ys, scope.names.lookup y = some .free
  nd : (x :: ys).Nodup
  own : ∀ n acc, cellsFrom n scope.names acc = (x, n) :: acc
  psh : ∀ h : Heap, pushCells h scope.names = h.push { cls := .type "cell", data := .cell none }
section
variable {X : Cx} {pins : List (Addr × Obj)} {σ : St} {H : Hp} {s : Shared}
end
section
variable {X : Cx} {elt iter : Expr} {ifs : List Expr} {x : Str} {px pos : Pos} {scope : Scope} {ys : List Str} {js : List Nat} {wi : TI} {tt : TT} {te : TE}
end
end L2
namespace L2
open PySem PySem.Spec PyProof.Rows
end L2
set_option Elab.async false
set_option linter.all false
set_option maxRecDepth 100000
namespace L2
open PySem PySem.Spec PyProof.Rows
def tMid (t : TS) : TS := fun D σ H => ∃ P : St → Hp → Prop, t { D with nx := P } σ H ∧ ∀ σ' H', P σ' H' → D.nx σ' H'
theorem ps_mid {X : Cx} {st : Stmt} {t : TS} (h : PS X st t) : PS X st (tMid t) := by
  intro pins s σ H D I hw
  obtain ⟨P, h1, h2⟩ := hw
  refine thn (h pins s σ H _ I h1) fun f s1 q => ?_
  cases f with
  | next => obtain ⟨σ', H', I', q⟩ := q; exact ⟨σ', H', I', h2 _ _ q⟩
  | ret v => exact q
  | brk => exact q
  | cont => exact q
theorem pa_str {X : Cx} {x : Str} {j} {pos : Pos} {es : List Expr} {t : TA} (h : PA X es t) : PA X (.Constant (.str x) j pos :: es) (tCons (tC (.str x)) t) := pa_cons pe_str h rfl
theorem ps_setL {X : Cx} {i : Nat} {x : Str} {es : List Expr} {t : TA} {pos' lp pos : Pos} (hN : X.N.Nodup) (hi : X.N[i]? = some x) (hx : Loc X.env.scope x) (h : PA X es t) (hf : X.fn x = true ∨ X.env.scope.names.lookup x = some .local := by first | exact .inl rfl | exact .inr rfl | assumption) :
    PS X (.Assign [.Name x pos'] (.List es lp) pos) (tAsg (tLst t) (gName i)) := ps_set hN hi hx (pe_lst h) rfl hf
end L2
set_option Elab.async false
set_option linter.all false
set_option maxRecDepth 100000
namespace L2
open PySem PySem.Spec PyProof.Rows
def Noted (n : Addr → Prop) (h : Heap) (e : Addr) (c : Value) : Prop :=
  ∃ (oe oT : Obj) (vs ts : Array Value) (a0 : Value) (T : Addr), h.get? e = some oe ∧ oe.cls = c ∧ oe.data = .fields vs ∧ vs[0]? = some a0 ∧ vs[1]? = some (.ref T) ∧ n T ∧ T ≠ e ∧ h.get? T = some oT ∧ oT.data = .fields ts ∧ ts[3]? = some .none
def CX1 (P : Program) (w : World) : CXT := fun outer H s E e s' =>
  ∃ (ea : Addr) (c : Value) (H' : Hp), e = .ref ea ∧ s'.os = s.os ∧ AllBare s'.gens ∧ Un (frs outer) [] H H' s.heap s'.heap ∧ HOk P w H' s'.heap ∧ s.heap.get? ea = none ∧ H' ea = none ∧
    Noted (fun T => s.heap.get? T = none ∧ H' T = none) s'.heap ea c ∧ E c none H'
def PassN (X : Cx) (Ex : St → XK) : Prop := ∀ (pins : List (Addr × Obj)) (σ : St) (H : Hp) (s : Shared) (h' : Heap) (ea : Addr) (c : Value) (vs : List Value), Inv X pins σ H s → Heap.MadeExcOf s.heap h' ea c vs → Ex σ c none H → X.xe (.ref ea) { s with heap := h' }
def PassS (X : Cx) (Ex : St → XK) : Prop := ∀ (pins : List (Addr × Obj)) (σ : St) (H : Hp) (s : Shared) (e : Value) (s' : Shared), Inv X pins σ H s → CX1 X.prog X.w X.stack H s (Ex σ) e s' → X.xe e s'
theorem FnOk.up {P : Program} {w : World} {K : PySem.W.Frag} {mg : Str → Option Value} {base : Heap} {CX : CXT} {k : Nat} {f : Addr} {fd : FuncData} {ps : List Str} {sp : Sp} (F : FnOk P w K mg base CX0 k f fd ps sp) : FnOk P w K mg base CX k f fd ps sp :=
  ⟨F.len, fun A outer s H args us vs Q E hr e0 hb hv hs => codeAny_mono (F.run A outer s H args us vs Q E hr e0 hb hv hs) fun r s' q => by
    cases r with
    | error e => exact False.elim q
    | ok fl => cases fl <;> exact q⟩
theorem ObjOk.thereO {P : Program} {w : World} {H : Hp} {h : Heap} {a : Addr} {o : HO} (x : ObjOk P w H h a o) : ∃ u, h.get? a = some u := by
  cases o with
  | lst xs => obtain ⟨_, _, _, _, e⟩ := x; exact ⟨_, e⟩
  | tup xs => obtain ⟨_, _, _, o, e, _⟩ := x; exact ⟨_, e⟩
  | dK kvs => obtain ⟨_, _, _, _, o, _, _, e, _⟩ := x; exact ⟨_, e⟩
  | dT kvs => obtain ⟨_, _, _, _, o, _, _, e, _⟩ := x; exact ⟨_, e⟩
  | set S n => obtain ⟨o, _, _, _, e, _⟩ := x; exact ⟨_, e⟩
  | ins C dx fs => obtain ⟨_, _, _, e, _⟩ := x; exact ⟨_, e⟩
  | own y => exact x
  | xd fs => obtain ⟨_, ⟨_, _, _, e, _⟩, _⟩ := x; exact ⟨_, e⟩
  | rng lo hi => obtain ⟨_, _, _, e⟩ := x; exact ⟨_, e⟩
  | frz ob u => obtain ⟨e, _⟩ := x; exact ⟨_, e⟩
  | tbl ps => exact ⟨_, (show h.get? a = some _ from x)⟩
  | met f y => exact ⟨_, (show h.get? a = some _ from x)⟩
  | ext φ => obtain ⟨_, e, _⟩ := x; exact e
theorem HOk.off {P : Program} {w : World} {H : Hp} {h : Heap} {a : Addr} (x : HOk P w H h) (e : h.get? a = none) : H a = none := by
  cases q : H a with
  | none => rfl
  | some o => obtain ⟨u, z⟩ := (x a o q).thereO; rw [e] at z; cases z
section
variable {X : Cx} {pins : List (Addr × Obj)} {σ : St} {H H' : Hp} {s s' : Shared} {h' B : Heap} {ea : Addr} {c a0 : Value}
def Holds1 (X : Cx) (H' : Hp) (s s' : Shared) (B : Heap) : Prop := ∀ b o, s'.heap.get? b = some o → ((∃ u, s.heap.get? b = some u) ∨ H' b ≠ none) → b ∉ frs X.stack → B.get? b = some o
theorem fly_free (I : Inv X pins σ H s) (un : Un (frs X.stack) [] H H' s.heap s'.heap) : ∀ b ∈ frs X.stack, H' b = none := fun b hb => by
  obtain ⟨_, o, ho, _⟩ := I.stack.mem hb
  exact un.free b o ho (I.stkFree b hb) (by simp)
theorem fly_un (I : Inv X pins σ H s) (un : Un (frs X.stack) [] H H' s.heap s'.heap) (hok : HOk X.prog X.w H' s'.heap) (hB : Holds1 X H' s s' B) (st : B.StaysIn h') (up : s'.heap.UpToSlots h') :
    Un (frs X.stack) [] H H' s.heap h' ∧ HOk X.prog X.w H' h' := by
  have fr := fly_free I un
  have sl : ∀ b o, s.heap.get? b = some o → b ∈ frs X.stack → ∃ q, h'.get? b = some { o with slots := q } := fun b o e hb => by
    obtain ⟨_, o2, ho, hd⟩ := I.stack.mem hb
    rw [e] at ho; cases ho
    obtain ⟨q, e1⟩ := un.slot b o e (I.stkFree b hb) hb (by simp)
    obtain ⟨q2, e2⟩ := up b _ e1 hd
    exact ⟨q2, e2⟩
  refine ⟨⟨fun b o e n hb _ => ?_, fun b o e _ hb _ => sl b o e hb, fun b o e n _ => un.free b o e n (by simp), fun b o e _ => ?_, un.tups, un.frzs, un.tbls⟩, fun a o e => ?_⟩
  · exact st b o (hB b o (un.keep b o e n hb (by simp)) (.inl ⟨o, e⟩) hb)
  · by_cases hb : b ∈ frs X.stack
    · obtain ⟨q, e1⟩ := sl b o e hb
      exact ⟨_, e1⟩
    · obtain ⟨o1, e1⟩ := un.there b o e (by simp)
      exact ⟨o1, st b o1 (hB b o1 e1 (.inl ⟨o, e⟩) hb)⟩
  · refine (hok a o e).stay (fun b u hc q => ?_) (fun _ q => q) fun _ _ q => q
    have nb : H' b ≠ none := by
      rcases hc with z | z
      · rw [z, e]; intro z2; cases z2
      · rw [z]; intro z2; cases z2
    exact st b u (hB b u q (.inr nb) fun hb => nb (fr b hb))
theorem fly_T (I : Inv X pins σ H s) (un : Un (frs X.stack) [] H H' s.heap s'.heap) (hok : HOk X.prog X.w H' s'.heap) (hB : Holds1 X H' s s' B) (st : B.StaysIn h') (up : s'.heap.UpToSlots h') (t : h'.TracedW B ea c a0) :
    Noted (fun T => s.heap.get? T = none ∧ H' T = none) h' ea c := by
  have fr := fly_free I un
  obtain ⟨oe, vs, T, oT, ts, he, ⟨hc, h0⟩, hd, h1, hnT, hTe, hT, hdT, h3⟩ := t
  have nF : T ∉ frs X.stack := fun hb => by
    obtain ⟨_, o, ho, hd⟩ := I.stack.mem hb
    obtain ⟨q, e1⟩ := un.slot T o ho (I.stkFree T hb) hb (by simp)
    obtain ⟨q2, e2⟩ := up T _ e1 hd
    rw [hT] at e2; cases e2
    exact hd _ hdT
  refine ⟨oe, oT, vs, ts, a0, T, he, hc, hd, h0, h1, ⟨?_, ?_⟩, hTe, hT, hdT, h3⟩
  · cases q : s.heap.get? T with
    | none => rfl
    | some o =>
      obtain ⟨o1, e1⟩ := un.there T o q (by simp)
      have := hB T o1 e1 (.inl ⟨o, q⟩) nF
      rw [hnT] at this; cases this
  · cases q : H' T with
    | none => rfl
    | some o =>
      obtain ⟨o1, e1⟩ := (hok T o q).thereO
      have := hB T o1 e1 (.inr (by rw [q]; intro z; cases z)) nF
      rw [hnT] at this; cases this
theorem fly_out {E : XK} (I : Inv X pins σ H s) (hx : X.ex = []) (os : s'.os = s.os) (bare : AllBare s'.gens) (un : Un (frs X.stack) [] H H' s.heap s'.heap) (hok : HOk X.prog X.w H' s'.heap) (n0 : s.heap.get? ea = none) (n1 : H' ea = none)
    (hB : Holds1 X H' s s' B) (st : B.StaysIn h') (t : h'.TracedW B ea c a0) (up : s'.heap.UpToSlots h') (hE : E c none H') : CX1 X.prog X.w X.outer X.H₀ X.s₀ E (.ref ea) { s' with heap := h' } := by
  obtain ⟨u1, k1⟩ := fly_un I un hok hB st up
  have J : Inv X pins σ H' { s' with heap := h' } := I.call' (ch := []) os u1 k1 bare fun b z => absurd z (by simp)
  have off : ∀ b, s.heap.get? b = none → X.s₀.heap.get? b = none := fun b e => by
    cases q : X.s₀.heap.get? b with
    | none => rfl
    | some o =>
      obtain ⟨o1, e1⟩ := I.base.there b o q (by rw [hx]; simp)
      rw [e] at e1; cases e1
  have ub := J.base
  rw [hx] at ub
  obtain ⟨oe, oT, vs, ts, a1, T, he, hc, hd, h0, h1, ⟨hn, hm⟩, r⟩ := fly_T I un hok hB st up t
  exact ⟨ea, c, H', rfl, J.os, J.bare, ub, k1, off ea n0, n1, ⟨oe, oT, vs, ts, a1, T, he, hc, hd, h0, h1, ⟨off T hn, hm⟩, r⟩, hE⟩
theorem holds_hide {Ts : List Addr} (n0 : s.heap.get? ea = none) (n1 : H' ea = none) (nT : ∀ T ∈ Ts, s.heap.get? T = none ∧ H' T = none) : Holds1 X H' s s' (PySem.W.hideAll s'.heap (ea :: (Ts ++ frs X.stack))) := fun b o e hb hf => by
  refine PySem.W.hideAll_get _ e fun hm => ?_
  have bad : ∀ a, s.heap.get? a = none → H' a = none → b ≠ a := fun a h1 h2 z => by
    subst z
    rcases hb with ⟨u, q⟩ | q
    · rw [h1] at q; cases q
    · exact q h2
  rcases List.mem_cons.mp hm with z | hm
  · exact bad ea n0 n1 z
  · rcases List.mem_append.mp hm with z | z
    · exact bad b (nT b z).1 (nT b z).2 rfl
    · exact hf z
theorem fly_frames (I : Inv X pins σ H s) (os : s'.os = s.os) (bare : AllBare s'.gens) (un : Un (frs X.stack) [] H H' s.heap s'.heap) (hok : HOk X.prog X.w H' s'.heap) {as : List Addr} (ha : ∀ b ∈ frs X.stack, b ∈ as) : s'.heap.FunFrames (PySem.W.hideAll s'.heap as) X.stack := by
  have J : Inv X pins σ H' s' := I.call' (ch := []) os un hok bare fun b z => absurd z (by simp)
  exact PySem.W.funFrames_hide J.stack fun env he b hb => ha b (List.mem_filterMap.mpr ⟨env, he, hb⟩)
theorem fly_lib (I : Inv X pins σ H s) (os : s'.os = s.os) (bare : AllBare s'.gens) (un : Un (frs X.stack) [] H H' s.heap s'.heap) (hok : HOk X.prog X.w H' s'.heap) (n0 : s.heap.get? ea = none) (n1 : H' ea = none)
    (t : Noted (fun T => s.heap.get? T = none ∧ H' T = none) s'.heap ea c) : ∃ B a0, Holds1 X H' s s' B ∧ Heap.FlyingW B X.stack ea c a0 s'.heap := by
  obtain ⟨oe, oT, vs, ts, a0, T, he, hc, hd, h0, h1, ⟨hn, hm⟩, hTe, hT, hdT, h3⟩ := t
  refine ⟨PySem.W.hideAll s'.heap (ea :: ([T] ++ frs X.stack)), a0, holds_hide n0 n1 (fun b hb => by rw [List.mem_singleton.mp hb]; exact ⟨hn, hm⟩), fun b o q => PySem.W.of_hideAll _ q, PySem.W.hideAll_none _ (by simp), fly_frames I os bare un hok (by intro b hb; simp [hb]), ?_⟩
  exact ⟨oe, vs, T, oT, ts, he, ⟨hc, h0⟩, hd, h1, PySem.W.hideAll_none _ (by simp), hTe, hT, hdT, h3⟩
end
theorem pass_call {P : Program} {w : World} {K : PySem.W.Frag} {mg : Str → Option Value} {base : Heap} {N : List Str} {qual : Str} {scope : Scope} {f : Addr} {cd : Value} {A : Around} {outer : List Env} {s₀ : Shared} {H₀ : Hp} {E : XK} :
    PassS (cxOf (CX1 P w) P w K mg base N qual scope f cd A outer s₀ H₀ E) fun _ => E := by
  intro pins σ H s e s' I hcx
  obtain ⟨ea, c, H', rfl, os, bare, un, hok, n0, n1, t, hE⟩ := hcx
  obtain ⟨B, a0, hB, fl⟩ := fly_lib I os bare un hok n0 n1 t
  show wpAny _ _ (leaving (envOfC qual scope s₀.heap.objs.size f cd) (.ref ea)) _ _ s'
  refine wpAny_leaves_onW I.ok.frames rfl fl fun h2 fl2 up => ?_
  exact fly_out I rfl os bare un hok n0 n1 hB fl2.1 fl2.2.2.2 up hE
theorem pass_new {P : Program} {w : World} {K : PySem.W.Frag} {mg : Str → Option Value} {base : Heap} {N : List Str} {qual : Str} {scope : Scope} {f : Addr} {cd : Value} {A : Around} {outer : List Env} {s₀ : Shared} {H₀ : Hp} {E : XK} :
    PassN (cxOf (CX1 P w) P w K mg base N qual scope f cd A outer s₀ H₀ E) fun _ => E := by
  intro pins σ H s h' ea c vs I hm hE
  show wpAny _ _ (leaving (envOfC qual scope s₀.heap.objs.size f cd) (.ref ea)) _ _ _
  refine wpAny_leaves_madeW (s := { s with heap := h' }) (base := PySem.W.hideAll s.heap (frs (cxOf (CX1 P w) P w K mg base N qual scope f cd A outer s₀ H₀ E).stack)) I.ok.frames rfl (fun b o q => PySem.W.of_hideAll _ q)
    (fly_frames I rfl I.bare Un.refl I.hok fun b hb => hb) hm fun h2 t fl _ _ up => ?_
  refine fly_out (s' := { s with heap := h' }) I rfl rfl I.bare (Un.kept hm.keeps) (I.hok.kept hm.keeps) hm.new (I.hok.off hm.new) (fun b o e hb hf => ?_) fl.1 fl.2.2.2 up hE
  refine PySem.W.hideAll_get _ ?_ hf
  rcases hb with ⟨u, q⟩ | q
  · have z := hm.keeps b u q
    rw [show h'.get? b = some o from e] at z; cases z; exact q
  · cases r : H b with
    | none => exact absurd r q
    | some x =>
      obtain ⟨u, q⟩ := (I.hok b x r).thereO
      have z := hm.keeps b u q
      rw [show h'.get? b = some o from e] at z; cases z; exact q
end L2
set_option Elab.async false
set_option linter.all false
set_option maxRecDepth 100000
namespace L2
open PySem PySem.Spec PyProof.Rows
abbrev veT : List Value := [.type "ValueError", .type "Exception", .type "BaseException", .type "object"]
structure ExcC (K : PySem.W.Frag) (mg : Str → Option Value) (x : Str) (C : Addr) : Prop where
  g : mg x = some (.ref C)
  ok : PySem.W.excIn K C veT "ValueError.__new__" = true
theorem exc_obj {K : PySem.W.Frag} {h : Heap} {C : Addr} {bmB : List Value} {newId : String} (X : K.In h) (q : PySem.W.excIn K C bmB newId = true) :
    ∃ (bm bs : List Value) (N : Addr) (nm qn : Str) (hd ab : Bool) (sn : List Str) (sub : List Value) (col : Option Bool) (dd : Option Addr) (k0 k1 k2 k3 k5 : Option Value) (mN : Str → Option Value),
      h.get? C = some (excClassObj nm qn C N bs bm hd sn sub ab col dd k0 k1 k2 k3 k5 newId) ∧ h.Ns N mN ∧ mN "__init__" = none ∧ OwnTail h bmB bm := by
  unfold PySem.W.excIn at q
  split at q
  · rename_i dd cd sl e
    split at q
    · rename_i C2 bm k0 k1 k2 k3 n k5 hm hs
      rw [Bool.and_eq_true, Bool.and_eq_true, Bool.and_eq_true, Bool.and_eq_true, Bool.and_eq_true] at q
      have z1 := eq_of_beq q.1.1.1.1.1
      have z2 := eq_of_beq q.1.1.1.1.2
      have z3 : cd.hasDel = false := by simpa using q.1.1.1.2
      cases cd with
      | mk nm bs mro ns qn hd sn sub ab col del =>
        cases sl with
        | mk l =>
          have hs' : l = _ := hs
          have hm' : mro = _ := hm
          have z3' : del = false := z3
          subst hs' hm' z3' z1 z2
          exact ⟨bm, bs, ns, nm, qn, hd, ab, sn, sub, col, dd, k0, k1, k2, k3, k5, _, X _ _ e, Heap.Ns.of_isNs (PySem.W.isNs_of_in X q.1.2), PySem.W.nsMap_none_of_in X q.1.2 (eq_of_beq q.2), PySem.W.tail_of_in X q.1.1.2⟩
    · cases q
  · cases q
def tRaise (c : Value) (Ex : St → XK) (t : TA) : TS := fun _ σ H => t σ H fun vs H1 => vs.length ≤ sizeLine ∧ Ex σ c none H1
theorem ps_raise {X : Cx} {x : Str} {C : Addr} {Ex : St → XK} {e : Expr} {es : List Expr} {t : TA} {np cpos pos : Pos} (O : ExcC X.K X.mg x C) (hx : PassN X Ex) (hc : X.calm = true) (ha : PA X (e :: es) t) (hg : Gl X x := by rfl) (hdb : (x == ("__debug__" : Str)) = false := by decide)
    (he : starEach (e :: es) X.env = (false, eval e X.env) :: starEach es X.env := by rfl) (hpl : (backTo cpos (starEach (e :: es) X.env)).any (·.1) = false := by rfl) : PS X (.Raise (some (.Call (.Name x np) (e :: es) [] cpos)) none pos) (tRaise (.ref C) Ex t) := by
  intro pins s σ H D I h
  obtain ⟨bm, bs, N, nm, qn, hd, ab, sn, sub, col, dd, k0, k1, k2, k3, k5, mN, hC, hN, hni, T⟩ := exc_obj (h := X.base) I.ok.mod.kin O.ok
  refine wpAny_Raise_call_subT (C := C) (nm := nm) (q := qn) (N := N) (bs := bs) (bm := bm) (hdct := hd) (sn := sn) (sub := sub) (ab := ab) (col := col) (dd := dd) (k0 := k0) (k1 := k1) (k2 := k2) (k3 := k3) (k5 := k5)
    PySem.F.excBase_ValueError (mN := mN) (T.hasType PySem.F.excBase_ValueError.hasBase) (I.ok.hd hc) hpl hni (ld_glob I hg O.g ⟨rfl, ?_⟩ hdb)
  have ha' := ha cpos pins s σ H _ I h
  rw [he] at ha' ⊢
  refine Calls.evalArgs_plain (thn ha' fun us s1 ⟨vs, H1, I1, r, hz, q⟩ => ?_)
  exact ⟨rfl, by rw [← r.length]; exact hz, I1.bk _ _ hC, hN.keeps I1.bk, T.keeps I1.bk, fun h' ea hm => hx pins σ H1 s1 h' ea (.ref C) us I1 hm q⟩
def tCallX (sp : Sp) (Ex : St → XK) (t : TA) : TE := fun σ H Q => t σ H fun vs H1 => sp vs H1 Q (Ex σ)
theorem run_fnX {X : Cx} {k : Nat} {f : Addr} {fd : FuncData} {ps : List Str} {sp : Sp} {Ex : St → XK} {pins : List (Addr × Obj)} {σ : St} {H : Hp} {s : Shared} {Q : VK} {us : List Value} {vs : List V} (F : FnOk X.prog X.w X.K X.mg X.base (CX1 X.prog X.w) k f fd ps sp) (hr : Room k X.A) (hb : Binds X.K fd ps []) (hx : PassS X Ex)
    (I : Inv X pins σ H s) (r : Vals vs us) (h : sp vs H Q (Ex σ)) : wpAny (model X.prog X.w) X.A (call (.ref f) us) (EP X pins σ Q) X.xe s := by
  have hl : us.length = ps.length := by rw [← r.length]; exact F.len _ _ _ _ h
  have hb' := hb s us I.kIn (by rw [List.append_nil]; exact hl)
  rw [List.append_nil] at hb'
  refine wpAny_call (codeAny_mono (F.run X.A X.stack s H ⟨us, []⟩ us vs Q (Ex σ) hr I.env0 hb' r h) fun r s' hq => ?_)
  cases r with
  | error e => exact hx pins σ H s e s' I hq
  | ok fl =>
    cases fl with
    | ret u => exact I.after hq
    | next => exact False.elim hq
    | brk => exact False.elim hq
    | cont => exact False.elim hq
theorem pcallX {X : Cx} {x : Str} {st : Stmt} {ps : List Str} {f : Addr} {fd : FuncData} {k : Nat} {sp : Sp} {Ex : St → XK} {e : Expr} {es : List Expr} {t : TA} {p pos : Pos} (D : Df X.K X.mg x st ps f fd) (G : FnOk X.prog X.w X.K X.mg X.base (CX1 X.prog X.w) k f fd ps sp) (hr : Room k X.A) (hx : PassS X Ex) (ha : PA X (e :: es) t) (hg : Gl X x := by rfl)
    (hdb : (x == ("__debug__" : Str)) = false := by decide) (he : starEach (e :: es) X.env = (false, eval e X.env) :: starEach es X.env := by rfl) (hpl : (backTo pos (starEach es X.env)).any (·.1) = false := by rfl) : PE X (.Call (.Name x p) (e :: es) [] pos) (tCallX sp Ex t) := by
  intro pins s σ H Q I h
  refine wpAny_Call_Name_kw (ld_glob I hg D.g ?_ hdb)
  refine PySem.W.callWith_K (h₀ := X.base) I.ok.mod.kin D.fn.kp (thn (ha pos pins s σ H _ I h) fun us s1 ⟨vs, H1, I1, r, q⟩ => ⟨I1.kIn, ?_⟩) he hpl
  exact run_fnX G hr D.b hx I1 r q
theorem Fun.ok1 {P : Program} {w : World} {K : PySem.W.Frag} {mg : Str → Option Value} {base : Heap} {x qual : Str} {st : Stmt} {f : Addr} {fd : FuncData} {N ps : List Str} {k : Nat} {sp : Sp} (F : Fun K x qual st f fd) (S : FnScope N ps (defScope st)) (len : ∀ vs H Q E, sp vs H Q E → vs.length = ps.length)
    (hbody : ∀ (cdv : Value) (A : Around) (outer : List Env) (s : Shared) (H : Hp) (vs : List V) (Q : VK) (E : XK), Room k (A.deeper (envOfC qual (defScope st) s.heap.objs.size f cdv)) → sp vs H Q E →
      ∃ t, PSs (cxOf (CX1 P w) P w K mg base N qual (defScope st) f cdv A outer s H E) (defBody st) t ∧ t { nx := fun _ H' => Q .non H', rt := Q } (start N vs) H) : FnOk P w K mg base (CX1 P w) (k + 1) f fd ps sp := by
  obtain ⟨oc, od, kV, doc, pm, an, cdv, ct, osl, rfl, lk, hcd⟩ := F.ex
  exact fn_of lk hcd S len fun A outer s H vs Q E hr hsp => hbody cdv A outer s H vs Q E hr hsp
end L2
set_option Elab.async false
set_option linter.all false
set_option maxRecDepth 100000
namespace L2
open PySem PySem.Spec PyProof.Rows Builtin Builtin.ObjectAttr Builtin.Getset_descriptor
structure ExcI (K : PySem.W.Frag) (C : Addr) : Prop where
  ga : PySem.W.findIn K (.ref C) "__getattribute__" = some (some (.builtin "BaseException.__getattribute__"))
  hk : PySem.W.findIn K (.ref C) "__getattr__" = some none
  at_ : PySem.W.findIn K (.ref C) "__class__" = some (some (.builtin "object.__class__"))
  sp : PySem.W.specialIn K (.builtin "object.__class__") "__get__" = some (some (.builtin "getset_descriptor.__get__"))
  tk : PySem.W.takesIn K (.builtin "object.__class__") = some true
  mo : PySem.W.mroIn K C (.type "object") = some true
  mb : PySem.W.mroIn K C (.type "BaseException") = some true
def ExcAt (e C : Addr) (h : Heap) : Prop := ∃ o, h.get? e = some o ∧ o.cls = .ref C
section
variable {prog : Program} {w : World} {A : Around} {K : PySem.W.Frag} {e C : Addr} {h : Heap}
theorem ExcAt.ty {M : Model} (x : ExcAt e C h) : PySem.W.Looks M h (typeOf (.ref e)) (.ref C) := by
  obtain ⟨o, h1, h2⟩ := x
  have L : PySem.W.Looks M h (typeOf (.ref e)) o.cls := (PySem.W.Looks.ld h1).andThen .now
  rw [h2] at L
  exact L
theorem exc_find {M : Model} (X : K.In h) (F : ExcI K C) : PySem.W.Looks M h (find (.ref e) (.ref C) "__class__") (.bind (.builtin "getset_descriptor.__get__") (.builtin "object.__class__")) := by
  have q3 : PySem.W.Looks M h (dataDescriptor? (some (.builtin "object.__class__")) (some (.builtin "getset_descriptor.__get__"))) (some (.builtin "getset_descriptor.__get__", .builtin "object.__class__")) := (PySem.W.looks_takesIn X F.tk).andThen .now
  have q2 : PySem.W.Looks M h (getOf (some (.builtin "object.__class__"))) (some (.builtin "getset_descriptor.__get__")) := PySem.W.looks_specialIn X F.sp
  exact (PySem.W.looks_findIn X F.at_).andThen (q2.andThen (q3.andThen (PySem.W.Looks.tag .now)))
theorem exc_classGet {R : Result → Shared → Prop} {s : Shared} {tp : Value} (X : K.In s.heap) (x : ExcAt e C s.heap) (F : ExcI K C) (q : R (.ok (.ret (.ref C))) s) : codeAny (model prog w) A (.call (.builtin "getset_descriptor.__get__") ⟨[.builtin "object.__class__", .ref e, tp], []⟩) R s := by
  cases s with
  | mk hp gn dr tk os =>
    have y0 := x.ty (M := model prog w)
    have y1 := PySem.W.looks_mroIn (M := model prog w) X F.mo
    refine codeAny_call_builtin PySem.W.KF.slot_gs.plain PySem.W.KF.entry_gs (PySem.W.KF.slot_gs.check _ _ _ _ _ _ _ _ PySem.W.KF.type_class (PySem.W.KF.args_gs _ _ _) ?_)
    unfold «getset_descriptor.__get__» descrGet
    rw [PySem.W.dga_obj]
    refine wpAny_bind (wpAny_pure ?_)
    unfold descrGetter descrCheckInstance descrNameAndClass isInstance
    simp only [PySem.W.KF.owner_class]
    repeat lk
    refine ⟨Code.quiet_builtin _ (by decide +kernel), codeAny_builtin PySem.W.KF.entry_class ?_⟩
    unfold «object.__class__» shownTypeOf
    repeat lk
    exact q
theorem exc_ga {R : Result → Shared → Prop} {s : Shared} {t : Tok} (X : K.In s.heap) (x : ExcAt e C s.heap) (F : ExcI K C) (q : R (.ok (.ret (.ref C))) s) : codeAny (model prog w) A (.call (.builtin "BaseException.__getattribute__") ⟨[.ref e, .str "__class__" t], []⟩) R s := by
  cases s with
  | mk hp gn dr tk os =>
    have y0 := x.ty (M := model prog w)
    have y3 := exc_find (M := model prog w) (e := e) X F
    have y4 := PySem.W.looks_mroIn (M := model prog w) X F.mb
    refine codeAny_call_builtin PySem.F.attr_ValueError.ga.plain PySem.F.entry_bexc_ga ?_
    have z1 : builtinKind "BaseException.__getattribute__" = some .slot := by decide +kernel
    have z2 : splitId "BaseException.__getattribute__" = some ("BaseException", "__getattribute__") := by decide +kernel
    have z3 := PySem.F.args_bexc_ga (.ref e) (.str "__class__" t)
    simp only [checkBuiltinCall, z1, z2]
    refine wpAny_bind ?_
    unfold isInstance
    refine wpAny_bind (y0.at (y4.at ?_))
    repeat (any_goals (first | assumption | wp_step))
    obtain ⟨o, h1, h2⟩ := id x
    refine wpAny_loadPart h1 (wpAny_pure ?_)
    rw [h2]
    refine wpAny_bind (y3.at ?_)
    dsimp only
    repeat (any_goals (first | assumption | with_reducible refine wpAny_holding ?_ | wp_step))
    exact exc_classGet (s := ⟨hp, gn, dr, tk, os⟩) X x F (wpAny_pure q)
theorem exc_class {E : Value → Shared → Prop} {Q : Option Value → Shared → Prop} {s : Shared} (X : K.In s.heap) (x : ExcAt e C s.heap) (F : ExcI K C) (q : Q (some (.ref C)) { s with toks := s.toks + 1 }) : wpAny (model prog w) A (getAttr? (.ref e) "__class__") Q E s := by
  cases s with
  | mk hp gn dr tk os =>
    have y0 := x.ty (M := model prog w)
    have y1 := PySem.W.looks_findIn (M := model prog w) X F.ga
    have y2 := PySem.W.looks_findIn (M := model prog w) X F.hk
    have y3 := exc_find (M := model prog w) (e := e) X F
    have y4 := PySem.W.looks_mroIn (M := model prog w) X F.mb
    unfold getAttr? getAttrBy? getAttrBy
    refine wpAny_bind (wpAny_mkText (wpAny_bind (wpAny_attempt (wpAny_holding (wpAny_bind (y0.at (wpAny_bind (y1.at ?_))))))))
    show wpAny _ _ (if (onTheHeap (.ref C) && (Value.builtin "BaseException.__getattribute__" == Value.builtin "object.__getattribute__")) = true then _ else _) _ _ _
    rw [show (Value.builtin "BaseException.__getattribute__" == Value.builtin "object.__getattribute__") = false from by decide +kernel, Bool.and_false, if_neg (by decide)]
    unfold getAttrByItsOwn hookBefore
    refine wpAny_bind ?_
    rw [if_pos (show onTheHeap (.ref C) = true from rfl)]
    refine y2.at (wpAny_bind (wpAny_attempt (wpAny_holding ?_)))
    unfold callGetattribute boundAndCalled
    rw [if_neg (by intro z; cases z)]
    refine wpAny_bind (wpAny_of_eq (PySem.F.attr_ValueError.ga.bind (.ref e)) ?_)
    exact wpAny_call (exc_ga (s := ⟨hp, gn, dr, tk + 1, os⟩) X x F (wpAny_pure (wpAny_pure q)))
theorem kitx_exc (F : ExcI K C) : PySem.W.KitX K (.ref e) (.ref C) (ExcAt e C) where
  ty := fun _ _ _ x => x.ty
  it := fun _ _ X _ => by
    have z := F.mo
    unfold PySem.W.mroIn PySem.W.clsIn at z
    split at z
    · rename_i ho
      intro A1 Q1 E1 s1 k q
      unfold isType loadHead
      exact wpAny_bind (wpAny_loadPart (k _ _ (X _ _ ho)) (wpAny_pure q))
    · cases z
  ne := fun h tp dd its n sl X htp => by
    have z := F.mo
    refine Bool.eq_false_iff.mpr fun q => ?_
    have ec : C = tp := Value.ref.inj (beq_iff_eq.mp q)
    subst ec
    unfold PySem.W.mroIn PySem.W.clsIn at z
    split at z
    · rename_i ho
      have z2 := X _ _ ho
      rw [htp] at z2
      cases z2
    · cases z
  ca := fun X x q => exc_class X x F q
def excO (e C : Addr) : HO := .ext fun h => ExcAt e C h
def rIsiX (K : PySem.W.Frag) : List V → Hp → VK → Prop := fun xs H Q => ∃ e C c cu b, xs = [.ref e, c] ∧ RelV c cu ∧ (∀ u, RelV c u → u = cu) ∧ H e = some (excO e C) ∧ ExcI K C ∧ PySem.W.kitOne K (.ref C) cu = some b ∧ Q (.bl b) H
theorem call_isiX {X : Cx} : CallR X (.builtin "isinstance") (rIsiX X.K) := by
  intro pins s σ H xs us Q I r h
  obtain ⟨e, C, c, cu, b, rfl, _, un, he, F, k, q⟩ := h
  obtain ⟨u, v, rfl, rx, rt⟩ := vals2 r
  cases (show u = Value.ref e from rx)
  cases un v rt
  have o : ObjOk X.prog X.w H s.heap e (excO e C) := I.hok e _ he
  exact PySem.W.kia_one (kitx_exc F) I.kIn o.1 k (fun z => nomatch z) fun tk => ⟨.bl b, H, I.tok tk, rfl, q⟩
theorem k_isiX {X : Cx} (K : PySem.W.Frag) (e : X.K = K := by rfl) : CallR X (.builtin "isinstance") (rIsiX K) := by subst e; exact call_isiX
end
end L2
set_option Elab.async false
set_option linter.all false
set_option maxRecDepth 100000
namespace L2
open PySem PySem.Spec PyProof.Rows
structure CatchC (K : PySem.W.Frag) (mg : Str → Option Value) (y : Str) (Ch : Addr) : Prop where
  g : mg y = some (.ref Ch)
  mb : PySem.W.mroIn K Ch (.type "BaseException") = some true
theorem exc_match {prog : Program} {w : World} {A : Around} {E : Value → Shared → Prop} {K : PySem.W.Frag} {e C Ch : Addr} {s : Shared} {b : Bool} {Q : Bool → Shared → Prop} (X : K.In s.heap) (x : ExcAt e C s.heap) (m : PySem.W.kitCls K (.ref C) (.ref Ch) = some b)
    (hb : PySem.W.mroIn K Ch (.type "BaseException") = some true) (q : Q b s) : wpAny (model prog w) A (excMatches (.ref e) (.ref Ch)) Q E s := by
  cases s with
  | mk hp gn dr tk os =>
    obtain ⟨y1, y2, y3⟩ := PySem.W.kit_cls (M := model prog w) X m
    have y0 := x.ty (M := model prog w)
    have y4 := PySem.W.looks_mroIn (M := model prog w) X hb
    have y5 := tc_notTuple
    unfold excMatches isInstance isExcClass
    repeat (first | with_reducible refine PySem.W.Looks.at (by assumption) ?_ | (with_reducible refine wpAny_of_eq y5 ?_) | with_reducible refine wpAny_bind ?_ | wp_step)
    cases b
    · exact wpAny_pure (wpAny_pure (wpAny_pure q))
    · exact wpAny_pure (wpAny_pure (wpAny_pure q))
section
variable {X : Cx} {pins : List (Addr × Obj)} {σ : St} {H H' : Hp} {s s' : Shared}
abbrev Cx.sui (X : Cx) (e : Addr) : Cx := { X with A := X.A.mark (some (.ref e)), calm := false, xe := fun _ _ => False }
theorem Inv.toSui (I : Inv X pins σ H s) (e : Addr) : Inv (X.sui e) pins σ H s :=
  ⟨⟨I.ok.mod, I.ok.kind, I.ok.glob, I.ok.blt, I.ok.above, I.ok.inj, I.ok.has, I.ok.cab, (fun z => nomatch z), I.ok.frames, I.ok.stk, I.ok.exf, I.ok.bs, I.ok.bsz, I.ok.noex, I.ok.exfs, I.ok.funs, I.ok.frf⟩, I.os, I.bare, I.base, I.loc, I.cell, I.free, I.freeC, I.pin, I.hok, I.len⟩
theorem Inv.ofSui {e : Addr} (ok : X.Ok) (I : Inv (X.sui e) pins σ H s) : Inv X pins σ H s := ⟨ok, I.os, I.bare, I.base, I.loc, I.cell, I.free, I.freeC, I.pin, I.hok, I.len⟩
abbrev Cx.body (X : Cx) (E : Value → Shared → Prop) (pn : List (Addr × Obj)) : Cx := { X with xe := E, pn := pn }
theorem Inv.toBody (I : Inv X pins σ H s) (E : Value → Shared → Prop) : Inv (X.body E (X.pn ++ pins)) [] σ H s :=
  ⟨⟨I.ok.mod, I.ok.kind, I.ok.glob, I.ok.blt, I.ok.above, I.ok.inj, I.ok.has, I.ok.cab, I.ok.hd, I.ok.frames, I.ok.stk, I.ok.exf, I.ok.bs, I.ok.bsz, I.ok.noex, I.ok.exfs, I.ok.funs, I.ok.frf⟩, I.os, I.bare, I.base, I.loc, I.cell, I.free, I.freeC, fun p hp => I.pin p (by rw [List.append_nil] at hp; exact hp), I.hok, I.len⟩
theorem Inv.ofBody {E : Value → Shared → Prop} {pins' : List (Addr × Obj)} (ok : X.Ok) (I : Inv (X.body E (X.pn ++ pins)) pins' σ H s) : Inv X pins σ H s := ⟨ok, I.os, I.bare, I.base, I.loc, I.cell, I.free, I.freeC, fun p hp => I.pin p (List.mem_append_left _ hp), I.hok, I.len⟩
theorem SP.ofBody {E : Value → Shared → Prop} {D : Ends} {f : Flow} (ok : X.Ok) (h : SP (X.body E (X.pn ++ pins)) [] D f s') : SP X pins D f s' := by
  cases f with
  | next => obtain ⟨σ', H', I, q⟩ := h; exact ⟨σ', H', I.ofBody ok, q⟩
  | brk => obtain ⟨σ', H', I, q⟩ := h; exact ⟨σ', H', I.ofBody ok, q⟩
  | cont => obtain ⟨σ', H', I, q⟩ := h; exact ⟨σ', H', I.ofBody ok, q⟩
  | ret u => obtain ⟨v, σ', H', I, r, q⟩ := h; exact ⟨v, σ', H', I.ofBody ok, r, q⟩
theorem fly_track {e C : Addr} {h' : Heap} (un : Un (frs X.stack) [] H H' s.heap h') (hok : HOk X.prog X.w H' h') (n0 : s.heap.get? e = none) (n1 : H' e = none) (x : ExcAt e C h') :
    Un (frs X.stack) [] H (upd H' e (excO e C)) s.heap h' ∧ HOk X.prog X.w (upd H' e (excO e C)) h' := by
  have ne : ∀ b o, s.heap.get? b = some o → b ≠ e := fun b o q z => by rw [z, n0] at q; cases q
  refine ⟨⟨un.keep, un.slot, fun b o q n hx => by rw [upd_ne (ne b o q)]; exact un.free b o q n hx, un.there, fun b xs q => ?_, fun b o u q => ?_, fun b ps q => ?_⟩, fun b o q => ?_⟩
  · have z := un.tups b xs q
    rw [upd_ne (ne_of_none z n1)]; exact z
  · have z := un.frzs b o u q
    rw [upd_ne (ne_of_none z n1)]; exact z
  · obtain ⟨more, z⟩ := un.tbls b ps q
    exact ⟨more, by rw [upd_ne (ne_of_none z n1)]; exact z⟩
  · by_cases hb : b = e
    · subst hb
      rw [upd_same] at q
      cases q
      obtain ⟨o, h1, h2⟩ := id x
      exact ⟨x, ⟨o, h1⟩, fun ha hb' xa ka => let ⟨o, h1, h2⟩ := xa; ⟨o, ka o h1, h2⟩⟩
    · rw [upd_ne hb] at q
      exact (hok b o q).stay (fun c u _ z => z) (fun c z => by rw [upd_ne (ne_of_none z n1)]; exact z) fun c xs z => by rw [upd_ne (ne_of_none z n1)]; exact z
theorem Inv.gone {i t : Nat} {n : Str} {h' : Heap} (I : Inv X pins σ H s) (hN : X.N.Nodup) (hi : X.N[i]? = some n) (hs : Heap.SameBut X.env.locals s.heap h') (hn : ∀ m, s.heap.Ns X.env.locals m → ∃ v, h'.Ns X.env.locals fun x => if x = n then v else m x) :
    Inv X pins (σ.set i none) H { s with heap := h', toks := t } := by
  have nl : ∀ b o, X.s₀.heap.get? b = some o → b ≠ X.env.locals := fun b o e => Nat.ne_of_lt (Nat.lt_of_lt_of_le (Heap.lt_size e) I.ok.above)
  have tr : ∀ b u, H b = some u → b ≠ X.env.locals := fun b u e z => by rw [z, I.free] at e; cases e
  obtain ⟨m, hm, hl⟩ := id I.loc
  obtain ⟨v, hv⟩ := hn m hm
  refine ⟨I.ok, I.os, I.bare, ⟨fun b o e n hb hx => (hs.2 b (nl b o e)).trans (I.base.keep b o e n hb hx), fun b o e n hb hx => ?_, I.base.free, fun b o e hx => ?_, I.base.tups, I.base.frzs, I.base.tbls⟩, ⟨_, hv, fun j y w e1 e2 e3 => ?_⟩, fun y c e => ?_, I.free, I.freeC, fun p hp => ?_, fun b u e => ?_, by rw [List.length_set]; exact I.len⟩
  · obtain ⟨sl, q⟩ := I.base.slot b o e n hb hx
    exact ⟨sl, (hs.2 b (nl b o e)).trans q⟩
  · obtain ⟨o1, q⟩ := I.base.there b o e hx
    exact ⟨o1, (hs.2 b (nl b o e)).trans q⟩
  · have hj : j ≠ i := fun z => by
      subst z
      rw [List.getElem?_set] at e2
      split at e2
      · split at e2 <;> cases e2
      · exact absurd rfl (by assumption)
    rw [List.getElem?_set_ne (Ne.symm hj)] at e2
    obtain ⟨u, r, q⟩ := hl j y w e1 e2 e3
    refine ⟨u, r, ?_⟩
    rcases q with ⟨k, z⟩ | ⟨k, c, z, zc⟩
    · refine .inl ⟨k, ?_⟩
      have ny : y ≠ n := fun z => hj (nodup_ix hN e1 (z ▸ hi))
      show (if y = n then v else m y) = some u
      rw [if_neg ny]; exact z
    · exact .inr ⟨k, c, z, zc.sameBut hs (I.cne y c z)⟩
  · obtain ⟨w, z⟩ := I.cell y c e
    exact ⟨w, z.sameBut hs (I.cne y c e)⟩
  · obtain ⟨e, n, ne, nf, d⟩ := I.pin p hp
    exact ⟨(hs.2 p.1 ne).trans e, n, ne, nf, d⟩
  · refine (I.hok b u e).stay (fun c z hc q => (hs.2 c ?_).trans q) (fun _ q => q) fun _ _ q => q
    rcases hc with z | z
    · rw [z]; exact tr b u e
    · exact tr c _ z
end
def dropE (i : Nat) (D : Ends) : Ends := { nx := fun σ H => D.nx (σ.set i none) H, rt := D.rt, bk := fun σ H => D.bk (σ.set i none) H, ct := fun σ H => D.ct (σ.set i none) H }
def xAs (K : PySem.W.Frag) (Ch : Addr) (i : Nat) (ts : TS) (D : Ends) : St → XK := fun σ c _ H => ∃ C, c = .ref C ∧ PySem.W.kitCls K (.ref C) (.ref Ch) = some true ∧ ∀ e, H e = none → ts (dropE i D) (σ.set i (some (.ref e))) (upd H e (excO e C))
def tTryAs (K : PySem.W.Frag) (Ch : Addr) (i : Nat) (tb : (St → XK) → TS) (ts : TS) : TS := fun D σ H => tb (xAs K Ch i ts D) D σ H
section
variable {X : Cx} {y n : Str} {Ch : Addr} {i : Nat} {body suite : List Stmt} {b₀ : Stmt} {tb : (St → XK) → TS} {ts : TS} {np hpos pos : Pos}
theorem ps_tryAs (O : CatchC X.K X.mg y Ch) (hstk : X.stack = X.env :: X.outer) (hfr : X.env.frame = some X.env.locals) (nd : X.N.Nodup) (hi : X.N[i]? = some n) (hloc : X.env.scope.names.lookup n = some .local)
    (hb : ∀ (E : Value → Shared → Prop) (pn : List (Addr × Obj)) (Ex : St → XK), PassS (X.body E pn) Ex → PSs (X.body E pn) body (tb Ex)) (hs : ∀ e, PSs (X.sui e) (b₀ :: suite) ts) (hg : Gl X y := by rfl) (hdb : (y == ("__debug__" : Str)) = false := by decide) :
    PS X (.Try body [.ExceptHandler (some (.Name y np)) (some n) (b₀ :: suite) hpos] [] [] pos) (tTryAs X.K Ch i tb ts) := by
  intro pins s σ H D I h
  have ok := I.ok
  refine wpAny_Try_except (wpAny_mono (hb (fun e s₁ => wpAny (model X.prog X.w) X.A (noteFrame e X.env) (fun _ s₂ => wpAny (model X.prog X.w) X.A (setFlight e none) (fun _ s₃ => wpAny (model X.prog X.w) X.A (handleBy e X.env [.ExceptHandler (some (.Name y np)) (some n) (b₀ :: suite) hpos]) (SP X pins D) X.xe s₃) X.xe s₂) X.xe s₁)
    (X.pn ++ pins) (xAs X.K Ch i ts D) ?_ [] s σ H D (I.toBody _) h) (fun f s1 q => ?_) fun _ _ z => z)
  · intro pins2 σ2 H2 s2 e s3 I2 hcx
    have I2 := I2.ofBody ok
    obtain ⟨ea, c, H3, rfl, os, bare, un, hok, n0, n1, t, C, rfl, hk, hq⟩ := hcx
    obtain ⟨B, a0, hB, fl⟩ := fly_lib I2 os bare un hok n0 n1 t
    have fl' : Heap.FlyingW B (X.env :: X.outer) ea (.ref C) a0 s3.heap := by rw [← hstk]; exact fl
    refine wpAny_looks_onW (by rw [ok.frames, hstk]) hfr fl' fun h4 held up4 => wpAny_landsW held fun h5 fl5 up5 => ?_
    obtain ⟨u5, k5⟩ := fly_un I2 un hok hB fl5.1 (up4.trans up5)
    have J5 : Inv X pins σ2 H3 { s3 with heap := h5 } := I2.call' (ch := []) os u5 k5 bare fun b z => absurd z (by simp)
    have x5 : ExcAt ea C h5 := fl5.there
    refine wpAny_handleBy_cons (codeAny_handlers_test (ld_glob (X := X.sui ea) (J5.toSui ea) hg O.g ?_ hdb)) (by intro z; cases z)
    refine exc_match J5.kIn x5 hk O.mb (codeAny_handlers_suite_as (lands_againW fl5 fun h6 fl6 up6 => ?_))
    obtain ⟨u6, k6⟩ := fly_un I2 un hok hB fl6.1 ((up4.trans up5).trans up6)
    obtain ⟨u7, k7⟩ := fly_track u6 k6 n0 n1 fl6.there
    have J7 : Inv X pins σ2 (upd H3 ea (excO ea C)) { s3 with heap := h6 } := I2.call' (ch := []) os u7 k7 bare fun b z => absurd z (by simp)
    refine store_ok (X := X.sui ea) (v := .ref ea) (J7.toSui ea) nd hi (.inl hloc) rfl (fun s8 J8 => ?_) (.inr hloc)
    refine wpAny_mono (hs ea pins s8 _ _ (dropE i D) J8 (hq ea n1)) (fun f s9 q => ?_) fun _ _ z => False.elim z
    have fin : ∀ {σ9 : St} {H9 : Hp}, Inv (X.sui ea) pins σ9 H9 s9 → (∀ s10, Inv X pins (σ9.set i none) H9 s10 → SP X pins D f s10) → wpAny (model X.prog X.w) X.A (do bindName X.env n .none; unbindBehindTheSuite X.env n hpos) (fun _ s10 => SP X pins D f s10) X.xe s9 := fun {σ9 H9} J k => by
      have J' := J.ofSui ok
      obtain ⟨m, hm, _⟩ := id J'.loc
      refine wpAny_nameGoes_keeps hloc hm (by rw [ok.kind]; rfl) fun h10 v hn hsb => k _ (J'.gone nd hi hsb fun m2 hm2 => ?_)
      refine ⟨v, ?_⟩
      have e : m2 = m := by
        obtain ⟨o1, es1, ep1, a1, b1, c1, d1⟩ := hm
        obtain ⟨o2, es2, ep2, a2, b2, c2, d2⟩ := hm2
        rw [a1] at a2; cases a2
        rw [b1] at b2; cases b2
        funext z
        rw [← d1, ← d2]
      rw [e]; exact hn
    cases f with
    | next => obtain ⟨σ9, H9, J, q⟩ := q; exact fin J fun s10 K10 => ⟨_, _, K10, q⟩
    | brk => obtain ⟨σ9, H9, J, q⟩ := q; exact fin J fun s10 K10 => ⟨_, _, K10, q⟩
    | cont => obtain ⟨σ9, H9, J, q⟩ := q; exact fin J fun s10 K10 => ⟨_, _, K10, q⟩
    | ret u => obtain ⟨v, σ9, H9, J, r, q⟩ := q; exact fin J fun s10 K10 => ⟨v, _, _, K10, r, q⟩
  · cases f with
    | next => exact wpAny_execs_nil (SP.ofBody ok q)
    | ret u => exact SP.ofBody ok q
    | brk => exact SP.ofBody ok q
    | cont => exact SP.ofBody ok q
end
end L2
set_option Elab.async false
set_option linter.all false
set_option maxRecDepth 100000
namespace L2
open PySem PyProof.Rows
@[irreducible] def PEI (X : Cx) (e : Expr) (t : TE) : Prop := PE X e t
@[irreducible] def PAI (X : Cx) (es : List Expr) (t : TA) : Prop := PA X es t
@[irreducible] def PSsI (X : Cx) (st : List Stmt) (t : TS) : Prop := PSs X st t
theorem PEI.o {X : Cx} {e : Expr} {t : TE} (h : PEI X e t) : PE X e t := by unfold PEI at h; exact h
theorem PAI.o {X : Cx} {es : List Expr} {t : TA} (h : PAI X es t) : PA X es t := by unfold PAI at h; exact h
theorem PSsI.o {X : Cx} {l : List Stmt} {t : TS} (h : PSsI X l t) : PSs X l t := by unfold PSsI at h; exact h
theorem pei {X : Cx} {e : Expr} {t : TE} (h : PE X e t) : PEI X e t := by unfold PEI; exact h
theorem pai {X : Cx} {es : List Expr} {t : TA} (h : PA X es t) : PAI X es t := by unfold PAI; exact h
theorem pssi {X : Cx} {l : List Stmt} {t : TS} (h : PSs X l t) : PSsI X l t := by unfold PSsI; exact h
theorem pei_int {X : Cx} {i j pos} : PEI X (.Constant (.int i) j pos) (tC (.int i)) := pei pe_int
theorem pei_lst {X : Cx} {es : List Expr} {t : TA} {pos : Pos} (h : PAI X es t) : PEI X (.List es pos) (tLst t) := pei (pe_lst h.o)
theorem pei_tup {X : Cx} {es : List Expr} {t : TA} {x1} {pos : Pos} (h : PAI X es t) : PEI X (.Tuple es x1 pos) (tTup t) := pei (pe_tup h.o)
theorem pai_nil {X : Cx} : PAI X [] tNil := pai pa_nil
theorem pai_str {X : Cx} {x : Str} {j} {pos : Pos} {es : List Expr} {t : TA} (h : PAI X es t) : PAI X (.Constant (.str x) j pos :: es) (tCons (tC (.str x)) t) := pai (pa_str h.o)
theorem pai_cons {X : Cx} {e : Expr} {es : List Expr} {te : TE} {t : TA} (ha : PEI X e te) (hr : PAI X es t) (hs : starEach (e :: es) X.env = (false, eval e X.env) :: starEach es X.env := by rfl) : PAI X (e :: es) (tCons te t) := pai (pa_cons ha.o hr.o hs)
theorem pss_consJ {X : Cx} {st : Stmt} {rest : List Stmt} {t u : TS} (h1 : PS X st t) (h2 : PSsI X rest u) : PSs X (st :: rest) (tSeq t u) := pss_cons h1 h2.o
theorem pssI_set {X : Cx} {i : Nat} {x : Str} {es : List Expr} {t : TA} {u : TS} {rest : List Stmt} {pos' lp pos : Pos} (hN : X.N.Nodup) (hi : X.N[i]? = some x) (hx : Loc X.env.scope x) (h : PAI X es t) (hr : PSs X rest u) (hf : X.fn x = true ∨ X.env.scope.names.lookup x = some .local := by first | exact .inl rfl | exact .inr rfl | assumption) :
    PSsI X (.Assign [.Name x pos'] (.List es lp) pos :: rest) (tSeq (tAsg (tLst t) (gName i)) u) := pssi (pss_cons (ps_setL hN hi hx h.o hf) hr)
theorem pa_consI {X : Cx} {e : Expr} {es : List Expr} {te : TE} {t : TA} (ha : PEI X e te) (hr : PA X es t) (hs : starEach (e :: es) X.env = (false, eval e X.env) :: starEach es X.env := by rfl) : PA X (e :: es) (tCons te t) := pa_cons ha.o hr hs
theorem pe_ixI {X : Cx} {a b : Expr} {ta tb : TE} {pos : Pos} {r : R2} (hr : IxR X r) (ha : PEI X a ta) (hb : PE X b tb) (hs : PlainIx b) : PE X (.Subscript a b pos) (tOp r ta tb) := pe_ix hr ha.o hb hs
theorem ps_setI {X : Cx} {i : Nat} {x : Str} {e : Expr} {te : TE} {pos' pos : Pos} (hN : X.N.Nodup) (hi : X.N[i]? = some x) (hx : Loc X.env.scope x) (he : PEI X e te) (hs : swapsWith e (some (.Name x pos')) pos.line X.env = pure false := by rfl) (hf : X.fn x = true ∨ X.env.scope.names.lookup x = some .local := by first | exact .inl rfl | exact .inr rfl | assumption) :
    PS X (.Assign [.Name x pos'] e pos) (tAsg te (gName i)) := ps_set hN hi hx he.o hs hf
theorem pe_opJ {X : Cx} {a b : Expr} {ta tb : TE} {pos : Pos} {op : Operator} {r : R2} (ho : OpR X (binaryOp op) r) (ha : PE X a ta) (hb : PEI X b tb) : PE X (.BinOp a op b pos) (tOp r ta tb) := pe_op ho ha hb.o
end L2
set_option Elab.async false
set_option linter.all false
set_option maxRecDepth 100000
namespace L2
open PySem PyProof.Rows
structure Fit (k n : Nat) (d : PyData) : Prop where
  ls : d.leavesShort 40 = true
  sh : d.showable = true
  dp : d.depth ≤ k
  wt : d.weight ≤ n
theorem Fit.shown {k n : Nat} {d : PyData} (f : Fit k n d) (hn : n ≤ 100000) : d.shown.length ≤ sizeLine := by
  have h := PyData.shown_le 40 (by decide) d f.ls
  have := f.wt
  rw [sizeLine_eq]
  omega
def Th (H : Hp) (k n : Nat) (v : V) : Prop := ∃ d, ThAt H d v ∧ Fit k n d
theorem Th.same {H H' : Hp} {k n : Nat} {v : V} (t : Th H k n v) (m : Same H H') : Th H' k n v := let ⟨d, h, f⟩ := t; ⟨d, h.same m, f⟩
theorem Th.le {H : Hp} {k n k' n' : Nat} {v : V} (t : Th H k n v) (hk : k ≤ k') (hn : n ≤ n') : Th H k' n' v := let ⟨d, h, f⟩ := t; ⟨d, h, f.ls, f.sh, Nat.le_trans f.dp hk, Nat.le_trans f.wt hn⟩
section
variable {H : Hp} {k n : Nat}
theorem Th.non : Th H k n .non := ⟨.none, by rw [ThAt], by rw [PyData.leavesShort], by rw [PyData.showable], by rw [PyData.depth]; exact Nat.zero_le _, by rw [PyData.weight]; exact Nat.zero_le _⟩
theorem Th.bl {b : Bool} : Th H k n (.bl b) := ⟨.bool b, by rw [ThAt], by rw [PyData.leavesShort], by rw [PyData.showable], by rw [PyData.depth]; exact Nat.zero_le _, by rw [PyData.weight]; exact Nat.zero_le _⟩
theorem log2_small {m : Nat} (h : m < 10 ^ 30) : m.log2 < 100 := by
  by_cases z : m = 0
  · subst z; decide
  · exact (Nat.log2_lt z).mpr (Nat.lt_trans h (by decide))
theorem Th.int {i : Int} (h : i.natAbs < 10 ^ 30) (hn : 100 ≤ n) : Th H k n (.int i) := by
  refine ⟨.int i, by rw [ThAt], ?_, ?_, by rw [PyData.depth]; exact Nat.zero_le _, ?_⟩
  · rw [PyData.leavesShort, PyData.shown]
    refine decide_eq_true ?_
    have := int_text_length_le10 (a := i) (k := 30) (by decide) h
    rw [PySem.ofString_length]
    omega
  · rw [PyData.showable]
    exact decide_eq_true (Nat.lt_trans (log2_small h) (by decide))
  · rw [PyData.weight]
    have := log2_small h
    split <;> omega
theorem Th.str {x : Str} (h : (x.cps.toList.all fun c => decide (c < 16 ^ 8)) = true) (hn : x.cps.size ≤ n) : Th H k n (.str x) := ⟨.str x, by rw [ThAt], by rw [PyData.leavesShort]; exact h, by rw [PyData.showable], by rw [PyData.depth]; exact Nat.zero_le _, by rw [PyData.weight]; exact hn⟩
theorem Th.emp {a : Addr} (h : H a = some (.dK [])) (hk : 1 ≤ k) : Th H k n (.ref a) := ⟨.dict [], by rw [ThAt]; exact ⟨rfl, a, rfl, h⟩, by rw [PyData.leavesShort, PyData.leavesShortKv], by rw [PyData.showable, PyData.showableKv], by rw [PyData.depth, PyData.depthKv]; exact hk, by rw [PyData.weight, PyData.weightKv]; exact Nat.zero_le _⟩
theorem Ths.of : ∀ {vs : List V}, (∀ v ∈ vs, Th H k n v) → ∃ ds, ThsAt H ds vs ∧ PyData.leavesShortAll 40 ds = true ∧ PyData.showableAll ds = true ∧ PyData.depthAll ds ≤ k ∧ PyData.weightAll ds ≤ (n + 1) * vs.length
  | [], _ => ⟨[], by rw [ThsAt], by rw [PyData.leavesShortAll], by rw [PyData.showableAll], by rw [PyData.depthAll]; exact Nat.zero_le _, by rw [PyData.weightAll]; exact Nat.zero_le _⟩
  | v :: vs, h => by
    obtain ⟨d, h1, f⟩ := h v (.head _)
    obtain ⟨ds, g1, g2, g3, g4, g5⟩ := Ths.of fun v hv => h v (.tail _ hv)
    refine ⟨d :: ds, by rw [ThsAt]; exact ⟨_, _, rfl, h1, g1⟩, by rw [PyData.leavesShortAll, f.ls, g2]; rfl, by rw [PyData.showableAll, f.sh, g3]; rfl, ?_, ?_⟩
    · rw [PyData.depthAll]; have := f.dp; omega
    · rw [PyData.weightAll, List.length_cons, Nat.mul_succ]; have := f.wt; omega
theorem Th.lst {a : Addr} {vs : List V} {n' : Nat} (h : H a = some (.lst vs)) (t : ∀ v ∈ vs, Th H k n v) (hn : (n + 1) * vs.length ≤ n') : Th H (k + 1) n' (.ref a) := by
  obtain ⟨ds, g1, g2, g3, g4, g5⟩ := Ths.of t
  exact ⟨.list ds, by rw [ThAt]; exact ⟨a, vs, rfl, h, g1⟩, by rw [PyData.leavesShort]; exact g2, by rw [PyData.showable]; exact g3, by rw [PyData.depth]; omega, by rw [PyData.weight]; omega⟩
theorem Th.tup {a : Addr} {vs : List V} {n' : Nat} (h : H a = some (.tup vs)) (t : ∀ v ∈ vs, Th H k n v) (hn : (n + 1) * vs.length ≤ n') : Th H (k + 1) n' (.ref a) := by
  obtain ⟨ds, g1, g2, g3, g4, g5⟩ := Ths.of t
  exact ⟨.tuple ds, by rw [ThAt]; exact ⟨a, vs, rfl, h, g1⟩, by rw [PyData.leavesShort]; exact g2, by rw [PyData.showable]; exact g3, by rw [PyData.depth]; omega, by rw [PyData.weight]; omega⟩
theorem Th.ints {a : Addr} {ns : List Int} {n' : Nat} (h : H a = some (.lst (ns.map V.int))) (t : ∀ i ∈ ns, i.natAbs < 10 ^ 30) (hn : 101 * ns.length ≤ n') : Th H (k + 1) n' (.ref a) :=
  Th.lst (n := 100) h (fun v hv => by
    obtain ⟨i, hi, rfl⟩ := List.mem_map.mp hv
    exact Th.int (t i hi) (Nat.le_refl _)) (by rw [List.length_map]; exact hn)
end
end L2
set_option Elab.async false
set_option linter.all false
set_option maxRecDepth 100000
namespace L2
open PySem PyProof.Rows
structure Ty where
  p : Hp → V → Prop
  mo : ∀ {G G' : Hp} {v : V}, Same G G' → p G v → p G' v
structure View where
  v : Hp → Hp
  ok : Hp → Prop
  out : ∀ {H : Hp} {a : Addr} {o : HO}, v H a = some o → H a = some o
  new : ∀ {H : Hp} {p : Addr} (o : HO), ok H → H p = none → ok (upd H p o) ∧ Same (v H) (v (upd H p o)) ∧ v (upd H p o) p = some o
abbrev Cxt := List (Option Ty)
def Fits (Γ : Cxt) (G : Hp) (σ : St) : Prop := σ.length = Γ.length ∧ ∀ (i : Nat) (T : Ty), Γ[i]? = some (some T) → ∃ v : V, σ[i]? = some (some v) ∧ T.p G v
theorem Fits.same {Γ : Cxt} {G G' : Hp} {σ : St} (f : Fits Γ G σ) (s : Same G G') : Fits Γ G' σ := ⟨f.1, fun i T h => let ⟨v, e, q⟩ := f.2 i T h; ⟨v, e, T.mo s q⟩⟩
theorem Fits.set {Γ : Cxt} {G : Hp} {σ : St} {i : Nat} {T : Ty} {v : V} (f : Fits Γ G σ) (q : T.p G v) : Fits (Γ.set i (some T)) G (σ.set i (some v)) := by
  refine ⟨by rw [List.length_set, List.length_set, f.1], fun j T' h => ?_⟩
  rw [List.getElem?_set] at h ⊢
  by_cases e : i = j
  · rw [if_pos e] at h ⊢
    by_cases l : i < Γ.length
    · rw [if_pos l] at h
      rw [if_pos (by rw [f.1]; exact l)]
      cases h
      exact ⟨v, rfl, q⟩
    · rw [if_neg l] at h; cases h
  · rw [if_neg e] at h ⊢
    exact f.2 j T' h
theorem Fits.nil {G : Hp} : Fits [] G [] := ⟨rfl, fun i T h => by simp at h⟩
theorem Fits.cons {Γ : Cxt} {G : Hp} {σ : St} {T : Ty} {v : V} (q : T.p G v) (f : Fits Γ G σ) : Fits (some T :: Γ) G (some v :: σ) := by
  refine ⟨by rw [List.length_cons, List.length_cons, f.1], fun i T' h => ?_⟩
  cases i with
  | zero => cases h; exact ⟨v, rfl, q⟩
  | succ i => exact f.2 i T' h
theorem Fits.skip {Γ : Cxt} {G : Hp} {σ : St} {v : Option V} (f : Fits Γ G σ) : Fits (none :: Γ) G (v :: σ) := by
  refine ⟨by rw [List.length_cons, List.length_cons, f.1], fun i T' h => ?_⟩
  cases i with
  | zero => cases h
  | succ i => exact f.2 i T' h
def Tp (w : View) (Γ : Cxt) (te : TE) (T : Ty) : Prop := ∀ (σ : St) (H : Hp) (Q : VK), w.ok H → Fits Γ (w.v H) σ → (∀ v H', w.ok H' → Same (w.v H) (w.v H') → T.p (w.v H') v → Q v H') → te σ H Q
def tyTh (k n : Nat) : Ty := ⟨fun G v => Th G k n v, fun s h => h.same s⟩
def tyI (lo hi : Int) : Ty := ⟨fun _ v => ∃ i, v = .int i ∧ lo ≤ i ∧ i ≤ hi, fun _ h => h⟩
def tyLof (T : Ty) (lo hi : Nat) : Ty := ⟨fun G v => ∃ a vs, v = .ref a ∧ G a = some (.lst vs) ∧ lo ≤ vs.length ∧ vs.length ≤ hi ∧ ∀ u ∈ vs, T.p G u, fun s ⟨a, vs, h1, h2, h3, h4, h5⟩ => ⟨a, vs, h1, s _ _ h2, h3, h4, fun u hu => T.mo s (h5 u hu)⟩⟩
abbrev tyL (k n lo hi : Nat) : Ty := tyLof (tyTh k n) lo hi
def tyEq (v : V) : Ty := ⟨fun _ u => u = v, fun _ h => h⟩
def TpA (w : View) (Γ : Cxt) (ta : TA) (k n m : Nat) : Prop := ∀ (σ : St) (H : Hp) (Q : List V → Hp → Prop), w.ok H → Fits Γ (w.v H) σ → (∀ vs H', w.ok H' → Same (w.v H) (w.v H') → vs.length = m → (∀ u ∈ vs, Th (w.v H') k n u) → Q vs H') → ta σ H Q
def TpB (w : View) (Γ : Cxt) (ta : TA) (T : Ty) (m : Nat) : Prop := ∀ (σ : St) (H : Hp) (Q : List V → Hp → Prop), w.ok H → Fits Γ (w.v H) σ → (∀ vs H', w.ok H' → Same (w.v H) (w.v H') → vs.length = m → (∀ u ∈ vs, T.p (w.v H') u) → Q vs H') → ta σ H Q
def TpO (w : View) (Γ : Cxt) (to : TO) : Prop := ∀ (σ : St) (H : Hp) (Q : Option Int → Hp → Prop), w.ok H → Fits Γ (w.v H) σ → (∀ o H', w.ok H' → Same (w.v H) (w.v H') → Q o H') → to σ H Q
section
variable {w : View} {Γ : Cxt} {te ta tb : TE} {K : PySem.W.Frag} {k n m k' n' m' lo hi lo' hi' : Nat} {i j i' j' : Int}
theorem Tp.sub {T T' : Ty} (h : Tp w Γ te T) (s : ∀ G v, T.p G v → T'.p G v) : Tp w Γ te T' := fun σ H Q o f q => h σ H Q o f fun v H' o' s' t => q v H' o' s' (s _ _ t)
theorem Tp.var {x : Nat} {T : Ty} (h : Γ[x]? = some (some T)) : Tp w Γ (tVar x) T := fun σ H Q o f q => let ⟨v, e, t⟩ := f.2 x T h; ⟨v, e, q v H o (Same.refl _) t⟩
theorem Tp.non : Tp w Γ (tC .non) (tyTh 0 0) := fun σ H Q o f q => q _ H o (Same.refl _) Th.non
theorem Tp.bl {b : Bool} : Tp w Γ (tC (.bl b)) (tyTh 0 0) := fun σ H Q o f q => q _ H o (Same.refl _) Th.bl
theorem Tp.str {x : Str} (h : (x.cps.toList.all fun c => decide (c < 16 ^ 8)) = true) (hn : x.cps.size ≤ 100) : Tp w Γ (tC (.str x)) (tyTh 0 100) := fun σ H Q o f q => q _ H o (Same.refl _) (Th.str h hn)
theorem Tp.int : Tp w Γ (tC (.int i)) (tyI i i) := fun σ H Q o f q => q _ H o (Same.refl _) ⟨i, rfl, Int.le_refl _, Int.le_refl _⟩
theorem Tp.wide (h : Tp w Γ te (tyI i j)) (h1 : i' ≤ i) (h2 : j ≤ j') : Tp w Γ te (tyI i' j') := h.sub fun G v ⟨x, e, a, b⟩ => ⟨x, e, Int.le_trans h1 a, Int.le_trans b h2⟩
theorem Tp.add (ha : Tp w Γ ta (tyI i j)) (hb : Tp w Γ tb (tyI i' j')) : Tp w Γ (tOp (rI0 fun x y => .int (x + y)) ta tb) (tyI (i + i') (j + j')) := fun σ H Q o f q => ha σ H _ o f fun v H1 o1 s1 ⟨x, e1, a1, b1⟩ => hb σ H1 _ o1 (f.same s1) fun u H2 o2 s2 ⟨y, e2, a2, b2⟩ => ⟨x, y, e1, e2, q _ H2 o2 (s1.trans s2) ⟨_, rfl, by omega, by omega⟩⟩
theorem Tp.neg (ha : Tp w Γ ta (tyI i j)) : Tp w Γ (tUn (rU fun x => .int (-x)) ta) (tyI (-j) (-i)) := fun σ H Q o f q => ha σ H _ o f fun v H1 o1 s1 ⟨x, e1, a1, b1⟩ => ⟨x, e1, q _ H1 o1 s1 ⟨_, rfl, by omega, by omega⟩⟩
theorem Tp.pow {x y : Int} (c : CPow x y) : Tp w Γ (tOp (rI CPow fun i j => .int (i ^ j.toNat)) (tC (.int x)) (tC (.int y))) (tyI (x ^ y.toNat) (x ^ y.toNat)) := fun σ H Q o f q => ⟨x, y, rfl, rfl, c, q _ H o (Same.refl _) ⟨_, rfl, Int.le_refl _, Int.le_refl _⟩⟩
theorem Tp.ofI (h : Tp w Γ te (tyI i j)) (h1 : -(10 ^ 29) ≤ i := by decide) (h2 : j ≤ 10 ^ 29 := by decide) : Tp w Γ te (tyTh 0 100) := h.sub fun G v ⟨x, e, a, b⟩ => by
  rw [e]; exact Th.int (by omega) (Nat.le_refl _)
theorem Tp.ofL (h : Tp w Γ te (tyL k n lo hi)) : Tp w Γ te (tyTh (k + 1) ((n + 1) * hi)) := h.sub fun G v ⟨a, vs, e, h1, _, h2, h3⟩ => by
  rw [e]; exact Th.lst h1 h3 (Nat.mul_le_mul_left _ h2)
theorem Tp.le (h : Tp w Γ te (tyTh k n)) (hk : k ≤ k') (hn : n ≤ n') : Tp w Γ te (tyTh k' n') := h.sub fun G v t => t.le hk hn
theorem TpA.nil : TpA w Γ tNil 0 0 0 := fun σ H Q o f q => q [] H o (Same.refl _) rfl (by simp)
theorem TpA.cons {t : TA} (h : Tp w Γ te (tyTh k n)) (ht : TpA w Γ t k' n' m) : TpA w Γ (tCons te t) (max k k') (max n n') (m + 1) := fun σ H Q o f q => h σ H _ o f fun v H1 o1 s1 t1 => ht σ H1 _ o1 (f.same s1) fun vs H2 o2 s2 e2 t2 => q (v :: vs) H2 o2 (s1.trans s2) (by rw [List.length_cons, e2]) fun u hu => by
  rcases List.mem_cons.mp hu with rfl | hu
  · exact (t1.same s2).le (Nat.le_max_left _ _) (Nat.le_max_left _ _)
  · exact (t2 u hu).le (Nat.le_max_right _ _) (Nat.le_max_right _ _)
theorem small_line {x : Nat} (h : x ≤ 10000) : x ≤ sizeLine := Nat.le_trans h (by decide)
theorem Tp.lst {t : TA} (h : TpA w Γ t k n m) (hm : m ≤ 10000 := by decide) : Tp w Γ (tLst t) (tyL k n m m) := fun σ H Q o f q => h σ H _ o f fun vs H1 o1 s1 e1 t1 => ⟨small_line (by rw [e1]; exact hm), fun p hp => by
  obtain ⟨o2, s2, e2⟩ := w.new (.lst vs) o1 hp
  exact q (.ref p) _ o2 (s1.trans s2) ⟨p, vs, rfl, e2, Nat.le_of_eq e1.symm, Nat.le_of_eq e1, fun u hu => (t1 u hu).same s2⟩⟩
theorem Tp.tup {t : TA} (h : TpA w Γ t k n m) (hm : m ≤ 10000 := by decide) : Tp w Γ (tTup t) (tyTh (k + 1) ((n + 1) * m)) := fun σ H Q o f q => h σ H _ o f fun vs H1 o1 s1 e1 t1 => ⟨small_line (by rw [e1]; exact hm), fun p hp => by
  obtain ⟨o2, s2, e2⟩ := w.new (.tup vs) o1 hp
  exact q (.ref p) _ o2 (s1.trans s2) (Th.tup e2 (fun u hu => (t1 u hu).same s2) (by rw [e1]; exact Nat.le_refl _))⟩
theorem Tp.emp : Tp w Γ tDNewK (tyTh 1 0) := fun σ H Q o f q p hp => by
  obtain ⟨o2, s2, e2⟩ := w.new (.dK []) o hp
  exact q (.ref p) _ o2 s2 (Th.emp e2 (Nat.le_refl _))
theorem TpO.none : TpO w Γ tNoPart := fun σ H Q o f q => q _ H o (Same.refl _)
theorem TpO.some (h : Tp w Γ te (tyI i j)) : TpO w Γ (tPart te) := fun σ H Q o f q => h σ H _ o f fun v H1 o1 s1 ⟨x, e, _⟩ => ⟨x, e, q _ H1 o1 s1⟩
theorem cutV_sub (vs : List V) (lo hi : Option Int) : (∀ v ∈ cutV vs lo hi, v ∈ vs) ∧ (cutV vs lo hi).length ≤ vs.length := by
  unfold cutV
  refine ⟨fun v hv => List.mem_of_mem_drop (List.mem_of_mem_take hv), ?_⟩
  rw [List.length_take, List.length_drop]
  omega
theorem Tp.sl {tl tu : TO} {T : Ty} (h : Tp w Γ te (tyLof T lo hi)) (hl : TpO w Γ tl) (hu : TpO w Γ tu) : Tp w Γ (tSl (rSlL K) te tl tu) (tyLof T 0 hi) := fun σ H Q o f q => h σ H _ o f fun v H1 o1 s1 t1 => hl σ H1 _ o1 (f.same s1) fun x H2 o2 s2 => hu σ H2 _ o2 ((f.same s1).same s2) fun y H3 o3 s3 => by
  obtain ⟨a, vs, e1, g1, l1, m1, r1⟩ := (tyLof T lo hi).mo (s2.trans s3) t1
  refine ⟨a, vs, e1, SqL.of (w.out g1), fun p hp => ?_⟩
  obtain ⟨o4, s4, e4⟩ := w.new (.lst (cutV vs x y)) o3 hp
  exact q (.ref p) _ o4 (s1.trans (s2.trans (s3.trans s4))) ⟨p, _, rfl, e4, Nat.zero_le _, Nat.le_trans (cutV_sub vs x y).2 m1, fun u hu => T.mo s4 (r1 u ((cutV_sub vs x y).1 u hu))⟩
theorem Tp.rev {T : Ty} (h : Tp w Γ te (tyLof T lo hi)) : Tp w Γ (rRevS K te) (tyLof T lo hi) := fun σ H Q o f q => h σ H _ o f fun v H1 o1 s1 ⟨a, vs, e1, g1, l1, m1, r1⟩ => ⟨a, vs, e1, SqL.of (w.out g1), fun p hp => by
  obtain ⟨o4, s4, e4⟩ := w.new (.lst vs.reverse) o1 hp
  exact q (.ref p) _ o4 (s1.trans s4) ⟨p, _, rfl, e4, by rw [List.length_reverse]; exact l1, by rw [List.length_reverse]; exact m1, fun u hu => T.mo s4 (r1 u (List.mem_reverse.mp hu))⟩⟩
theorem Tp.ix {T : Ty} (ha : Tp w Γ ta (tyLof T lo hi)) (hb : Tp w Γ tb (tyI 0 j)) (hj : j < lo := by decide) : Tp w Γ (tOp (rIxL K) ta tb) T := fun σ H Q o f q => ha σ H _ o f fun v H1 o1 s1 t1 => hb σ H1 _ o1 (f.same s1) fun u H2 o2 s2 ⟨y, e2, a2, b2⟩ => by
  obtain ⟨a, vs, e1, g1, l1, m1, r1⟩ := (tyLof T lo hi).mo s2 t1
  have hy : y.toNat < vs.length := by omega
  refine ⟨a, vs, y, vs[y.toNat], e1, e2, SqL.of (w.out g1), ?_, q _ H2 o2 (s1.trans s2) (r1 _ (List.getElem_mem hy))⟩
  have := atI_nat (List.getElem?_eq_getElem hy)
  rwa [show ((y.toNat : Nat) : Int) = y by omega] at this
theorem Tp.len {T : Ty} (h : Tp w Γ te (tyLof T lo hi)) : Tp w Γ (tCB (fun xs H Q => ∃ p ys, xs = [.ref p] ∧ (SqL K H p ys ∨ SqT K H p ys) ∧ Q (.int ys.length) H) (tCons te tNil)) (tyI lo hi) := fun σ H Q o f q => h σ H _ o f fun v H1 o1 s1 ⟨a, vs, e1, g1, l1, m1, r1⟩ => ⟨a, vs, by rw [e1], .inl (SqL.of (w.out g1)), q _ H1 o1 s1 ⟨_, rfl, by omega, by omega⟩⟩
theorem Tp.catT {T : Ty} (ha : Tp w Γ ta (tyLof T lo hi)) (hb : Tp w Γ tb (tyLof T lo' hi')) (hm : hi + hi' ≤ 10000 := by first | decide | omega) : Tp w Γ (tOp rCat ta tb) (tyLof T (lo + lo') (hi + hi')) := fun σ H Q o f q => ha σ H _ o f fun v H1 o1 s1 t1 => hb σ H1 _ o1 (f.same s1) fun u H2 o2 s2 t2 => by
  obtain ⟨a, vs, e1, g1, l1, m1, r1⟩ := (tyLof T lo hi).mo s2 t1
  obtain ⟨b, us, e2, g2, l2, m2, r2⟩ := t2
  refine ⟨a, b, vs, us, e1, e2, w.out g1, w.out g2, small_line (Nat.le_trans (Nat.add_le_add m1 m2) hm), fun p hp => ?_⟩
  obtain ⟨o3, s3, e3⟩ := w.new (.lst (vs ++ us)) o2 hp
  refine q (.ref p) _ o3 (s1.trans (s2.trans s3)) ⟨p, _, rfl, e3, by rw [List.length_append]; omega, by rw [List.length_append]; omega, fun x hx => ?_⟩
  rcases List.mem_append.mp hx with hx | hx
  · exact T.mo s3 (r1 x hx)
  · exact T.mo s3 (r2 x hx)
theorem TpB.nil {T : Ty} : TpB w Γ tNil T 0 := fun σ H Q o f q => q [] H o (Same.refl _) rfl (by simp)
theorem TpB.cons {T : Ty} {t : TA} (h : Tp w Γ te T) (ht : TpB w Γ t T m) : TpB w Γ (tCons te t) T (m + 1) := fun σ H Q o f q => h σ H _ o f fun v H1 o1 s1 t1 => ht σ H1 _ o1 (f.same s1) fun vs H2 o2 s2 e2 t2 => q (v :: vs) H2 o2 (s1.trans s2) (by rw [List.length_cons, e2]) fun u hu => by
  rcases List.mem_cons.mp hu with rfl | hu
  · exact T.mo s2 t1
  · exact t2 u hu
theorem Tp.lstT {T : Ty} {t : TA} (h : TpB w Γ t T m) (hm : m ≤ 10000 := by decide) : Tp w Γ (tLst t) (tyLof T m m) := fun σ H Q o f q => h σ H _ o f fun vs H1 o1 s1 e1 t1 => ⟨small_line (by rw [e1]; exact hm), fun p hp => by
  obtain ⟨o2, s2, e2⟩ := w.new (.lst vs) o1 hp
  exact q (.ref p) _ o2 (s1.trans s2) ⟨p, vs, rfl, e2, Nat.le_of_eq e1.symm, Nat.le_of_eq e1, fun u hu => T.mo s2 (t1 u hu)⟩⟩
theorem Tp.wideL {T T' : Ty} (h : Tp w Γ te (tyLof T lo hi)) (s : ∀ G v, T.p G v → T'.p G v) (h1 : lo' ≤ lo) (h2 : hi ≤ hi') : Tp w Γ te (tyLof T' lo' hi') := h.sub fun G v ⟨a, vs, e, g, l, m, r⟩ => ⟨a, vs, e, g, Nat.le_trans h1 l, Nat.le_trans m h2, fun u hu => s G u (r u hu)⟩
end
def TpS (w : View) (Γ : Cxt) (ts : TS) (Γ' : Cxt) (T : Ty) : Prop := ∀ (D : Ends) (σ : St) (H : Hp), w.ok H → Fits Γ (w.v H) σ → (∀ σ' H', w.ok H' → Same (w.v H) (w.v H') → Fits Γ' (w.v H') σ' → D.nx σ' H') → (∀ v H', w.ok H' → Same (w.v H) (w.v H') → T.p (w.v H') v → D.rt v H') → ts D σ H
section
variable {w : View} {Γ Γ1 Γ2 : Cxt} {te : TE} {t u : TS} {T T1 : Ty}
theorem TpS.seq (h1 : TpS w Γ t Γ1 T) (h2 : TpS w Γ1 u Γ2 T) : TpS w Γ (tSeq t u) Γ2 T := fun D σ H o f qn qr => h1 _ σ H o f (fun σ1 H1 o1 s1 f1 => h2 D σ1 H1 o1 f1 (fun σ2 H2 o2 s2 f2 => qn σ2 H2 o2 (s1.trans s2) f2) (fun v H2 o2 s2 r2 => qr v H2 o2 (s1.trans s2) r2)) qr
theorem TpS.weak {Γ' : Cxt} (f : ∀ G σ, Fits Γ G σ → Fits Γ' G σ) (h : TpS w Γ' t Γ2 T) : TpS w Γ t Γ2 T := fun D σ H o g qn qr => h D σ H o (f _ _ g) qn qr
theorem TpS.sub {T' : Ty} (h : TpS w Γ t Γ2 T) (s : ∀ G v, T.p G v → T'.p G v) : TpS w Γ t Γ2 T' := fun D σ H o g qn qr => h D σ H o g qn fun v H1 o1 s1 t1 => qr v H1 o1 s1 (s _ _ t1)
theorem TpS.ret (h : Tp w Γ te T) : TpS w Γ (tRet te) Γ2 T := fun D σ H o f qn qr => h σ H _ o f qr
end
theorem TpS.go {w : View} {Γ Γ' : Cxt} {ts : TS} {T : Ty} {D : Ends} {σ : St} {H : Hp} (h : TpS w Γ ts Γ' T) (o : w.ok H) (f : Fits Γ (w.v H) σ) (qn : ∀ σ' H', w.ok H' → Same (w.v H) (w.v H') → Fits Γ' (w.v H') σ' → D.nx σ' H') (qr : ∀ v H', w.ok H' → Same (w.v H) (w.v H') → T.p (w.v H') v → D.rt v H') : ts D σ H := h D σ H o f qn qr
theorem Tp.asg2 {w : View} {Γ : Cxt} {te : TE} {T1 : Ty} {u : TS} {i : Nat} {D : Ends} {σ : St} {H : Hp} (h : Tp w Γ te T1) (o : w.ok H) (f : Fits Γ (w.v H) σ) (q : ∀ v H', w.ok H' → Same (w.v H) (w.v H') → T1.p (w.v H') v → u D (σ.set i (some v)) H') : tSeq (tAsg te (gName i)) u D σ H := h σ H _ o f q
theorem Fits.any : ∀ {G : Hp} (σ : St), Fits (σ.map fun _ => none) G σ := fun {G} σ => ⟨by rw [List.length_map], fun i T h => by rw [List.getElem?_map] at h; cases e : σ[i]? with | none => rw [e] at h; cases h | some x => rw [e] at h; cases h⟩
def tyNo : Ty := ⟨fun _ _ => False, fun _ h => h⟩
theorem Fits.no {G : Hp} {σ : St} (f : Fits [some tyNo] G σ) : False := let ⟨_, _, h⟩ := f.2 0 tyNo rfl; h
def CSub : Cxt → Cxt → Prop
  | [], [] => True
  | _ :: Γ, none :: Γ' => CSub Γ Γ'
  | some T :: Γ, some T' :: Γ' => (∀ G v, T.p G v → T'.p G v) ∧ CSub Γ Γ'
  | _, _ => False
theorem CSub.fits : ∀ {Γ Γ' : Cxt} {G : Hp} {σ : St}, CSub Γ Γ' → Fits Γ G σ → Fits Γ' G σ
  | [], [], _, _, _, f => f
  | [], _ :: _, _, _, h, _ => by simp [CSub] at h
  | _ :: _, [], _, _, h, _ => by simp [CSub] at h
  | a :: Γ, none :: Γ', G, [], h, f => by have := f.1; simp at this
  | a :: Γ, none :: Γ', G, v :: σ, h, f => Fits.skip (CSub.fits (Γ := Γ) (by rw [CSub] at h; exact h) ⟨by simpa using f.1, fun i T e => f.2 (i + 1) T e⟩)
  | none :: Γ, some T' :: Γ', G, σ, h, f => by simp [CSub] at h
  | some T :: Γ, some T' :: Γ', G, [], h, f => by have := f.1; simp at this
  | some T :: Γ, some T' :: Γ', G, v :: σ, h, f => by
    obtain ⟨u, e, q⟩ := f.2 0 T rfl
    have e : v = some u := by simpa using e
    subst e
    exact Fits.cons (h.1 _ _ q) (CSub.fits (Γ := Γ) h.2 ⟨by simpa using f.1, fun i T e => f.2 (i + 1) T e⟩)
end L2
set_option Elab.async false
set_option linter.all false
set_option maxRecDepth 100000
namespace L2
open PySem PyProof.Rows
def TpE (w : View) (Γ : Cxt) (ta : TA) (vs : List V) : Prop := ∀ (σ : St) (H : Hp) (Q : List V → Hp → Prop), w.ok H → Fits Γ (w.v H) σ → (∀ H', w.ok H' → Same (w.v H) (w.v H') → Q vs H') → ta σ H Q
section
variable {w : View} {Γ : Cxt} {te ta tb : TE} {K : PySem.W.Frag} {vs us : List V}
theorem TpE.nil : TpE w Γ tNil [] := fun σ H Q o f q => q H o (Same.refl _)
theorem TpE.cons {t : TA} {v : V} (h : Tp w Γ te (tyEq v)) (ht : TpE w Γ t vs) : TpE w Γ (tCons te t) (v :: vs) := fun σ H Q o f q => h σ H _ o f fun u H1 o1 s1 e1 => ht σ H1 _ o1 (f.same s1) fun H2 o2 s2 => by
  rw [show u = v from e1]; exact q H2 o2 (s1.trans s2)
end
end L2
set_option Elab.async false
set_option linter.all false
set_option maxRecDepth 100000
namespace L2
open PySem PyProof.Rows
def tyQ (k n : Nat) (P : PyData → Bool) : Ty := ⟨fun G v => ∃ d, ThAt G d v ∧ Fit k n d ∧ P d = true, fun s ⟨d, h, f, p⟩ => ⟨d, h.same s, f, p⟩⟩
section
variable {w : View} {Γ : Cxt} {te ta tb : TE} {K : PySem.W.Frag} {k n m k' n' m' lo hi : Nat} {i j : Int} {P P' : PyData → Bool}
theorem Fit.le {d : PyData} (f : Fit k n d) (hk : k ≤ k') (hn : n ≤ n') : Fit k' n' d := ⟨f.ls, f.sh, Nat.le_trans f.dp hk, Nat.le_trans f.wt hn⟩
theorem Th.q {G : Hp} {v : V} (t : Th G k n v) (h : ∀ d, ThAt G d v → P d = true) : (tyQ k n P).p G v := let ⟨d, a, f⟩ := t; ⟨d, a, f, h d a⟩
theorem tyQ.th {G : Hp} {v : V} (t : (tyQ k n P).p G v) : Th G k n v := let ⟨d, a, f, _⟩ := t; ⟨d, a, f⟩
theorem Tp.qI (h : Tp w Γ te (tyI i j)) (hP : ∀ x, i ≤ x → x ≤ j → P (.int x) = true) (h1 : -(10 ^ 29) ≤ i := by decide) (h2 : j ≤ 10 ^ 29 := by decide) (hn : 100 ≤ n' := by decide) : Tp w Γ te (tyQ k' n' P) := h.sub fun G v ⟨x, e, a, b⟩ => by
  rw [e]
  exact (Th.int (by omega) hn).q fun d t => by
    cases d <;> rw [ThAt] at t <;> first | (obtain ⟨_, _, z, _⟩ := t; cases z; done) | (obtain ⟨_, _, z, _⟩ := t; cases z; done) | (cases t; done) | (injection t with t; rw [← t]; exact hP x a b)
end
end L2
set_option Elab.async false
set_option linter.all false
set_option maxRecDepth 100000
namespace L2
open PySem PyProof.Rows
mutual
theorem ThAt.uniq {H : Hp} : ∀ {d e : PyData} {v : V}, ThAt H d v → ThAt H e v → d = e
  | .none, e, v, h, g => by rw [ThAt] at h; subst h; cases e <;> rw [ThAt] at g <;> first | (obtain ⟨a, ys, z, _⟩ := g; cases z; done) | (obtain ⟨_, a, z, _⟩ := g; cases z; done) | rfl | (cases g; done)
  | .bool b, e, v, h, g => by rw [ThAt] at h; subst h; cases e <;> rw [ThAt] at g <;> first | (obtain ⟨a, ys, z, _⟩ := g; cases z; done) | (obtain ⟨_, a, z, _⟩ := g; cases z; done) | (cases g; rfl) | (cases g; done)
  | .int i, e, v, h, g => by rw [ThAt] at h; subst h; cases e <;> rw [ThAt] at g <;> first | (obtain ⟨a, ys, z, _⟩ := g; cases z; done) | (obtain ⟨_, a, z, _⟩ := g; cases z; done) | (cases g; rfl) | (cases g; done)
  | .str x, e, v, h, g => by rw [ThAt] at h; subst h; cases e <;> rw [ThAt] at g <;> first | (obtain ⟨a, ys, z, _⟩ := g; cases z; done) | (obtain ⟨_, a, z, _⟩ := g; cases z; done) | (cases g; rfl) | (cases g; done)
  | .list xs, e, v, h, g => by
    rw [ThAt] at h
    obtain ⟨a, ys, rfl, h2, h3⟩ := h
    cases e with
    | list xs' =>
      rw [ThAt] at g
      obtain ⟨b, zs, z, g2, g3⟩ := g
      cases z
      rw [h2] at g2; cases g2
      rw [ThsAt.uniq h3 g3]
    | tuple xs' => rw [ThAt] at g; obtain ⟨b, zs, z, g2, g3⟩ := g; cases z; rw [h2] at g2; cases g2
    | dict kvs => rw [ThAt] at g; obtain ⟨_, b, z, g2⟩ := g; cases z; rw [h2] at g2; cases g2
    | none => rw [ThAt] at g; cases g
    | bool _ => rw [ThAt] at g; cases g
    | int _ => rw [ThAt] at g; cases g
    | str _ => rw [ThAt] at g; cases g
  | .tuple xs, e, v, h, g => by
    rw [ThAt] at h
    obtain ⟨a, ys, rfl, h2, h3⟩ := h
    cases e with
    | tuple xs' =>
      rw [ThAt] at g
      obtain ⟨b, zs, z, g2, g3⟩ := g
      cases z
      rw [h2] at g2; cases g2
      rw [ThsAt.uniq h3 g3]
    | list xs' => rw [ThAt] at g; obtain ⟨b, zs, z, g2, g3⟩ := g; cases z; rw [h2] at g2; cases g2
    | dict kvs => rw [ThAt] at g; obtain ⟨_, b, z, g2⟩ := g; cases z; rw [h2] at g2; cases g2
    | none => rw [ThAt] at g; cases g
    | bool _ => rw [ThAt] at g; cases g
    | int _ => rw [ThAt] at g; cases g
    | str _ => rw [ThAt] at g; cases g
  | .dict kvs, e, v, h, g => by
    rw [ThAt] at h
    obtain ⟨h0, a, rfl, h2⟩ := h
    cases e with
    | dict kvs' =>
      rw [ThAt] at g
      obtain ⟨g0, b, z, g2⟩ := g
      cases z
      rw [h2] at g2
      have q : dV (unD kvs) = dV (unD kvs') := by injection (Option.some.inj g2)
      rw [h0, g0, dV_inj q]
    | list xs' => rw [ThAt] at g; obtain ⟨b, zs, z, g2, g3⟩ := g; cases z; rw [h2] at g2; cases g2
    | tuple xs' => rw [ThAt] at g; obtain ⟨b, zs, z, g2, g3⟩ := g; cases z; rw [h2] at g2; cases g2
    | none => rw [ThAt] at g; cases g
    | bool _ => rw [ThAt] at g; cases g
    | int _ => rw [ThAt] at g; cases g
    | str _ => rw [ThAt] at g; cases g
theorem ThsAt.uniq {H : Hp} : ∀ {ds es : List PyData} {ys : List V}, ThsAt H ds ys → ThsAt H es ys → ds = es
  | [], es, ys, h, g => by
    rw [ThsAt] at h; subst h
    cases es with
    | nil => rfl
    | cons e es => rw [ThsAt] at g; obtain ⟨y, zs, z, _⟩ := g; cases z
  | d :: ds, es, ys, h, g => by
    rw [ThsAt] at h
    obtain ⟨y, zs, rfl, h2, h3⟩ := h
    cases es with
    | nil => rw [ThsAt] at g; cases g
    | cons e es =>
      rw [ThsAt] at g
      obtain ⟨y', zs', z, g2, g3⟩ := g
      cases z
      rw [ThAt.uniq h2 g2, ThsAt.uniq h3 g3]
end
theorem Th.fit {H : Hp} {k n : Nat} {v : V} {d : PyData} (t : Th H k n v) (h : ThAt H d v) : Fit k n d := by
  obtain ⟨e, g, f⟩ := t
  rw [h.uniq g]; exact f
theorem ThsAt.map {α : Type} {H : Hp} {f : α → PyData} {g : α → V} : ∀ {xs : List α}, (∀ x ∈ xs, ThAt H (f x) (g x)) → ThsAt H (xs.map f) (xs.map g)
  | [], _ => by rw [List.map_nil, List.map_nil, ThsAt]
  | x :: xs, h => by
    rw [List.map_cons, List.map_cons, ThsAt]
    exact ⟨_, _, rfl, h x (.head _), ThsAt.map fun y hy => h y (.tail _ hy)⟩
theorem ThAt.ints {H : Hp} {a : Addr} {ns : List Int} (h : H a = some (.lst (ns.map V.int))) : ThAt H (.list (ns.map .int)) (.ref a) := by
  rw [ThAt]
  exact ⟨a, _, rfl, h, ThsAt.map fun i _ => by rw [ThAt]⟩
end L2
set_option Elab.async false
set_option linter.all false
set_option maxRecDepth 100000
namespace L2
open PySem PyProof.Rows
def shT : PyData → Nat
  | .none => 0 | .bool _ => 1 | .int _ => 2 | .str _ => 3 | .list _ => 4 | .tuple _ => 5 | .dict _ => 6
def tyS (k n s : Nat) : Ty := ⟨fun G v => ∃ d, ThAt G d v ∧ Fit k n d ∧ shT d = s, fun s ⟨d, h, f, p⟩ => ⟨d, h.same s, f, p⟩⟩
def tyD (d : PyData) : Ty := ⟨fun G v => ThAt G d v, fun s h => h.same s⟩
def tyLx (k n lo hi : Nat) (P : PyData → Bool) : Ty := ⟨fun G v => ∃ a vs, v = .ref a ∧ G a = some (.lst vs) ∧ lo ≤ vs.length ∧ vs.length ≤ hi ∧ (∀ u ∈ vs, Th G k n u) ∧ ∃ u ∈ vs, (tyQ k n P).p G u,
  fun s ⟨a, vs, h1, h2, h3, h4, h5, u, h6, h7⟩ => ⟨a, vs, h1, s _ _ h2, h3, h4, fun u hu => (h5 u hu).same s, u, h6, (tyQ _ _ P).mo s h7⟩⟩
theorem Ths.ofL {H : Hp} {vs : List V} {ds : List PyData} (h : ThsAt H ds vs) : ∀ {j : Nat} {v : V}, vs[j]? = some v → ∃ d, ds[j]? = some d ∧ ThAt H d v := fun e => h.get e
theorem ThsAt.mem {H : Hp} {vs : List V} {ds : List PyData} (h : ThsAt H ds vs) {v : V} (hv : v ∈ vs) : ∃ d ∈ ds, ThAt H d v := by
  obtain ⟨j, hj, rfl⟩ := List.mem_iff_getElem.mp hv
  obtain ⟨d, hd, t⟩ := h.get (List.getElem?_eq_getElem hj)
  exact ⟨d, List.mem_of_getElem? hd, t⟩
theorem ThsAt.back {H : Hp} : ∀ {ds : List PyData} {vs : List V}, ThsAt H ds vs → ∀ d ∈ ds, ∃ v ∈ vs, ThAt H d v
  | [], _, _, d, hd => by cases hd
  | e :: ds, vs, h, d, hd => by
    rw [ThsAt] at h
    obtain ⟨y, zs, rfl, h1, h2⟩ := h
    rcases List.mem_cons.mp hd with rfl | hd
    · exact ⟨y, .head _, h1⟩
    · obtain ⟨v, hv, t⟩ := ThsAt.back h2 d hd
      exact ⟨v, .tail _ hv, t⟩
theorem ThsAt.drop {H : Hp} : ∀ (k : Nat) {ds : List PyData} {vs : List V}, ThsAt H ds vs → ThsAt H (ds.drop k) (vs.drop k)
  | 0, _, _, h => h
  | k + 1, [], vs, h => by rw [ThsAt] at h; subst h; rw [List.drop_nil, List.drop_nil, ThsAt]
  | k + 1, d :: ds, vs, h => by
    rw [ThsAt] at h
    obtain ⟨y, zs, rfl, h1, h2⟩ := h
    exact ThsAt.drop k h2
theorem ThsAt.take {H : Hp} : ∀ (k : Nat) {ds : List PyData} {vs : List V}, ThsAt H ds vs → ThsAt H (ds.take k) (vs.take k)
  | 0, _, _, h => by rw [List.take_zero, List.take_zero, ThsAt]
  | k + 1, [], vs, h => by rw [ThsAt] at h; subst h; rw [List.take_nil, List.take_nil, ThsAt]
  | k + 1, d :: ds, vs, h => by
    rw [ThsAt] at h
    obtain ⟨y, zs, rfl, h1, h2⟩ := h
    rw [List.take_succ_cons, List.take_succ_cons, ThsAt]
    exact ⟨_, _, rfl, h1, ThsAt.take k h2⟩
theorem ThsAt.rev {H : Hp} : ∀ {ds : List PyData} {vs : List V}, ThsAt H ds vs → ThsAt H ds.reverse vs.reverse
  | [], vs, h => by rw [ThsAt] at h; subst h; rw [List.reverse_nil, List.reverse_nil, ThsAt]
  | d :: ds, vs, h => by
    rw [ThsAt] at h
    obtain ⟨y, zs, rfl, h1, h2⟩ := h
    rw [List.reverse_cons, List.reverse_cons]
    exact (ThsAt.rev h2).app (by rw [ThsAt]; exact ⟨_, _, rfl, h1, by rw [ThsAt]⟩)
theorem ThAt.lst {H : Hp} {a : Addr} {ds : List PyData} {vs : List V} (h : H a = some (.lst vs)) (t : ThsAt H ds vs) : ThAt H (.list ds) (.ref a) := by rw [ThAt]; exact ⟨a, vs, rfl, h, t⟩
theorem ThAt.list_inv {H : Hp} {a : Addr} {ds : List PyData} {vs : List V} (h : H a = some (.lst vs)) (t : ThAt H (.list ds) (.ref a)) : ThsAt H ds vs := by
  rw [ThAt] at t
  obtain ⟨b, us, e, h1, h2⟩ := t
  cases e
  rw [h] at h1; cases h1
  exact h2
theorem ref_list {H : Hp} {a : Addr} {d : PyData} {vs : List V} (h : H a = some (.lst vs)) (t : ThAt H d (.ref a)) : ∃ ds, d = .list ds ∧ ThsAt H ds vs := by
  cases d with
  | list ds => exact ⟨ds, rfl, t.list_inv h⟩
  | tuple ds => rw [ThAt] at t; obtain ⟨b, us, e, h1, _⟩ := t; cases e; rw [h] at h1; cases h1
  | dict _ => rw [ThAt] at t; obtain ⟨_, b, e, h1⟩ := t; cases e; rw [h] at h1; cases h1
  | none => rw [ThAt] at t; cases t
  | bool _ => rw [ThAt] at t; cases t
  | int _ => rw [ThAt] at t; cases t
  | str _ => rw [ThAt] at t; cases t
theorem ref_tup {H : Hp} {a : Addr} {d : PyData} {vs : List V} (h : H a = some (.tup vs)) (t : ThAt H d (.ref a)) : ∃ ds, d = .tuple ds ∧ ThsAt H ds vs := by
  cases d with
  | tuple ds => rw [ThAt] at t; obtain ⟨b, us, e, h1, h2⟩ := t; cases e; rw [h] at h1; cases h1; exact ⟨ds, rfl, h2⟩
  | list ds => rw [ThAt] at t; obtain ⟨b, us, e, h1, _⟩ := t; cases e; rw [h] at h1; cases h1
  | dict _ => rw [ThAt] at t; obtain ⟨_, b, e, h1⟩ := t; cases e; rw [h] at h1; cases h1
  | none => rw [ThAt] at t; cases t
  | bool _ => rw [ThAt] at t; cases t
  | int _ => rw [ThAt] at t; cases t
  | str _ => rw [ThAt] at t; cases t
section
variable {w : View} {Γ : Cxt} {te ta tb : TE} {K : PySem.W.Frag} {k n m k' n' m' lo hi lo' hi' s : Nat} {i j : Int} {P P' : PyData → Bool} {d e : PyData}
theorem Tp.sQ (h : Tp w Γ te (tyS k n s)) (hP : ∀ d, shT d = s → P d = true) (hk : k ≤ k' := by decide) (hn : n ≤ n' := by decide) : Tp w Γ te (tyQ k' n' P) := h.sub fun G v ⟨d, a, f, p⟩ => ⟨d, a, f.le hk hn, hP d p⟩
theorem Th.sh {G : Hp} {v : V} (t : Th G k n v) (h : ∀ d, ThAt G d v → shT d = s) : (tyS k n s).p G v := let ⟨d, a, f⟩ := t; ⟨d, a, f, h d a⟩
theorem Tp.nonS : Tp w Γ (tC .non) (tyS 0 0 0) := fun σ H Q o f q => q _ H o (Same.refl _) (Th.non.sh fun d t => by rw [t.uniq (e := .none) (by rw [ThAt])]; rfl)
theorem Tp.blS {b : Bool} : Tp w Γ (tC (.bl b)) (tyS 0 0 1) := fun σ H Q o f q => q _ H o (Same.refl _) (Th.bl.sh fun d t => by rw [t.uniq (e := .bool b) (by rw [ThAt])]; rfl)
theorem Tp.strS {x : Str} (h : (x.cps.toList.all fun c => decide (c < 16 ^ 8)) = true) (hn : x.cps.size ≤ 100) : Tp w Γ (tC (.str x)) (tyS 0 100 3) := fun σ H Q o f q => q _ H o (Same.refl _) ((Th.str h hn).sh fun d t => by rw [t.uniq (e := .str x) (by rw [ThAt])]; rfl)
theorem Tp.lS (h : Tp w Γ te (tyL k n lo hi)) : Tp w Γ te (tyS (k + 1) ((n + 1) * hi) 4) := h.sub fun G v ⟨a, vs, e, h1, _, h2, h3⟩ => by
  rw [e]; exact (Th.lst h1 h3 (Nat.mul_le_mul_left _ h2)).sh fun d t => by obtain ⟨_, rfl, _⟩ := ref_list h1 t; rfl
theorem Tp.empS : Tp w Γ tDNewK (tyS 1 0 6) := fun σ H Q o f q p hp => by
  obtain ⟨o2, s2, e2⟩ := w.new (.dK []) o hp
  exact q (.ref p) _ o2 s2 ⟨.dict [], by rw [ThAt]; exact ⟨rfl, p, rfl, e2⟩, Th.fit (Th.emp e2 (Nat.le_refl _)) (by rw [ThAt]; exact ⟨rfl, p, rfl, e2⟩), rfl⟩
theorem Tp.tupQ {t : TA} (h : TpA w Γ t k n m) (hP : ∀ ds : List PyData, ds.length = m → P (.tuple ds) = true) (hk : k + 1 ≤ k' := by decide) (hn : (n + 1) * m ≤ n' := by decide) (hm : m ≤ 10000 := by decide) : Tp w Γ (tTup t) (tyQ k' n' P) := fun σ H Q o f q => h σ H _ o f fun vs H1 o1 s1 e1 t1 => ⟨small_line (by rw [e1]; exact hm), fun p hp => by
  obtain ⟨o2, s2, e2⟩ := w.new (.tup vs) o1 hp
  exact q (.ref p) _ o2 (s1.trans s2) (((Th.tup e2 (fun u hu => (t1 u hu).same s2) (by rw [e1]; exact Nat.le_refl _)).le hk hn).q fun d t => by
    obtain ⟨ds, rfl, hd⟩ := ref_tup e2 t
    exact hP ds (by rw [← hd.len, e1]))⟩
theorem Tp.tupOfS (h : Tp w Γ te (tyL k n lo hi)) : Tp w Γ (tCB (fun xs H Q => ∃ p ys, xs = [.ref p] ∧ ((SqL K H p ys ∧ ∀ l, H l = none → Q (.ref l) (upd H l (.tup ys))) ∨ (SqT K H p ys ∧ Q (.ref p) H))) (tCons te tNil)) (tyS (k + 1) ((n + 1) * hi) 5) := fun σ H Q o f q => h σ H _ o f fun v H1 o1 s1 ⟨a, vs, e1, g1, l1, m1, r1⟩ => ⟨a, vs, by rw [e1], .inl ⟨SqL.of (w.out g1), fun p hp => by
  obtain ⟨o4, s4, e4⟩ := w.new (.tup vs) o1 hp
  exact q (.ref p) _ o4 (s1.trans s4) ((Th.tup e4 (fun u hu => (r1 u hu).same s4) (Nat.mul_le_mul_left _ m1)).sh fun d t => by obtain ⟨_, rfl, _⟩ := ref_tup e4 t; rfl)⟩⟩
theorem Tp.lenQ (h : Tp w Γ te (tyL k n lo hi)) (hP : ∀ ds : List PyData, lo ≤ ds.length → ds.length ≤ hi → P (.list ds) = true) (hk : k + 1 ≤ k' := by decide) (hn : (n + 1) * hi ≤ n' := by decide) : Tp w Γ te (tyQ k' n' P) := h.sub fun G v ⟨a, vs, e, h1, l1, h2, h3⟩ => by
  rw [e]; exact ((Th.lst h1 h3 (Nat.mul_le_mul_left _ h2)).le hk hn).q fun d t => by
    obtain ⟨ds, rfl, hd⟩ := ref_list h1 t
    exact hP ds (by rw [← hd.len]; exact l1) (by rw [← hd.len]; exact h2)
theorem Tp.oneX (h : Tp w Γ te (tyQ k n P)) : Tp w Γ (tLst (tCons te tNil)) (tyLx k n 1 1 P) := fun σ H Q o f q => h σ H _ o f fun v H1 o1 s1 t1 => ⟨small_line (by simp), fun p hp => by
  obtain ⟨o2, s2, e2⟩ := w.new (.lst [v]) o1 hp
  have t2 := (tyQ k n P).mo s2 t1
  exact q (.ref p) _ o2 (s1.trans s2) ⟨p, [v], rfl, e2, Nat.le_refl _, Nat.le_refl _, fun u hu => by rw [List.mem_singleton.mp hu]; exact tyQ.th t2, v, .head _, t2⟩⟩
theorem Tp.catXr (ha : Tp w Γ ta (tyL k n lo hi)) (hb : Tp w Γ tb (tyLx k n lo' hi' P)) (hm : hi + hi' ≤ 10000 := by decide) : Tp w Γ (tOp rCat ta tb) (tyLx k n (lo + lo') (hi + hi') P) := fun σ H Q o f q => ha σ H _ o f fun v H1 o1 s1 t1 => hb σ H1 _ o1 (f.same s1) fun u H2 o2 s2 t2 => by
  obtain ⟨a, vs, e1, g1, l1, m1, r1⟩ := (tyL k n lo hi).mo s2 t1
  obtain ⟨b, us, e2, g2, l2, m2, r2, y, hy, ty⟩ := t2
  refine ⟨a, b, vs, us, e1, e2, w.out g1, w.out g2, small_line (Nat.le_trans (Nat.add_le_add m1 m2) hm), fun p hp => ?_⟩
  obtain ⟨o3, s3, e3⟩ := w.new (.lst (vs ++ us)) o2 hp
  refine q (.ref p) _ o3 (s1.trans (s2.trans s3)) ⟨p, _, rfl, e3, by rw [List.length_append]; omega, by rw [List.length_append]; omega, fun x hx => ?_, y, List.mem_append_right _ hy, (tyQ k n P).mo s3 ty⟩
  rcases List.mem_append.mp hx with hx | hx
  · exact Th.same (r1 x hx) s3
  · exact (r2 x hx).same s3
theorem Tp.catXl (ha : Tp w Γ ta (tyLx k n lo hi P)) (hb : Tp w Γ tb (tyL k n lo' hi')) (hm : hi + hi' ≤ 10000 := by decide) : Tp w Γ (tOp rCat ta tb) (tyLx k n (lo + lo') (hi + hi') P) := fun σ H Q o f q => ha σ H _ o f fun v H1 o1 s1 t1 => hb σ H1 _ o1 (f.same s1) fun u H2 o2 s2 t2 => by
  obtain ⟨a, vs, e1, g1, l1, m1, r1, y, hy, ty⟩ := (tyLx k n lo hi P).mo s2 t1
  obtain ⟨b, us, e2, g2, l2, m2, r2⟩ := t2
  refine ⟨a, b, vs, us, e1, e2, w.out g1, w.out g2, small_line (Nat.le_trans (Nat.add_le_add m1 m2) hm), fun p hp => ?_⟩
  obtain ⟨o3, s3, e3⟩ := w.new (.lst (vs ++ us)) o2 hp
  refine q (.ref p) _ o3 (s1.trans (s2.trans s3)) ⟨p, _, rfl, e3, by rw [List.length_append]; omega, by rw [List.length_append]; omega, fun x hx => ?_, y, List.mem_append_left _ hy, (tyQ k n P).mo s3 ty⟩
  rcases List.mem_append.mp hx with hx | hx
  · exact (r1 x hx).same s3
  · exact Th.same (r2 x hx) s3
theorem Tp.lxQ (h : Tp w Γ te (tyLx k n lo hi P)) (hP : ∀ (ds : List PyData) d, d ∈ ds → P d = true → P' (.list ds) = true) (hk : k + 1 ≤ k' := by decide) (hn : (n + 1) * hi ≤ n' := by decide) : Tp w Γ te (tyQ k' n' P') := h.sub fun G v ⟨a, vs, e, h1, l1, h2, h3, y, hy, dy, ty, fy, py⟩ => by
  rw [e]; exact ((Th.lst h1 h3 (Nat.mul_le_mul_left _ h2)).le hk hn).q fun d t => by
    obtain ⟨ds, rfl, hd⟩ := ref_list h1 t
    obtain ⟨d2, hd2, t2⟩ := hd.mem hy
    exact hP ds d2 hd2 (by rw [t2.uniq ty]; exact py)
theorem Tp.leL (h : Tp w Γ te (tyL k n lo hi)) (hk : k ≤ k' := by decide) (hn : n ≤ n' := by decide) : Tp w Γ te (tyL k' n' lo hi) := h.wideL (fun _ _ t => Th.le t hk hn) (Nat.le_refl _) (Nat.le_refl _)
theorem Tp.dQ (h : Tp w Γ te (tyD d)) (f : Fit k n d) (hP : P d = true) : Tp w Γ te (tyQ k n P) := h.sub fun G v t => ⟨d, t, f, hP⟩
theorem Tp.intD : Tp w Γ (tC (.int i)) (tyD (.int i)) := fun σ H Q o f q => q _ H o (Same.refl _) (by show ThAt _ _ _; rw [ThAt])
theorem Tp.ofID (h : Tp w Γ te (tyI i i)) : Tp w Γ te (tyD (.int i)) := h.sub fun G v ⟨x, e, a, b⟩ => by
  show ThAt _ _ _
  rw [ThAt, e, show x = i by omega]
def TpD (w : View) (Γ : Cxt) (ta : TA) (ds : List PyData) : Prop := ∀ (σ : St) (H : Hp) (Q : List V → Hp → Prop), w.ok H → Fits Γ (w.v H) σ → (∀ vs H', w.ok H' → Same (w.v H) (w.v H') → ThsAt (w.v H') ds vs → Q vs H') → ta σ H Q
theorem ThsAt.same' {G G' : Hp} {ds : List PyData} {vs : List V} (h : ThsAt G ds vs) (m : Same G G') : ThsAt G' ds vs := ThsAt.same m h
theorem TpD.nil : TpD w Γ tNil [] := fun σ H Q o f q => q [] H o (Same.refl _) (by rw [ThsAt])
theorem TpD.cons {t : TA} {ds : List PyData} (h : Tp w Γ te (tyD d)) (ht : TpD w Γ t ds) : TpD w Γ (tCons te t) (d :: ds) := fun σ H Q o f q => h σ H _ o f fun v H1 o1 s1 t1 => ht σ H1 _ o1 (f.same s1) fun vs H2 o2 s2 t2 => q (v :: vs) H2 o2 (s1.trans s2) (by rw [ThsAt]; exact ⟨_, _, rfl, ThAt.same s2 t1, t2⟩)
theorem Tp.lstD {t : TA} {ds : List PyData} (h : TpD w Γ t ds) (hm : ds.length ≤ 10000 := by first | decide | simp) : Tp w Γ (tLst t) (tyD (.list ds)) := fun σ H Q o f q => h σ H _ o f fun vs H1 o1 s1 t1 => ⟨small_line (by rw [t1.len]; exact hm), fun p hp => by
  obtain ⟨o2, s2, e2⟩ := w.new (.lst vs) o1 hp
  exact q (.ref p) _ o2 (s1.trans s2) (ThAt.lst e2 (t1.same' s2))⟩
theorem Tp.revD {ds : List PyData} (h : Tp w Γ te (tyD (.list ds))) : Tp w Γ (rRevS K te) (tyD (.list ds.reverse)) := fun σ H Q o f q => h σ H _ o f fun v H1 o1 s1 t1 => by
  have t1 : ThAt (w.v H1) (.list ds) v := t1
  rw [ThAt] at t1
  obtain ⟨a, vs, e1, g1, r1⟩ := t1
  refine ⟨a, vs, e1, SqL.of (w.out g1), fun p hp => ?_⟩
  obtain ⟨o3, s3, e3⟩ := w.new (.lst vs.reverse) o1 hp
  exact q (.ref p) _ o3 (s1.trans s3) (ThAt.lst e3 (ThsAt.rev (r1.same' s3)))
theorem Tp.dL {ds : List PyData} (h : Tp w Γ te (tyD (.list ds))) (f : ∀ d ∈ ds, Fit k n d) : Tp w Γ te (tyL k n ds.length ds.length) := h.sub fun G v t => by
  have t : ThAt G (.list ds) v := t
  rw [ThAt] at t
  obtain ⟨a, vs, e, h1, h2⟩ := t
  refine ⟨a, vs, e, h1, by rw [h2.len]; exact Nat.le_refl _, by rw [h2.len]; exact Nat.le_refl _, fun u hu => ?_⟩
  obtain ⟨d, hd, td⟩ := h2.mem hu
  exact ⟨d, td, f d hd⟩
theorem Tp.tup2 {tx ty : TE} (hx : Tp w Γ tx (tyQ k n P)) (hy : Tp w Γ ty (tyQ k n P')) {R : PyData → Bool} (hP : ∀ d e, P d = true → P' e = true → R (.tuple [d, e]) = true) (hk : k + 1 ≤ k' := by decide) (hn : (n + 1) * 2 ≤ n' := by decide) : Tp w Γ (tTup (tCons tx (tCons ty tNil))) (tyQ k' n' R) := fun σ H Q o f q => hx σ H _ o f fun x H1 o1 s1 t1 => hy σ H1 _ o1 (f.same s1) fun y H2 o2 s2 t2 => ⟨small_line (by simp), fun p hp => by
  obtain ⟨o4, s4, e4⟩ := w.new (.tup [x, y]) o2 hp
  obtain ⟨d, td, fd, pd⟩ := (tyQ k n P).mo (s2.trans s4) t1
  obtain ⟨e, te, fe, pe⟩ := (tyQ k n P').mo s4 t2
  refine q (.ref p) _ o4 ((s1.trans s2).trans s4) (((Th.tup (n' := (n + 1) * 2) e4 (fun u hu => ?_) (Nat.le_refl _)).le hk hn).q fun dd t => ?_)
  · simp only [List.mem_cons, List.not_mem_nil, or_false] at hu
    rcases hu with rfl | rfl
    · exact ⟨d, td, fd⟩
    · exact ⟨e, te, fe⟩
  · obtain ⟨ds, rfl, hd⟩ := ref_tup e4 t
    have : ds = [d, e] := hd.uniq (by rw [ThsAt]; exact ⟨_, _, rfl, td, by rw [ThsAt]; exact ⟨_, _, rfl, te, by rw [ThsAt]⟩⟩)
    rw [this]; exact hP d e pd pe⟩
theorem TpS.nil {TR : Ty} : TpS w Γ tNext Γ TR := fun D σ H o f qn qr => qn σ H o (Same.refl _) f
theorem TpS.post {t : TS} {Γ1 Γ2 : Cxt} {TR : Ty} (h : TpS w Γ t Γ1 TR) (c : CSub Γ1 Γ2) : TpS w Γ t Γ2 TR := fun D σ H o f qn qr => h D σ H o f (fun σ' H' o' s' f' => qn σ' H' o' s' (c.fits f')) qr
end
end L2
set_option Elab.async false
set_option linter.all false
set_option maxRecDepth 100000
namespace L2
open PySem PySem.Spec PyProof.Rows
section
variable {w : View} {Γ : Cxt} {te ta tb : TE} {lo hi lo' hi' : Nat} {i j i' j' : Int} {K : PySem.W.Frag}
end
end L2
set_option Elab.async false
set_option linter.all false
set_option maxRecDepth 100000
namespace L2
open PySem PySem.Spec PyProof.Rows
section
variable {X : Cx}
theorem strs_of : ∀ {ts : List Str} {its : List Value}, Vals (ts.map V.str) its → ∃ l : List (Str × Tok), its = strValues l ∧ l.map (·.1) = ts
  | [], its, h => by
    cases h
    exact ⟨[], rfl, rfl⟩
  | x :: ts, its, h => by
    cases h with
    | cons h1 h2 =>
      obtain ⟨t, rfl⟩ := h1
      obtain ⟨l, rfl, hl⟩ := strs_of h2
      exact ⟨(x, t) :: l, rfl, by rw [List.map_cons, hl]⟩
theorem vals_strs : ∀ l : List (Str × Tok), Vals ((l.map (·.1)).map V.str) (strValues l)
  | [] => .nil
  | p :: l => .cons ⟨p.2, rfl⟩ (vals_strs l)
def rJoin (K : PySem.W.Frag) : V → List V → Hp → VK → Prop := fun x vs H Q => ∃ (z : Str) (a : Addr) (ts : List Str), x = .str z ∧ vs = [.ref a] ∧ SqL K H a (ts.map V.str) ∧ JoinOk z ts = true ∧ Q (.str (Txt.join z ts)) H
theorem mt_join : MtM X "str.join" (rJoin X.K) := by
  intro pins s σ H x vs v us Q I rx rv h
  obtain ⟨z, a, ts, rfl, rfl, hq, hok, q⟩ := h
  obtain ⟨t, rfl⟩ := rx
  obtain ⟨u0, rfl, ru⟩ := Vals.one rv
  cases ru
  obtain ⟨its, r, pl, hz⟩ := I.list hq
  obtain ⟨l, rfl, hl⟩ := strs_of r
  exact SC.join pl.isList hl hok fun t' k => ⟨.str (Txt.join z ts), H, I.tok k, ⟨t', rfl⟩, q⟩
theorem k_join (K : PySem.W.Frag) (e : X.K = K := by rfl) : MtM X "str.join" (rJoin K) := by subst e; exact mt_join
def rSplit : V → List V → Hp → VK → Prop := fun x vs H Q => ∃ z y : Str, x = .str z ∧ vs = [.str y] ∧ y.length ≠ 0 ∧ z.length + 2 ≤ sizeLine ∧ ∀ p, H p = none → Q (.ref p) (upd H p (.lst ((Txt.split z y).map V.str)))
theorem new_strs {pins : List (Addr × Obj)} {σ : St} {H : Hp} {s : Shared} (I : Inv X pins σ H s) (l : List (Str × Tok)) (hl : l.length ≤ sizeLine) (k : Nat) {Q : VK} (q : ∀ p, H p = none → Q (.ref p) (upd H p (.lst ((l.map (·.1)).map V.str)))) :
    EP X pins σ Q (.ref s.heap.objs.size) { s with toks := k, heap := s.heap.push { cls := .type "list", data := .seq (strValues l).toArray } } := by
  refine ⟨.ref s.heap.objs.size, _, I.laid (a := s.heap.objs.size) (o := .lst ((l.map (·.1)).map V.str)) (t' := k) (fun b o e => Heap.get?_push_of_some _ e) (Nat.le_refl _) ⟨by rw [List.length_map, List.length_map]; exact hl, strValues l, 0, vals_strs l, by rw [Heap.get?_push_size _ rfl]⟩, rfl, q _ (I.hok.fresh (Nat.le_refl _))⟩
theorem mt_split : MtM X "str.split" rSplit := by
  intro pins s σ H x vs v us Q I rx rv h
  obtain ⟨z, y, rfl, rfl, hy, hz, q⟩ := h
  obtain ⟨t, rfl⟩ := rx
  obtain ⟨u0, rfl, ru⟩ := Vals.one rv
  obtain ⟨u, rfl⟩ := ru
  have hy' : (y.length == 0) = false := by simpa using hy
  have hn : (Builtin.Str.partsBetween z (Builtin.Str.occurrences z y 0 z.length (z.length + 1)) y.length).length ≤ sizeLine := by
    have e1 := StrLaws.occ_length_le z y 0 z.length (z.length + 1)
    rw [length_partsBetween]; omega
  have one : Txt.split z y = [z] → ∀ k, EP X pins σ Q (.ref s.heap.objs.size) { s with toks := k, heap := s.heap.push { cls := .type "list", data := .seq (strValues [(z, t)]).toArray } } := fun e k => by
    rw [e] at q
    exact new_strs I [(z, t)] (by show 1 ≤ sizeLine; decide) k q
  cases h1 : (decide (z.length < y.length) || decide (Builtin.Str.strKind z < Builtin.Str.strKind y)) with
  | true => exact call_meets F.slot_str_split (typeIs_str _ _ _) F.entry_str_split (F.args_str_split_2 _ _) (meets_str_split_cannot_occur z y t u h1) (one (if_pos h1) s.toks)
  | false =>
    cases hf : (Builtin.Str.occurrences z y 0 z.length (z.length + 1)).isEmpty with
    | true => exact call_meets F.slot_str_split (typeIs_str _ _ _) F.entry_str_split (F.args_str_split_2 _ _) (meets_str_split_not_found z y t u h1 hy' hf) (one ((if_neg (ne_true_of_eq_false h1)).trans (if_pos hf)) s.toks)
    | false =>
      refine call_meets F.slot_str_split (typeIs_str _ _ _) F.entry_str_split (F.args_str_split_2 _ _) (meets_str_split_sep z y t u h1 hy' hf (by omega) hn) ?_
      rw [strsFrom_eq]
      have e0 : Txt.split z y = Builtin.Str.partsBetween z (Builtin.Str.occurrences z y 0 z.length (z.length + 1)) y.length := (if_neg (ne_true_of_eq_false h1)).trans (if_neg (ne_true_of_eq_false hf))
      have e := (numbered_texts s.toks (Builtin.Str.partsBetween z (Builtin.Str.occurrences z y 0 z.length (z.length + 1)) y.length)).trans e0.symm
      have el := congrArg List.length (numbered_texts s.toks (Builtin.Str.partsBetween z (Builtin.Str.occurrences z y 0 z.length (z.length + 1)) y.length))
      rw [List.length_map] at el
      refine new_strs I _ (by rw [el]; exact hn) _ fun p hp => ?_
      have := q p hp
      rwa [show Txt.split z y = _ from e.symm] at this
def rIndexS : V → List V → Hp → VK → Prop := fun x vs H Q => ∃ (z y : Str) (i : Nat) (rest : List Nat), x = .str z ∧ vs = [.str y] ∧ Builtin.Str.occurrences z y 0 z.length 1 = i :: rest ∧ Q (.int i) H
theorem mt_indexS : MtM X "str.index" rIndexS := by
  intro pins s σ H x vs v us Q I rx rv h
  obtain ⟨z, y, i, rest, rfl, rfl, ho, q⟩ := h
  obtain ⟨t, rfl⟩ := rx
  obtain ⟨u0, rfl, ru⟩ := Vals.one rv
  obtain ⟨u, rfl⟩ := ru
  exact call_gives F.slot_str_index (typeIs_str _ _ _) F.entry_str_index (F.args_str_index_2 _ _) (gives_str_index z y t u i rest ho) ⟨.int i, H, I.tok _, ⟨_, rfl⟩, q⟩
def rInS : R2 := fun x y H Q => ∃ u v : Str, x = .str u ∧ y = .str v ∧ Q (.bl (!(Builtin.Str.occurrences v u 0 v.length 1).isEmpty)) H
theorem op_inS : OpR X (compareOp .In) rInS := by
  intro pins s σ H x y u v Q I rx ry h
  obtain ⟨a, b, rfl, rfl, q⟩ := h
  obtain ⟨t, rfl⟩ := rx
  obtain ⟨t', rfl⟩ := ry
  exact P.in_str ⟨.bl _, H, I, rfl, q⟩
def rStrI : List V → Hp → VK → Prop := fun xs H Q => ∃ i : Int, xs = [.int i] ∧ i.natAbs.log2 < 1920 ∧ Q (.str (toString i)) H
theorem call_strI : CallR X (.type "str") rStrI := by
  intro pins s σ H xs us Q I r h
  obtain ⟨i, rfl, hi, q⟩ := h
  obtain ⟨u, rfl, ru⟩ := Vals.one r
  obtain ⟨t, rfl⟩ := ru
  exact P.str_of_int hi ⟨.str (toString i), H, I.tok _, ⟨_, rfl⟩, q⟩
end
def Its (z : Str) : It := ⟨fun i _ => i < z.cps.size, fun i H v H' => (∃ c, z.cps[i]? = some c ∧ v = .str ⟨#[c]⟩) ∧ H' = H, fun i _ => z.cps.size ≤ i⟩
theorem turn_str {P : Program} {w : World} {K : PySem.W.Frag} {tg : Expr} (z : Str) (t : Tok) (it : Addr) : Turn P w K tg (Its z) [it] it (fun i h => h.IsStrIter it "str_ascii_iterator" z t i) where
  mem := by simp
  obj := fun i h st b hb => by
    have e : b = it := by simpa using hb
    subst e
    obtain ⟨o, e, c, d⟩ := st
    exact ⟨o, e, fun v z => by rw [d] at z; cases z⟩
  keep := fun i h h' st k => by
    obtain ⟨o, e, r⟩ := st
    exact ⟨o, k it (by simp) o e, r⟩
  item := by
    intro X hP hw hK hc i pins s σ H E I hf st hg
    subst hP hw hK
    obtain ⟨f0, f1, f2, f3, f4, f5⟩ := hf it (by simp)
    have hx : z.cps[i]? = some z.cps[i] := Array.getElem?_eq_getElem hg
    refine wpAny_pyNext_ascii_item st hx fun h' st' sb => ?_
    have I1 : Inv X pins σ H { s with heap := h', toks := s.toks + 1 } := I.turned (t' := s.toks + 1) (fun b o hb e => (sb.2 b hb).trans e) f0 f1 f3 f4 f5
    obtain ⟨o, e, c, d⟩ := id st'
    exact ⟨_, rfl, go_of (s := { s with heap := h', toks := s.toks + 1 }) e c d (by decide) ⟨.str ⟨#[z.cps[i]]⟩, H, I1, ⟨_, rfl⟩, ⟨⟨_, hx, rfl⟩, rfl⟩, st', fun b hb => (hf b hb).1⟩⟩
  done := by
    intro X hP hw hK hc i pins s σ H E I hf st hg
    subst hP hw hK
    obtain ⟨f0, f1, f2, f3, f4, f5⟩ := hf it (by simp)
    have hg' : z.cps.size ≤ i := hg
    exact wpAny_pyNext_ascii_end (I.ok.hd hc) st (by simpa using hg') fun h' eb => ⟨rfl, I.turned (t' := s.toks) (fun b o hb e => eb b o hb e) f0 f1 f3 f4 f5⟩
  self := fun _ _ _ _ _ st h => wpAny_pyIter_striter_ascii st h
section
variable {X : Cx} {tg : Expr}
def iStr (tl : TE) : TI := fun σ H R => tl σ H fun x H1 => ∃ z : Str, x = .str z ∧ z.cps.all (· < 128) = true ∧ R (Its z) H1
theorem pi_str {l : Expr} {tl : TE} (hl : PE X l tl) : PI X tg l (iStr tl) := by
  intro pins s σ H R I h
  refine thn (hl pins s σ H _ I h) fun v s1 ⟨x, H1, I1, r1, q1⟩ => ?_
  obtain ⟨z, rfl, ha, q⟩ := q1
  obtain ⟨t, rfl⟩ := r1
  refine wpAny_pyIter_ascii ha ?_
  refine ⟨s1.heap.objs.size, [s1.heap.objs.size], _, _, H1, rfl, I1.kept (t' := s1.toks) fun b o e => Heap.get?_push_of_some _ e, turn_str z t _, ⟨_, Heap.get?_push_size _ rfl, rfl, rfl⟩, fun b hb => ?_, q⟩
  have e : b = s1.heap.objs.size := by simpa using hb
  subst e
  exact I1.fpOk (Nat.le_refl _) (I1.hok.fresh (Nat.le_refl _))
end
section
variable {X : Cx} {o e : Expr} {es : List Expr} {to : TE} {t : TA} {name : Str} {apos cpos : Pos} {T id : String} {r : V → List V → Hp → VK → Prop}
theorem k_bm (K : PySem.W.Frag) (pa : PlainAttrs T) (slot : Slot T name id) (hty : typeOf (.builtin id) = pure (.type "method_descriptor")) (hm : MtM X id r) (ho : PE X o to) (ha : PA X (e :: es) t)
    (hk : X.K = K := by rfl) (hbase : attributeBase o name X.env (eval o X.env) = eval o X.env := by rfl)
    (hfew : ((backTo cpos (starEach (e :: es) X.env)).all (fun x => !x.1) && (backToKw cpos (keywordEach [] X.env)).all (fun x => x.1.isSome)
      && decide ((e :: es).length + ([] : List Keyword).length + (if ([] : List Keyword).isEmpty then 0 else 1) < 30)) = true := by rfl)
    (hline : (apos.endLine == cpos.line) = true := by rfl) (hs : starEach (e :: es) X.env = (false, eval e X.env) :: starEach es X.env := by rfl) (hplain : (backTo cpos (starEach es X.env)).any (·.1) = false := by rfl) :
    PE X (.Call (.Attribute o name apos) (e :: es) [] cpos) (tBM K T r to t) := by
  subst hk
  exact pe_bm pa slot hty hm ho ha hbase hfew hline hs hplain
end
theorem comp_str {z : Str} {js : List Nat} {tt : TT} {te : TE} {σ : St} {H : Hp} {Q : VK} (Pv : Nat → List V → Hp → Prop) (h0 : Pv 0 [] H)
    (hs : ∀ i c ys H, z.cps[i]? = some c → Pv i ys H → ys.length < sizeLine ∧ tt (some (.str ⟨#[c]⟩) :: capt js σ) H fun b H2 => if b = true then te (some (.str ⟨#[c]⟩) :: capt js σ) H2 fun v H3 => Pv (i + 1) (ys ++ [v]) H3 else Pv (i + 1) ys H2)
    (hd : ∀ ys H, Pv z.cps.size ys H → ∀ D, H D = none → Q (.ref D) (upd H D (.lst ys))) :
    CompLoop (Its z) js tt te σ Q H := by
  refine ⟨fun i m ys H => m = z.cps.size - i ∧ i ≤ z.cps.size ∧ Pv i ys H, ⟨z.cps.size, by simp, Nat.zero_le _, h0⟩, ?_⟩
  rintro i m ys H ⟨rfl, hi, p⟩
  by_cases hlt : i < z.cps.size
  · have hx : z.cps[i]? = some z.cps[i] := Array.getElem?_eq_getElem hlt
    obtain ⟨hz, hst⟩ := hs i _ ys H hx p
    refine .inr ⟨hlt, hz, Pv (i + 1), fun ys' H' p' => ⟨z.cps.size - (i + 1), by omega, rfl, hlt, p'⟩, fun x H' y => ?_⟩
    obtain ⟨⟨c, hc, rfl⟩, rfl⟩ := y
    rw [hx] at hc
    cases hc
    exact hst
  · have e : i = z.cps.size := by omega
    subst e
    exact .inl ⟨Nat.le_refl _, hd ys H p⟩
end L2
set_option linter.all false
namespace Lw
def figs (b n : Nat) : List Int := if h : 2 ≤ b ∧ b ≤ n then figs b (n / b) ++ [((n % b : Nat) : Int)] else [(n : Int)]
termination_by n
decreasing_by exact Nat.div_lt_self (by omega) (by omega)
theorem figs_lt {b n : Nat} (h : n < b) : figs b n = [(n : Int)] := by
  rw [figs, dif_neg (by omega)]
theorem figs_ge {b n : Nat} (h2 : 2 ≤ b) (h : b ≤ n) : figs b n = figs b (n / b) ++ [((n % b : Nat) : Int)] := by
  rw [figs, dif_pos ⟨h2, h⟩]
def ahead (b r : Nat) : List Int := if r = 0 then [] else figs b r
theorem figs_step {b n : Nat} (h2 : 2 ≤ b) : figs b n = ahead b (n / b) ++ [((n % b : Nat) : Int)] := by
  unfold ahead
  by_cases h : n < b
  · rw [figs_lt h, if_pos (Nat.div_eq_of_lt h), Nat.mod_eq_of_lt h]; rfl
  · rw [figs_ge h2 (by omega), if_neg]
    have := Nat.div_pos (a := n) (b := b) (by omega) (by omega)
    omega
theorem ahead_step {b r : Nat} (h2 : 2 ≤ b) (hr : 0 < r) : ahead b r = ahead b (r / b) ++ [((r % b : Nat) : Int)] := by
  rw [← figs_step h2]
  unfold ahead
  rw [if_neg (by omega)]
theorem figs_len {b : Nat} (h2 : 2 ≤ b) : ∀ (m n : Nat), n < 2 ^ m → (figs b n).length ≤ m + 1
  | 0, n, h => by rw [figs_lt (by simp at h; omega)]; simp
  | m + 1, n, h => by
    by_cases hn : n < b
    · rw [figs_lt hn]; simp
    · rw [figs_ge h2 (by omega), List.length_append, List.length_singleton]
      have h3 : n / b ≤ n / 2 := Nat.div_le_div_left h2 (by omega)
      have h4 : n / 2 < 2 ^ m := by rw [Nat.pow_succ] at h; omega
      have := figs_len h2 m (n / b) (by omega)
      omega
theorem figs_mem {b : Nat} (h2 : 2 ≤ b) : ∀ (n : Nat), ∀ f ∈ figs b n, 0 ≤ f ∧ f < b := by
  intro n
  induction n using Nat.strongRecOn with
  | _ n ih =>
    intro f hf
    by_cases hn : n < b
    · rw [figs_lt hn] at hf
      have : f = (n : Int) := by simpa using hf
      omega
    · rw [figs_ge h2 (by omega)] at hf
      rcases List.mem_append.mp hf with hf | hf
      · exact ih (n / b) (Nat.div_lt_self (by omega) (by omega)) f hf
      · have e : f = ((n % b : Nat) : Int) := by simpa using hf
        have := Nat.mod_lt n (show 0 < b by omega)
        omega
theorem figs_ne {b n : Nat} : figs b n ≠ [] := by
  rw [figs]
  split
  · simp
  · simp
end Lw
set_option linter.all false
namespace Lw
def numI (b : Int) (ns : List Int) : Int := ns.foldl (fun n f => n * b + f) 0
theorem numI_from (b : Int) : ∀ (ns : List Int) (n0 : Int), ns.foldl (fun n f => n * b + f) n0 = n0 * b ^ ns.length + numI b ns
  | [], n0 => by simp [numI]
  | f :: ns, n0 => by
    unfold numI
    rw [List.foldl_cons, List.foldl_cons, numI_from b ns, numI_from b ns (0 * b + f), List.length_cons, Int.pow_succ]
    rw [Int.zero_mul, Int.zero_add, Int.add_mul, Int.mul_assoc, Int.mul_comm b, Int.add_assoc]
theorem numI_cons (b f : Int) (ns : List Int) : numI b (f :: ns) = f * b ^ ns.length + numI b ns := by
  have := numI_from b (f :: ns) 0
  unfold numI at *
  rw [List.foldl_cons] at *
  rw [numI_from b ns (0 * b + f)]
  unfold numI
  rw [Int.zero_mul, Int.zero_add]
theorem numI_snoc (b f : Int) (ns : List Int) : numI b (ns ++ [f]) = numI b ns * b + f := by
  unfold numI; rw [List.foldl_append]; rfl
structure GoodFs (b : Nat) (ns : List Int) : Prop where
  ne : ns ≠ []
  len : ns.length ≤ 200
  fig : ∀ f ∈ ns, 0 ≤ f ∧ f < b
  first : ns.head? ≠ some 0 ∨ ns.length = 1
end Lw
set_option linter.all false
namespace Lw
theorem numI_bound {b : Nat} : ∀ (ns : List Int), (∀ f ∈ ns, 0 ≤ f ∧ f < b) → ∃ n : Nat, numI b ns = n ∧ n < b ^ ns.length
  | [], _ => ⟨0, rfl, by simp⟩
  | f :: ns, h => by
    obtain ⟨n, e, hn⟩ := numI_bound ns fun f hf => h f (List.mem_cons_of_mem _ hf)
    have hf := h f List.mem_cons_self
    obtain ⟨g, rfl⟩ := Int.eq_ofNat_of_zero_le hf.1
    refine ⟨g * b ^ ns.length + n, ?_, ?_⟩
    · rw [numI_cons, e]; push_cast; rfl
    · rw [List.length_cons, Nat.pow_succ]
      have h1 : g + 1 ≤ b := by omega
      have h2 : (g + 1) * b ^ ns.length ≤ b * b ^ ns.length := Nat.mul_le_mul_right _ h1
      rw [Nat.add_mul, Nat.one_mul] at h2
      rw [Nat.mul_comm (b ^ ns.length)]
      omega
end Lw
set_option linter.all false
namespace Lw
theorem numI_figs {b : Nat} (h2 : 2 ≤ b) : ∀ n : Nat, numI b (figs b n) = n := by
  intro n
  induction n using Nat.strongRecOn with
  | _ n ih =>
    by_cases h : n < b
    · rw [figs_lt h]; simp [numI]
    · rw [figs_ge h2 (by omega), numI_snoc, ih (n / b) (Nat.div_lt_self (by omega) (by omega))]
      have := Nat.div_add_mod n b
      have e : ((n / b : Nat) : Int) * (b : Int) + ((n % b : Nat) : Int) = ((n / b * b + n % b : Nat) : Int) := by push_cast; rfl
      rw [e, Nat.mul_comm, this]
theorem figs_head {b : Nat} (h2 : 2 ≤ b) : ∀ n : Nat, 0 < n → (figs b n).head? ≠ some 0 := by
  intro n
  induction n using Nat.strongRecOn with
  | _ n ih =>
    intro hn
    by_cases h : n < b
    · rw [figs_lt h]; simp; omega
    · rw [figs_ge h2 (by omega)]
      have q := ih (n / b) (Nat.div_lt_self hn (by omega)) (Nat.div_pos (by omega) (by omega))
      cases e : figs b (n / b) with
      | nil => exact absurd e figs_ne
      | cons x y => rw [e] at q; simpa using q
theorem figs_more {b n f : Nat} (h2 : 2 ≤ b) (hn : 0 < n) (hf : f < b) : figs b (n * b + f) = figs b n ++ [(f : Int)] := by
  have hge : b ≤ n * b + f := Nat.le_trans (Nat.le_mul_of_pos_left b hn) (Nat.le_add_right _ _)
  have e1 : (n * b + f) / b = n := by rw [Nat.mul_comm, Nat.mul_add_div (by omega), Nat.div_eq_of_lt hf]; rfl
  have e2 : (n * b + f) % b = f := by rw [Nat.mul_comm, Nat.mul_add_mod, Nat.mod_eq_of_lt hf]
  rw [figs_ge h2 hge, e1, e2]
theorem figs_numI {b : Nat} (h2 : 2 ≤ b) : ∀ (k : Nat) (st : List Int), st.length = k → st ≠ [] → (∀ f ∈ st, 0 ≤ f ∧ f < (b : Int)) → (st.head? ≠ some 0 ∨ st.length = 1) → ∃ n : Nat, numI b st = n ∧ figs b n = st ∧ (st.head? ≠ some 0 → 0 < n) := by
  intro k
  induction k with
  | zero => intro st hk ne; exact absurd (List.eq_nil_of_length_eq_zero hk) ne
  | succ k ih =>
    intro st hk ne hf h0
    obtain ⟨ini, x, rfl⟩ : ∃ ini x, st = ini ++ [x] := ⟨st.dropLast, st.getLast ne, (List.dropLast_concat_getLast ne).symm⟩
    have hx := hf x (by simp)
    obtain ⟨g, rfl⟩ := Int.eq_ofNat_of_zero_le hx.1
    cases hi : ini with
    | nil =>
      subst hi
      refine ⟨g, by simp [numI], by rw [figs_lt (by omega)]; rfl, fun h => ?_⟩
      have : (g : Int) ≠ 0 := by simpa using h
      omega
    | cons y ys =>
      have hne : ini ≠ [] := by rw [hi]; simp
      have hhead : ini.head? ≠ some 0 := by
        rcases h0 with h | h
        · rw [hi] at h ⊢; simpa using h
        · rw [hi] at h; simp at h
      obtain ⟨m, e1, e2, e3⟩ := ih ini (by simpa using hk) hne (fun f hm => hf f (by simp [hm])) (.inl hhead)
      have hm := e3 hhead
      rw [← hi]
      refine ⟨m * b + g, ?_, ?_, fun _ => ?_⟩
      · rw [numI_snoc, e1]; push_cast; rfl
      · rw [figs_more h2 hm (by omega), e2]
      · have := Nat.le_mul_of_pos_right m (show 0 < b by omega); omega
end Lw
set_option linter.all false
namespace Lw
open PySem
def cd (f : Nat) : Nat := if f < 10 then 48 + f else 87 + f
abbrev SIG : Str := "0123456789abcdef"
theorem signs_at : ∀ {f : Nat}, f < 16 → SIG.cps.toList[f]? = some (cd f) := by
  have h : ∀ f, f < 16 → SIG.cps.toList[f]? = some (cd f) := by decide +kernel
  exact fun {f} hf => h f hf
theorem cd_lt {f : Nat} (h : f < 16) : cd f < 128 := by unfold cd; split <;> omega
def txt (fs : List Int) : Str := ⟨(fs.map fun f => cd f.toNat).toArray⟩
theorem txt_list (fs : List Int) : (txt fs).cps.toList = fs.map fun f => cd f.toNat := by simp [txt]
theorem app_cps (a y : Str) : (a ++ y).cps.toList = a.cps.toList ++ y.cps.toList := Array.toList_append
def jl (sep : List Nat) : List (List Nat) → List Nat
  | [] => []
  | [x] => x
  | x :: y :: r => x ++ sep ++ jl sep (y :: r)
theorem join_cps (sep : Str) : ∀ xs : List Str, (Str.join sep xs).cps.toList = jl sep.cps.toList (xs.map fun x => x.cps.toList)
  | [] => rfl
  | [x] => rfl
  | x :: y :: r => by
    rw [Str.join, app_cps, app_cps, join_cps sep (y :: r)]
    · rfl
    · intro z; cases z
theorem jl_nil : ∀ xs : List (List Nat), jl [] xs = xs.flatten
  | [] => rfl
  | [x] => by rw [jl, List.flatten_cons, List.flatten_nil, List.append_nil]
  | x :: y :: r => by
    rw [jl, jl_nil (y :: r), List.append_nil]
    rfl
theorem str_ext {a b : Str} (h : a.cps.toList = b.cps.toList) : a = b := by
  apply Str.ext'
  exact Array.toList_inj.mp h
theorem flat_ones (fs : List Int) : ((fs.map fun f => (⟨#[cd f.toNat]⟩ : Str)).map fun x => x.cps.toList).flatten = fs.map fun f => cd f.toNat := by
  induction fs with
  | nil => rfl
  | cons x fs ih => rw [List.map_cons, List.map_cons, List.flatten_cons, ih]; rfl
theorem join_txt (fs : List Int) : Txt.join "" (fs.map fun f => (⟨#[cd f.toNat]⟩ : Str)) = txt fs := by
  apply str_ext
  rw [show Txt.join "" (fs.map fun f => (⟨#[cd f.toNat]⟩ : Str)) = _ from StrLaws.glued_eq_join _ _, join_cps, show (Str.cps "").toList = [] from by decide +kernel, jl_nil, flat_ones, txt_list]
theorem blank_is : ((" " : Str)) = ⟨#[32]⟩ := by decide +kernel
theorem txt_ascii {fs : List Int} (h : ∀ f ∈ fs, 0 ≤ f ∧ f < 16) : (txt fs).cps.all (· < 128) = true := by
  rw [← Array.all_toList, txt_list, List.all_eq_true]
  intro c hc
  obtain ⟨f, hf, rfl⟩ := List.mem_map.mp hc
  have := h f hf
  exact decide_eq_true (cd_lt (by omega))
theorem base_text : ∀ {b : Nat}, 2 ≤ b → b ≤ 16 → ((toString (b : Int) : String) : Str) = txt (figs 10 b) := by
  intro b h2 h16
  by_cases h : b < 10
  · rw [figs_lt h]
    have : ∀ b : Nat, b < 10 → ((toString (b : Int) : String) : Str) = txt [(b : Int)] := by decide +kernel
    exact this b h
  · rw [figs_ge (by decide) (by omega), figs_lt (by omega)]
    have : ∀ b : Nat, b < 17 → 10 ≤ b → ((toString (b : Int) : String) : Str) = txt ([((b / 10 : Nat) : Int)] ++ [((b % 10 : Nat) : Int)]) := by decide +kernel
    exact this b (by omega) (by omega)
end Lw
set_option Elab.async false
set_option linter.all false
set_option maxRecDepth 100000
namespace L2
open Lw
end L2
set_option Elab.async false
set_option linter.all false
set_option maxRecDepth 100000
namespace L2
open PySem PySem.Spec PyProof.Rows
def CtxAt (h : Heap) (e : Addr) (c : Value) : Prop := ∃ o fs, h.get? e = some o ∧ o.data = .fields fs ∧ fs[2]? = some c
section
variable {M : Model} {A : Around} {E : Value → Shared → Prop} {s : Shared} {B : Heap} {v : Env} {vr : List Env} {F e : Addr} {cl a b hd : Value} {nx : Bool} {Q : Unit → Shared → Prop}
abbrev tbO (hd : Value) (F : Addr) (pl : List Value) : Obj := { cls := .type "traceback", dict := none, data := .fields ([hd, .ref F, .none, rawInt F, .none] ++ (if pl.isEmpty then List.replicate 6 Value.none else pl)).toArray }
theorem ctx_entry {o : Obj} {fs : Array Value} (q1 : A.frames = some (v :: vr)) (q2 : s.heap.FunFrames B (v :: vr)) (q3 : v.frame = some F) (q4 : s.heap.get? e = some o) (q5 : B.StaysIn s.heap) (q6 : B.get? e = none) (q7 : o.data = .fields fs)
    (q8 : fs[0]? = some a) (q9 : fs[2]? = some b) (k : ∀ h', Heap.NotedW B (v :: vr) e o.cls a (rawInt F) s.heap h' → CtxAt h' e b → Q () { s with heap := h' }) :
    wpAny M A (do let x ← frameOf v; let y ← entryPlaceOf F nx; let z ← EntryCells.newEntry hd x .none (rawInt F) .none y; setField (.ref e) 1 z) Q E s := by
  have big : 1 < fs.size := Nat.lt_of_lt_of_le (by decide) (Nat.le_of_lt (Array.getElem?_eq_some_iff.mp q9).1)
  have off : e ∉ (v :: vr).filterMap (·.frame) := fun z => by
    obtain ⟨_, o', w1, w2⟩ := q2.mem z
    rw [q4] at w1
    cases w1
    exact w2 fs q7
  refine wpAny_bind (wpAny_frameOf_fun q1 q2 q3 fun g so => wpAny_bind (wpAny_entryPlaceOf fun pl hp => ?_))
  unfold EntryCells.newEntry newFields
  refine wpAny_bind (wpAny_newObj_type ?_ (hp.sizeOk5 _ _ _ _ _))
  have g1 : g.get? e = some o := (so.2.1 e off).trans q4
  have g2 : B.StaysIn g := fun x u hx => (so.2.1 x fun z => by rw [(q2.mem z).1] at hx; cases hx).trans (q5 x u hx)
  have p1 := Heap.get?_push_of_some (h := g) (tbO hd F pl) g1
  have ne : g.objs.size ≠ e := Nat.ne_of_gt (Heap.lt_size g1)
  have d1 := Obj.data_mapFields q7 (·.setIfInBounds 1 (Value.ref g.objs.size))
  have p2 := Heap.get?_update_self (Obj.mapFields (·.setIfInBounds 1 (Value.ref g.objs.size))) p1 (Obj.isFreed_of_fields d1)
  have p3 := (Heap.get?_update_other (g.push (tbO hd F pl)) (Obj.mapFields (·.setIfInBounds 1 (Value.ref g.objs.size))) (Ne.symm ne)).trans (Heap.get?_push_size g rfl)
  have st : ∀ x u, x ≠ e → g.get? x = some u → ((g.push (tbO hd F pl)).update e (Obj.mapFields (·.setIfInBounds 1 (Value.ref g.objs.size)))).get? x = some u := fun x u hx e1 => by
    rw [Heap.get?_update_other _ _ (Ne.symm hx)]
    exact Heap.get?_push_of_some _ e1
  have nr : ∀ x u, s.heap.get? x = some u → (∀ l, u.data ≠ .fields l) → x ≠ e := fun x u e1 e2 z => by
    rw [z, q4] at e1
    cases e1
    exact e2 fs q7
  refine wpAny_setField p1 q7 big (k _ ⟨fun x u e1 => st x u (fun z => by rw [z, q6] at e1; cases e1) (g2 x u e1), q2.of_keeps fun x u e1 e2 => ?_, ?_, fun x u e1 e2 => ?_⟩ ?_)
  · obtain ⟨l, e3⟩ := so.2.2 x u e1
    exact ⟨_, st x _ (nr x u e1 e2) e3, rfl⟩
  · refine ⟨_, _, g.objs.size, _, _, p2, ⟨Obj.cls_mapFields _ _, ?_⟩, d1, ?_, g2.fresh, ne, p3, rfl, ?_⟩
    · rw [Array.getElem?_setIfInBounds_ne (by decide)]; exact q8
    · simp [big]
    · first
        | (simp; done)
        | (rcases hp with rfl | ⟨_, _, _, _, _, _, _, rfl⟩ <;> simp)
  · obtain ⟨l, e3⟩ := so.2.2 x u e1
    exact ⟨l, st x _ (nr x u e1 e2) e3⟩
  · exact ⟨_, _, p2, d1, by rw [Array.getElem?_setIfInBounds_ne (by decide)]; exact q9⟩
theorem ctx_lands {l : List Env} {fl : Value} (q1 : B.StaysIn s.heap) (q2 : s.heap.FunFrames B l) (q3 : s.heap.TracedAtW B e cl a fl) (q4 : CtxAt s.heap e b)
    (k : ∀ h', B.StaysIn h' → h'.FunFrames B l → h'.TracedW B e cl a → CtxAt h' e b → s.heap.UpToSlots h' → Q () { s with heap := h' }) : wpAny M A (setFlight (.ref e) none) Q E s := by
  obtain ⟨o, fs, T, oT, ts, x1, x2, x3, x4, x5, x6, x7, x8, x9⟩ := q3
  obtain ⟨o', fs', y1, y2, y3⟩ := q4
  rw [x1] at y1
  cases y1
  rw [x3] at y2
  cases y2
  have t3 : 3 < ts.size := (Array.getElem?_eq_some_iff.mp x9).1
  have ot : ∀ x, x ≠ T → (s.heap.update T (Obj.mapFields (·.setIfInBounds 3 ((none : Option Addr).elim Value.none fun f => rawInt f)))).get? x = s.heap.get? x := fun x hx => Heap.get?_update_other _ _ (Ne.symm hx)
  have nr : ∀ x u, s.heap.get? x = some u → (∀ l, u.data ≠ .fields l) → x ≠ T := fun x u e1 e2 z => by
    rw [z, x7] at e1
    cases e1
    exact e2 ts x8
  unfold setFlight
  refine wpAny_bind (wpAny_field x1 x3 x4 ?_)
  rw [if_pos (by simp)]
  have eo := (ot e (Ne.symm x6)).trans x1
  refine wpAny_setField x7 x8 t3 (k _ (fun x u e1 => (ot x fun z => by rw [z, x5] at e1; cases e1).trans (q1 x u e1)) (q2.of_keeps fun x u e1 e2 => ⟨u, (ot x (nr x u e1 e2)).trans e1, rfl⟩) ?_ ⟨o, fs, eo, x3, y3⟩ fun x u e1 e2 => ⟨u.slots, (ot x (nr x u e1 e2)).trans e1⟩)
  exact ⟨o, fs, T, _, _, eo, x2, x3, x4, x5, x6, Heap.get?_update_self _ x7 (Obj.isFreed_of_fields (Obj.data_mapFields x8 _)), Obj.data_mapFields x8 _, by simp [t3]⟩
theorem ctx_looks (q1 : A.frames = some (v :: vr)) (q2 : v.frame = some F) (q3 : Heap.FlyingW B (v :: vr) e cl a s.heap) (q4 : CtxAt s.heap e b)
    (k : ∀ h', Heap.HeldW B (v :: vr) e cl a F h' → CtxAt h' e b → s.heap.UpToSlots h' → Q () { s with heap := h' }) : wpAny M A (noteFrame (.ref e) v) Q E s := by
  obtain ⟨z1, z2, z3, o, fs, T, oT, ts, x1, ⟨rfl, x2⟩, x3, x4, x5, x6, x7, x8, x9⟩ := q3
  obtain ⟨o', fs', y1, y2, y3⟩ := q4
  rw [x1] at y1
  cases y1
  rw [x3] at y2
  cases y2
  unfold noteFrame
  simp only [q2]
  refine wpAny_bind (wpAny_field x1 x3 x4 ?_)
  rw [if_pos (by simp)]
  refine wpAny_bind (wpAny_field x7 x8 x9 ?_)
  rw [if_neg (by simp [rawInt])]
  refine wpAny_bind (wpAny_setField x7 x8 (Array.getElem?_eq_some_iff.mp x9).1 ?_)
  have ot : ∀ x, x ≠ T → (s.heap.update T (Obj.mapFields (·.setIfInBounds 3 Value.none))).get? x = s.heap.get? x := fun x hx => Heap.get?_update_other _ _ (Ne.symm hx)
  have nr : ∀ x u, s.heap.get? x = some u → (∀ l, u.data ≠ .fields l) → x ≠ T := fun x u e1 e2 z => by
    rw [z, x7] at e1
    cases e1
    exact e2 ts x8
  refine ctx_entry q1 (z3.of_keeps fun x u e1 e2 => ⟨u, (ot x (nr x u e1 e2)).trans e1, rfl⟩) q2 ((ot e (Ne.symm x6)).trans x1) (fun x u e1 => (ot x fun z => by rw [z, x5] at e1; cases e1).trans (z1 x u e1)) z2 x3 x2 y3 fun h' ⟨n1, n2, n3, n4⟩ n5 => ?_
  exact k h' ⟨n1, z2, n2, n3⟩ n5 fun x u e1 e2 => n4 x u ((ot x (nr x u e1 e2)).trans e1) e2
theorem ctx_leaves {o : Obj} {fs : Array Value} (q1 : A.frames = some (v :: vr)) (q2 : s.heap.FunFrames B (v :: vr)) (q3 : v.frame = some F) (q4 : s.heap.get? e = some o) (q5 : B.StaysIn s.heap) (q6 : B.get? e = none) (q7 : o.data = .fields fs)
    (q8 : fs[0]? = some a) (q9 : fs[1]? = some .none) (q10 : fs[2]? = some b) (k : ∀ h', Heap.FlyingW B vr e o.cls a h' → CtxAt h' e b → s.heap.UpToSlots h' → Q () { s with heap := h' }) : wpAny M A (leaving v (.ref e)) Q E s := by
  unfold leaving noteFrame
  simp only [q3]
  refine wpAny_bind (wpAny_bind (wpAny_field q4 q7 q9 ?_))
  rw [if_neg (by decide)]
  refine ctx_entry q1 q2 q3 q4 q5 q6 q7 q8 q10 fun h' ⟨n1, n2, n3, n4⟩ n5 => ?_
  refine ctx_lands (s := { s with heap := h' }) n1 n2 n3 n5 fun h2 m1 m2 m3 m4 m5 => k h2 ⟨m1, q6, ?_, m3⟩ m4 fun x u e1 e2 => ?_
  · obtain ⟨_, _, r⟩ := m2
    exact r
  · obtain ⟨l, e3⟩ := n4 x u e1 e2
    obtain ⟨l2, e4⟩ := m5 x _ e3 e2
    exact ⟨l2, e4⟩
end
end L2
set_option Elab.async false
set_option linter.all false
set_option maxRecDepth 100000
namespace L2
open PySem PySem.Spec PyProof.Rows
section
variable {X : Cx} {elt iter : Expr} {ifs : List Expr} {x : Str} {px pos : Pos} {scope : Scope} {ys : List Str} {js : List Nat} {wi : TI} {tt : TT} {te : TE}
end
def UpF (l : List Env) (h h' : Heap) : Prop := ∀ b ∈ frs l, ∀ o, h.get? b = some o → (∀ vs, o.data ≠ .fields vs) → ∃ sl, h'.get? b = some { o with slots := sl }
theorem UpF.trans {l : List Env} {h1 h2 h3 : Heap} (x : UpF l h1 h2) (y : UpF l h2 h3) : UpF l h1 h3 := fun b hb o e hn =>
  let ⟨_, e1⟩ := x b hb o e hn; let ⟨sl, e2⟩ := y b hb _ e1 hn; ⟨sl, e2⟩
theorem UpF.of {l : List Env} {h h' : Heap} (x : h.UpToSlots h') : UpF l h h' := fun b _ o e hn => x b o e hn
theorem UpF.frames {B h h' : Heap} : ∀ {l : List Env}, UpF l h h' → h.FunFrames B l → h'.FunFrames B l
  | [], _, _ => trivial
  | env :: r, u, ⟨hk, ⟨L, o, hf, hn, ho, hd⟩, hr⟩ => by
    have m : ∀ b, b ∈ frs r → b ∈ frs (env :: r) := fun b hb => by unfold frs; rw [List.filterMap_cons, hf]; exact List.mem_cons_of_mem _ hb
    obtain ⟨sl, e⟩ := u L (by unfold frs; rw [List.filterMap_cons, hf]; exact List.mem_cons_self) o ho hd
    exact ⟨hk, ⟨L, _, hf, hn, e, hd⟩, UpF.frames (fun b hb => u b (m b hb)) hr⟩
section
variable {X : Cx} {pins : List (Addr × Obj)} {σ : St} {H H' : Hp} {s s' : Shared} {h' B : Heap} {ea : Addr} {c a0 : Value} {fp : List Addr}
end
end L2
set_option Elab.async false
set_option linter.all false
set_option maxRecDepth 100000
namespace L2
open PySem PySem.Spec PyProof.Rows
theorem entry_unchain : entryFor table "proto.unchain" = some Builtin.«proto.unchain» := entryFor_of_tree (by kernel_rfl)
section
variable {prog : Program} {w : World} {A : Around} {E : Value → Shared → Prop} {s : Shared} {env : Env}
theorem unchain0 {v : Value} {a : Addr} {R : Result → Shared → Prop} (h : CtxAt s.heap a .none) (q : R (.ok (.ret .none)) s) : codeAny (model prog w) A (.builtin "proto.unchain" ⟨[v, .ref a, .ref a, .bool false], []⟩) R s := by
  obtain ⟨o, fs, h1, h2, h3⟩ := h
  refine codeAny_builtin entry_unchain ?_
  unfold Builtin.«proto.unchain»
  refine wpAny_bind (wpAny_field h1 h2 h3 ?_)
  wp_walk
  exact q
variable {nm q : Str} {C N : Addr} {bs bm bmB : List Value} {hdct : Bool} {sn : List Str} {sub : List Value} {ab : Bool} {col : Option Bool} {dd : Option Addr} {k0 k1 k2 k3 k5 : Option Value} {B newId initId : String}
theorem raise_from {x c : Sem Value} {ea : Addr} {Q : Flow → Shared → Prop} (hb : bm.contains (.type "BaseException") = true) (hh : A.handled = some (.ref ea))
    (h : wpAny (model prog w) A x (fun v s1 => wpAny (model prog w) A c (fun u s2 => u = .none ∧ ∃ e t, v = .ref e ∧ s2.heap.get? C = some (excClassObj nm q C N bs bm hdct sn sub ab col dd k0 k1 k2 k3 k5 newId) ∧ e ≠ C ∧
      s2.heap.get? e = some { cls := .ref C, data := .fields #[.ref t, .none, .none, .none, .bool false, .none] } ∧ e ≠ ea ∧ CtxAt s2.heap ea .none ∧
      ∀ h', (∀ b, b ≠ e → h'.get? b = s2.heap.get? b) → h'.get? e = some { cls := .ref C, data := .fields #[.ref t, .none, .ref ea, .none, .bool true, .none] } → E (.ref e) { s2 with heap := h' }) E s1) E s) :
    wpAny (model prog w) A (raiseStmt env (some x) (some c)) Q E s := by
  have hcB : (Value.ref C :: bm).contains (.type "BaseException") = true := by rw [List.contains_cons, hb, Bool.or_true]
  unfold raiseStmt
  refine wpAny_bind (wpAny_mono h (fun v s1 h1 => ?_) fun _ _ x => x)
  refine wpAny_bind (wpAny_holding (wpAny_mono h1 (fun u s2 h2 => ?_) fun _ _ x => x))
  obtain ⟨rfl, e, t, rfl, hC, eC, he, ne, cx, k⟩ := h2
  obtain ⟨hp, g, d, tk, os⟩ := s2
  refine wpAny_bind (wpAny_pure ?_)
  have first : ∀ {Q' : Value → Shared → Prop}, Q' (.ref e) ⟨hp, g, d, tk, os⟩ → wpAny (model prog w) A (holding ((some Value.none).toList) (excFromValue (.ref e) "exceptions must derive from BaseException")) Q' E ⟨hp, g, d, tk, os⟩ := fun {Q'} q' => by
    refine wpAny_holding ?_
    unfold excFromValue
    repeat (first | with_reducible refine wpAny_loadPart_at he ?_ | with_reducible refine wpAny_loadPart_at hC ?_ | (with_reducible refine wpAny_isSubtype_exc hC ?_; rw [hcB]) | wp_step)
    exact q'
  refine wpAny_bind (first ?_)
  dsimp only
  rw [if_pos (by rfl)]
  refine wpAny_bind (wpAny_pure ?_)
  refine wpAny_bind (wpAny_setField_rec he (by simp) fun p1 e1 sb1 => ?_)
  refine wpAny_bind (wpAny_setField_rec e1 (by simp) fun p2 e2 sb2 => ?_)
  have hC2 : p2.get? C = some (excClassObj nm q C N bs bm hdct sn sub ab col dd k0 k1 k2 k3 k5 newId) := (sb2.2 C (Ne.symm eC)).trans ((sb1.2 C (Ne.symm eC)).trans hC)
  have e2' : p2.get? e = some { cls := .ref C, data := .fields #[.ref t, .none, .none, .none, .bool true, .none] } := e2
  have cx2 : CtxAt p2 ea .none := by
    obtain ⟨o, fs, y1, y2, y3⟩ := cx
    exact ⟨o, fs, (sb2.2 ea (Ne.symm ne)).trans ((sb1.2 ea (Ne.symm ne)).trans y1), y2, y3⟩
  have k2' : ∀ h', (∀ b, b ≠ e → h'.get? b = p2.get? b) → h'.get? e = some { cls := .ref C, data := .fields #[.ref t, .none, .ref ea, .none, .bool true, .none] } → E (.ref e) ⟨h', g, d, tk, os⟩ := fun h' a1 a2 => k h' (fun b hb => (a1 b hb).trans ((sb2.2 b hb).trans (sb1.2 b hb))) a2
  clear k cx e1 e2 he hC sb1 sb2 h1
  dsimp only
  have mid : ∀ {Q' : Value → Shared → Prop}, Q' (.ref e) ⟨p2, g, d, tk, os⟩ → wpAny (model prog w) A (raisedInstance (.ref e)) Q' E ⟨p2, g, d, tk, os⟩ := fun {Q'} q' => by
    unfold raisedInstance
    repeat (first | with_reducible refine wpAny_loadPart_at e2' ?_ | with_reducible refine wpAny_loadPart_at hC2 ?_ | (with_reducible refine wpAny_isSubtype_exc hC2 ?_; rw [hcB]) | wp_step)
    exact q'
  have isT : ∀ {Q' : Bool → Shared → Prop}, Q' false ⟨p2, g, d, tk, os⟩ → wpAny (model prog w) A (isType (.ref e)) Q' E ⟨p2, g, d, tk, os⟩ := fun {Q'} q' => by
    unfold isType
    repeat (first | with_reducible refine wpAny_loadPart_at e2' ?_ | with_reducible refine wpAny_loadPart_at hC2 ?_ | (with_reducible refine wpAny_isSubtype_exc hC2 ?_; rw [hcB]) | wp_step)
    exact q'
  refine wpAny_bind (isT ?_)
  rw [if_neg (by decide)]
  refine wpAny_bind (mid ?_)
  refine wpAny_bind ?_
  unfold setFlight
  refine wpAny_bind (wpAny_field e2' rfl rfl ?_)
  rw [if_neg (by simp)]
  refine wpAny_pure ?_
  unfold raiseNew
  refine wpAny_bind (wpAny_handled ?_)
  rw [hh]
  dsimp only
  rw [if_pos (by simpa using Ne.symm ne)]
  refine wpAny_bind (wpAny_holding (wpAny_runValue (unchain0 cx2 ?_)))
  refine wpAny_bind (wpAny_setField_rec (x := .ref ea) (k := 2) e2' (by simp) fun p3 e3 sb3 => wpAny_throw ?_)
  exact k2' p3 (fun b hb => sb3.2 b hb) e3
theorem exec_from (F : ExcBaseFacts B newId initId bmB) {mN : Str → Option Value} {x : Str} {np cpos pos kp : Pos} {j : Nat} {args : List Expr} {ea : Addr} {Q : Flow → Shared → Prop} (hb : bm.contains (.type "BaseException") = true) (hh : A.handled = some (.ref ea)) (hpl : (backTo cpos (starEach args env)).any (·.1) = false) (hni : mN "__init__" = none)
    (h : wpAny (model prog w) A (eval (.Name x np) env) (fun f s1 => f = .ref C ∧ wpAny (model prog w) A (evalArgs (.ref C) true (backTo cpos (starEach args env)) [])
      (fun a s2 => a.kw = [] ∧ a.pos.length ≤ sizeLine ∧ s2.heap.get? C = some (excClassObj nm q C N bs bm hdct sn sub ab col dd k0 k1 k2 k3 k5 newId) ∧ s2.heap.Ns N mN ∧ OwnTail s2.heap bmB bm ∧ CtxAt s2.heap ea .none ∧
        ∀ h' e t, (∀ b o, s2.heap.get? b = some o → h'.get? b = some o) → s2.heap.get? e = none → h'.get? e = some { cls := .ref C, data := .fields #[.ref t, .none, .ref ea, .none, .bool true, .none] } → E (.ref e) { s2 with heap := h' }) E s1) E s) :
    wpAny (model prog w) A (exec (.Raise (some (.Call (.Name x np) args [] cpos)) (some (.Constant .none j kp)) pos) env) Q E s := by
  rw [arm_exec_Raise]
  refine wpAny_bind (wpAny_standAt ?_)
  refine raise_from (C := C) (nm := nm) (q := q) (N := N) (bs := bs) (bm := bm) (hdct := hdct) (sn := sn) (sub := sub) (ab := ab) (col := col) (dd := dd) (k0 := k0) (k1 := k1) (k2 := k2) (k3 := k3) (k5 := k5) (newId := newId) hb hh ?_
  refine wpAny_bind (wpAny_mono (wpAny_Call_ofName (wpAny_mono h (fun f s1 h1 => ?_) fun _ _ x => x)) (fun v s3 h3 => wpAny_bind (wpAny_standAt (wpAny_pure h3))) fun _ _ x => x)
  obtain ⟨rfl, h1⟩ := h1
  unfold callWith
  refine wpAny_bind (wpAny_holding (wpAny_mono h1 (fun a s2 h2 => wpAny_bind (wpAny_standAt ?_)) fun _ _ x => x))
  obtain ⟨apos, akw⟩ := a
  obtain ⟨hkw, hlen, hC, hn, T, cx, k⟩ := h2
  obtain rfl : akw = [] := hkw
  obtain ⟨hp, g, d, tk, os⟩ := s2
  simp only [hpl]
  refine wpAny_bind (wpAny_keeperOf_exc hC ?_)
  refine wpAny_bind (wpAny_call_exc_subT (hrest := hlen) F T hC hn hni fun h' e hm => wpAny_bind (wpAny_holding (wpAny_point (wpAny_pure ?_))))
  obtain ⟨t, ht, _, _⟩ := hm.there
  refine wpAny_bind (Constant_none (wpAny_bind (wpAny_standAt (wpAny_pure ⟨rfl, e, t, rfl, hm.keeps _ _ hC, fun z => ?_, ht, fun z => ?_, ?_, fun h2 a1 a2 => k h2 e t (fun b o hb => (a1 b fun z => ?_).trans (hm.keeps b o hb)) hm.new a2⟩))))
  · have := hm.new; rw [z, hC] at this; cases this
  · obtain ⟨o, fs, y1, _⟩ := cx; have := hm.new; rw [z, y1] at this; cases this
  · obtain ⟨o, fs, y1, y2, y3⟩ := cx; exact ⟨o, fs, hm.keeps _ _ y1, y2, y3⟩
  · have := hm.new; rw [← z, hb] at this; cases this
theorem flight_some {M : Model} {A : Around} {B : Heap} {l : List Env} {e L : Addr} {c a0 fl : Value} {Q : Unit → Shared → Prop} (q1 : B.StaysIn s.heap) (q0 : B.get? e = none) (q2 : s.heap.FunFrames B l) (q3 : s.heap.TracedAtW B e c a0 fl) (h : ∀ h', Heap.HeldW B l e c a0 L h' → s.heap.UpToSlots h' → Q () { s with heap := h' }) :
    wpAny M A (setFlight (.ref e) (some L)) Q E s := by
  obtain ⟨oe, vs, T, oT, ts, he, hcl, hd, h1, hnT, hTe, hT, hdT, h3⟩ := q3
  have z3 : 3 < ts.size := (Array.getElem?_eq_some_iff.mp h3).1
  unfold setFlight
  refine wpAny_bind (wpAny_field he hd h1 ?_)
  rw [if_pos (by simp)]
  refine wpAny_setField hT hdT z3 ?_
  generalize hg : s.heap.update T (Obj.mapFields (·.setIfInBounds 3 ((some L).elim Value.none fun f => rawInt f))) = g
  have oth : ∀ b, b ≠ T → g.get? b = s.heap.get? b := fun b hb => by rw [← hg]; exact Heap.get?_update_other _ _ (Ne.symm hb)
  have nr : ∀ b o, s.heap.get? b = some o → (∀ vs, o.data ≠ .fields vs) → b ≠ T := fun b o hb hnf q => by rw [q, hT] at hb; cases hb; exact hnf ts hdT
  refine h g ⟨fun b o hbo => (oth b fun q => by rw [q, hnT] at hbo; cases hbo).trans (q1 b o hbo), q0, q2.of_keeps fun b o hb hnf => ⟨o, (oth b (nr b o hb hnf)).trans hb, rfl⟩, ?_⟩ fun b o hb hn => ⟨o.slots, (oth b (nr b o hb hn)).trans hb⟩
  refine ⟨oe, vs, T, _, _, (oth e (Ne.symm hTe)).trans he, hcl, hd, h1, hnT, hTe, by rw [← hg]; exact Heap.get?_update_self _ hT (Obj.isFreed_of_fields (Obj.data_mapFields hdT _)), Obj.data_mapFields hdT _, by simp [z3]⟩
end
def CX2 (Cn : Addr) (P : Program) (w : World) : CXT := fun outer H s E e s' => CX1 P w outer H s E e s' ∧ ∀ ea o, e = .ref ea → s'.heap.get? ea = some o → o.cls = .ref Cn → CtxAt s'.heap ea .none
def PassS2 (Cn : Addr) (X : Cx) (Ex : St → XK) : Prop := ∀ (pins : List (Addr × Obj)) (σ : St) (H : Hp) (s : Shared) (e : Value) (s' : Shared), Inv X pins σ H s → CX2 Cn X.prog X.w X.stack H s (Ex σ) e s' → X.xe e s'
theorem PassS.two {Cn : Addr} {X : Cx} {Ex : St → XK} (h : PassS X Ex) : PassS2 Cn X Ex := fun pins σ H s e s' I q => h pins σ H s e s' I q.1
section
variable {P : Program} {w : World} {K : PySem.W.Frag} {mg : Str → Option Value} {base : Heap} {N : List Str} {qual : Str} {scope : Scope} {f : Addr} {cd : Value} {A : Around} {outer : List Env} {s₀ : Shared} {H₀ : Hp} {E : XK} {Cn : Addr}
theorem pass_newC : PassN (cxOf (CX2 Cn P w) P w K mg base N qual scope f cd A outer s₀ H₀ E) fun _ => E := by
  intro pins σ H s h' ea c vs I hm hE
  show wpAny _ _ (leaving (envOfC qual scope s₀.heap.objs.size f cd) (.ref ea)) _ _ _
  obtain ⟨t, he, htn, ht⟩ := hm.there
  have off : (PySem.W.hideAll s.heap (frs (cxOf (CX2 Cn P w) P w K mg base N qual scope f cd A outer s₀ H₀ E).stack)).get? ea = none := by
    cases q : (PySem.W.hideAll s.heap (frs (cxOf (CX2 Cn P w) P w K mg base N qual scope f cd A outer s₀ H₀ E).stack)).get? ea with
    | none => rfl
    | some o => have z := PySem.W.of_hideAll _ q; rw [hm.new] at z; cases z
  refine ctx_leaves (s := { s with heap := h' }) I.ok.frames ((fly_frames I rfl I.bare Un.refl I.hok fun b hb => hb).of_keeps fun b o hb _ => ⟨o, hm.keeps b o hb, rfl⟩) rfl he (fun b o q => hm.keeps b o (PySem.W.of_hideAll _ q)) off rfl rfl rfl rfl fun h2 fl cx up => ?_
  refine ⟨fly_out (s' := { s with heap := h' }) I rfl rfl I.bare (Un.kept hm.keeps) (I.hok.kept hm.keeps) hm.new (I.hok.off hm.new) (fun b o e hb hf => ?_) fl.1 fl.2.2.2 up hE, fun ea' o e1 _ _ => by cases e1; exact cx⟩
  refine PySem.W.hideAll_get _ ?_ hf
  rcases hb with ⟨u, q⟩ | q
  · have z := hm.keeps b u q
    rw [show h'.get? b = some o from e] at z; cases z; exact q
  · cases r : H b with
    | none => exact absurd r q
    | some x =>
      obtain ⟨u, q⟩ := (I.hok b x r).thereO
      have z := hm.keeps b u q
      rw [show h'.get? b = some o from e] at z; cases z; exact q
theorem pass_callC : PassS (cxOf (CX2 Cn P w) P w K mg base N qual scope f cd A outer s₀ H₀ E) fun _ c d H => c ≠ .ref Cn ∧ E c d H := by
  intro pins σ H s e s' I hcx
  obtain ⟨ea, c, H', rfl, os, bare, un, hok, n0, n1, t, hn, hE⟩ := hcx
  obtain ⟨B, a0, hB, fl⟩ := fly_lib I os bare un hok n0 n1 t
  show wpAny _ _ (leaving (envOfC qual scope s₀.heap.objs.size f cd) (.ref ea)) _ _ s'
  refine wpAny_leaves_onW I.ok.frames rfl fl fun h2 fl2 up => ?_
  refine ⟨fly_out I rfl os bare un hok n0 n1 hB fl2.1 fl2.2.2.2 up hE, fun ea' o e1 e2 e3 => ?_⟩
  cases e1
  obtain ⟨ob, y1, y2⟩ := fl2.there
  rw [show h2.get? ea = some o from e2] at y1
  cases y1
  exact absurd (y2.symm.trans e3) hn
end
theorem Fun.ok2 {Cn : Addr} {P : Program} {w : World} {K : PySem.W.Frag} {mg : Str → Option Value} {base : Heap} {x qual : Str} {st : Stmt} {f : Addr} {fd : FuncData} {N ps : List Str} {k : Nat} {sp : Sp} (F : Fun K x qual st f fd) (S : FnScope N ps (defScope st)) (len : ∀ vs H Q E, sp vs H Q E → vs.length = ps.length)
    (hbody : ∀ (cdv : Value) (A : Around) (outer : List Env) (s : Shared) (H : Hp) (vs : List V) (Q : VK) (E : XK), Room k (A.deeper (envOfC qual (defScope st) s.heap.objs.size f cdv)) → sp vs H Q E →
      ∃ t, PSs (cxOf (CX2 Cn P w) P w K mg base N qual (defScope st) f cdv A outer s H E) (defBody st) t ∧ t { nx := fun _ H' => Q .non H', rt := Q } (start N vs) H) : FnOk P w K mg base (CX2 Cn P w) (k + 1) f fd ps sp := by
  obtain ⟨oc, od, kV, doc, pm, an, cdv, ct, osl, rfl, lk, hcd⟩ := F.ex
  exact fn_of lk hcd S len fun A outer s H vs Q E hr hsp => hbody cdv A outer s H vs Q E hr hsp
theorem pcallC {Cn : Addr} {X : Cx} {x : Str} {st : Stmt} {ps : List Str} {f : Addr} {fd : FuncData} {k : Nat} {sp : Sp} {Ex : St → XK} {e : Expr} {es : List Expr} {t : TA} {p pos : Pos} (D : Df X.K X.mg x st ps f fd) (G : FnOk X.prog X.w X.K X.mg X.base (CX2 Cn X.prog X.w) k f fd ps sp) (hr : Room k X.A) (hx : PassS2 Cn X Ex) (ha : PA X (e :: es) t) (hg : Gl X x := by rfl)
    (hdb : (x == ("__debug__" : Str)) = false := by decide) (he : starEach (e :: es) X.env = (false, eval e X.env) :: starEach es X.env := by rfl) (hpl : (backTo pos (starEach es X.env)).any (·.1) = false := by rfl) : PE X (.Call (.Name x p) (e :: es) [] pos) (tCallX sp Ex t) := by
  intro pins s σ H Q I h
  refine wpAny_Call_Name_kw (ld_glob I hg D.g ?_ hdb)
  refine PySem.W.callWith_K (h₀ := X.base) I.ok.mod.kin D.fn.kp (thn (ha pos pins s σ H _ I h) fun us s1 ⟨vs, H1, I1, r, q⟩ => ⟨I1.kIn, ?_⟩) he hpl
  have hl : us.length = ps.length := by rw [← r.length]; exact G.len _ _ _ _ q
  have hb' := D.b s1 us I1.kIn (by rw [List.append_nil]; exact hl)
  rw [List.append_nil] at hb'
  refine wpAny_call (codeAny_mono (G.run X.A X.stack s1 H1 ⟨us, []⟩ us vs Q (Ex σ) hr I1.env0 hb' r q) fun r s' hq => ?_)
  cases r with
  | error e => exact hx pins σ H1 s1 e s' I1 hq
  | ok fl =>
    cases fl with
    | ret u => exact I1.after hq
    | next => exact False.elim hq
    | brk => exact False.elim hq
    | cont => exact False.elim hq
end L2
set_option Elab.async false
set_option linter.all false
set_option maxRecDepth 100000
namespace L2
open PySem PySem.Spec PyProof.Rows
def xFrom (K : PySem.W.Frag) (Ch Cz : Addr) (t : TA) (E : XK) : St → XK := fun σ c d H => (c = .ref Ch ∧ PySem.W.kitCls K (.ref Ch) (.ref Ch) = some true ∧ t σ H fun vs H1 => vs.length ≤ sizeLine ∧ E (.ref Cz) none H1) ∨ (∃ C, c = .ref C ∧ PySem.W.kitCls K (.ref C) (.ref Ch) = some false ∧ E c none H)
def tTryFrom (K : PySem.W.Frag) (Ch Cz : Addr) (E : XK) (tb : (St → XK) → TS) (t : TA) : TS := fun D σ H => tb (xFrom K Ch Cz t E) D σ H
section
variable {P : Program} {w : World} {K : PySem.W.Frag} {mg : Str → Option Value} {base : Heap} {N : List Str} {qual : Str} {scope : Scope} {f : Addr} {cd : Value} {A : Around} {outer : List Env} {s₀ : Shared} {H₀ : Hp} {E : XK}
theorem leave_held {X : Cx} (hX : X = cxOf (CX1 P w) P w K mg base N qual scope f cd A outer s₀ H₀ E) {B : Heap} {e : Addr} {c a0 : Value} {s : Shared} (held : Heap.HeldW B (X.env :: X.outer) e c a0 X.env.locals s.heap) (k : ∀ h', Heap.FlyingW B (X.env :: X.outer) e c a0 h' → s.heap.UpToSlots h' → CX1 X.prog X.w X.outer X.H₀ X.s₀ E (.ref e) { s with heap := h' }) : X.xe (.ref e) s := by
  subst hX
  show wpAny _ _ (leaving _ (.ref e)) _ _ _
  unfold leaving
  refine wpAny_bind (wpAny_noteFrame_againW rfl held.2.2.2 ?_)
  exact wpAny_landsW held fun h4 fl4 up4 => k h4 fl4 up4
theorem ps_tryFrom {y z : Str} {Ch Cz : Addr} {body : List Stmt} {a : Expr} {as : List Expr} {tb : (St → XK) → TS} {t : TA} {np zp cpos kp rpos hpos pos : Pos} {j : Nat} (O : CatchC K mg y Ch) (Oz : ExcC K mg z Cz)
    (hb : ∀ (E' : Value → Shared → Prop) (pn : List (Addr × Obj)) (Ex : St → XK), PassS2 Ch ((cxOf (CX1 P w) P w K mg base N qual scope f cd A outer s₀ H₀ E).body E' pn) Ex → PSs ((cxOf (CX1 P w) P w K mg base N qual scope f cd A outer s₀ H₀ E).body E' pn) body (tb Ex))
    (ha : ∀ e, PA ((cxOf (CX1 P w) P w K mg base N qual scope f cd A outer s₀ H₀ E).sui e) (a :: as) t)
    (hg : Gl (cxOf (CX1 P w) P w K mg base N qual scope f cd A outer s₀ H₀ E) y := by rfl) (hdb : (y == ("__debug__" : Str)) = false := by decide) (hg2 : Gl (cxOf (CX1 P w) P w K mg base N qual scope f cd A outer s₀ H₀ E) z := by rfl) (hdb2 : (z == ("__debug__" : Str)) = false := by decide)
    (he : starEach (a :: as) (cxOf (CX1 P w) P w K mg base N qual scope f cd A outer s₀ H₀ E).env = (false, eval a (cxOf (CX1 P w) P w K mg base N qual scope f cd A outer s₀ H₀ E).env) :: starEach as (cxOf (CX1 P w) P w K mg base N qual scope f cd A outer s₀ H₀ E).env := by rfl) (hpl : (backTo cpos (starEach (a :: as) (cxOf (CX1 P w) P w K mg base N qual scope f cd A outer s₀ H₀ E).env)).any (·.1) = false := by rfl) :
    PS (cxOf (CX1 P w) P w K mg base N qual scope f cd A outer s₀ H₀ E) (.Try body [.ExceptHandler (some (.Name y np)) none [.Raise (some (.Call (.Name z zp) (a :: as) [] cpos)) (some (.Constant .none j kp)) rpos] hpos] [] [] pos) (tTryFrom K Ch Cz E tb t) := by
  generalize hX : cxOf (CX1 P w) P w K mg base N qual scope f cd A outer s₀ H₀ E = X at *
  have eP : X.prog = P := by subst hX; rfl
  have eW : X.w = w := by subst hX; rfl
  have eK : X.K = K := by subst hX; rfl
  have eM : X.mg = mg := by subst hX; rfl
  have ex : X.ex = [] := by subst hX; rfl
  have eF : X.env.frame = some X.env.locals := by subst hX; rfl
  have eS : X.stack = X.env :: X.outer := by subst hX; rfl
  subst eP eW eK eM
  intro pins s σ H D I h
  have ok := I.ok
  have fr0 := ok.frames
  rw [eS] at fr0
  refine wpAny_Try_except (wpAny_mono (hb (fun e s₁ => wpAny (model X.prog X.w) X.A (noteFrame e X.env) (fun _ s₂ => wpAny (model X.prog X.w) X.A (setFlight e none) (fun _ s₃ => wpAny (model X.prog X.w) X.A (handleBy e X.env [.ExceptHandler (some (.Name y np)) none [.Raise (some (.Call (.Name z zp) (a :: as) [] cpos)) (some (.Constant .none j kp)) rpos] hpos]) (SP X pins D) X.xe s₃) X.xe s₂) X.xe s₁)
    (X.pn ++ pins) (xFrom X.K Ch Cz t E) ?_ [] s σ H D (I.toBody _) h) (fun f s1 q => ?_) fun _ _ z => z)
  · intro pins2 σ2 H2 s2 e s3 I2 hcx
    have I2 := I2.ofBody ok
    obtain ⟨⟨ea, c, H3, rfl, os, bare, un, hok, n0, n1, t', hq⟩, cx⟩ := hcx
    obtain ⟨B, a0, hB, fl⟩ := fly_lib I2 os bare un hok n0 n1 t'
    have fl' : Heap.FlyingW B (X.env :: X.outer) ea c a0 s3.heap := by rw [← eS]; exact fl
    rcases hq with ⟨rfl, hk, ht⟩ | ⟨C, rfl, hk, hE⟩
    · obtain ⟨ob, ob1, ob2⟩ := fl.there
      refine ctx_looks fr0 eF fl' (cx ea ob rfl ob1 ob2) fun h4 held cx4 up4 => ctx_lands held.1 held.2.2.1 held.2.2.2 cx4 fun h5 m1 m2 m3 cx5 up5 => ?_
      have fl5 : Heap.FlyingW B (X.env :: X.outer) ea (.ref Ch) a0 h5 := ⟨m1, held.2.1, m2, m3⟩
      obtain ⟨u5, k5⟩ := fly_un I2 un hok hB fl5.1 (up4.trans up5)
      have J5 : Inv X pins σ2 H3 { s3 with heap := h5 } := I2.call' (ch := []) os u5 k5 bare fun b z => absurd z (by simp)
      have x5 : ExcAt ea Ch h5 := fl5.there
      refine wpAny_handleBy_cons (codeAny_handlers_test (ld_glob (X := X.sui ea) (J5.toSui ea) hg O.g ?_ hdb)) (by intro z; cases z)
      refine exc_match J5.kIn x5 hk O.mb (codeAny_handlers_suite (ctx_lands (s := { s3 with heap := h5 }) m1 m2 m3.at cx5 fun h6 p1 p2 p3 cx6 up6 => ?_))
      obtain ⟨u6, k6⟩ := fly_un I2 un hok hB p1 ((up4.trans up5).trans up6)
      have J6 : Inv X pins σ2 H3 { s3 with heap := h6 } := I2.call' (ch := []) os u6 k6 bare fun b z => absurd z (by simp)
      obtain ⟨o6, fs6, y1, y2, y3⟩ := cx6
      have J7 : Inv X ((ea, o6) :: pins) σ2 H3 { s3 with heap := h6 } := ⟨J6.ok, J6.os, J6.bare, J6.base, J6.loc, J6.cell, J6.free, J6.freeC, fun p hp => by
        rcases List.mem_append.mp hp with z | z
        · exact J6.pin p (List.mem_append_left _ z)
        · rcases List.mem_cons.mp z with z | z
          · subst z
            refine ⟨y1, n1, fun z => ?_, fun z => ?_, fun v z => by rw [y2] at z; cases z⟩
            · obtain ⟨m, ⟨o, es, ep, w1, _⟩, _⟩ := I2.loc
              rw [← z, n0] at w1; cases w1
            · obtain ⟨_, o, w1, w2⟩ := I2.ok.funs.mem z
              obtain ⟨sl, w3⟩ := I2.base.slot ea o w1 (I2.ok.frf ea z) z fun z2 => I2.ok.exfs ea z2 z
              rw [n0] at w3; cases w3
          · exact J6.pin p (List.mem_append_right _ z), J6.hok, J6.len⟩
      obtain ⟨bm, bs, Nn, nm, qn, hd, ab, sn, sub, col, dd, k0, k1, k2, k3, k5', mN, hC, hN, hni, T⟩ := exc_obj (h := X.base) J7.ok.mod.kin Oz.ok
      refine wpAny_execs_cons ?_
      refine exec_from (C := Cz) (nm := nm) (q := qn) (N := Nn) (bs := bs) (bm := bm) (hdct := hd) (sn := sn) (sub := sub) (ab := ab) (col := col) (dd := dd) (k0 := k0) (k1 := k1) (k2 := k2) (k3 := k3) (k5 := k5') (mN := mN)
        PySem.F.excBase_ValueError (T.hasType PySem.F.excBase_ValueError.hasBase) rfl hpl hni (ld_glob (X := X.sui ea) (J7.toSui ea) hg2 Oz.g ⟨rfl, ?_⟩ hdb2)
      have ha' := ha ea cpos _ _ _ _ _ (J7.toSui ea) ht
      rw [he] at ha' ⊢
      refine Calls.evalArgs_plain (wpAny_mono ha' (fun us s1 ⟨vs, H1, I1, r, hz, q⟩ => ?_) fun _ _ z => False.elim z)
      have I1' : Inv X pins σ2 H1 s1 := ⟨ok, I1.os, I1.bare, I1.base, I1.loc, I1.cell, I1.free, I1.freeC, fun p hp => I1.pin p (by
        rcases List.mem_append.mp hp with z | z
        · exact List.mem_append_left _ z
        · exact List.mem_append_right _ (List.mem_cons_of_mem _ z)), I1.hok, I1.len⟩
      have p6 := (I1.pin (ea, o6) (List.mem_append_right _ List.mem_cons_self)).1
      refine ⟨rfl, by rw [← r.length]; exact hz, I1.bk _ _ hC, hN.keeps I1.bk, T.keeps I1.bk, ⟨o6, fs6, p6, y2, y3⟩, fun h' e1 tt kp1 nw e1o => ?_⟩
      have off : (PySem.W.hideAll s1.heap (frs X.stack)).get? e1 = none := by
        cases q : (PySem.W.hideAll s1.heap (frs X.stack)).get? e1 with
        | none => rfl
        | some o => have z := PySem.W.of_hideAll _ q; rw [nw] at z; cases z
      unfold notedBy noteFrame
      simp only [eF]
      refine wpAny_bind (wpAny_field (s := { s1 with heap := h' }) e1o rfl rfl ?_)
      rw [if_neg (by simp)]
      have ff : h'.FunFrames (PySem.W.hideAll s1.heap (frs X.stack)) (X.env :: X.outer) := eS ▸ (fly_frames I1' rfl I1'.bare Un.refl I1'.hok fun b hb => hb).of_keeps fun b o hb _ => ⟨o, kp1 b o hb, rfl⟩
      refine wpAny_entryW (s := { s1 with heap := h' }) (base := PySem.W.hideAll s1.heap (frs X.stack)) fr0 ff eF e1o (fun b o q => kp1 b o (PySem.W.of_hideAll _ q)) off rfl (by simp) rfl fun h7 nt => ?_
      obtain ⟨w1, w2, w3, w4⟩ := nt
      show cameBackBy _ _ _ _ _ _
      unfold cameBackBy
      obtain ⟨oe, vs7, T7, oT, ts, he7, hcl, hd7, h17, _⟩ := id w3
      refine wpAny_bind (wpAny_field (s := { s1 with heap := h7 }) he7 hd7 h17 ?_)
      rw [if_neg (by simp), eF]
      refine flight_some (s := { s1 with heap := h7 }) w1 off w2 w3 fun h8 held8 up8 => ?_
      refine leave_held hX.symm held8 fun h9 fl9 up9 => fly_out (s' := { s1 with heap := h' }) I1' ex rfl I1'.bare (Un.kept kp1) (I1'.hok.kept kp1) nw (I1'.hok.off nw) (fun b o e hb hf => ?_) fl9.1 fl9.2.2.2 ((Heap.UpToSlots.trans w4 up8).trans up9) q
      refine PySem.W.hideAll_get _ ?_ hf
      rcases hb with ⟨u, q⟩ | q
      · have z := kp1 b u q
        rw [show h'.get? b = some o from e] at z; cases z; exact q
      · cases r : H1 b with
        | none => exact absurd r q
        | some x =>
          obtain ⟨u, q⟩ := (I1'.hok b x r).thereO
          have z := kp1 b u q
          rw [show h'.get? b = some o from e] at z; cases z; exact q
    · refine wpAny_looks_onW fr0 eF fl' fun h4 held up4 => wpAny_landsW held fun h5 fl5 up5 => ?_
      obtain ⟨u5, k5⟩ := fly_un I2 un hok hB fl5.1 (up4.trans up5)
      have J5 : Inv X pins σ2 H3 { s3 with heap := h5 } := I2.call' (ch := []) os u5 k5 bare fun b z => absurd z (by simp)
      have x5 : ExcAt ea C h5 := fl5.there
      refine wpAny_handleBy_cons (codeAny_handlers_test (ld_glob (X := X.sui ea) (J5.toSui ea) hg O.g ?_ hdb)) (by intro z; cases z)
      refine exc_match J5.kIn x5 hk O.mb (wpAny_handleBy_nil ?_)
      unfold PySem.passOn
      rw [eF]
      obtain ⟨g1, g2, g3, g4⟩ := fl5
      obtain ⟨oe, vs, T, oT, ts, he', hcl, hd, h1, _⟩ := id g4
      refine wpAny_bind (wpAny_field (s := { s3 with heap := h5 }) he' hd h1 ?_)
      rw [if_neg (by simp)]
      refine wpAny_bind (flight_some (s := { s3 with heap := h5 }) g1 g2 g3 g4.at fun h6 held6 up6 => wpAny_throw ?_)
      exact leave_held hX.symm held6 fun h7 fl7 up7 => fly_out (s' := s3) I2 ex os bare un hok n0 n1 hB fl7.1 fl7.2.2.2 (((up4.trans up5).trans up6).trans up7) hE
  · cases f with
    | next => exact wpAny_execs_nil (SP.ofBody ok q)
    | ret u => exact SP.ofBody ok q
    | brk => exact SP.ofBody ok q
    | cont => exact SP.ofBody ok q
end
end L2
set_option Elab.async false
set_option linter.all false
set_option maxRecDepth 100000
namespace L2
open PySem PySem.Spec PyProof.Rows PySem.SeqAt
section
variable {X : Cx}
def rSlS : V → Option Int → Option Int → Hp → VK → Prop := fun x lo hi H Q => ∃ z : Str, x = .str z ∧ z.length ≤ sizeLine ∧ Q (.str (Txt.slice z lo hi)) H
theorem part_of {v : Value} {lo : Option Int} (h : IsPart v lo) : ∃ l : Option (Int × Tok), v = partValue l ∧ l.map (·.1) = lo := by
  cases h with
  | none => exact ⟨none, rfl, rfl⟩
  | int i t => exact ⟨some (i, t), rfl, rfl⟩
theorem sl_str : SlR X rSlS := by
  intro pins s σ H x v vl vu lo hi sl Q I rx hs pl pu h
  obtain ⟨z, rfl, hz, q⟩ := h
  have hle := Txt.slice_le z lo hi
  obtain ⟨t, rfl⟩ := rx
  obtain ⟨l, rfl, rfl⟩ := part_of pl
  obtain ⟨u, rfl, rfl⟩ := part_of pu
  refine ⟨"str", _, F.slot_str_getitem.lookup, typeIs_str _ _ _, wpAny_getItem_str_slice (l := l) (u := u) (st := none) hs rfl ?_⟩
  unfold sliceMade
  unfold Txt.slice at q hle
  show Made.post _ _ _
  split
  · rename_i hc
    rw [if_pos (by simpa [slicePicked] using hc)] at q
    exact ⟨.str z, H, I, ⟨t, rfl⟩, q⟩
  · rename_i hc
    rw [if_neg (by simpa [slicePicked] using hc)] at q hle
    exact ⟨Nat.le_trans hle hz, .str _, H, I.tok _, ⟨_, rfl⟩, q⟩
def rIntS : List V → Hp → VK → Prop := fun xs H Q => ∃ n : Nat, xs = [.str (toString (n : Int) : String)] ∧ n < 1000 ∧ Q (.int n) H
theorem call_intS : CallR X (.type "int") rIntS := by
  intro pins s σ H xs us Q I r h
  obtain ⟨n, rfl, hn, q⟩ := h
  obtain ⟨u, rfl, ru⟩ := Vals.one r
  obtain ⟨t, rfl⟩ := ru
  exact PySem.W.KIN.call_num (by omega) (by omega) ⟨.int n, H, I.tok _, ⟨_, rfl⟩, q⟩
def rCountT (K : PySem.W.Frag) : V → List V → Hp → VK → Prop := fun x vs H Q => ∃ l xs y ts u, x = .ref l ∧ vs = [y] ∧ SqL K H l xs ∧ TrsAt K H ts xs ∧ TrAt K H u y ∧ tdeps ts ≤ 8 ∧ Q (.int (ts.countP (fun t => teq t u) : Nat)) H
theorem countP_map2 {α β : Type} {p : α → Bool} {q : β → Bool} : ∀ {xs : List α} {ys : List β}, xs.length = ys.length → (∀ (m : Nat) (x : α) (y : β), xs[m]? = some x → ys[m]? = some y → p x = q y) → xs.countP p = ys.countP q
  | [], [], _, _ => rfl
  | [], _ :: _, e, _ => by cases e
  | _ :: _, [], e, _ => by cases e
  | x :: xs, y :: ys, e, h => by
    rw [List.countP_cons, List.countP_cons, countP_map2 (by simpa using e) fun m a b h1 h2 => h (m + 1) a b h1 h2, h 0 x y rfl rfl]
open Classical in
theorem mt_countT (hu : X.A.units + 64 < cLine) : MtM X "list.count" (rCountT X.K) := by
  intro pins s σ H x vs v us Q I rx rv h
  obtain ⟨l, xs, y, ts, u, rfl, rfl, hq, hts, ht, hd, q⟩ := h
  cases rx
  obtain ⟨u0, rfl, ru⟩ := Vals.one rv
  obtain ⟨its, r, pl, hz⟩ := I.list hq
  obtain ⟨⟨cls, dd, data, sl⟩, ho, hc, n, hdat⟩ := id pl.isList
  simp only at hc hdat
  subst hc hdat
  have l1 := hts.length
  have m1 := r.length
  have val : its.countP (fun y => decide (∃ t x, RelV x y ∧ TrAt X.K H t x ∧ teq t u = true)) = ts.countP fun t => teq t u := by
    refine countP_map2 (by omega) fun m w t ew et => ?_
    obtain ⟨z, ez, hz'⟩ := hts.get et
    obtain ⟨w', ew', rw'⟩ := r.get ez
    rw [ew] at ew'
    cases ew'
    rw [Bool.eq_iff_iff, decide_eq_true_iff]
    constructor
    · rintro ⟨t', x', r', h', e3⟩
      rw [rw'.inj r'] at hz'
      rw [tr_inj I 8 (Nat.le_trans (tdep_mem (List.mem_of_getElem? et)) hd) hz' h']; exact e3
    · intro e3
      exact ⟨t, z, rw', hz', e3⟩
  refine call_meets PySem.F.slot_list_count ⟨_, ho, rfl⟩ PySem.F.entry_list_count (PySem.F.args_list_count_2 _ _)
    (list_countAt l its.toArray n dd sl u0 (fun y => decide (∃ t x, RelV x y ∧ TrAt X.K H t x ∧ teq t u = true))) ⟨ho, in_core I hu ht ru hd hts r, ?_⟩
  rw [← val] at q
  exact ⟨.int (its.countP _ : Nat), H, I.kept fun b o e => e, ⟨_, rfl⟩, q⟩
theorem k_countT (K : PySem.W.Frag) (hu : X.A.units + 64 < cLine) (e : X.K = K := by rfl) : MtM X "list.count" (rCountT K) := by subst e; exact mt_countT hu
def rIsiTup (K : PySem.W.Frag) : List V → Hp → VK → Prop := fun xs H Q => ∃ (e C p : Addr) (cs : List Addr) (b : Bool), xs = [.ref e, .ref p] ∧ H p = some (.tup (cs.map V.ref)) ∧ H e = some (excO e C) ∧ ExcI K C ∧ PySem.W.kitAny K (.ref C) (cs.map Value.ref) = some b ∧ Q (.bl b) H
theorem vals_refsT : ∀ {cs : List Addr} {its : List Value}, Vals (cs.map V.ref) its → its = cs.map Value.ref
  | [], _, h => by cases h; rfl
  | c :: cs, _, h => by
    cases h with
    | cons h1 h2 =>
      rw [List.map_cons, vals_refsT h2]
      cases h1
      rfl
theorem call_isiTup : CallR X (.builtin "isinstance") (rIsiTup X.K) := by
  intro pins s σ H xs us Q I r h
  obtain ⟨e, C, p, cs, b, rfl, hp, he, Fi, k, q⟩ := h
  obtain ⟨u, v, rfl, rx, rt⟩ := vals2 r
  cases (show u = Value.ref e from rx)
  cases (show v = Value.ref p from rt)
  have o : ObjOk X.prog X.w H s.heap e (excO e C) := I.hok e _ he
  obtain ⟨its, rv, tp, _⟩ := I.tuple (SqT.of hp)
  obtain rfl := vals_refsT rv
  obtain ⟨⟨cls, dd, data, sl⟩, ho, hc, n, hdat⟩ := id tp
  simp only at hc hdat
  subst hc hdat
  exact PySem.W.kia_tup (kitx_exc Fi) I.kIn o.1 ho k (fun z => nomatch z) fun tk => ⟨.bl b, H, I.tok tk, rfl, q⟩
theorem k_isiTup (K : PySem.W.Frag) (e : X.K = K := by rfl) : CallR X (.builtin "isinstance") (rIsiTup K) := by subst e; exact call_isiTup
end
end L2
set_option Elab.async false
set_option linter.all false
set_option maxRecDepth 100000
namespace L2
open PySem PySem.Spec PyProof.Rows
section
variable {X : Cx} {K : PySem.W.Frag}
end
end L2
set_option Elab.async false
set_option linter.all false
set_option maxRecDepth 100000
namespace L2
open PySem PySem.Spec PyProof.Rows PySem.SeqAt
section
variable {X : Cx} {K : PySem.W.Frag}
end
end L2
namespace PySem.W.Fast
def tw9488785384120774452 := ()
def tw18179934519026606302 := ()
def tw5812610807976201573 := ()
def tw540460417348073527 := ()
def tw8930662172284387179 := ()
def tw15101633289834794017 := ()
def tw15591403491995012628 := ()
def tw3589338481453491515 := ()
def tw7080218355769355826 := ()
def tw8606920868622629306 := ()
def tw9950309525621234208 := ()
def tw6241703663647695267 := ()
def tw2085387172706982658 := ()
def tw1030352898034385885 := ()
def tw3743813866830525333 := ()
def tw15572352478307236031 := ()
def tw6349982316704695546 := ()
def tw2678822247046202923 := ()
def tw14036874824599089499 := ()
def tw843912542795856380 := ()
def tw11799811892420187352 := ()
def tw5805842727727820578 := ()
def tw6052565272837390889 := ()
def tw9217154193412118620 := ()
def tw13683407121545353288 := ()
def tw10570993605461138423 := ()
def tw11905303447772778372 := ()
def tw15043944078606082833 := ()
def tw6686725528525079989 := ()
def tw5142562097218794740 := ()
def tw18157757722753142014 := ()
def tw2882552220099341083 := ()
def tw10698097055589803980 := ()
def tw15678518209219532607 := ()
def tw17445869035817833812 := ()
def tw13041056524210481772 := ()
def tw11457748886907793010 := ()
def tw16011391698614413313 := ()
def tw8668801783735011114 := ()
def tw110693726227853047 := ()
def tw388741977259466866 := ()
def tw2976728566390305900 := ()
def tw11021883052015409090 := ()
def tw4654220232177256466 := ()
def tw8554079516396879516 := ()
def tw1822583238836471705 := ()
def tw8628890825456522177 := ()
def tw7085574336791155667 := ()
def tw10233688888887520313 := ()
def tw16042520508670306979 := ()
def tw15077740845861613918 := ()
def tw13553814098272776178 := ()
def tw16582732508422764917 := ()
def tw4490834861235545714 := ()
def tw17730196618909322250 := ()
def tw5170560527121968219 := ()
def tw1221424074175304236 := ()
def tw11309733412777841396 := ()
def tw5889981149324225132 := ()
def tw3196007276018168598 := ()
def tw11259628763953289649 := ()
def tw17680004942973000172 := ()
def tw2245671044610149693 := ()
def tw6255366918289642429 := ()
def tw13212696958435990260 := ()
def tw6355206477225947319 := ()
def tw13278243077611523604 := ()
def tw3436982838093497879 := ()
def tw14509664289978344690 := ()
def tw5628392271232041243 := ()
def tw18109443411131041352 := ()
def tw15950358821173453263 := ()
def tw12657325409856053936 := ()
def tw8272631056867131864 := ()
def tw17897652452468808613 := ()
def tw2839339821674930186 := ()
def tw16686569747702323900 := ()
def tw7676413400736383229 := ()
def tw9991897439050562633 := ()
def tw6245190697630695328 := ()
def tw5963575288731862537 := ()
def tw7598482847563235077 := ()
def tw7721180742087893246 := ()
def tw3562362584389853307 := ()
def tw15686227576386034545 := ()
def tw7242583717392819204 := ()
def tw796928139411245492 := ()
def tw10502469029477513786 := ()
def tw4683927827386445728 := ()
def tw18232220847957173069 := ()
def tw17120291941445039689 := ()
def tw12892419391273071493 := ()
def tw1271777684617979744 := ()
def tw15374609334360986273 := ()
def tw3420317346087279798 := ()
def tw5987517989746653459 := ()
def tw3114330641765544201 := ()
def tw4486201445629378817 := ()
def tw8458933454912637005 := ()
def tw13860939381345726358 := ()
def tw3951703001652044087 := ()
def tw1702375628010771939 := ()
def tw11211756809492677213 := ()
def tw14174290571554156973 := ()
def tw13840284289826041739 := ()
def tw11791154726734899660 := ()
def tw3635993866319782782 := ()
def tw8160459430069899978 := ()
def tw16848293736961673281 := ()
def tw9971690164626785780 := ()
def tw17763408249322893931 := ()
def tw17566309278251576842 := ()
def tw14015882158446690373 := ()
def tw6426067767057849743 := ()
def tw17709842938094795669 := ()
def tw1177937979124411667 := ()
def tw16062065285482348689 := ()
def tw1488469228757509102 := ()
def tw11114450957088476976 := ()
def tw2213110913620126181 := ()
def tw2586969762447656844 := ()
def tw389074732991603549 := ()
def tw14964351418849281723 := ()
def tw2963837791403532710 := ()
def tw811939601493824427 := ()
def tw390758695917309464 := ()
def tw11123743231021734040 := ()
def tw2966399759712486360 := ()
def tw5122280197174801467 := ()
def tw4196488989987010322 := ()
def tw4384608554367039628 := ()
def tw7188984942235335260 := ()
def tw13705497577226993484 := ()
def tw6913383555789757899 := ()
def tw3591880640791528867 := ()
def tw13174687581939816462 := ()
def tw15849655246159976037 := ()
def tw1084417006993635727 := ()
def tw8513281858719207491 := ()
def tw17964410297808947501 := ()
def tw14777779055436824443 := ()
def tw2274835758069994162 := ()
def tw10263719873226733024 := ()
def tw8217407212111574621 := ()
def tw5347849152293243326 := ()
def tw4300276669376837010 := ()
def tw16451748963699391157 := ()
def tw16378752593513894182 := ()
def tw18038521047424896467 := ()
def tw17679149717950776490 := ()
def tw15020512122684168171 := ()
def tw8633360700760197378 := ()
def tw3941090459180943303 := ()
def tw8307969749219675524 := ()
def tw5514785108239797305 := ()
def tw1603293036787085164 := ()
def tw11936267652230324771 := ()
def tw17512433473728172742 := ()
def tw18293772476568250360 := ()
def tw14493527148299029206 := ()
def tw1155639430686385330 := ()
def tw2143879680633520986 := ()
def tw1990414071572668236 := ()
def tw16677994556910730275 := ()
def tw15006136932284576849 := ()
def tw13501825011337283278 := ()
def tw9462644320354973964 := ()
def tw7741311277404588719 := ()
def tw9257556436817438126 := ()
def tw5839063632918173490 := ()
def tw2825970376086435349 := ()
def tw9429151181440385164 := ()
def tw7152760497414000735 := ()
def tw4285588990994850290 := ()
def tw15979457896952344801 := ()
def tw12820526772583534361 := ()
def tw17996303111725121196 := ()
def tw17253317018690924205 := ()
def tw17206696781208450462 := ()
def tw9045327625933874904 := ()
def tw15835228415648832578 := ()
def tw833873567022681763 := ()
def tw18338947553818430818 := ()
def tw9664864225125944951 := ()
def tw4582925835247440270 := ()
def tw3255160760853121866 := ()
def tw12803459181579752654 := ()
def tw16268754718218685869 := ()
def tw17979460789930883400 := ()
def tw4860522370772177015 := ()
def tw10484051462287835332 := ()
def tw6466614642683853537 := ()
def tw14533694991278891610 := ()
def tw14899744901475454936 := ()
def tw12394029072225428699 := ()
def tw14881803493933484362 := ()
def tw8999912559154177970 := ()
def tw3238644082695735188 := ()
def tw4648294523366547218 := ()
def tw3675564127844960215 := ()
def tw5368062634512518238 := ()
def tw8708954296535873949 := ()
def tw8043416241443168310 := ()
def tw14143591598160465683 := ()
def tw14604600289232778061 := ()
def tw4932969324230485533 := ()
def tw9190773079936935762 := ()
def tw2743816910451576022 := ()
def tw14498644535989019832 := ()
def tw13413900394338967515 := ()
def tw7135654111340591704 := ()
def tw15565815583779880401 := ()
def tw7257812490043499455 := ()
def tw7619066162591015935 := ()
def tw10356947936267763049 := ()
def tw6605678512501968201 := ()
def tw13783139138562644339 := ()
def tw2930375556089501330 := ()
def tw1333923303517589339 := ()
def tw9247356131952059082 := ()
def tw8119057463875949132 := ()
def tw12279600780565340857 := ()
def tw1035970076226208434 := ()
def tw7422288041331746127 := ()
def tw12805663925695311089 := ()
def tw271990178513825848 := ()
def tw11503872333213348003 := ()
def tw7577902001307750250 := ()
def tw10804521595037097212 := ()
def tw7385511239900291544 := ()
def tw69942459193246429 := ()
def tw2879035563630995032 := ()
def tw1920058395575087238 := ()
def tw8363390902112749463 := ()
def tw11678905257410637859 := ()
def tw7567361547353954486 := ()
def tw6794767926190891329 := ()
def tw15913110203549769196 := ()
def tw10751096101816810862 := ()
def tw14725196537795422716 := ()
def tw13983673642302460066 := ()
def tw2996129258963473093 := ()
def tw14946989939166457067 := ()
def tw4040849387010551983 := ()
def tw3620448314508317356 := ()
def tw2395343629905207780 := ()
def tw16854467099876791838 := ()
def tw1641301470216757369 := ()
def tw7256243510205087791 := ()
def tw11566354924204769532 := ()
def tw8769955924851920456 := ()
def tw12502238902196124880 := ()
def tw11030117062362396656 := ()
def tw2980764302008738982 := ()
def tw4828120273683450164 := ()
def tw3201599962075855101 := ()
def tw9460424984628310288 := ()
def tw15022796410665027786 := ()
def tw169793047036436846 := ()
def tw1074850021106949553 := ()
def tw2106378379456236594 := ()
def tw12278208362548243107 := ()
def tw12425137049055539706 := ()
def tw16393767445157328121 := ()
def tw1120200918183507505 := ()
def tw8398877224271865673 := ()
def tw887134593898990332 := ()
def tw5769935948485707029 := ()
def tw14044608104296245063 := ()
def tw12874801286733991841 := ()
def tw18175531354749898683 := ()
def tw8824538162455129548 := ()
def tw8493082967056234111 := ()
def tw8059636453124620648 := ()
def tw4323698652850098818 := ()
def tw14577315244548063735 := ()
def tw11305910711856954385 := ()
def tw6766682834058115195 := ()
def tw3403169967018252572 := ()
def tw996705960498873357 := ()
def tw9119068000152188417 := ()
def tw5555187336530976866 := ()
def tw10599249203074650972 := ()
def tw13705890856154253989 := ()
def tw10476857404653248242 := ()
def tw14653855992935763523 := ()
def tw5639733050921337923 := ()
def tw16847248524198612855 := ()
def tw10705811041510433622 := ()
def tw10603798921510966979 := ()
def tw11727470918379386259 := ()
def tw8435216763134252350 := ()
def tw14428912964726662449 := ()
def tw5815277364139543132 := ()
def tw13496270177879708941 := ()
def tw16753801367999115690 := ()
def tw17254703162708143200 := ()
def tw15817722280177710054 := ()
def tw13096585034054260329 := ()
def tw10831032028249407253 := ()
def tw12556607631748909538 := ()
def tw14612765572699573021 := ()
def tw5546217171713920897 := ()
def tw13449911223757537586 := ()
def tw7501799009295611359 := ()
def tw1611987136577316332 := ()
def tw8275897097036044308 := ()
def tw15971547186642169412 := ()
def tw3762034049256925146 := ()
def tw12574665742468800153 := ()
def tw11057279682365302886 := ()
def tw12643849884086607878 := ()
def tw14882350365013378244 := ()
def tw8042144481852490684 := ()
def tw15384629606973085292 := ()
def tw2910128581111830228 := ()
def tw13436175316903921307 := ()
def tw11997223937385864201 := ()
def tw7054377278885607148 := ()
def tw11256661951232953742 := ()
def tw11365364512485278465 := ()
def tw1170468815738331444 := ()
def tw2023424754381115401 := ()
def tw11229438975564973951 := ()
def tw2258908824476853407 := ()
def tw16024914569546233621 := ()
def tw13762539194318389919 := ()
def tw3068032817827845206 := ()
def tw4382246345856526147 := ()
def tw15515656235767514112 := ()
def tw10333992070971552092 := ()
def tw15367229678055926562 := ()
def tw10085480748392710673 := ()
def tw14860940856235502035 := ()
def tw17644880853247385222 := ()
def tw3503451251387822219 := ()
def tw5579332978615921272 := ()
def tw17638752700385416317 := ()
def tw11602707347974787265 := ()
def tw9241221150010638470 := ()
def tw2838830019216107226 := ()
def tw14768799279929990167 := ()
def tw9566352292228296632 := ()
def tw14655242493634063117 := ()
def tw11240801164234519588 := ()
def tw6648881180983005836 := ()
def tw5010395320397355357 := ()
def tw7329639234404922360 := ()
def tw6783791030615972907 := ()
def tw878351785644471929 := ()
def tw10713140152132699774 := ()
def tw17012488865965406036 := ()
def tw560758782049350568 := ()
def tw15137486649590694384 := ()
def tw5946590692665714471 := ()
def tw12186575396644063345 := ()
def tw16344897812323150362 := ()
def tw14299118038720369322 := ()
def tw10862775880461871693 := ()
def tw7745392345279437957 := ()
def tw2772037478448889311 := ()
def tw17525189830700092433 := ()
def tw17802334406074055649 := ()
def tw1788458116637151585 := ()
def tw16349808910377038279 := ()
def tw10400187705154594414 := ()
def tw9793450717101760664 := ()
def tw7853970347943193109 := ()
def tw11248139106030689871 := ()
def tw18251210816261610234 := ()
def tw13860090414511910709 := ()
def tw17883871666018886547 := ()
def tw3261575560673134310 := ()
def tw1661785715571439988 := ()
def tw4958304123593661944 := ()
def tw18047544365348457828 := ()
def tw15302030961941767013 := ()
def tw16342941375695676551 := ()
def tw7396975805920039959 := ()
def tw4426848257997787085 := ()
def tw4866226754560578548 := ()
def tw15658199453734416418 := ()
def tw15959358208394630000 := ()
def tw7634668691554913177 := ()
def tw15399576568856930212 := ()
def tw15290997664249083098 := ()
def tw5877633869807679933 := ()
def tw14340717859216267224 := ()
def tw464915687796886103 := ()
def tw11607187754579626479 := ()
def tw17667494652168958980 := ()
def tw14237662867181095818 := ()
def tw13419139638238939454 := ()
def tw14824875429608568999 := ()
def tw11813449173217212997 := ()
def tw18200895608029270850 := ()
def tw9091700357872041973 := ()
def tw12027443194807253465 := ()
def tw8291228344349424630 := ()
def tw11390446304432927105 := ()
def tw13699964166160140805 := ()
def tw9731340924727648606 := ()
def tw16757500366906300915 := ()
def tw7633394792895732246 := ()
def tw3641521223170559693 := ()
def tw1913784266166426095 := ()
def tw4322038863091802145 := ()
def tw8443773923516149449 := ()
def tw6073096430242141199 := ()
def tw3782290466677832743 := ()
end PySem.W.Fast
set_option Elab.async false
set_option linter.all false
set_option maxRecDepth 100000
namespace Lw
open PySem L2 PyProof.Rows
def top (i : Nat) : Stmt := PySem.Challenge.pw_lackstretch_k38_texts_that_write_none.main.body.getD i (.Pass ⟨0, 0, 0, 0⟩)
abbrev s_is_whole : Stmt := top 20
abbrev s_is_number : Stmt := top 21
abbrev s_is_base : Stmt := top 22
abbrev s_is_figure : Stmt := top 23
abbrev s_are_figures : Stmt := top 24
abbrev s_writes_number : Stmt := top 25
abbrev s_is_stretch : Stmt := top 26
abbrev s_is_rising : Stmt := top 27
abbrev s_is_bad_list : Stmt := top 28
abbrev s_is_rule : Stmt := top 29
abbrev s_check_base : Stmt := top 30
abbrev s_check_number : Stmt := top 31
abbrev s_check_rule : Stmt := top 32
abbrev s_figures_of : Stmt := top 33
abbrev s_number_by : Stmt := top 34
abbrev s_text_by : Stmt := top 38
abbrev s_figures_in : Stmt := top 39
abbrev s_show_number : Stmt := top 40
abbrev s_read_number : Stmt := top 41
abbrev s_show_rule : Stmt := top 42
abbrev s_read_rule : Stmt := top 43
abbrev s__law_cell : Stmt := top 45
abbrev s__law_mixed : Stmt := top 46
abbrev s__law_rule : Stmt := top 47
abbrev s__law_figures : Stmt := top 48
abbrev s__law_text : Stmt := top 49
abbrev s__law_number : Stmt := top 50
abbrev s__law_writes_rule : Stmt := top 51
abbrev s__law_writes_number : Stmt := top 52
abbrev s__law_odd : Stmt := top 53
abbrev s__law_given : Stmt := top 54
abbrev s__law_asked : Stmt := top 55
abbrev s__law_bad : Stmt := top 56
abbrev s_law : Stmt := top 57
end Lw
namespace Lw
open PySem L2 PyProof.Rows
end Lw
set_option Elab.async false
set_option linter.all false
set_option maxRecDepth 100000
namespace Lw
open PySem L2 PyProof.Rows
def wholeT : PyData → Bool
  | .int _ => true
  | _ => false
def intT : PyData → Int
  | .int i => i
  | _ => 0
def baseT : PyData → Bool
  | .int i => decide (2 ≤ i ∧ i ≤ 16)
  | _ => false
def figT (b : Int) : PyData → Bool
  | .int i => decide (0 ≤ i ∧ i < b)
  | _ => false
def figsT (b : Int) : PyData → Bool
  | .list xs => xs.all (figT b)
  | _ => false
def eltsT : PyData → List PyData
  | .list xs => xs
  | _ => []
def intsT (d : PyData) : List Int := (eltsT d).map intT
def stretchT (b : Int) (d : PyData) : Bool := figsT b d && decide (1 ≤ (eltsT d).length ∧ (eltsT d).length ≤ 4)
def risingL (ls : List (List Int)) : Bool := (List.range (ls.length - 1)).all fun k => HT.lexLt (ls.getD k []) (ls.getD (k + 1) [])
def badT (b : Int) : PyData → Bool
  | .list xs => decide (xs.length ≤ 4) && (xs.all (stretchT b) && risingL (xs.map intsT))
  | _ => false
def ruleT : PyData → Bool
  | .tuple [d, l] => baseT d && badT (intT d) l
  | _ => false
theorem wholeT_is (d : PyData) : wholeT d = (isT "int" d && !isT "bool" d) := by cases d <;> rfl
theorem wholeT_int {d : PyData} (h : wholeT d = true) : d = .int (intT d) := by cases d <;> first | rfl | cases h
section
variable {P : Program} {w : World} {K : PySem.W.Frag} {mg : Str → Option Value} {base : Heap}
def sp_is_whole : Sp := fun vs H Q _ => ∃ (v : V) (d : PyData), vs = [v] ∧ ThAt H d v ∧ Q (.bl (wholeT d)) H
theorem sc_is_whole : FnScope ["thing"] ["thing"] (defScope s_is_whole) := ⟨rfl, rfl, rfl, by decide +kernel, rfl, by decide +kernel, by decide +kernel⟩
theorem ok_is_whole {f : Addr} {fd : FuncData} (D : Df K mg "is_whole" s_is_whole ["thing"] f fd) (T : Blt mg) : FnOk P w K mg base CX0 1 f fd ["thing"] sp_is_whole := by
  refine D.fn.ok sc_is_whole (fun vs H Q E h => ?_) (fun cdv A outer s H vs Q E hr h => ?_)
  · obtain ⟨v, d, rfl, _⟩ := h; rfl
  · obtain ⟨v, d, rfl, hd, q⟩ := h
    refine ⟨_, (pss_one (ps_ret (pe_and (pe_callB (k_isi K) (by rfl) T.n_isinstance boot_isinstance (pa_cons (pv 0) (pa_cons (pe_bltn (v := .ty "int") rfl T.n_int boot_int rfl) pa_nil))) (pe_one (pe_not (pe_callB (k_isi K) (by rfl) T.n_isinstance boot_isinstance (pa_cons (pv 0) (pa_cons (pe_bltn (v := .ty "bool") rfl T.n_bool boot_bool rfl) pa_nil)))))))), ?_⟩
    rw [wholeT_is] at q
    refine ⟨_, rfl, _, _, _, _, rfl, hd.ty, kit_int d, _, rfl, ?_⟩
    cases h1 : isT "int" d with
    | false => rw [h1] at q; exact iteF q
    | true =>
      rw [h1, Bool.true_and] at q
      exact iteT ⟨_, rfl, _, _, _, _, rfl, hd.ty, kit_bool d, _, rfl, q⟩
def sp_is_base : Sp := fun vs H Q _ => ∃ (v : V) (d : PyData), vs = [v] ∧ ThAt H d v ∧ Q (.bl (baseT d)) H
theorem sc_is_base : FnScope ["thing"] ["thing"] (defScope s_is_base) := ⟨rfl, rfl, rfl, by decide +kernel, rfl, by decide +kernel, by decide +kernel⟩
theorem ok_is_base {f f1 : Addr} {fd fd1 : FuncData} {t1 t2 : Tok} (D : Df K mg "is_base" s_is_base ["thing"] f fd) (Dis_whole : Df K mg "is_whole" s_is_whole ["thing"] f1 fd1) (T : Blt mg) (c_LEAST_BASE : mg "LEAST_BASE" = some (.int 2 t1)) (c_GREATEST_BASE : mg "GREATEST_BASE" = some (.int 16 t2)) :
    FnOk P w K mg base CX0 2 f fd ["thing"] sp_is_base := by
  have Gis_whole : FnOk P w K mg base CX0 1 f1 fd1 ["thing"] sp_is_whole := ok_is_whole Dis_whole T
  refine D.fn.ok sc_is_base (fun vs H Q E h => ?_) (fun cdv A outer s H vs Q E hr h => ?_)
  · obtain ⟨v, d, rfl, _⟩ := h; rfl
  · obtain ⟨v, d, rfl, hd, q⟩ := h
    refine ⟨_, (pss_one (ps_ret (pe_and (pcall Dis_whole Gis_whole (hr.mono (by decide)) (pa_cons (pv 0) pa_nil)) (pe_one (pe_chain op_le op_le (pe_glob (v := .int 2) rfl c_LEAST_BASE ⟨_, rfl⟩) (pv 0) (pe_glob (v := .int 16) rfl c_GREATEST_BASE ⟨_, rfl⟩)))))), ?_⟩
    refine ⟨_, rfl, v, d, rfl, hd, _, rfl, ?_⟩
    cases hw : wholeT d with
    | false =>
      have : baseT d = false := by cases d <;> first | rfl | cases hw
      rw [this] at q
      exact iteF q
    | true =>
      have e := wholeT_int hw
      generalize intT d = i at e
      subst e
      rw [ThAt] at hd
      subst hd
      refine iteT ⟨_, rfl, _, _, rfl, rfl, _, rfl, ?_⟩
      replace q : Q (.bl (decide (2 ≤ i ∧ i ≤ 16))) H := q
      refine ite2 (fun h1 => ?_) (fun h1 => ?_)
      · have h1' : (2 : Int) ≤ i := of_decide_eq_true h1
        refine ⟨_, _, rfl, rfl, ?_⟩
        rw [show decide (2 ≤ i ∧ i ≤ 16) = decide (i ≤ 16) by simp [h1']] at q
        exact q
      · have h1' : ¬ (2 : Int) ≤ i := fun z => h1 (decide_eq_true z)
        rw [show decide (2 ≤ i ∧ i ≤ 16) = false by simp [h1']] at q
        exact q
def sp_is_figure : Sp := fun vs H Q _ => ∃ (b : Int) (v : V) (d : PyData), vs = [.int b, v] ∧ ThAt H d v ∧ Q (.bl (figT b d)) H
theorem sc_is_figure : FnScope ["base", "thing"] ["base", "thing"] (defScope s_is_figure) := ⟨rfl, rfl, rfl, by decide +kernel, rfl, by decide +kernel, by decide +kernel⟩
theorem ok_is_figure {f f1 : Addr} {fd fd1 : FuncData} (D : Df K mg "is_figure" s_is_figure ["base", "thing"] f fd) (Dis_whole : Df K mg "is_whole" s_is_whole ["thing"] f1 fd1) (T : Blt mg) : FnOk P w K mg base CX0 2 f fd ["base", "thing"] sp_is_figure := by
  have Gis_whole : FnOk P w K mg base CX0 1 f1 fd1 ["thing"] sp_is_whole := ok_is_whole Dis_whole T
  refine D.fn.ok sc_is_figure (fun vs H Q E h => ?_) (fun cdv A outer s H vs Q E hr h => ?_)
  · obtain ⟨b, v, d, rfl, _⟩ := h; rfl
  · obtain ⟨b, v, d, rfl, hd, q⟩ := h
    refine ⟨_, (pss_one (ps_ret (pe_and (pcall Dis_whole Gis_whole (hr.mono (by decide)) (pa_cons (pv 1) pa_nil)) (pe_one (pe_chain op_le op_lt pe_int (pv 1) (pv 0)))))), ?_⟩
    refine ⟨_, rfl, v, d, rfl, hd, _, rfl, ?_⟩
    cases hw : wholeT d with
    | false =>
      have : figT b d = false := by cases d <;> first | rfl | cases hw
      rw [this] at q
      exact iteF q
    | true =>
      have e := wholeT_int hw
      generalize intT d = i at e
      subst e
      rw [ThAt] at hd
      subst hd
      refine iteT ⟨_, rfl, _, _, rfl, rfl, _, rfl, ?_⟩
      replace q : Q (.bl (decide (0 ≤ i ∧ i < b))) H := q
      refine ite2 (fun h1 => ?_) (fun h1 => ?_)
      · have h1' : (0 : Int) ≤ i := of_decide_eq_true h1
        refine ⟨_, rfl, _, _, rfl, rfl, ?_⟩
        rw [show decide (0 ≤ i ∧ i < b) = decide (i < b) by simp [h1']] at q
        exact q
      · have h1' : ¬ (0 : Int) ≤ i := fun z => h1 (decide_eq_true z)
        rw [show decide (0 ≤ i ∧ i < b) = false by simp [h1']] at q
        exact q
end
end Lw
set_option Elab.async false
set_option linter.all false
set_option maxRecDepth 100000
namespace Lw
open PySem L2 PyProof.Rows
mutual
def sizT : PyData → Nat
  | .list xs => max xs.length (sizTs xs)
  | .tuple xs => max xs.length (sizTs xs)
  | _ => 0
def sizTs : List PyData → Nat
  | [] => 0
  | d :: ds => max (sizT d) (sizTs ds)
end
theorem sizTs_mem {d : PyData} : ∀ {ds : List PyData}, d ∈ ds → sizT d ≤ sizTs ds
  | e :: ds, h => by
    rw [sizTs]
    rcases List.mem_cons.mp h with rfl | h
    · omega
    · have := sizTs_mem h; omega
theorem figs_ints {H : Hp} {b : Int} : ∀ {xs : List PyData} {ys : List V}, ThsAt H xs ys → xs.all (figT b) = true → ys = (xs.map intT).map V.int
  | [], ys, h, _ => by rw [ThsAt] at h; rw [h]; rfl
  | d :: ds, ys, h, q => by
    rw [ThsAt] at h
    obtain ⟨y, zs, h1, h2, h3⟩ := h
    rw [List.all_cons, Bool.and_eq_true] at q
    have e : d = .int (intT d) := by cases d <;> first | rfl | cases q.1
    rw [e, ThAt] at h2
    rw [h1, h2, figs_ints h3 q.2]
    rfl
theorem ThAt.figs {H : Hp} {b : Int} {d : PyData} {v : V} (h : ThAt H d v) (q : figsT b d = true) : ∃ a, v = .ref a ∧ H a = some (.lst ((intsT d).map V.int)) := by
  cases d with
  | list xs =>
    rw [ThAt] at h
    obtain ⟨a, ys, h1, h2, h3⟩ := h
    exact ⟨a, h1, by rw [h2, figs_ints h3 q]; rfl⟩
  | _ => cases q
theorem isT_list {d : PyData} (h : isT "list" d = true) : ∃ xs, d = .list xs := by
  cases d <;> first | exact ⟨_, rfl⟩ | cases h
theorem isT_tuple {d : PyData} (h : isT "tuple" d = true) : ∃ xs, d = .tuple xs := by
  cases d <;> first | exact ⟨_, rfl⟩ | cases h
theorem all_mapid {α : Type} {p : α → Bool} {l : List α} : (l.map p).all id = l.all p := by rw [List.all_map]; rfl
section
variable {P : Program} {w : World} {K : PySem.W.Frag} {mg : Str → Option Value} {base : Heap}
def sp_are_figures : Sp := fun vs H Q _ => ∃ (b : Int) (v : V) (d : PyData), vs = [.int b, v] ∧ ThAt H d v ∧ sizT d ≤ 100000 ∧ ∀ H', Same H H' → Q (.bl (figsT b d)) H'
theorem sc_are_figures : FnScope ["base", "thing"] ["base", "thing"] (defScope s_are_figures) := ⟨rfl, rfl, rfl, by decide +kernel, rfl, by decide +kernel, by decide +kernel⟩
theorem ok_are_figures {f f1 : Addr} {fd fd1 : FuncData} (D : Df K mg "are_figures" s_are_figures ["base", "thing"] f fd) (Dis_figure : Df K mg "is_figure" s_is_figure ["base", "thing"] f1 fd1) (Gis_figure : FnOk P w K mg base CX0 2 f1 fd1 ["base", "thing"] sp_is_figure) (T : Blt mg) :
    FnOk P w K mg base CX0 3 f fd ["base", "thing"] sp_are_figures := by
  refine D.fn.ok sc_are_figures (fun vs H Q E h => ?_) (fun cdv A outer s H vs Q E hr h => ?_)
  · obtain ⟨b, v, d, rfl, _⟩ := h; rfl
  · obtain ⟨b, v, d, rfl, hd, hs, kk⟩ := h
    refine ⟨_, (pss_one (ps_ret (pe_and (pe_callB (k_isi K) (by rfl) T.n_isinstance boot_isinstance (pa_cons (pv 1) (pa_cons (pe_bltn (v := .ty "list") rfl T.n_list boot_list rfl) pa_nil))) (pe_one (pe_callB (k_all K rfl) (by rfl) T.n_all boot_all (pa_cons (pe_comp (show CScope (defScope s_are_figures) _ "each" ["base", "thing"] ["base"] [0] from ⟨rfl, by decide +kernel, by decide +kernel, rfl, by decide +kernel, rfl, by decide +kernel, by decide +kernel⟩) rfl (k_pi K (pv 1)) (fun _ _ _ _ => pts_nil) (fun _ _ _ _ => (pcall Dis_figure Gis_figure (hr.mono (by decide)) (pa_cons (pv 1) (pa_cons (pv 0) pa_nil))))) pa_nil)))))), ?_⟩
    refine ⟨_, rfl, _, _, _, _, rfl, hd.ty, kit_list d, _, rfl, ?_⟩
    cases hl : isT "list" d with
    | false =>
      have q := kk H (Same.refl _)
      rw [show figsT b d = false by cases d <;> first | rfl | cases hl] at q
      exact iteF q
    | true =>
      obtain ⟨xs, rfl⟩ := isT_list hl
      rw [ThAt] at hd
      obtain ⟨a, ys, rfl, ha, hx⟩ := hd
      rw [sizT] at hs
      refine iteT ⟨_, rfl, a, rfl, ⟨_, SqL.of ha⟩, comp_list (K := K) (a := a) (xs := ys) (fun i us H4 => us = ((xs.take i).map (figT b)).map V.bl ∧ H4 = H) ⟨by simp, rfl⟩ (fun i us H4 _ ⟨_, e⟩ => by rw [e]; exact SqL.of ha) ?_ ?_⟩
      · rintro j x us H4 hj ⟨rfl, rfl⟩
        obtain ⟨d, hdj, hd⟩ := hx.get hj
        refine ⟨?_, ?_⟩
        · rw [List.length_map, List.length_map, List.length_take]
          exact Nat.lt_of_le_of_lt (show min j xs.length ≤ 100000 by omega) (by decide)
        unfold tYes
        dsimp only
        rw [if_pos rfl]
        refine ⟨_, rfl, _, rfl, b, x, d, rfl, hd, ?_, rfl⟩
        rw [List.take_succ, hdj]; simp
      · rintro us H4 ⟨rfl, rfl⟩ Dd hD
        refine ⟨Dd, _, rfl, SqL.of upd_same, ?_⟩
        rw [hx.len, List.take_length, all_mapid]
        exact kk _ (same_upd hD)
def sp_is_stretch : Sp := fun vs H Q _ => ∃ (b : Int) (v : V) (d : PyData), vs = [.int b, v] ∧ ThAt H d v ∧ sizT d ≤ 100000 ∧ ∀ H', Same H H' → Q (.bl (stretchT b d)) H'
theorem sc_is_stretch : FnScope ["base", "thing"] ["base", "thing"] (defScope s_is_stretch) := ⟨rfl, rfl, rfl, by decide +kernel, rfl, by decide +kernel, by decide +kernel⟩
theorem ok_is_stretch {f f1 : Addr} {fd fd1 : FuncData} {t1 : Tok} (D : Df K mg "is_stretch" s_is_stretch ["base", "thing"] f fd) (Dare_figures : Df K mg "are_figures" s_are_figures ["base", "thing"] f1 fd1) (Gare_figures : FnOk P w K mg base CX0 3 f1 fd1 ["base", "thing"] sp_are_figures) (c_LONGEST_STRETCH : mg "LONGEST_STRETCH" = some (.int 4 t1)) (T : Blt mg) :
    FnOk P w K mg base CX0 4 f fd ["base", "thing"] sp_is_stretch := by
  refine D.fn.ok sc_is_stretch (fun vs H Q E h => ?_) (fun cdv A outer s H vs Q E hr h => ?_)
  · obtain ⟨b, v, d, rfl, _⟩ := h; rfl
  · obtain ⟨b, v, d, rfl, hd, hs, kk⟩ := h
    refine ⟨_, (pss_one (ps_ret (pe_and (pcall Dare_figures Gare_figures (hr.mono (by decide)) (pa_cons (pv 0) (pa_cons (pv 1) pa_nil))) (pe_one (pe_chain op_le op_le pe_int (pe_callB (k_len K) (by rfl) T.n_len PySem.boot_len (pa_cons (pv 1) pa_nil)) (pe_glob (v := .int 4) rfl c_LONGEST_STRETCH ⟨_, rfl⟩)))))), ?_⟩
    refine ⟨_, rfl, _, rfl, b, v, d, rfl, hd, hs, fun H1 m1 => ⟨_, rfl, ?_⟩⟩
    have q := kk H1 m1
    unfold stretchT at q
    cases hf : figsT b d with
    | false => rw [hf] at q; exact iteF q
    | true =>
      rw [hf, Bool.true_and] at q
      obtain ⟨a, rfl, ha⟩ := ThAt.figs hd hf
      refine iteT ⟨_, rfl, a, _, rfl, .inl (SqL.of (m1 _ _ ha)), _, _, rfl, rfl, _, rfl, ?_⟩
      have el : (intsT d).length = (eltsT d).length := List.length_map _
      rw [List.length_map, el]
      generalize (eltsT d).length = n at q
      by_cases h1 : 1 ≤ n
      · rw [decide_eq_true (show (1 : Int) ≤ (n : Int) by omega)]
        refine iteT ⟨_, _, rfl, rfl, ?_⟩
        rw [show decide (1 ≤ n ∧ n ≤ 4) = decide ((n : Int) ≤ 4) from decide_eq_decide.mpr ⟨fun z => by omega, fun z => ⟨h1, by omega⟩⟩] at q
        exact q
      · rw [decide_eq_false (show ¬ (1 : Int) ≤ (n : Int) by omega)]
        rw [decide_eq_false (show ¬ (1 ≤ n ∧ n ≤ 4) from fun z => h1 z.1)] at q
        exact iteF q
def sp_is_rising : Sp := fun vs H Q _ => ∃ (bl : Addr) (zs : List (Addr × List Int)), vs = [.ref bl] ∧ H bl = some (.lst (zs.map fun z => V.ref z.1)) ∧ (∀ z ∈ zs, H z.1 = some (.lst (z.2.map V.int))) ∧ zs.length ≤ 4 ∧ ∀ H', Same H H' → Q (.bl (risingL (zs.map (·.2)))) H'
theorem sc_is_rising : FnScope ["stretches"] ["stretches"] (defScope s_is_rising) := ⟨rfl, rfl, rfl, by decide +kernel, rfl, by decide +kernel, by decide +kernel⟩
theorem ok_is_rising {f : Addr} {fd : FuncData} (D : Df K mg "is_rising" s_is_rising ["stretches"] f fd) (T : Blt mg) : FnOk P w K mg base CX0 1 f fd ["stretches"] sp_is_rising := by
  refine D.fn.ok sc_is_rising (fun vs H Q E h => ?_) (fun cdv A outer s H vs Q E hr h => ?_)
  · obtain ⟨bl, zs, rfl, _⟩ := h; rfl
  · obtain ⟨bl, zs, rfl, hb, hz, h4, kk⟩ := h
    have HU := HUof hr
    refine ⟨_, (pss_one (ps_ret (pe_callB (k_all K rfl) (by rfl) T.n_all boot_all (pa_cons (pe_comp (show CScope (defScope s_is_rising) _ "k" ["stretches"] ["stretches"] [0] from ⟨rfl, by decide +kernel, by decide +kernel, rfl, by decide +kernel, rfl, by decide +kernel, by decide +kernel⟩) rfl (pi_range1 rfl T.n_range (pa_cons (pe_op op_sub (pe_callB (k_len K) (by rfl) T.n_len PySem.boot_len (pa_cons (pv 0) pa_nil)) pe_int) pa_nil)) (fun _ _ _ _ => pts_nil) (fun _ _ _ _ => (pe_cmpR (k_ltL K HU) (pe_ix (k_ixL K) (pv 1) (pv 0) (fun _ _ => rfl)) (pe_ix (k_ixL K) (pv 1) (pe_op op_add (pv 0) pe_int) (fun _ _ => rfl)) (nomark _)))) pa_nil)))), ?_⟩
    refine ⟨_, rfl, bl, _, rfl, .inl (SqL.of hb), _, _, rfl, rfl, _, rfl, ?_⟩
    rw [List.length_map]
    refine ⟨by omega, by omega, comp_range (lo := 0) (n := ((zs.length : Int) - 1).toNat) (fun i ys H4 => ys = ((List.range i).map fun k => HT.lexLt ((zs.map (·.2)).getD k []) ((zs.map (·.2)).getD (k + 1) [])).map V.bl ∧ H4 = H) ⟨by simp, rfl⟩ ?_ ?_⟩
    · rintro i ys H4 hi ⟨rfl, rfl⟩
      refine ⟨by rw [List.length_map, List.length_map, List.length_range]; exact Nat.lt_of_lt_of_le (show i < 5 by omega) (by decide), ?_⟩
      unfold tYes
      dsimp only
      rw [if_pos rfl]
      have hi0 : i < zs.length := by omega
      have hi1 : i + 1 < zs.length := by omega
      have g0 : atI (zs.map fun z => V.ref z.1) (0 + (i : Int)) = some (.ref (zs[i]).1) := by rw [Int.zero_add]; exact atI_nat (by rw [List.getElem?_map, List.getElem?_eq_getElem hi0]; rfl)
      have g1 : atI (zs.map fun z => V.ref z.1) (0 + (i : Int) + 1) = some (.ref (zs[i + 1]).1) := by rw [Int.zero_add]; exact atI_nat (j := i + 1) (by rw [List.getElem?_map, List.getElem?_eq_getElem hi1]; rfl)
      refine ⟨_, rfl, _, rfl, bl, _, _, _, rfl, rfl, SqL.of hb, g0, ?_⟩
      refine ⟨_, rfl, _, rfl, _, _, rfl, rfl, bl, _, _, _, rfl, rfl, SqL.of hb, g1, ?_⟩
      refine ⟨_, _, _, _, rfl, rfl, SqL.of (hz _ (List.getElem_mem hi0)), SqL.of (hz _ (List.getElem_mem hi1)), ?_, rfl⟩
      rw [List.range_succ]
      have e0 : (zs.map (·.2)).getD i [] = (zs[i]).2 := by simp [List.getD, List.getElem?_map, List.getElem?_eq_getElem hi0]
      have e1 : (zs.map (·.2)).getD (i + 1) [] = (zs[i + 1]).2 := by simp [List.getD, List.getElem?_map, List.getElem?_eq_getElem hi1]
      rw [List.map_append, List.map_append, List.map_singleton, List.map_singleton, e0, e1]
    · rintro ys H4 ⟨rfl, rfl⟩ Dd hD
      refine ⟨Dd, _, rfl, SqL.of upd_same, ?_⟩
      rw [all_mapid]
      have q := kk _ (same_upd hD (o := .lst (((List.range ((zs.length : Int) - 1).toNat).map fun k => HT.lexLt ((zs.map (·.2)).getD k []) ((zs.map (·.2)).getD (k + 1) [])).map V.bl)))
      unfold risingL at q
      rw [List.length_map, show zs.length - 1 = ((zs.length : Int) - 1).toNat by omega] at q
      exact q
end
end Lw
set_option Elab.async false
set_option linter.all false
set_option maxRecDepth 100000
namespace Lw
open PySem L2 PyProof.Rows
theorem stretches_at {H : Hp} {b : Int} : ∀ {xs : List PyData} {ys : List V}, ThsAt H xs ys → xs.all (stretchT b) = true → ∃ zs : List (Addr × List Int), ys = zs.map (fun z => V.ref z.1) ∧ zs.map (·.2) = xs.map intsT ∧ ∀ z ∈ zs, H z.1 = some (.lst (z.2.map V.int))
  | [], ys, h, _ => by rw [ThsAt] at h; exact ⟨[], h, rfl, by simp⟩
  | d :: ds, ys, h, q => by
    rw [ThsAt] at h
    obtain ⟨y, us, h1, h2, h3⟩ := h
    rw [List.all_cons, Bool.and_eq_true] at q
    obtain ⟨zs, e1, e2, e3⟩ := stretches_at h3 q.2
    have qf : figsT b d = true := by have := q.1; unfold stretchT at this; rw [Bool.and_eq_true] at this; exact this.1
    obtain ⟨a, ea, ha⟩ := ThAt.figs h2 qf
    refine ⟨(a, intsT d) :: zs, by rw [h1, ea, e1]; rfl, by rw [List.map_cons, List.map_cons, e2], fun z hz => ?_⟩
    rcases List.mem_cons.mp hz with rfl | hz
    · exact ha
    · exact e3 z hz
section
variable {P : Program} {w : World} {K : PySem.W.Frag} {mg : Str → Option Value} {base : Heap}
def sp_is_bad_list : Sp := fun vs H Q _ => ∃ (b : Int) (v : V) (d : PyData), vs = [.int b, v] ∧ ThAt H d v ∧ sizT d ≤ 100000 ∧ ∀ H', Same H H' → Q (.bl (badT b d)) H'
theorem sc_is_bad_list : FnScope ["base", "thing"] ["base", "thing"] (defScope s_is_bad_list) := ⟨rfl, rfl, rfl, by decide +kernel, rfl, by decide +kernel, by decide +kernel⟩
theorem ok_is_bad_list {f f1 f2 : Addr} {fd fd1 fd2 : FuncData} {t1 : Tok} (D : Df K mg "is_bad_list" s_is_bad_list ["base", "thing"] f fd) (Dis_stretch : Df K mg "is_stretch" s_is_stretch ["base", "thing"] f1 fd1) (Gis_stretch : FnOk P w K mg base CX0 4 f1 fd1 ["base", "thing"] sp_is_stretch) (Dis_rising : Df K mg "is_rising" s_is_rising ["stretches"] f2 fd2) (c_MOST_STRETCHES : mg "MOST_STRETCHES" = some (.int 4 t1)) (T : Blt mg) :
    FnOk P w K mg base CX0 5 f fd ["base", "thing"] sp_is_bad_list := by
  have Gis_rising : FnOk P w K mg base CX0 1 f2 fd2 ["stretches"] sp_is_rising := ok_is_rising Dis_rising T
  refine D.fn.ok sc_is_bad_list (fun vs H Q E h => ?_) (fun cdv A outer s H vs Q E hr h => ?_)
  · obtain ⟨b, v, d, rfl, _⟩ := h; rfl
  · obtain ⟨b, v, d, rfl, hd, hs, kk⟩ := h
    refine ⟨_, (pss_cons (ps_if (PW.pt (pw_or (pt_not (pt_val (pe_callB (k_isi K) (by rfl) T.n_isinstance boot_isinstance (pa_cons (pv 1) (pa_cons (pe_bltn (v := .ty "list") rfl T.n_list boot_list rfl) pa_nil))))) (pw_or1 (pt_cmpR op_gt (pe_callB (k_len K) (by rfl) T.n_len PySem.boot_len (pa_cons (pv 1) pa_nil)) (pe_glob (v := .int 4) rfl c_MOST_STRETCHES ⟨_, rfl⟩) (nomark _)))))
        (pss_one (ps_ret pe_bl))
        pss_nil)
      (pss_one (ps_ret (pe_and (pe_callB (k_all K rfl) (by rfl) T.n_all boot_all (pa_cons (pe_comp (show CScope (defScope s_is_bad_list) _ "each" ["base", "thing"] ["base"] [0] from ⟨rfl, by decide +kernel, by decide +kernel, rfl, by decide +kernel, rfl, by decide +kernel, by decide +kernel⟩) rfl (k_pi K (pv 1)) (fun _ _ _ _ => pts_nil) (fun _ _ _ _ => (pcall Dis_stretch Gis_stretch (hr.mono (by decide)) (pa_cons (pv 1) (pa_cons (pv 0) pa_nil))))) pa_nil)) (pe_one (pcall Dis_rising Gis_rising (hr.mono (by decide)) (pa_cons (pv 1) pa_nil))))))), ?_⟩
    refine ⟨_, rfl, _, _, _, _, rfl, hd.ty, kit_list d, _, rfl, ?_⟩
    cases hl : isT "list" d with
    | false =>
      have q := kk H (Same.refl _)
      rw [show badT b d = false by cases d <;> first | rfl | cases hl] at q
      exact iteT (iteT q)
    | true =>
      obtain ⟨xs, rfl⟩ := isT_list hl
      rw [ThAt] at hd
      obtain ⟨a, ys, rfl, ha, hx⟩ := hd
      rw [sizT] at hs
      refine iteF ⟨_, rfl, a, _, rfl, .inl (SqL.of ha), _, _, rfl, rfl, _, rfl, ?_⟩
      rw [hx.len]
      have kk' : ∀ H', Same H H' → Q (.bl (decide (xs.length ≤ 4) && (xs.all (stretchT b) && risingL (xs.map intsT)))) H' := kk
      by_cases h4 : xs.length ≤ 4
      case neg =>
        rw [decide_eq_true (show (4 : Int) < (xs.length : Int) by omega)]
        have q := kk' H (Same.refl _)
        rw [decide_eq_false h4, Bool.false_and] at q
        exact iteT q
      rw [decide_eq_false (show ¬ (4 : Int) < (xs.length : Int) by omega)]
      rw [decide_eq_true h4, Bool.true_and] at kk'
      refine iteF ⟨_, rfl, a, rfl, ⟨_, SqL.of ha⟩, comp_list (K := K) (a := a) (xs := ys) (fun i us H4 => us = ((xs.take i).map (stretchT b)).map V.bl ∧ Same H H4) ⟨by simp, Same.refl _⟩ (fun i us H4 _ ⟨_, e⟩ => SqL.of (e _ _ ha)) ?_ ?_⟩
      · rintro j x us H4 hj ⟨rfl, m4⟩
        obtain ⟨d, hdj, hd⟩ := hx.get hj
        refine ⟨?_, ?_⟩
        · rw [List.length_map, List.length_map, List.length_take]
          exact Nat.lt_of_le_of_lt (show min j xs.length ≤ 4 by omega) (by decide)
        unfold tYes
        dsimp only
        rw [if_pos rfl]
        have := sizTs_mem (List.mem_of_getElem? hdj)
        refine ⟨_, rfl, _, rfl, b, x, d, rfl, hd.same m4, by omega, fun H5 m5 => ⟨?_, m4.trans m5⟩⟩
        rw [List.take_succ, hdj]; simp
      · rintro us H4 ⟨rfl, m4⟩ Dd hD
        refine ⟨Dd, _, rfl, SqL.of upd_same, ?_⟩
        have m5 := m4.trans (same_upd hD (o := .lst (((xs.take ys.length).map (stretchT b)).map V.bl)))
        rw [hx.len, List.take_length, all_mapid] at *
        refine ⟨_, rfl, ?_⟩
        cases hst : xs.all (stretchT b) with
        | false =>
          have q := kk' _ m5
          rw [hst, Bool.false_and] at q
          exact iteF q
        | true =>
          rw [hst, Bool.true_and] at kk'
          obtain ⟨zs, e1, e2, e3⟩ := stretches_at hx hst
          refine iteT ⟨_, rfl, a, zs, rfl, by rw [← e1]; exact m5 _ _ ha, fun z hz => m5 _ _ (e3 z hz), ?_, fun H6 m6 => ?_⟩
          · have := congrArg List.length e2; rw [List.length_map, List.length_map] at this; omega
          · rw [e2]; exact kk' H6 (m5.trans m6)
def sp_is_rule : Sp := fun vs H Q _ => ∃ (v : V) (d : PyData), vs = [v] ∧ ThAt H d v ∧ sizT d ≤ 100000 ∧ ∀ H', Same H H' → Q (.bl (ruleT d)) H'
theorem sc_is_rule : FnScope ["thing"] ["thing"] (defScope s_is_rule) := ⟨rfl, rfl, rfl, by decide +kernel, rfl, by decide +kernel, by decide +kernel⟩
theorem ok_is_rule {f f1 f2 : Addr} {fd fd1 fd2 : FuncData} (D : Df K mg "is_rule" s_is_rule ["thing"] f fd) (Dis_base : Df K mg "is_base" s_is_base ["thing"] f1 fd1) (Gis_base : FnOk P w K mg base CX0 2 f1 fd1 ["thing"] sp_is_base) (Dis_bad_list : Df K mg "is_bad_list" s_is_bad_list ["base", "thing"] f2 fd2) (Gis_bad_list : FnOk P w K mg base CX0 5 f2 fd2 ["base", "thing"] sp_is_bad_list) (T : Blt mg) :
    FnOk P w K mg base CX0 6 f fd ["thing"] sp_is_rule := by
  refine D.fn.ok sc_is_rule (fun vs H Q E h => ?_) (fun cdv A outer s H vs Q E hr h => ?_)
  · obtain ⟨v, d, rfl, _⟩ := h; rfl
  · obtain ⟨v, d, rfl, hd, hs, kk⟩ := h
    refine ⟨_, (pss_cons (ps_if (PW.pt (pw_or (pt_not (pt_val (pe_callB (k_isi K) (by rfl) T.n_isinstance boot_isinstance (pa_cons (pv 0) (pa_cons (pe_bltn (v := .ty "tuple") rfl T.n_tuple boot_tuple rfl) pa_nil))))) (pw_or1 (pt_cmpR op_ne (pe_callB (k_len K) (by rfl) T.n_len PySem.boot_len (pa_cons (pv 0) pa_nil)) pe_int (nomark _)))))
        (pss_one (ps_ret pe_bl))
        pss_nil)
      (pss_one (ps_ret (pe_and (pcall Dis_base Gis_base (hr.mono (by decide)) (pa_cons (pe_ix (k_ixT K) (pv 0) pe_int (fun _ _ => rfl)) pa_nil)) (pe_one (pcall Dis_bad_list Gis_bad_list (hr.mono (by decide)) (pa_cons (pe_ix (k_ixT K) (pv 0) pe_int (fun _ _ => rfl)) (pa_cons (pe_ix (k_ixT K) (pv 0) pe_int (fun _ _ => rfl)) pa_nil)))))))), ?_⟩
    refine ⟨_, rfl, _, _, _, _, rfl, hd.ty, kit_tuple d, _, rfl, ?_⟩
    cases hl : isT "tuple" d with
    | false =>
      have q := kk H (Same.refl _)
      rw [show ruleT d = false by cases d <;> first | rfl | cases hl] at q
      exact iteT (iteT q)
    | true =>
      obtain ⟨xs, rfl⟩ := isT_tuple hl
      rw [ThAt] at hd
      obtain ⟨a, ys, rfl, ha, hx⟩ := hd
      rw [sizT] at hs
      refine iteF ⟨_, rfl, a, _, rfl, .inr (SqT.of ha), rfl, _, rfl, ?_⟩
      rw [hx.len]
      match xs, hx, hs, kk with
      | [], hx, hs, kk => exact iteT (kk H (Same.refl _))
      | [_], hx, hs, kk => exact iteT (kk H (Same.refl _))
      | _ :: _ :: _ :: t, hx, hs, kk =>
        have q : Q (.bl false) H := kk H (Same.refl _)
        rename_i d1 d2 d3
        rw [show (!decide (V.int ((d1 :: d2 :: d3 :: t).length : Nat) = V.int 2)) = true by
          rw [decide_eq_false (fun z => by injection z with z; rw [List.length_cons, List.length_cons, List.length_cons] at z; omega)]; rfl]
        exact iteT q
      | [d, e], hx, hs, kk =>
        rw [ThsAt] at hx
        obtain ⟨y, us, rfl, hd, hx⟩ := hx
        rw [ThsAt] at hx
        obtain ⟨z, ws, rfl, he, hx⟩ := hx
        rw [ThsAt] at hx
        subst hx
        rw [sizTs, sizTs, sizTs] at hs
        refine iteF ?_
        refine ⟨_, rfl, a, _, _, y, rfl, rfl, SqT.of ha, rfl, y, d, rfl, hd, _, rfl, ?_⟩
        have kk' : ∀ H', Same H H' → Q (.bl (baseT d && badT (intT d) e)) H' := kk
        cases hb : baseT d with
        | false =>
          have q := kk' H (Same.refl _)
          rw [hb, Bool.false_and] at q
          exact iteF q
        | true =>
          rw [hb, Bool.true_and] at kk'
          have ed : d = .int (intT d) := by cases d <;> first | rfl | cases hb
          have ey : y = .int (intT d) := by rw [ed, ThAt] at hd; exact hd
          subst ey
          exact iteT ⟨_, rfl, a, _, _, V.int (intT d), rfl, rfl, SqT.of ha, rfl, _, rfl, a, _, _, z, rfl, rfl, SqT.of ha, rfl, intT d, z, e, rfl, he, by omega, kk'⟩
end
end Lw
set_option Elab.async false
set_option linter.all false
set_option maxRecDepth 100000
namespace Lw
open PySem L2 PyProof.Rows
structure RuleAt (H : Hp) (r : Addr) (b : Nat) (bl : Addr) (zs : List (Addr × List Int)) : Prop where
  tu : H r = some (.tup [.int b, .ref bl])
  li : H bl = some (.lst (zs.map fun z => V.ref z.1))
  st : ∀ z ∈ zs, H z.1 = some (.lst (z.2.map V.int))
theorem RuleAt.same {H H' : Hp} {r bl : Addr} {b : Nat} {zs : List (Addr × List Int)} (R : RuleAt H r b bl zs) (s : Same H H') : RuleAt H' r b bl zs := ⟨s _ _ R.tu, s _ _ R.li, fun z hz => s _ _ (R.st z hz)⟩
structure GoodSt (b : Nat) (l : List Int) : Prop where
  ne : l ≠ []
  len : l.length ≤ 4
  fig : ∀ f ∈ l, 0 ≤ f ∧ f < b
structure GoodRule (b : Nat) (ls : List (List Int)) : Prop where
  b2 : 2 ≤ b
  b16 : b ≤ 16
  len : ls.length ≤ 4
  st : ∀ l ∈ ls, GoodSt b l
  up : ls.Pairwise fun x y => HT.lexLt x y = true
theorem cutV_from (xs : List V) (m : Nat) : cutV xs (some (m : Int)) none = xs.drop m := by
  unfold cutV
  rw [HT.sIx_nat, HT.sIx_none]
  by_cases h : m ≤ xs.length
  · rw [Nat.min_eq_left h, List.take_of_length_le (by rw [List.length_drop]; omega)]
  · rw [Nat.min_eq_right (by omega), List.drop_of_length_le (Nat.le_refl _), List.drop_of_length_le (by omega)]; simp
theorem RuleAt.all {fp : List Addr} {r bl : Addr} {H : Hp} {b : Nat} {zs : List (Addr × List Int)} (R : RuleAt (aw fp H) r b bl zs) : RuleAt H r b bl zs := R.same (aw_same fp H)
theorem notin_any {ls : List (List Int)} {x : List Int} : ((ls.map tInts).any fun t => teq t (tInts x)) = decide (x ∈ ls) := by
  rw [Bool.eq_iff_iff]
  simp only [List.any_eq_true, List.mem_map, decide_eq_true_eq]
  constructor
  · rintro ⟨t, ⟨l, hl, rfl⟩, e⟩
    rw [teq_ints] at e
    rw [← of_decide_eq_true e]; exact hl
  · intro h
    exact ⟨tInts x, ⟨x, h, rfl⟩, teq_refl _⟩
theorem tdeps_tInts : ∀ ls : List (List Int), tdeps (ls.map tInts) ≤ 1
  | [] => by simp [tdeps]
  | l :: ls => by rw [List.map_cons, tdeps, tdep_tInts]; have := tdeps_tInts ls; omega
theorem TrsAt.lists {K : PySem.W.Frag} {H : Hp} : ∀ {zs : List (Addr × List Int)}, (∀ z ∈ zs, H z.1 = some (.lst (z.2.map V.int))) → TrsAt K H ((zs.map (·.2)).map tInts) (zs.map fun z => V.ref z.1)
  | [], _ => by rw [List.map_nil, List.map_nil, TrsAt]; rfl
  | z :: zs, h => by
    rw [List.map_cons, List.map_cons, TrsAt]
    exact ⟨_, _, rfl, TrAt.ints (SqL.of (h z List.mem_cons_self)), TrsAt.lists fun z hz => h z (List.mem_cons_of_mem _ hz)⟩
end Lw
set_option Elab.async false
set_option linter.all false
set_option maxRecDepth 100000
namespace Lw
open PySem L2 PyProof.Rows
theorem ruleT_good {b : Nat} {ls : List (List Int)} (g : GoodRule b ls) : ruleT (.tuple [.int b, .list (ls.map fun l => .list (l.map .int))]) = true := by
  have hb : baseT (.int b) = true := decide_eq_true (by have := g.b2; have := g.b16; omega)
  have hs : ∀ l ∈ ls, stretchT b (.list (l.map .int)) = true := fun l hl => by
    have s := g.st l hl
    have h1 : figsT b (.list (l.map .int)) = true := by
      show (l.map PyData.int).all (figT b) = true
      rw [List.all_eq_true]
      intro x hx
      obtain ⟨i, hi, rfl⟩ := List.mem_map.mp hx
      exact decide_eq_true (s.fig i hi)
    have h2 : (eltsT (.list (l.map .int))).length = l.length := List.length_map ..
    unfold stretchT
    rw [h1, h2, Bool.true_and]
    exact decide_eq_true ⟨List.length_pos_iff.mpr s.ne, s.len⟩
  have hi : (ls.map fun l => PyData.list (l.map .int)).map intsT = ls := by
    rw [List.map_map]
    conv => rhs; rw [← List.map_id ls]
    refine List.map_congr_left fun l _ => ?_
    show (l.map PyData.int).map intT = l
    rw [List.map_map]
    conv => rhs; rw [← List.map_id l]
    rfl
  show (baseT (.int b) && badT b (.list (ls.map fun l => .list (l.map .int)))) = true
  rw [hb, Bool.true_and]
  show (decide ((ls.map fun l => PyData.list (l.map .int)).length ≤ 4) && ((ls.map fun l => PyData.list (l.map .int)).all (stretchT b) && risingL ((ls.map fun l => PyData.list (l.map .int)).map intsT))) = true
  rw [hi, List.length_map, decide_eq_true g.len, Bool.true_and, Bool.and_eq_true]
  refine ⟨?_, ?_⟩
  · rw [List.all_eq_true]
    intro x hx
    obtain ⟨l, hl, rfl⟩ := List.mem_map.mp hx
    exact hs l hl
  · unfold risingL
    rw [List.all_eq_true]
    intro k hk
    have hk := List.mem_range.mp hk
    rw [List.getD_eq_getElem?_getD, List.getD_eq_getElem?_getD, List.getElem?_eq_getElem (show k < ls.length by omega), List.getElem?_eq_getElem (show k + 1 < ls.length by omega)]
    exact List.pairwise_iff_getElem.mp g.up k (k + 1) (by omega) (by omega) (by omega)
theorem RuleAt.th {H : Hp} {r bl : Addr} {b : Nat} {zs : List (Addr × List Int)} (R : RuleAt H r b bl zs) : ThAt H (.tuple [.int b, .list ((zs.map (·.2)).map fun l => .list (l.map .int))]) (.ref r) := by
  rw [ThAt]
  refine ⟨r, _, rfl, R.tu, ?_⟩
  rw [ThsAt]
  refine ⟨_, _, rfl, by rw [ThAt], ?_⟩
  rw [ThsAt]
  refine ⟨_, _, rfl, ?_, by rw [ThsAt]⟩
  rw [ThAt]
  refine ⟨bl, _, rfl, R.li, ?_⟩
  rw [List.map_map]
  exact ThsAt.map fun z hz => ThAt.ints (R.st z hz)
theorem RuleAt.thing {H : Hp} {r bl : Addr} {b : Nat} {zs : List (Addr × List Int)} (R : RuleAt H r b bl zs) (g : GoodRule b (zs.map (·.2))) : ∃ d, ThAt H d (.ref r) ∧ ruleT d = true ∧ Fit 3 5000 d := by
  have h := R.th
  refine ⟨_, h, ruleT_good g, Th.fit ?_ h⟩
  have hl := g.len
  rw [List.length_map] at hl
  have b16 := g.b16
  have hz : ∀ z ∈ zs, Th H 1 404 (.ref z.1) := fun z hz => by
    have s := g.st _ (List.mem_map.mpr ⟨z, hz, rfl⟩)
    refine Th.ints (R.st z hz) (fun i hi => by have := s.fig i hi; omega) (by have := s.len; omega)
  have hb : Th H 2 1620 (.ref bl) := Th.lst R.li (fun v hv => by
    obtain ⟨z, hz', rfl⟩ := List.mem_map.mp hv
    exact hz z hz') (by rw [List.length_map]; omega)
  refine Th.tup (k := 2) (n := 1620) R.tu (fun v hv => ?_) (by show 1621 * 2 ≤ 5000; decide)
  simp only [List.mem_cons, List.not_mem_nil, or_false] at hv
  rcases hv with rfl | rfl
  · exact Th.int (by omega) (by decide)
  · exact hb
theorem stretch_of {b : Int} {d : PyData} (h : stretchT b d = true) : ∃ l : List Int, d = .list (l.map .int) ∧ l ≠ [] ∧ l.length ≤ 4 ∧ ∀ i ∈ l, 0 ≤ i ∧ i < b := by
  unfold stretchT at h
  rw [Bool.and_eq_true] at h
  obtain ⟨h1, h2⟩ := h
  have h2 := of_decide_eq_true h2
  cases d with
  | list xs =>
    have h1 : xs.all (figT b) = true := h1
    rw [List.all_eq_true] at h1
    have h2 : 1 ≤ xs.length ∧ xs.length ≤ 4 := h2
    have hx : ∀ x ∈ xs, x = .int (intT x) ∧ 0 ≤ intT x ∧ intT x < b := fun x hx => by
      have q := h1 x hx
      cases x with
      | int i => exact ⟨rfl, of_decide_eq_true q⟩
      | _ => cases q
    refine ⟨xs.map intT, ?_, fun z => ?_, by rw [List.length_map]; exact h2.2, fun i hi => ?_⟩
    · rw [List.map_map]
      conv => lhs; rw [← List.map_id xs]
      exact congrArg PyData.list (List.map_congr_left fun x hx' => (hx x hx').1)
    · have : xs.length = 0 := by rw [← List.length_map (f := intT), z]; rfl
      omega
    · obtain ⟨x, hx', rfl⟩ := List.mem_map.mp hi
      exact (hx x hx').2
  | _ => cases h1
theorem ths_lists {H : Hp} {b : Int} : ∀ {xs : List PyData} {ys : List V}, ThsAt H xs ys → xs.all (stretchT b) = true → ∃ zs : List (Addr × List Int), ys = zs.map (fun z => V.ref z.1) ∧ xs.map intsT = zs.map (·.2) ∧ (∀ z ∈ zs, H z.1 = some (.lst (z.2.map V.int))) ∧ ∀ z ∈ zs, z.2 ≠ [] ∧ z.2.length ≤ 4 ∧ ∀ i ∈ z.2, 0 ≤ i ∧ i < b
  | [], ys, h, _ => by rw [ThsAt] at h; subst h; exact ⟨[], rfl, rfl, by simp, by simp⟩
  | d :: ds, ys, h, g => by
    rw [ThsAt] at h
    obtain ⟨y, us, rfl, h1, h2⟩ := h
    rw [List.all_cons, Bool.and_eq_true] at g
    obtain ⟨zs, rfl, e, h3, h4⟩ := ths_lists h2 g.2
    obtain ⟨l, rfl, l1, l2, l3⟩ := stretch_of g.1
    rw [ThAt] at h1
    obtain ⟨a, vs, rfl, h5, h6⟩ := h1
    have ev : vs = l.map V.int := by
      clear l1 l2 l3 h5 g
      induction l generalizing vs with
      | nil => rw [List.map_nil, ThsAt] at h6; exact h6
      | cons i l ih =>
        rw [List.map_cons, ThsAt] at h6
        obtain ⟨y, us, rfl, q1, q2⟩ := h6
        rw [ThAt] at q1
        rw [q1, ih us q2]; rfl
    subst ev
    refine ⟨(a, l) :: zs, rfl, ?_, fun z hz => ?_, fun z hz => ?_⟩
    · rw [List.map_cons, List.map_cons, e]
      congr 1
      show (l.map PyData.int).map intT = l
      rw [List.map_map]
      conv => rhs; rw [← List.map_id l]
      rfl
    · rcases List.mem_cons.mp hz with rfl | hz
      · exact h5
      · exact h3 z hz
    · rcases List.mem_cons.mp hz with rfl | hz
      · exact ⟨l1, l2, l3⟩
      · exact h4 z hz
theorem rise_pair : ∀ {ls : List (List Int)}, risingL ls = true → ls.Pairwise fun x y => HT.lexLt x y = true := by
  intro ls h
  unfold risingL at h
  rw [List.all_eq_true] at h
  have nxt : ∀ k, (hk : k + 1 < ls.length) → HT.lexLt (ls[k]'(by omega)) ls[k + 1] = true := fun k hk => by
    have q := h k (List.mem_range.mpr (by omega))
    rwa [List.getD_eq_getElem?_getD, List.getD_eq_getElem?_getD, List.getElem?_eq_getElem (show k < ls.length by omega), List.getElem?_eq_getElem hk] at q
  refine List.pairwise_iff_getElem.mpr fun i j hi hj hij => ?_
  obtain ⟨n, rfl⟩ : ∃ n, j = i + 1 + n := ⟨j - (i + 1), by omega⟩
  induction n with
  | zero => exact nxt i hj
  | succ n ih => exact HT.lexLt_trans _ _ _ (ih (by omega) (by omega)) (nxt (i + 1 + n) hj)
theorem th_rule {H : Hp} {d : PyData} {v : V} (h : ThAt H d v) (hr : ruleT d = true) : ∃ (r : Addr) (b : Nat) (bl : Addr) (zs : List (Addr × List Int)), v = .ref r ∧ RuleAt H r b bl zs ∧ GoodRule b (zs.map (·.2)) := by
  have go : ∀ e l, d = .tuple [e, l] → ∃ (r : Addr) (b : Nat) (bl : Addr) (zs : List (Addr × List Int)), v = .ref r ∧ RuleAt H r b bl zs ∧ GoodRule b (zs.map (·.2)) := by
    rintro e l rfl
    have hr : (baseT e && badT (intT e) l) = true := hr
    rw [Bool.and_eq_true] at hr
    obtain ⟨h1, h2⟩ := hr
    cases e with
    | int i =>
      have h1 : 2 ≤ i ∧ i ≤ 16 := of_decide_eq_true h1
      cases l with
      | list xs =>
        have h2 : (decide (xs.length ≤ 4) && (xs.all (stretchT i) && risingL (xs.map intsT))) = true := h2
        rw [Bool.and_eq_true, Bool.and_eq_true] at h2
        obtain ⟨h3, h4, h5⟩ := h2
        have h3 := of_decide_eq_true h3
        rw [ThAt] at h
        obtain ⟨a, ys, rfl, h6, h7⟩ := h
        rw [ThsAt] at h7
        obtain ⟨y, us, rfl, h8, h7⟩ := h7
        rw [ThAt] at h8
        rw [ThsAt] at h7
        obtain ⟨z, ws, rfl, h9, h7⟩ := h7
        rw [ThsAt] at h7
        subst h7 h8
        rw [ThAt] at h9
        obtain ⟨bl, vs, rfl, g1, g2⟩ := h9
        obtain ⟨zs, rfl, e, g3, g4⟩ := ths_lists g2 h4
        rw [e] at h5
        have hn : ((i.toNat : Nat) : Int) = i := by omega
        refine ⟨a, i.toNat, bl, zs, rfl, ⟨by rw [hn]; exact h6, g1, g3⟩, ⟨by omega, by omega, ?_, fun l hl => ?_, rise_pair h5⟩⟩
        · rw [← e, List.length_map]; exact h3
        · obtain ⟨z, hz, rfl⟩ := List.mem_map.mp hl
          obtain ⟨q1, q2, q3⟩ := g4 z hz
          exact ⟨q1, q2, fun f hf => by rw [hn]; exact q3 f hf⟩
      | _ => cases h2
    | _ => cases h1
  cases d with
  | tuple xs =>
    match xs, hr with
    | [e, l], _ => exact go e l rfl
    | [], hr => cases hr
    | [_], hr => cases hr
    | _ :: _ :: _ :: _, hr => cases hr
  | _ => cases hr
def numT : PyData → Bool
  | .int i => decide (0 ≤ i)
  | _ => false
section
variable {P : Program} {w : World} {K : PySem.W.Frag} {mg : Str → Option Value} {base : Heap}
def sp_is_number : Sp := fun vs H Q _ => ∃ (v : V) (d : PyData), vs = [v] ∧ ThAt H d v ∧ Q (.bl (numT d)) H
theorem sc_is_number : FnScope ["thing"] ["thing"] (defScope s_is_number) := ⟨rfl, rfl, rfl, by decide +kernel, rfl, by decide +kernel, by decide +kernel⟩
theorem ok_is_number {f f1 : Addr} {fd fd1 : FuncData} (D : Df K mg "is_number" s_is_number ["thing"] f fd) (Dis_whole : Df K mg "is_whole" s_is_whole ["thing"] f1 fd1) (T : Blt mg) : FnOk P w K mg base CX0 2 f fd ["thing"] sp_is_number := by
  have Gis_whole : FnOk P w K mg base CX0 1 f1 fd1 ["thing"] sp_is_whole := ok_is_whole Dis_whole T
  refine D.fn.ok sc_is_number (fun vs H Q E h => ?_) (fun cdv A outer s H vs Q E hr h => ?_)
  · obtain ⟨v, d, rfl, _⟩ := h; rfl
  · obtain ⟨v, d, rfl, hd, q⟩ := h
    refine ⟨_, (pss_one (ps_ret (pe_and (pcall Dis_whole Gis_whole (hr.mono (by decide)) (pa_cons (pv 0) pa_nil)) (pe_one (pe_cmpR op_ge (pv 0) pe_int (nomark _)))))), ?_⟩
    refine ⟨_, rfl, v, d, rfl, hd, _, rfl, ?_⟩
    cases hw : wholeT d with
    | false =>
      have : numT d = false := by cases d <;> first | rfl | cases hw
      rw [this] at q
      exact iteF q
    | true =>
      have e := wholeT_int hw
      generalize intT d = i at e
      subst e
      rw [ThAt] at hd
      subst hd
      exact iteT ⟨_, rfl, _, _, rfl, rfl, q⟩
def sp_check_rule (CNoRule : Addr) : Sp := fun vs H Q E => ∃ (v : V) (d : PyData), vs = [v] ∧ ThAt H d v ∧ sizT d ≤ 100000 ∧ (ruleT d = false → ∀ H', Same H H' → E (.ref CNoRule) none H') ∧ (ruleT d = true → ∀ H', Same H H' → Q .non H')
theorem sc_check_rule : FnScope ["thing"] ["thing"] (defScope s_check_rule) := ⟨rfl, rfl, rfl, by decide +kernel, rfl, by decide +kernel, by decide +kernel⟩
theorem ok_check_rule {CNoRule : Addr} {f f1 : Addr} {fd fd1 : FuncData} (D : Df K mg "check_rule" s_check_rule ["thing"] f fd) (Dis_rule : Df K mg "is_rule" s_is_rule ["thing"] f1 fd1) (Gis_rule : FnOk P w K mg base CX0 6 f1 fd1 ["thing"] sp_is_rule) (x_NoRule : ExcC K mg "NoRule" CNoRule) : FnOk P w K mg base (CX1 P w) 7 f fd ["thing"] (sp_check_rule CNoRule) := by
  refine D.fn.ok1 sc_check_rule (fun vs H Q E h => ?_) (fun cdv A outer s H vs Q E hr h => ?_)
  · obtain ⟨v, d, rfl, _⟩ := h; rfl
  · obtain ⟨v, d, rfl, hd, hs, kNo, kOk⟩ := h
    refine ⟨_, (pss_one (ps_if (pt_not (pt_val (pcall Dis_rule Gis_rule (hr.mono (by decide)) (pa_cons (pv 0) pa_nil))))
        (pss_one (ps_raise x_NoRule pass_new rfl (pa_cons pe_str pa_nil)))
        pss_nil)), ?_⟩
    refine ⟨_, rfl, v, d, rfl, hd, hs, fun H1 m1 => ⟨_, rfl, ?_⟩⟩
    cases hr : ruleT d with
    | false => exact iteT ⟨by show 1 ≤ sizeLine; decide, kNo hr _ m1⟩
    | true => exact iteF (kOk hr _ m1)
end
theorem len_wt : ∀ ds : List PyData, ds.length ≤ PyData.weightAll ds
  | [] => Nat.zero_le _
  | d :: ds => by rw [PyData.weightAll, List.length_cons]; have := len_wt ds; omega
mutual
theorem siz_wt : ∀ d : PyData, sizT d ≤ d.weight
  | .none => by rw [sizT.eq_def]; exact Nat.zero_le _
  | .bool _ => by rw [sizT.eq_def]; exact Nat.zero_le _
  | .int _ => by rw [sizT.eq_def]; exact Nat.zero_le _
  | .str _ => by rw [sizT.eq_def]; exact Nat.zero_le _
  | .list xs => by rw [sizT, PyData.weight]; have := len_wt xs; have := sizs_wt xs; omega
  | .tuple xs => by rw [sizT, PyData.weight]; have := len_wt xs; have := sizs_wt xs; omega
  | .dict _ => by rw [sizT.eq_def]; exact Nat.zero_le _
theorem sizs_wt : ∀ ds : List PyData, sizTs ds ≤ PyData.weightAll ds
  | [] => by rw [sizTs]; exact Nat.zero_le _
  | d :: ds => by rw [sizTs, PyData.weightAll]; have := siz_wt d; have := sizs_wt ds; omega
end
end Lw
set_option Elab.async false
set_option linter.all false
set_option maxRecDepth 100000
namespace Lw
open PySem L2 PyProof.Rows
section
variable {P : Program} {w : World} {K : PySem.W.Frag} {mg : Str → Option Value} {base : Heap}
def sp_check_base (CNoBase : Addr) : Sp := fun vs H Q E => ∃ (v : V) (d : PyData), vs = [v] ∧ ThAt H d v ∧ (baseT d = false → E (.ref CNoBase) none H) ∧ (baseT d = true → Q .non H)
theorem sc_check_base : FnScope ["thing"] ["thing"] (defScope s_check_base) := ⟨rfl, rfl, rfl, by decide +kernel, rfl, by decide +kernel, by decide +kernel⟩
theorem ok_check_base {CNoBase : Addr} {f f1 : Addr} {fd fd1 : FuncData} (D : Df K mg "check_base" s_check_base ["thing"] f fd) (Dis_base : Df K mg "is_base" s_is_base ["thing"] f1 fd1) (Gis_base : FnOk P w K mg base CX0 2 f1 fd1 ["thing"] sp_is_base) (x_NoBase : ExcC K mg "NoBase" CNoBase) : FnOk P w K mg base (CX1 P w) 3 f fd ["thing"] (sp_check_base CNoBase) := by
  refine D.fn.ok1 sc_check_base (fun vs H Q E h => ?_) (fun cdv A outer s H vs Q E hr h => ?_)
  · obtain ⟨v, d, rfl, _⟩ := h; rfl
  · obtain ⟨v, d, rfl, hd, kNo, kOk⟩ := h
    refine ⟨_, (pss_one (ps_if (pt_not (pt_val (pcall Dis_base Gis_base (hr.mono (by decide)) (pa_cons (pv 0) pa_nil))))
        (pss_one (ps_raise x_NoBase pass_new rfl (pa_cons pe_str pa_nil)))
        pss_nil)), ?_⟩
    refine ⟨_, rfl, v, d, rfl, hd, _, rfl, ?_⟩
    cases hr : baseT d with
    | false => exact iteT ⟨by show 1 ≤ sizeLine; decide, kNo hr⟩
    | true => exact iteF (kOk hr)
def sp_check_number (CNoNumber : Addr) : Sp := fun vs H Q E => ∃ (v : V) (d : PyData), vs = [v] ∧ ThAt H d v ∧ (numT d = false → E (.ref CNoNumber) none H) ∧ (numT d = true → Q .non H)
theorem sc_check_number : FnScope ["thing"] ["thing"] (defScope s_check_number) := ⟨rfl, rfl, rfl, by decide +kernel, rfl, by decide +kernel, by decide +kernel⟩
theorem ok_check_number {CNoNumber : Addr} {f f1 : Addr} {fd fd1 : FuncData} (D : Df K mg "check_number" s_check_number ["thing"] f fd) (Dis_number : Df K mg "is_number" s_is_number ["thing"] f1 fd1) (Gis_number : FnOk P w K mg base CX0 2 f1 fd1 ["thing"] sp_is_number) (x_NoNumber : ExcC K mg "NoNumber" CNoNumber) : FnOk P w K mg base (CX1 P w) 3 f fd ["thing"] (sp_check_number CNoNumber) := by
  refine D.fn.ok1 sc_check_number (fun vs H Q E h => ?_) (fun cdv A outer s H vs Q E hr h => ?_)
  · obtain ⟨v, d, rfl, _⟩ := h; rfl
  · obtain ⟨v, d, rfl, hd, kNo, kOk⟩ := h
    refine ⟨_, (pss_one (ps_if (pt_not (pt_val (pcall Dis_number Gis_number (hr.mono (by decide)) (pa_cons (pv 0) pa_nil))))
        (pss_one (ps_raise x_NoNumber pass_new rfl (pa_cons pe_str pa_nil)))
        pss_nil)), ?_⟩
    refine ⟨_, rfl, v, d, rfl, hd, _, rfl, ?_⟩
    cases hr : numT d with
    | false => exact iteT ⟨by show 1 ≤ sizeLine; decide, kNo hr⟩
    | true => exact iteF (kOk hr)
theorem base_of {H : Hp} {d : PyData} {v : V} (h : ThAt H d v) (hb : baseT d = true) : ∃ b : Nat, d = .int b ∧ v = .int b ∧ 2 ≤ b ∧ b ≤ 16 := by
  cases d with
  | int i =>
    have hb : 2 ≤ i ∧ i ≤ 16 := of_decide_eq_true hb
    rw [ThAt] at h
    have e : ((i.toNat : Nat) : Int) = i := by omega
    exact ⟨i.toNat, by rw [e], by rw [h, e], by omega, by omega⟩
  | _ => cases hb
theorem num_of {H : Hp} {d : PyData} {v : V} (h : ThAt H d v) (hb : numT d = true) : ∃ n : Nat, d = .int n ∧ v = .int n := by
  cases d with
  | int i =>
    have hb : 0 ≤ i := of_decide_eq_true hb
    rw [ThAt] at h
    have e : ((i.toNat : Nat) : Int) = i := by omega
    exact ⟨i.toNat, by rw [e], by rw [h, e]⟩
  | _ => cases hb
def sp_figures_of (CNoBase CNoNumber : Addr) : Sp := fun vs H Q E => ∃ (v u : V) (d e : PyData), vs = [v, u] ∧ ThAt H d v ∧ ThAt H e u ∧ (baseT d = false → E (.ref CNoBase) none H) ∧ (baseT d = true → numT e = false → E (.ref CNoNumber) none H) ∧
  ∀ b n : Nat, d = .int b → 2 ≤ b → b ≤ 16 → e = .int n → n < 2 ^ 900 ∧ ∀ l H', H l = none → H' l = some (.lst ((figs b n).map V.int)) → Same H H' → Q (.ref l) H'
theorem sc_figures_of : FnScope ["base", "n", "backwards", "rest"] ["base", "n"] (defScope s_figures_of) := ⟨rfl, rfl, rfl, by decide +kernel, rfl, by decide +kernel, by decide +kernel⟩
theorem ok_figures_of {CNoBase CNoNumber : Addr} {f f1 f2 : Addr} {fd fd1 fd2 : FuncData} (D : Df K mg "figures_of" s_figures_of ["base", "n"] f fd) (Dcheck_base : Df K mg "check_base" s_check_base ["thing"] f1 fd1) (Gcheck_base : FnOk P w K mg base (CX1 P w) 3 f1 fd1 ["thing"] (sp_check_base CNoBase))
    (Dcheck_number : Df K mg "check_number" s_check_number ["thing"] f2 fd2) (Gcheck_number : FnOk P w K mg base (CX1 P w) 3 f2 fd2 ["thing"] (sp_check_number CNoNumber)) (T : Blt mg) : FnOk P w K mg base (CX1 P w) 4 f fd ["base", "n"] (sp_figures_of CNoBase CNoNumber) := by
  refine D.fn.ok1 sc_figures_of (fun vs H Q E h => ?_) (fun cdv A outer s H vs Q E hr h => ?_)
  · obtain ⟨v, u, d, e, rfl, _⟩ := h; rfl
  · obtain ⟨v, u, d, e, rfl, hd, he, kB, kN, kOk⟩ := h
    refine ⟨_, (pss_cons (ps_expr (pcallX Dcheck_base Gcheck_base (hr.mono (by decide)) pass_call (pa_cons (pv 0) pa_nil)))
      (pss_cons (ps_expr (pcallX Dcheck_number Gcheck_number (hr.mono (by decide)) pass_call (pa_cons (pv 1) pa_nil)))
      (pss_cons (ps_set (i := 2) sc_figures_of.nd rfl (Or.inl rfl) (pe_lst (pa_cons (pe_op op_mod (pv 1) (pv 0)) pa_nil)))
      (pss_cons (ps_set (i := 3) sc_figures_of.nd rfl (Or.inl rfl) (pe_op op_fdivB (pv 1) (pv 0)))
      (pss_cons (ps_while PassesOwn.leaving (pt_cmpR op_gt (pv 3) pe_int (nomark _))
        (pss_cons (ps_expr (pe_bm PySem.F.plainAttrs_list PySem.F.slot_list_append PySem.F.type_list_append mt_append (pv 2) (pa_cons (pe_op op_mod (pv 3) (pv 0)) pa_nil)))
        (pss_one (ps_set (i := 3) sc_figures_of.nd rfl (Or.inl rfl) (pe_op op_fdivB (pv 3) (pv 0))))))
      (pss_one (ps_ret (pe_listRev rfl rfl T.n_list rfl T.n_reversed (pv 2))))))))), ?_⟩
    refine ⟨_, rfl, v, d, rfl, hd, kB, fun hb => ?_⟩
    refine ⟨_, rfl, u, e, rfl, he, kN hb, fun hn' => ?_⟩
    obtain ⟨b, rfl, rfl, h2, h16⟩ := base_of hd hb
    obtain ⟨n, rfl, rfl⟩ := num_of he hn'
    obtain ⟨hn, k⟩ := kOk b n rfl h2 h16 rfl
    refine ⟨_, rfl, _, rfl, _, _, rfl, rfl, (by omega : (0 : Int) < b), (by decide : 1 ≤ sizeLine), fun l hl => ?_⟩
    refine ⟨_, rfl, _, rfl, _, _, rfl, rfl, ⟨by omega, by omega⟩, ?_⟩
    have hlen := figs_len h2 900 n hn
    refine while_by (fun σ H2 => ∃ (r : Nat) (L : List Int), σ = [some (.int b), some (.int n), some (.ref l), some (.int r)] ∧ H2 l = some (.lst (L.map V.int)) ∧ Same H H2 ∧ figs b n = ahead b r ++ L.reverse)
      (fun σ _ => match σ with | [_, _, _, some (.int r)] => r.toNat | _ => 0) ?_ ?_ ?_
    · refine ⟨n / b, [((n % b : Nat) : Int)], ?_, ?_, same_upd hl, ?_⟩
      · rfl
      · rw [upd_same]; simp
      · rw [figs_step h2]; simp
    · rintro σ H2 ⟨r, L, rfl, hL, sH, he⟩
      refine ⟨_, rfl, _, _, rfl, rfl, _, rfl, ?_⟩
      refine ite2 (fun h1 => ?_) (fun h1 => ?_)
      · have hr0 : 0 < r := by have := of_decide_eq_true h1; omega
        have hLl : L.length ≤ 901 := by
          have := congrArg List.length he
          rw [List.length_append, List.length_reverse] at this
          omega
        refine ⟨_, rfl, .inl ⟨rfl, _, SqL.of hL⟩, _, rfl, _, rfl, _, _, rfl, rfl, (by omega : (0 : Int) < b), l, _, _, rfl, rfl, hL, by rw [List.length_map]; exact Nat.lt_of_le_of_lt hLl (by decide), ?_⟩
        refine ⟨_, rfl, _, rfl, _, _, rfl, rfl, ⟨by omega, by omega⟩, ?_⟩
        refine ⟨⟨r / b, L ++ [((r % b : Nat) : Int)], ?_, ?_, ?_, ?_⟩, ?_⟩
        · simp
        · rw [upd_same]; simp
        · exact fun b' o e => by rw [upd_ne (ne_of_none e hl)]; exact sH b' o e
        · rw [he, ahead_step h2 hr0, List.reverse_append]; simp
        · show ((r : Int) / (b : Int)).toNat < (r : Int).toNat
          have : r / b < r := Nat.div_lt_self hr0 (by omega)
          omega
      · have hr0 : r = 0 := by
          by_cases z : r = 0
          · exact z
          · exact absurd (decide_eq_true (by omega : (0 : Int) < r)) h1
        subst hr0
        refine ⟨_, rfl, l, _, rfl, SqL.of hL, fun q hq => ?_⟩
        have hlq : q ≠ l := fun z => by rw [z, hL] at hq; cases hq
        refine k q _ (sH.free hq) ?_ (sH.trans (same_upd hq))
        rw [upd_same, he]
        simp [ahead]
    · intro σ H2 Q Q' hq
      rintro ⟨v, e, i, j, e1, e2, k, e3, q⟩
      exact ⟨v, e, i, j, e1, e2, k, e3, hq _ _ q⟩
end
theorem iteNB {c : Bool} {A B : Prop} (hc : c = false) (h : B) : if c = true then A else B := by rw [hc]; exact iteF h
theorem iteNA {c : Bool} {A B : Prop} (hc : c = true) (h : A) : if c = true then A else B := by rw [hc]; exact iteT h
def wrL : List Int → Bool
  | [] => false
  | x :: r => !decide (x = 0) || decide (r.length = 0)
def writesT (b : Int) (d : PyData) : Bool := figsT b d && wrL (intsT d)
section
variable {P : Program} {w : World} {K : PySem.W.Frag} {mg : Str → Option Value} {base : Heap}
theorem atI_zero {α : Type} (x : α) (xs : List α) : atI (x :: xs) 0 = some x := atI_nat (xs := x :: xs) (j := 0) rfl
def sp_writes_number : Sp := fun vs H Q _ => ∃ (b : Int) (v : V) (d : PyData), vs = [.int b, v] ∧ ThAt H d v ∧ sizT d ≤ 100000 ∧ ∀ H', Same H H' → Q (.bl (writesT b d)) H'
theorem sc_writes_number : FnScope ["base", "thing"] ["base", "thing"] (defScope s_writes_number) := ⟨rfl, rfl, rfl, by decide +kernel, rfl, by decide +kernel, by decide +kernel⟩
theorem ok_writes_number {f f1 : Addr} {fd fd1 : FuncData} (D : Df K mg "writes_number" s_writes_number ["base", "thing"] f fd) (Dare_figures : Df K mg "are_figures" s_are_figures ["base", "thing"] f1 fd1) (Gare_figures : FnOk P w K mg base CX0 3 f1 fd1 ["base", "thing"] sp_are_figures) (T : Blt mg) :
    FnOk P w K mg base CX0 4 f fd ["base", "thing"] sp_writes_number := by
  refine D.fn.ok sc_writes_number (fun vs H Q E h => ?_) (fun cdv A outer s H vs Q E hr h => ?_)
  · obtain ⟨b, v, d, rfl, _⟩ := h; rfl
  · obtain ⟨b, v, d, rfl, hd, hs, kk⟩ := h
    refine ⟨_, (pss_cons (ps_if (PW.pt (pw_or (pt_not (pt_val (pcall Dare_figures Gare_figures (hr.mono (by decide)) (pa_cons (pv 0) (pa_cons (pv 1) pa_nil))))) (pw_or1 (pt_cmpR op_eq (pe_callB (k_len K) (by rfl) T.n_len PySem.boot_len (pa_cons (pv 1) pa_nil)) pe_int (nomark _)))))
        (pss_one (ps_ret pe_bl))
        pss_nil)
      (pss_one (ps_ret (pe_or (pe_cmpR op_ne (pe_ix (k_ixL K) (pv 1) pe_int (fun _ _ => rfl)) pe_int (nomark _)) (pe_one (pe_cmpR op_eq (pe_callB (k_len K) (by rfl) T.n_len PySem.boot_len (pa_cons (pv 1) pa_nil)) pe_int (nomark _))))))), ?_⟩
    refine ⟨_, rfl, _, rfl, b, v, d, rfl, hd, hs, fun H1 s1 => ⟨_, rfl, ?_⟩⟩
    unfold writesT at kk
    cases hf : figsT b d with
    | false =>
      rw [hf, Bool.false_and] at kk
      exact iteT (iteT (kk H1 s1))
    | true =>
      rw [hf, Bool.true_and] at kk
      obtain ⟨a, rfl, ha⟩ := ThAt.figs hd hf
      have ha1 := s1 _ _ ha
      generalize intsT d = ns at kk ha ha1
      refine iteF ⟨_, rfl, a, _, rfl, .inl (SqL.of ha1), rfl, _, rfl, ?_⟩
      cases ns with
      | nil =>
        rw [show decide (V.int (([] : List Int).map V.int).length = V.int 0) = true from decide_eq_true rfl]
        exact iteT (kk H1 s1)
      | cons f0 nr =>
        rw [decide_eq_false (show ¬ V.int (((f0 :: nr).map V.int).length : Nat) = V.int 0 by intro z; injection z with z; rw [List.length_map, List.length_cons] at z; omega)]
        refine iteF ?_
        refine ⟨_, rfl, a, _, _, V.int f0, rfl, rfl, SqL.of ha1, atI_zero _ _, rfl, _, rfl, ?_⟩
        have k2 := kk H1 s1
        rw [show wrL (f0 :: nr) = (!decide (f0 = 0) || decide (nr.length = 0)) from rfl] at k2
        by_cases z : f0 = 0
        · subst z
          rw [show (!decide ((0 : Int) = 0) || decide (nr.length = 0)) = decide (nr.length = 0) from rfl] at k2
          refine iteNB (by simp) ⟨_, rfl, a, _, rfl, .inl (SqL.of ha1), rfl, ?_⟩
          rw [show decide (V.int (((0 : Int) :: nr).map V.int).length = V.int 1) = decide (nr.length = 0) by
            rw [List.length_map, List.length_cons]
            refine decide_eq_decide.mpr ⟨fun z => by injection z with z; omega, fun z => by rw [z]; rfl⟩]
          exact k2
        · rw [decide_eq_false z] at k2
          exact iteNA (by simp [z]) k2
end
def OkF (fs : List Int) : Prop := ∀ f ∈ fs, 0 ≤ f ∧ f < 16
theorem okF_of {b : Nat} {fs : List Int} (h16 : b ≤ 16) (h : ∀ f ∈ fs, 0 ≤ f ∧ f < (b : Int)) : OkF fs := fun f hf => ⟨(h f hf).1, by have := (h f hf).2; omega⟩
theorem joined_le (sl B : Nat) : ∀ (l : List Str) (a : Nat), (∀ x ∈ l, x.length ≤ B) → l.foldl (fun n x => n + x.length + sl) a ≤ a + l.length * (B + sl)
  | [], a, _ => by simp
  | x :: l, a, h => by
    rw [List.foldl_cons, List.length_cons, Nat.succ_mul]
    have h1 := joined_le sl B l (a + x.length + sl) fun y hy => h y (List.mem_cons_of_mem _ hy)
    have h2 := h x List.mem_cons_self
    omega
theorem join_ok {sep : Str} {l : List Str} (B : Nat) (h : ∀ x ∈ l, x.length ≤ B) (hs : l.length * (B + sep.length) ≤ 10000) : JoinOk sep l = true := by
  unfold JoinOk
  rw [← Array.foldl_toList]
  have := joined_le sep.length B l 0 h
  have h2 : (10000 : Nat) ≤ sizeLine := by decide
  simp only [Builtin.Str.tooLong, Bool.not_eq_true', decide_eq_false_iff_not]
  show ¬ (l.foldl (fun n x => n + x.length + sep.length) 0 > sizeLine)
  omega
theorem txt_len (fs : List Int) : (txt fs).length = fs.length := by
  show (txt fs).cps.size = _
  rw [← Array.length_toList, txt_list, List.length_map]
section
variable {P : Program} {w : World} {K : PySem.W.Frag} {mg : Str → Option Value} {base : Heap}
def sp_text_by : Sp := fun vs H Q _ => ∃ (a : Addr) (fs : List Int), vs = [.ref a] ∧ H a = some (.lst (fs.map V.int)) ∧ OkF fs ∧ fs.length ≤ 1000 ∧ ∀ H', Same H H' → Q (.str (txt fs)) H'
theorem sc_text_by : FnScope ["figures"] ["figures"] (defScope s_text_by) := ⟨rfl, rfl, rfl, by decide +kernel, rfl, by decide +kernel, by decide +kernel⟩
theorem ok_text_by {f : Addr} {fd : FuncData} {t1 : Tok} (D : Df K mg "text_by" s_text_by ["figures"] f fd) (c_SIGNS : mg "SIGNS" = some (.str SIG t1)) : FnOk P w K mg base CX0 1 f fd ["figures"] sp_text_by := by
  refine D.fn.ok sc_text_by (fun vs H Q E h => ?_) (fun cdv A outer s H vs Q E hr h => ?_)
  · obtain ⟨a, fs, rfl, _⟩ := h; rfl
  · obtain ⟨a, fs, rfl, ha, hf, hl, kk⟩ := h
    refine ⟨_, (pss_one (ps_ret (k_bm K PySem.F.plainAttrs_str PySem.F.slot_str_join PySem.F.type_str_join (k_join K) pe_str (pa_cons (pe_comp (show CScope (defScope s_text_by) _ "figure" ["figures"] [] [] from ⟨rfl, by decide +kernel, by decide +kernel, rfl, by decide +kernel, rfl, by decide +kernel, by decide +kernel⟩) rfl (k_pi K (pv 0)) (fun _ _ _ _ => pts_nil) (fun _ _ _ _ => (pe_ix ix_str (pe_glob (v := .str "0123456789abcdef") (by rfl) (by exact c_SIGNS) (by exact ⟨_, rfl⟩)) (pv 0) (fun _ _ => rfl)))) pa_nil)))), ?_⟩
    refine ⟨rfl, _, rfl, a, rfl, ⟨_, SqL.of ha⟩, comp_list (K := K) (a := a) (xs := fs.map V.int) (fun i ys H4 => H4 = H ∧ ys = ((fs.take i).map fun f => (⟨#[cd f.toNat]⟩ : Str)).map V.str) ⟨rfl, rfl⟩ (fun i ys H4 _ ⟨e, _⟩ => by rw [e]; exact SqL.of ha) ?_ ?_⟩
    · rintro j x ys H4 hx ⟨rfl, rfl⟩
      rw [List.getElem?_map] at hx
      obtain ⟨z, hz, e⟩ := Option.map_eq_some_iff.mp hx
      subst e
      have hzm := List.mem_of_getElem? hz
      have hz16 := hf z hzm
      refine ⟨by rw [List.length_map, List.length_map]; exact Nat.lt_of_le_of_lt (Nat.le_trans (List.length_take_le' _ _) hl) (by decide), ?_⟩
      unfold tYes
      dsimp only
      rw [if_pos rfl]
      refine ⟨_, rfl, SIG, z, cd z.toNat, rfl, rfl, by decide +kernel, ?_, rfl, ?_⟩
      · rw [show z = ((z.toNat : Nat) : Int) by omega]
        exact atI_nat (signs_at (by omega))
      · rw [List.take_succ, hz]; simp
    · rintro ys H4 ⟨rfl, rfl⟩ Dd hD
      rw [List.length_map, List.take_length]
      refine ⟨_, Dd, _, rfl, rfl, SqL.of upd_same, join_ok 1 (fun x hx => ?_) ?_, ?_⟩
      · obtain ⟨f, _, rfl⟩ := List.mem_map.mp hx
        exact Nat.le_refl 1
      · rw [List.length_map, show (Str.length "") = 0 from by decide +kernel]; omega
      · rw [join_txt]
        exact kk _ (same_upd hD)
end
end Lw
set_option Elab.async false
set_option linter.all false
set_option maxRecDepth 100000
namespace Lw
open PySem L2 PyProof.Rows
def ix (c : Nat) : Option Nat := if 48 ≤ c ∧ c < 58 then some (c - 48) else if 97 ≤ c ∧ c < 103 then some (c - 87) else none
def isF (z : Str) : Bool := z.cps.toList.all fun c => (ix c).isSome
def fsOf (z : Str) : List Int := z.cps.toList.map fun c => (((ix c).getD 0 : Nat) : Int)
def Asc (z : Str) : Prop := z.cps.all (· < 128) = true
theorem ix_cd {c f : Nat} (h : ix c = some f) : f < 16 ∧ cd f = c := by
  unfold ix at h
  split at h
  · injection h with h
    subst h
    exact ⟨by omega, by unfold cd; rw [if_pos (by omega)]; omega⟩
  · split at h
    · injection h with h
      subst h
      exact ⟨by omega, by unfold cd; rw [if_neg (by omega)]; omega⟩
    · cases h
theorem cd_ix {f : Nat} (h : f < 16) : ix (cd f) = some f := by
  have : ∀ f, f < 16 → ix (cd f) = some f := by decide +kernel
  exact this f h
theorem fsOf_len (z : Str) : (fsOf z).length = z.length := by
  unfold fsOf
  rw [List.length_map, Array.length_toList]
  rfl
theorem isF_txt {z : Str} (h : isF z = true) : txt (fsOf z) = z := by
  apply str_ext
  rw [txt_list]
  unfold fsOf
  rw [List.map_map]
  conv => rhs; rw [← List.map_id z.cps.toList]
  refine List.map_congr_left fun c hc => ?_
  unfold isF at h
  rw [List.all_eq_true] at h
  obtain ⟨f, hf⟩ := Option.isSome_iff_exists.mp (h c hc)
  show cd (((ix c).getD 0 : Nat) : Int).toNat = c
  rw [hf, Option.getD_some, Int.toNat_natCast]
  exact (ix_cd hf).2
theorem txt_isF {fs : List Int} (h : ∀ f ∈ fs, 0 ≤ f ∧ f < 16) : isF (txt fs) = true ∧ fsOf (txt fs) = fs := by
  unfold isF fsOf
  rw [txt_list]
  constructor
  · rw [List.all_eq_true]
    intro c hc
    obtain ⟨f, hf, rfl⟩ := List.mem_map.mp hc
    have := h f hf
    rw [cd_ix (by omega)]; rfl
  · rw [List.map_map]
    conv => rhs; rw [← List.map_id fs]
    refine List.map_congr_left fun f hf => ?_
    have := h f hf
    show (((ix (cd f.toNat)).getD 0 : Nat) : Int) = f
    rw [cd_ix (by omega), Option.getD_some]; omega
theorem occ_ix : ∀ {c : Nat}, c < 128 → Builtin.Str.occurrences SIG ⟨#[c]⟩ 0 SIG.length 1 = (ix c).toList := by
  have h : ∀ c, c < 128 → Builtin.Str.occurrences SIG ⟨#[c]⟩ 0 SIG.length 1 = (ix c).toList := by decide +kernel
  exact fun {c} hc => h c hc
def SB (b : Nat) : Str := Txt.slice SIG none (some (b : Int))
def ixb (b c : Nat) : Option Nat := match ix c with
  | some f => if f < b then some f else none
  | none => none
theorem occ_SB : ∀ {b c : Nat}, b ≤ 16 → c < 128 → Builtin.Str.occurrences (SB b) ⟨#[c]⟩ 0 (SB b).length 1 = (ixb b c).toList := by
  have h : ∀ b, b < 17 → ∀ c, c < 128 → Builtin.Str.occurrences (SB b) ⟨#[c]⟩ 0 (SB b).length 1 = (ixb b c).toList := by decide +kernel
  exact fun {b c} hb hc => h b (by omega) c hc
theorem Asc.at {z : Str} (h : Asc z) {i c : Nat} (hc : z.cps[i]? = some c) : c < 128 := by
  unfold Asc at h
  rw [← Array.all_toList, List.all_eq_true] at h
  rw [← Array.getElem?_toList] at hc
  exact of_decide_eq_true (h c (List.mem_of_getElem? hc))
theorem Asc.mem {z : Str} (h : Asc z) {c : Nat} (hc : c ∈ z.cps.toList) : c < 128 := by
  unfold Asc at h
  rw [← Array.all_toList, List.all_eq_true] at h
  exact of_decide_eq_true (h c hc)
theorem asc_of {z : Str} (h : ∀ c ∈ z.cps.toList, c < 128) : Asc z := by
  unfold Asc
  rw [← Array.all_toList, List.all_eq_true]
  exact fun c hc => decide_eq_true (h c hc)
theorem asc_append {y z : Str} (h1 : Asc y) (h2 : Asc z) : Asc (y ++ z) := asc_of fun c hc => by
  rw [app_cps, List.mem_append] at hc
  rcases hc with hc | hc
  · exact h1.mem hc
  · exact h2.mem hc
theorem len_append (y z : Str) : (y ++ z).length = y.length + z.length := by
  show (y ++ z).cps.size = _
  rw [← Array.length_toList, app_cps, List.length_append, Array.length_toList, Array.length_toList]
  rfl
theorem asc_slice {z : Str} (h : Asc z) (l u : Option Int) : Asc (Txt.slice z l u) := by
  unfold Txt.slice
  split
  · exact h
  · refine asc_of fun c hc => ?_
    obtain ⟨i, _, hi⟩ := List.mem_filterMap.mp (by simpa using hc)
    exact h.at hi
theorem asc_txt {fs : List Int} (h : ∀ f ∈ fs, 0 ≤ f ∧ f < 16) : Asc (txt fs) := txt_ascii h
theorem jl_mem {c : Nat} {sep : List Nat} : ∀ {xs : List (List Nat)}, c ∈ jl sep xs → c ∈ sep ∨ ∃ x ∈ xs, c ∈ x
  | [], h => by cases h
  | [x], h => .inr ⟨x, List.mem_cons_self, h⟩
  | x :: y :: r, h => by
    rw [jl, List.mem_append, List.mem_append] at h
    rcases h with (h | h) | h
    · exact .inr ⟨x, List.mem_cons_self, h⟩
    · exact .inl h
    · rcases jl_mem h with h | ⟨z, hz, h⟩
      · exact .inl h
      · exact .inr ⟨z, List.mem_cons_of_mem _ hz, h⟩
theorem asc_join {sep : Str} {ws : List Str} (h1 : Asc sep) (h2 : ∀ w ∈ ws, Asc w) : Asc (Txt.join sep ws) := asc_of fun c hc => by
  rw [show Txt.join sep ws = _ from StrLaws.glued_eq_join _ _, join_cps] at hc
  rcases jl_mem hc with h | ⟨x, hx, h⟩
  · exact h1.mem h
  · obtain ⟨w, hw, rfl⟩ := List.mem_map.mp hx
    exact (h2 w hw).mem h
def wrds (z : Str) : List Str := Txt.split z " "
theorem join_wrds (z : Str) : Txt.join " " (wrds z) = z := by
  rw [show Txt.join " " (wrds z) = _ from StrLaws.glued_eq_join _ _]
  exact StrLaws.join_split _ _
theorem wrds_ne (z : Str) : wrds z ≠ [] := fun e => by
  have := PyProof.Rows.split_pos z " "
  rw [show Txt.split z " " = [] from e] at this
  exact absurd this (by decide)
theorem jl_in {c : Nat} {sep x : List Nat} : ∀ {xs : List (List Nat)}, x ∈ xs → c ∈ x → c ∈ jl sep xs
  | [y], h, hc => by rw [List.mem_singleton.mp h] at hc; exact hc
  | y :: y2 :: r, h, hc => by
    rw [jl, List.mem_append, List.mem_append]
    rcases List.mem_cons.mp h with rfl | h
    · exact .inl (.inl hc)
    · exact .inr (jl_in h hc)
theorem jl_len {sep x : List Nat} : ∀ {xs : List (List Nat)}, x ∈ xs → x.length ≤ (jl sep xs).length
  | [y], h => by rw [List.mem_singleton.mp h]; exact Nat.le_refl _
  | y :: y2 :: r, h => by
    rw [jl, List.length_append, List.length_append]
    rcases List.mem_cons.mp h with rfl | h
    · omega
    · have := jl_len (sep := sep) h; omega
theorem jl_many {c : Nat} : ∀ {xs : List (List Nat)}, xs.length ≤ (jl [c] xs).length + 1
  | [] => by simp
  | [y] => by simp
  | y :: y2 :: r => by
    rw [jl, List.length_append, List.length_append, List.length_cons]
    have := jl_many (c := c) (xs := y2 :: r)
    have : [c].length = 1 := rfl
    omega
theorem wrds_cps (z : Str) : z.cps.toList = jl [32] ((wrds z).map fun x => x.cps.toList) := by
  have e := join_wrds z
  rw [show Txt.join " " (wrds z) = _ from StrLaws.glued_eq_join _ _] at e
  conv => lhs; rw [← e]
  rw [join_cps, blank_is]
theorem wrds_asc {z : Str} (h : Asc z) : ∀ w ∈ wrds z, Asc w := fun w hw => asc_of fun c hc => by
  refine h.mem ?_
  rw [wrds_cps]
  exact jl_in (List.mem_map.mpr ⟨w, hw, rfl⟩) hc
theorem wrds_short (z : Str) : ∀ w ∈ wrds z, w.length ≤ z.length := fun w hw => by
  have := jl_len (sep := [32]) (List.mem_map.mpr ⟨w, hw, rfl⟩ : w.cps.toList ∈ (wrds z).map fun x => x.cps.toList)
  rw [← wrds_cps, Array.length_toList, Array.length_toList] at this
  exact this
theorem wrds_many (z : Str) : (wrds z).length ≤ z.length + 1 := by
  have := jl_many (c := 32) (xs := (wrds z).map fun x => x.cps.toList)
  rw [← wrds_cps, List.length_map, Array.length_toList] at this
  exact this
def rdN (b : Nat) : PyData → Option Int
  | .str z => if (isF z && writesT b (.list ((fsOf z).map .int))) = true then some (numI b (fsOf z)) else none
  | _ => none
theorem rdN_str (b : Nat) (z : Str) : rdN b (.str z) = if (isF z && writesT b (.list ((fsOf z).map .int))) = true then some (numI b (fsOf z)) else none := rfl
def wD (w : Str) : PyData := if isF w = true then .list ((fsOf w).map .int) else .none
def wR : PyData → Bool
  | .str z => match wrds z with
    | w0 :: ws => match rdN 10 (.str w0) with
      | some n => ruleT (.tuple [.int n, .list (ws.map wD)])
      | none => false
    | [] => false
  | _ => false
theorem intsL (fs : List Int) : intsT (.list (fs.map .int)) = fs := by
  show (fs.map PyData.int).map intT = fs
  rw [List.map_map]
  conv => rhs; rw [← List.map_id fs]
  rfl
theorem figsL {b : Int} (fs : List Int) : figsT b (.list (fs.map .int)) = fs.all fun f => decide (0 ≤ f ∧ f < b) := by
  show (fs.map PyData.int).all (figT b) = _
  rw [List.all_map]
  rfl
theorem rdN_is {b : Nat} {z : Str} {i : Int} (b2 : 2 ≤ b) (b16 : b ≤ 16) (h : rdN b (.str z) = some i) : ∃ n : Nat, i = n ∧ z = txt (figs b n) := by
  rw [rdN_str] at h
  split at h
  · rename_i hc
    injection h with h
    rw [Bool.and_eq_true] at hc
    obtain ⟨hf, hw⟩ := hc
    unfold writesT at hw
    rw [Bool.and_eq_true, figsL, intsL] at hw
    obtain ⟨hg, hr⟩ := hw
    rw [List.all_eq_true] at hg
    have ne : fsOf z ≠ [] := fun e => by rw [e] at hr; cases hr
    have hh : (fsOf z).head? ≠ some 0 ∨ (fsOf z).length = 1 := by
      cases e : fsOf z with
      | nil => exact absurd e ne
      | cons x r =>
        rw [e] at hr
        unfold wrL at hr
        rw [Bool.or_eq_true] at hr
        rcases hr with hr | hr
        · refine .inl fun z => ?_
          rw [List.head?_cons] at z
          injection z with z
          rw [z] at hr; cases hr
        · exact .inr (by rw [List.length_cons, of_decide_eq_true hr])
    obtain ⟨n, e1, e2, _⟩ := figs_numI b2 _ (fsOf z) rfl ne (fun f hf => of_decide_eq_true (hg f hf)) hh
    exact ⟨n, h.symm.trans e1, by rw [e2, isF_txt hf]⟩
  · cases h
theorem rdN_figs {b n : Nat} (b2 : 2 ≤ b) (b16 : b ≤ 16) : rdN b (.str (txt (figs b n))) = some (n : Int) := by
  have ok : ∀ f ∈ figs b n, 0 ≤ f ∧ f < (b : Int) := figs_mem b2 n
  have ok16 : ∀ f ∈ figs b n, 0 ≤ f ∧ f < 16 := fun f hf => ⟨(ok f hf).1, by have := (ok f hf).2; omega⟩
  obtain ⟨e1, e2⟩ := txt_isF ok16
  rw [rdN_str, e1, e2, Bool.true_and, if_pos, numI_figs b2]
  unfold writesT
  rw [figsL, intsL, Bool.and_eq_true, List.all_eq_true]
  refine ⟨fun f hf => decide_eq_true (ok f hf), ?_⟩
  by_cases h0 : n = 0
  · subst h0
    rw [figs_lt (by omega)]
    rfl
  · have hh := figs_head b2 n (by omega)
    cases e : figs b n with
    | nil => exact absurd e figs_ne
    | cons x r =>
      rw [e] at hh
      unfold wrL
      rw [Bool.or_eq_true]
      refine .inl ?_
      have : x ≠ 0 := fun z => hh (by rw [z]; rfl)
      simp [this]
end Lw
set_option Elab.async false
set_option linter.all false
set_option maxRecDepth 100000
namespace Lw
open PySem L2 PyProof.Rows
section
variable {P : Program} {w : World} {K : PySem.W.Frag} {mg : Str → Option Value} {base : Heap}
def sp_number_by (CNoBase CNoFigures : Addr) : Sp := fun vs H Q E => ∃ (v u : V) (d e : PyData), vs = [v, u] ∧ ThAt H d v ∧ ThAt H e u ∧ sizT e ≤ 100000 ∧ (baseT d = false → E (.ref CNoBase) none H) ∧ (∀ b : Nat, d = .int b → 2 ≤ b → b ≤ 16 → writesT b e = false → ∀ H', Same H H' → E (.ref CNoFigures) none H') ∧
  ∀ b : Nat, d = .int b → 2 ≤ b → b ≤ 16 → writesT b e = true → ∀ H', Same H H' → Q (.int (numI b (intsT e))) H'
theorem sc_number_by : FnScope ["base", "figures", "n", "figure"] ["base", "figures"] (defScope s_number_by) := ⟨rfl, rfl, rfl, by decide +kernel, rfl, by decide +kernel, by decide +kernel⟩
theorem ok_number_by {CNoBase CNoFigures : Addr} {f f1 f2 : Addr} {fd fd1 fd2 : FuncData} (D : Df K mg "number_by" s_number_by ["base", "figures"] f fd) (Dcheck_base : Df K mg "check_base" s_check_base ["thing"] f1 fd1) (Gcheck_base : FnOk P w K mg base (CX1 P w) 3 f1 fd1 ["thing"] (sp_check_base CNoBase))
    (Dwrites_number : Df K mg "writes_number" s_writes_number ["base", "thing"] f2 fd2) (Gwrites_number : FnOk P w K mg base CX0 4 f2 fd2 ["base", "thing"] sp_writes_number) (x_NoFigures : ExcC K mg "NoFigures" CNoFigures) (kn_NoBase : PySem.W.kitCls K (.ref CNoBase) (.ref CNoFigures) = some false) (kn_NoFigures : PySem.W.kitCls K (.ref CNoFigures) (.ref CNoFigures) = some true) (T : Blt mg) : FnOk P w K mg base (CX2 CNoFigures P w) 5 f fd ["base", "figures"] (sp_number_by CNoBase CNoFigures) := by
  have ne : Value.ref CNoBase ≠ Value.ref CNoFigures := fun z => by rw [z, kn_NoFigures] at kn_NoBase; cases kn_NoBase
  refine D.fn.ok2 sc_number_by (fun vs H Q E h => ?_) (fun cdv A outer s H vs Q E hr h => ?_)
  · obtain ⟨v, u, d, e, rfl, _⟩ := h; rfl
  · obtain ⟨v, u, d, e, rfl, hd, he, hs, kB, kF, kOk⟩ := h
    refine ⟨_, (pss_cons (ps_expr (pcallX Dcheck_base Gcheck_base (hr.mono (by decide)) pass_callC (pa_cons (pv 0) pa_nil)))
      (pss_cons (ps_if (pt_not (pt_val (pcall Dwrites_number Gwrites_number (hr.mono (by decide)) (pa_cons (pv 0) (pa_cons (pv 1) pa_nil)))))
        (pss_one (ps_raise x_NoFigures pass_newC rfl (pa_cons pe_str pa_nil)))
        pss_nil)
      (pss_cons (ps_set (i := 2) sc_number_by.nd rfl (Or.inl rfl) pe_int)
      (pss_cons (ps_for PassesOwn.leaving rfl (k_pi K (pv 1)) (pg_name (i := 3) sc_number_by.nd rfl (Or.inl rfl))
        (pss_one (ps_set (i := 2) sc_number_by.nd rfl (Or.inl rfl) (pe_op op_add (pe_op op_mul (pv 2) (pv 0)) (pv 3)))))
      (pss_one (ps_ret (pv 2))))))), ?_⟩
    refine ⟨_, rfl, v, d, rfl, hd, fun hb => ⟨ne, kB hb⟩, fun hb => ?_⟩
    obtain ⟨b, rfl, rfl, h2, h16⟩ := base_of hd hb
    refine ⟨_, rfl, _, rfl, b, u, e, rfl, he, hs, fun H1 s1 => ⟨_, rfl, ?_⟩⟩
    cases hw : writesT b e with
    | false => exact iteT ⟨by show 1 ≤ sizeLine; decide, kF b rfl h2 h16 hw H1 s1⟩
    | true =>
      have kOk := kOk b rfl h2 h16 hw
      have hf : figsT b e = true := by unfold writesT at hw; rw [Bool.and_eq_true] at hw; exact hw.1
      obtain ⟨a, rfl, ha⟩ := ThAt.figs he hf
      have ha1 := s1 _ _ ha
      generalize intsT e = ns at ha ha1 kOk
      refine iteF ⟨_, rfl, a, rfl, ⟨_, SqL.of ha1⟩, for_list (K := K) (a := a) (xs := ns.map V.int) (fun i σ H2 => H2 = H1 ∧ ∃ v : Option V, σ = [some (.int b), some (.ref a), some (.int (numI b (ns.take i))), v]) ⟨rfl, none, rfl⟩ (fun i σ H2 _ ⟨e, _⟩ => by rw [e]; exact SqL.of ha1) ?_ ?_⟩
      · rintro i x σ H2 hx ⟨rfl, v, rfl⟩
        obtain ⟨z, hz, rfl⟩ : ∃ z, ns[i]? = some z ∧ x = V.int z := by
          rw [List.getElem?_map] at hx
          obtain ⟨z, h, e⟩ := Option.map_eq_some_iff.mp hx
          exact ⟨z, h, e.symm⟩
        refine ⟨_, rfl, _, rfl, _, _, rfl, rfl, .inr ⟨by omega, by omega⟩, _, rfl, _, _, rfl, rfl, rfl, some (V.int z), ?_⟩
        rw [List.take_succ, hz]
        show _ = [some (V.int b), some (V.ref a), some (V.int (numI b (ns.take i ++ [z]))), _]
        rw [numI_snoc]
        rfl
      · rintro σ H2 ⟨rfl, v, rfl⟩
        rw [List.length_map, List.take_length]
        exact ⟨_, rfl, kOk _ s1⟩
end
end Lw
set_option Elab.async false
set_option linter.all false
set_option maxRecDepth 100000
namespace Lw
open PySem L2 PyProof.Rows
section
variable {P : Program} {w : World} {K : PySem.W.Frag} {mg : Str → Option Value} {base : Heap}
def Tx (d : PyData) : Prop := ∀ z, d = .str z → Asc z ∧ z.length ≤ 1000
def isFT : PyData → Bool
  | .str z => isF z
  | _ => false
def sOf : PyData → Str
  | .str z => z
  | _ => ""
theorem isT_str {d : PyData} (h : isT "str" d = true) : ∃ z, d = .str z := by cases d <;> first | exact ⟨_, rfl⟩ | cases h
theorem noS {d : PyData} (h : isT "str" d = false) : isFT d = false := by cases d <;> first | rfl | cases h
theorem cps_at {z : Str} {i c : Nat} (h : z.cps[i]? = some c) : z.cps.toList[i]? = some c := by rw [Array.getElem?_toList]; exact h
theorem cps_size (z : Str) : z.cps.size = z.cps.toList.length := by rw [Array.length_toList]
def sp_figures_in : Sp := fun vs H Q _ => ∃ (v : V) (d : PyData), vs = [v] ∧ ThAt H d v ∧ Tx d ∧ (isFT d = false → ∀ H', Same H H' → Q .non H') ∧ (isFT d = true → ∀ (l : Addr) (H' : Hp), H l = none → Same H H' → H' l = some (.lst ((fsOf (sOf d)).map V.int)) → Q (.ref l) H')
theorem sc_figures_in : FnScope ["thing"] ["thing"] (defScope s_figures_in) := ⟨rfl, rfl, rfl, by decide +kernel, rfl, by decide +kernel, by decide +kernel⟩
theorem ok_figures_in {f : Addr} {fd : FuncData} {t1 : Tok} (D : Df K mg "figures_in" s_figures_in ["thing"] f fd) (c_SIGNS : mg "SIGNS" = some (.str SIG t1)) (T : Blt mg) (U : Blt2 mg) : FnOk P w K mg base CX0 1 f fd ["thing"] sp_figures_in := by
  refine D.fn.ok sc_figures_in (fun vs H Q E h => ?_) (fun cdv A outer s H vs Q E hr h => ?_)
  · obtain ⟨v, d, rfl, _⟩ := h; rfl
  · obtain ⟨v, d, rfl, hd, ht, kN, kL⟩ := h
    refine ⟨_, (pss_cons (ps_if (PW.pt (pw_or (pt_not (pt_val (pe_callB (k_isi K) (by rfl) T.n_isinstance boot_isinstance (pa_cons (pv 0) (pa_cons (pe_bltn (v := .ty "str") rfl U.n_str boot_str rfl) pa_nil))))) (pw_or1 (pt_not (pt_val (pe_callB (k_all K rfl) (by rfl) T.n_all boot_all (pa_cons (pe_comp (show CScope (defScope s_figures_in) _ "sign" ["thing"] [] [] from ⟨rfl, by decide +kernel, by decide +kernel, rfl, by decide +kernel, rfl, by decide +kernel, by decide +kernel⟩) rfl (pi_str (pv 0)) (fun _ _ _ _ => pts_nil) (fun _ _ _ _ => (pe_cmpR op_inS (pv 0) (pe_glob (v := .str "0123456789abcdef") (by rfl) (by exact c_SIGNS) (by exact ⟨_, rfl⟩)) (by with_unfolding_all rfl)))) pa_nil)))))))
        (pss_one (ps_ret pe_non))
        pss_nil)
      (pss_one (ps_ret (pe_comp (show CScope (defScope s_figures_in) _ "sign" ["thing"] [] [] from ⟨rfl, by decide +kernel, by decide +kernel, rfl, by decide +kernel, rfl, by decide +kernel, by decide +kernel⟩) rfl (pi_str (pv 0)) (fun _ _ _ _ => pts_nil) (fun _ _ _ _ => (k_bm K PySem.F.plainAttrs_str PySem.F.slot_str_index PySem.F.type_str_index mt_indexS (pe_glob (v := .str "0123456789abcdef") (by rfl) (by exact c_SIGNS) (by exact ⟨_, rfl⟩)) (pa_cons (pv 0) pa_nil))))))), ?_⟩
    refine ⟨_, rfl, _, _, _, _, rfl, hd.ty, kit_str d, _, rfl, ?_⟩
    cases hs : isT "str" d with
    | false => exact iteT (iteT (kN (noS hs) H (Same.refl _)))
    | true =>
      obtain ⟨z, rfl⟩ := isT_str hs
      rw [ThAt] at hd
      subst hd
      obtain ⟨ha, hl⟩ := ht z rfl
      have kN : isF z = false → ∀ H', Same H H' → Q .non H' := kN
      have kL : isF z = true → ∀ (l : Addr) (H' : Hp), H l = none → Same H H' → H' l = some (.lst ((fsOf z).map V.int)) → Q (.ref l) H' := kL
      have hl' : z.cps.toList.length ≤ 1000 := by rw [← cps_size]; exact hl
      refine iteF ?_
      refine ⟨_, rfl, z, rfl, ha, comp_str (z := z) (fun i ys H4 => H4 = H ∧ ys = ((z.cps.toList.take i).map fun c => (ix c).isSome).map V.bl) ⟨rfl, rfl⟩ ?_ ?_⟩
      · rintro j c ys H4 hc ⟨rfl, rfl⟩
        refine ⟨by rw [List.length_map, List.length_map]; exact Nat.lt_of_le_of_lt (Nat.le_trans (List.length_take_le' _ _) hl') (by decide), ?_⟩
        unfold tYes
        dsimp only
        rw [if_pos rfl]
        refine ⟨_, rfl, _, _, rfl, rfl, rfl, ?_⟩
        rw [occ_ix (ha.at hc), List.take_succ, cps_at hc, show (!(ix c).toList.isEmpty) = (ix c).isSome by cases ix c <;> rfl]
        simp
      rintro ys H4 ⟨rfl, rfl⟩ Dd hD
      rw [cps_size, List.take_length]
      refine ⟨Dd, _, rfl, SqL.of upd_same, _, rfl, ?_⟩
      have s1 := same_upd hD (o := .lst ((z.cps.toList.map fun c => (ix c).isSome).map V.bl))
      rw [show ((z.cps.toList.map fun c => (ix c).isSome).all id) = isF z from all_mapid]
      cases hf : isF z with
      | false => exact iteT (kN hf _ s1)
      | true =>
        refine iteF ?_
        generalize upd H4 Dd (.lst ((z.cps.toList.map fun c => (ix c).isSome).map V.bl)) = H5 at s1
        refine ⟨_, rfl, z, rfl, ha, comp_str (z := z) (fun i ys H6 => H6 = H5 ∧ ys = ((z.cps.toList.take i).map fun c => (((ix c).getD 0 : Nat) : Int)).map V.int) ⟨rfl, rfl⟩ ?_ ?_⟩
        · rintro j c ys H6 hc ⟨rfl, rfl⟩
          refine ⟨by rw [List.length_map, List.length_map]; exact Nat.lt_of_le_of_lt (Nat.le_trans (List.length_take_le' _ _) hl') (by decide), ?_⟩
          unfold tYes
          dsimp only
          rw [if_pos rfl]
          obtain ⟨g, hg⟩ : ∃ g, ix c = some g := by
            unfold isF at hf
            rw [List.all_eq_true] at hf
            exact Option.isSome_iff_exists.mp (hf c (List.mem_of_getElem? (cps_at hc)))
          refine ⟨rfl, _, rfl, _, _, g, [], rfl, rfl, by rw [occ_ix (ha.at hc), hg]; rfl, rfl, ?_⟩
          rw [List.take_succ, cps_at hc]
          simp [hg]
        rintro ys H6 ⟨rfl, rfl⟩ l hl2
        rw [cps_size, List.take_length]
        exact kL hf l _ (s1.free hl2) (s1.trans (same_upd hl2)) upd_same
end
section
variable {P : Program} {w : World} {K : PySem.W.Frag} {mg : Str → Option Value} {base : Heap}
theorem okF_figs {b n : Nat} (b2 : 2 ≤ b) (b16 : b ≤ 16) : OkF (figs b n) := okF_of b16 (figs_mem b2 n)
def sp_show_number (CNoBase CNoNumber : Addr) : Sp := fun vs H Q E => ∃ (v u : V) (d e : PyData), vs = [v, u] ∧ ThAt H d v ∧ ThAt H e u ∧ (baseT d = false → E (.ref CNoBase) none H) ∧ (baseT d = true → numT e = false → E (.ref CNoNumber) none H) ∧
  ∀ b n : Nat, d = .int b → 2 ≤ b → b ≤ 16 → e = .int n → n < 2 ^ 900 ∧ ∀ H', Same H H' → Q (.str (txt (figs b n))) H'
theorem sc_show_number : FnScope ["base", "n"] ["base", "n"] (defScope s_show_number) := ⟨rfl, rfl, rfl, by decide +kernel, rfl, by decide +kernel, by decide +kernel⟩
theorem ok_show_number {CNoBase CNoNumber : Addr} {f f1 f2 : Addr} {fd fd1 fd2 : FuncData} (D : Df K mg "show_number" s_show_number ["base", "n"] f fd) (Dtext_by : Df K mg "text_by" s_text_by ["figures"] f1 fd1) (Gtext_by : FnOk P w K mg base CX0 1 f1 fd1 ["figures"] sp_text_by) (Dfigures_of : Df K mg "figures_of" s_figures_of ["base", "n"] f2 fd2) (Gfigures_of : FnOk P w K mg base (CX1 P w) 4 f2 fd2 ["base", "n"] (sp_figures_of CNoBase CNoNumber)) : FnOk P w K mg base (CX1 P w) 5 f fd ["base", "n"] (sp_show_number CNoBase CNoNumber) := by
  refine D.fn.ok1 sc_show_number (fun vs H Q E h => ?_) (fun cdv A outer s H vs Q E hr h => ?_)
  · obtain ⟨v, u, d, e, rfl, _⟩ := h; rfl
  · obtain ⟨v, u, d, e, rfl, hd, he, kB, kN, kOk⟩ := h
    refine ⟨_, (pss_one (ps_ret (pcall Dtext_by Gtext_by (hr.mono (by decide)) (pa_cons (pcallX Dfigures_of Gfigures_of (hr.mono (by decide)) pass_call (pa_cons (pv 0) (pa_cons (pv 1) pa_nil))) pa_nil)))), ?_⟩
    refine ⟨_, rfl, _, rfl, v, u, d, e, rfl, hd, he, kB, kN, fun b n hb b2 b16 hn => ⟨(kOk b n hb b2 b16 hn).1, fun l H1 hl hv s1 => ?_⟩⟩
    exact ⟨l, figs b n, rfl, hv, okF_figs b2 b16, Nat.le_trans (figs_len b2 900 n (kOk b n hb b2 b16 hn).1) (by decide), fun H2 s2 => (kOk b n hb b2 b16 hn).2 H2 (s1.trans s2)⟩
end
section
variable {P : Program} {w : World} {K : PySem.W.Frag} {mg : Str → Option Value} {base : Heap}
theorem th_ints {H : Hp} {l : Addr} {fs : List Int} (h : H l = some (.lst (fs.map V.int))) : ThAt H (.list (fs.map .int)) (.ref l) := by
  rw [ThAt]
  refine ⟨l, _, rfl, h, ?_⟩
  clear h
  induction fs with
  | nil => rw [List.map_nil, List.map_nil, ThsAt]
  | cons x fs ih => rw [List.map_cons, List.map_cons, ThsAt]; exact ⟨_, _, rfl, by rw [ThAt], ih⟩
theorem siz_ints : ∀ fs : List Int, sizTs (fs.map PyData.int) ≤ 2 * fs.length
  | [] => by simp [sizTs]
  | x :: fs => by
    have := siz_ints fs
    simp only [List.map_cons, sizTs, sizT, List.length_cons]
    omega
def sp_read_number (CNoBase CNoText : Addr) : Sp := fun vs H Q E => ∃ (v u : V) (d e : PyData), vs = [v, u] ∧ ThAt H d v ∧ ThAt H e u ∧ Tx e ∧ (baseT d = false → ∀ H', Same H H' → E (.ref CNoBase) none H') ∧ (∀ b : Nat, d = .int b → 2 ≤ b → b ≤ 16 → rdN b e = none → ∀ H', Same H H' → E (.ref CNoText) none H') ∧
  ∀ (b : Nat) (i : Int), d = .int b → 2 ≤ b → b ≤ 16 → rdN b e = some i → ∀ H', Same H H' → Q (.int i) H'
theorem sc_read_number : FnScope ["base", "text"] ["base", "text"] (defScope s_read_number) := ⟨rfl, rfl, rfl, by decide +kernel, rfl, by decide +kernel, by decide +kernel⟩
theorem ok_read_number {CNoBase CNoFigures CNoText : Addr} {f f1 f2 : Addr} {fd fd1 fd2 : FuncData} (D : Df K mg "read_number" s_read_number ["base", "text"] f fd) (Dnumber_by : Df K mg "number_by" s_number_by ["base", "figures"] f1 fd1) (Gnumber_by : FnOk P w K mg base (CX2 CNoFigures P w) 5 f1 fd1 ["base", "figures"] (sp_number_by CNoBase CNoFigures)) (Dfigures_in : Df K mg "figures_in" s_figures_in ["thing"] f2 fd2) (Gfigures_in : FnOk P w K mg base CX0 1 f2 fd2 ["thing"] sp_figures_in)
    (h_NoFigures : CatchC K mg "NoFigures" CNoFigures) (x_NoText : ExcC K mg "NoText" CNoText) (kn_NoBase : PySem.W.kitCls K (.ref CNoBase) (.ref CNoFigures) = some false) (kn_NoFigures : PySem.W.kitCls K (.ref CNoFigures) (.ref CNoFigures) = some true) : FnOk P w K mg base (CX1 P w) 6 f fd ["base", "text"] (sp_read_number CNoBase CNoText) := by
  refine D.fn.ok1 sc_read_number (fun vs H Q E h => ?_) (fun cdv A outer s H vs Q E hr h => ?_)
  · obtain ⟨v, u, d, e, rfl, _⟩ := h; rfl
  · obtain ⟨v, u, d, e, rfl, hd, he, ht, kB, kT, kOk⟩ := h
    refine ⟨_, (pss_one (ps_tryFrom h_NoFigures x_NoText (fun _ _ _ hS =>
        (pss_one (ps_ret (pcallC Dnumber_by Gnumber_by (hr.mono (by decide)) hS (pa_cons (pv 0) (pa_cons (pcall Dfigures_in Gfigures_in (hr.mono (by decide)) (pa_cons (pv 1) pa_nil)) pa_nil)))))) (fun _ => (pa_cons pe_str pa_nil)))), ?_⟩
    refine ⟨_, rfl, _, rfl, u, e, rfl, he, ht, fun hf H1 s1 => ?_, fun hf l H1 hl s1 hv => ?_⟩
    · refine ⟨v, .non, d, .none, rfl, hd.same s1, by rw [ThAt], by simp [sizT], fun hb => .inr ⟨_, rfl, kn_NoBase, kB hb H1 s1⟩, fun b hb b2 b16 _ H2 s2 => .inl ⟨rfl, kn_NoFigures, ⟨by show 1 ≤ sizeLine; decide, kT b hb b2 b16 ?_ H2 (s1.trans s2)⟩⟩, fun b hb b2 b16 hw => by cases hw⟩
      cases e with
      | str z => rw [rdN_str, show isF z = false from hf, Bool.false_and, if_neg (by decide)]
      | _ => rfl
    · cases e with
      | str z =>
        have hz := (ht z rfl).2
        refine ⟨v, .ref l, d, .list ((fsOf z).map .int), rfl, hd.same s1, th_ints hv, ?_, fun hb => .inr ⟨_, rfl, kn_NoBase, kB hb H1 s1⟩, fun b hb b2 b16 hw H2 s2 => .inl ⟨rfl, kn_NoFigures, ⟨by show 1 ≤ sizeLine; decide, kT b hb b2 b16 ?_ H2 (s1.trans s2)⟩⟩, fun b hb b2 b16 hw H2 s2 => ?_⟩
        · have := siz_ints (fsOf z)
          have := fsOf_len z
          simp only [sizT, List.length_map]
          omega
        · rw [rdN_str, hw, Bool.and_false, if_neg (by decide)]
        · refine kOk b _ hb b2 b16 ?_ H2 (s1.trans s2)
          rw [rdN_str, show isF z = true from hf, hw, Bool.and_self, if_pos rfl, intsL]
      | _ => cases hf
end
end Lw
set_option Elab.async false
set_option linter.all false
set_option maxRecDepth 100000
namespace Lw
open PySem L2 PyProof.Rows
section
variable {P : Program} {w : World} {K : PySem.W.Frag} {mg : Str → Option Value} {base : Heap}
def wds (b : Nat) (ls : List (List Int)) : List Str := txt (figs 10 b) :: ls.map txt
def wr (b : Nat) (ls : List (List Int)) : Str := Txt.join " " (wds b ls)
theorem GoodRule.okF {b : Nat} {ls : List (List Int)} (g : GoodRule b ls) {l : List Int} (h : l ∈ ls) : OkF l := okF_of g.b16 (g.st l h).fig
theorem wds_short {b : Nat} {ls : List (List Int)} (g : GoodRule b ls) : ∀ x ∈ wds b ls, x.length ≤ 6 := fun x hx => by
  rcases List.mem_cons.mp hx with e | e
  · rw [e, txt_len]
    exact figs_len (by decide) 5 b (by have := g.b16; omega)
  · obtain ⟨l, hl, rfl⟩ := List.mem_map.mp e
    rw [txt_len]
    exact Nat.le_trans (g.st l hl).len (by decide)
theorem wds_ok {b : Nat} {ls : List (List Int)} (g : GoodRule b ls) : JoinOk " " (wds b ls) = true := join_ok 6 (wds_short g) (by
  have := g.len
  show (wds b ls).length * (6 + Str.length " ") ≤ 10000
  rw [show (Str.length " ") = 1 from by decide +kernel]
  unfold wds
  rw [List.length_cons, List.length_map]
  omega)
def sp_show_rule (CNoRule : Addr) : Sp := fun vs H Q E => ∃ (v : V) (d : PyData), vs = [v] ∧ ThAt H d v ∧ sizT d ≤ 100000 ∧ (ruleT d = false → ∀ H', Same H H' → E (.ref CNoRule) none H') ∧ ∀ (r : Addr) (b : Nat) (bl : Addr) (zs : List (Addr × List Int)), v = .ref r → RuleAt H r b bl zs → GoodRule b (zs.map (·.2)) → ∀ H', Same H H' → Q (.str (wr b (zs.map (·.2)))) H'
theorem sc_show_rule : FnScope ["rule"] ["rule"] (defScope s_show_rule) := ⟨rfl, rfl, rfl, by decide +kernel, rfl, by decide +kernel, by decide +kernel⟩
set_option maxHeartbeats 2000000 in
theorem ok_show_rule {CNoRule CNoBase CNoNumber : Addr} {f f1 f2 f3 : Addr} {fd fd1 fd2 fd3 : FuncData} {t1 : Tok} (D : Df K mg "show_rule" s_show_rule ["rule"] f fd) (Dcheck_rule : Df K mg "check_rule" s_check_rule ["thing"] f1 fd1) (Gcheck_rule : FnOk P w K mg base (CX1 P w) 7 f1 fd1 ["thing"] (sp_check_rule CNoRule)) (Dshow_number : Df K mg "show_number" s_show_number ["base", "n"] f2 fd2) (Gshow_number : FnOk P w K mg base (CX1 P w) 5 f2 fd2 ["base", "n"] (sp_show_number CNoBase CNoNumber)) (Dtext_by : Df K mg "text_by" s_text_by ["figures"] f3 fd3) (Gtext_by : FnOk P w K mg base CX0 1 f3 fd3 ["figures"] sp_text_by) (c_TEN : mg "TEN" = some (.int 10 t1)) : FnOk P w K mg base (CX1 P w) 8 f fd ["rule"] (sp_show_rule CNoRule) := by
  refine D.fn.ok1 sc_show_rule (fun vs H Q E h => ?_) (fun cdv A outer s H vs Q E hr h => ?_)
  · obtain ⟨v, d, rfl, _⟩ := h; rfl
  · obtain ⟨v, d, rfl, hd, hs, kR, kk⟩ := h
    refine ⟨_, (pss_cons (ps_expr (pcallX Dcheck_rule Gcheck_rule (hr.mono (by decide)) pass_call (pa_cons (pv 0) pa_nil)))
      (pss_one (ps_ret (k_bm K PySem.F.plainAttrs_str PySem.F.slot_str_join PySem.F.type_str_join (k_join K) pe_str (pa_cons (pe_op op_cat (pe_lst (pa_cons (pcallX Dshow_number Gshow_number (hr.mono (by decide)) pass_call (pa_cons (pe_glob (v := .int 10) rfl c_TEN ⟨_, rfl⟩) (pa_cons (pe_ix (k_ixT K) (pv 0) pe_int (fun _ _ => rfl)) pa_nil))) pa_nil)) (pe_comp (show CScope (defScope s_show_rule) _ "stretch" ["rule"] [] [] from ⟨rfl, by decide +kernel, by decide +kernel, rfl, by decide +kernel, rfl, by decide +kernel, by decide +kernel⟩) rfl (k_pi K (pe_ix (k_ixT K) (pv 0) pe_int (fun _ _ => rfl))) (fun _ _ _ _ => pts_nil) (fun _ _ _ _ => (pcall Dtext_by Gtext_by (hr.mono (by decide)) (pa_cons (pv 0) pa_nil))))) pa_nil))))), ?_⟩
    refine ⟨_, rfl, v, d, rfl, hd, hs, kR, fun hr1 H1 s1 => ?_⟩
    obtain ⟨r, b, bl, zs, rfl, R, g⟩ := th_rule hd hr1
    have h4 : zs.length ≤ 4 := by have := g.len; rwa [List.length_map] at this
    have b16 := g.b16
    have kk := kk r b bl zs rfl R g
    have R1 := R.same s1
    refine ⟨rfl, _, rfl, r, _, _, V.int b, rfl, rfl, SqT.of R1.tu, rfl, .int 10, .int b, .int 10, .int b, rfl, by rw [ThAt], by rw [ThAt], (fun z => by cases z), (fun _ z => absurd z (by show ¬ decide (0 ≤ (b : Int)) = false; simp)), fun b' n hb _ _ hn => ?_⟩
    obtain rfl : b' = 10 := by injection hb with hb; omega
    obtain rfl : b = n := by injection hn with hn; omega
    refine ⟨Nat.lt_of_le_of_lt b16 (by decide), fun H2 s2 => ⟨(by show 1 ≤ sizeLine; decide), fun l1 hl1 => ?_⟩⟩
    have s3 := s2.trans (same_upd hl1 (o := .lst [V.str (txt (figs 10 b))]))
    have hl3 : upd H2 l1 (.lst [V.str (txt (figs 10 b))]) l1 = some (.lst [V.str (txt (figs 10 b))]) := upd_same
    generalize upd H2 l1 (.lst [V.str (txt (figs 10 b))]) = H3 at s3 hl3
    have R3 := R1.same s3
    refine ⟨_, rfl, r, _, _, V.ref bl, rfl, rfl, SqT.of R3.tu, rfl, bl, rfl, ⟨_, SqL.of R3.li⟩, comp_list (K := K) (a := bl) (xs := zs.map fun z => V.ref z.1) (fun i ys H4 => Same H3 H4 ∧ ys = ((zs.take i).map fun z => txt z.2).map V.str) ⟨Same.refl _, rfl⟩ (fun i ys H4 _ ⟨e, _⟩ => SqL.of (e _ _ R3.li)) ?_ ?_⟩
    · rintro j x ys H4 hx ⟨s4, rfl⟩
      rw [List.getElem?_map] at hx
      obtain ⟨z, hzj, e⟩ := Option.map_eq_some_iff.mp hx
      subst e
      have hzm := List.mem_of_getElem? hzj
      have gz := g.st z.2 (List.mem_map.mpr ⟨z, hzm, rfl⟩)
      refine ⟨by rw [List.length_map, List.length_map]; exact Nat.lt_of_le_of_lt (Nat.le_trans (List.length_take_le' _ _) h4) (by decide), ?_⟩
      unfold tYes
      dsimp only
      rw [if_pos rfl]
      refine ⟨_, rfl, z.1, z.2, rfl, s4 _ _ (R3.st z hzm), okF_of b16 gz.fig, Nat.le_trans gz.len (by decide), fun H5 s5 => ⟨s4.trans s5, ?_⟩⟩
      rw [List.take_succ, hzj]; simp
    · rintro ys H4 ⟨s4, rfl⟩ Dd hD
      rw [List.length_map, List.take_length]
      have s5 := same_upd hD (o := .lst ((zs.map fun z => txt z.2).map V.str))
      refine ⟨l1, Dd, _, _, rfl, rfl, s5 _ _ (s4 _ _ hl3), upd_same, ?_, fun p hp => ?_⟩
      · rw [List.length_map, List.length_map]; exact Nat.le_trans (show 1 + zs.length ≤ 5 by omega) (by decide)
      have s6 := same_upd hp (o := .lst ([V.str (txt (figs 10 b))] ++ (zs.map fun z => txt z.2).map V.str))
      have ew : [V.str (txt (figs 10 b))] ++ (zs.map fun z => txt z.2).map V.str = (wds b (zs.map (·.2))).map V.str := by
        unfold wds
        rw [List.map_cons, List.map_map, List.map_map, List.map_map]
        rfl
      rw [ew] at s6 ⊢
      exact ⟨_, p, _, rfl, rfl, SqL.of upd_same, wds_ok g, kk _ (s1.trans (s3.trans (s4.trans (s5.trans s6))))⟩
end
section
variable {P : Program} {w : World} {K : PySem.W.Frag} {mg : Str → Option Value} {base : Heap}
theorem wR_str {z w0 : Str} {ws : List Str} (h : wrds z = w0 :: ws) : wR (.str z) = match rdN 10 (.str w0) with
      | some n => ruleT (.tuple [.int n, .list (ws.map wD)])
      | none => false := by
  show (match wrds z with
    | w0 :: ws => match rdN 10 (.str w0) with
      | some n => ruleT (.tuple [.int n, .list (ws.map wD)])
      | none => false
    | [] => false) = _
  rw [h]
theorem wD_txt : ∀ {ws : List Str} {ls : List (List Int)}, ws.map wD = ls.map (fun l => PyData.list (l.map .int)) → ws = ls.map txt
  | [], [], _ => rfl
  | [], _ :: _, e => by cases e
  | _ :: _, [], e => by cases e
  | w :: ws, l :: ls, e => by
    rw [List.map_cons, List.map_cons] at e
    obtain ⟨e1, e2⟩ := List.cons.inj e
    rw [List.map_cons, ← wD_txt e2]
    unfold wD at e1
    split at e1
    · rename_i h
      have e3 := congrArg intsT e1
      rw [intsL, intsL] at e3
      rw [← e3, isF_txt h]
    · cases e1
theorem siz_is : ∀ fs : List Int, sizTs (fs.map PyData.int) = 0
  | [] => by simp [sizTs]
  | x :: fs => by rw [List.map_cons, sizTs, siz_is fs]; simp [sizT]
theorem siz_wD (w : Str) : sizT (wD w) ≤ w.length := by
  unfold wD
  split
  · simp only [sizT, List.length_map, siz_is, fsOf_len]
    omega
  · simp [sizT]
theorem siz_wDs {n : Nat} : ∀ (ws : List Str), (∀ w ∈ ws, w.length ≤ n) → sizTs (ws.map wD) ≤ n
  | [], _ => by simp [sizTs]
  | w :: ws, h => by
    have h1 := siz_wDs ws fun w hw => h w (List.mem_cons_of_mem _ hw)
    have h2 := siz_wD w
    have h3 := h w List.mem_cons_self
    rw [List.map_cons]
    simp only [sizTs]
    omega
theorem cutV_one (x : V) (xs : List V) : cutV (x :: xs) (some 1) none = xs := cutV_from (x :: xs) 1
def sp_read_rule (CNoText : Addr) : Sp := fun vs H Q E => ∃ (u : V) (e : PyData), vs = [u] ∧ ThAt H e u ∧ Tx e ∧ (wR e = false → ∀ H', Same H H' → E (.ref CNoText) none H') ∧
  ∀ (z : Str), e = .str z → wR e = true → ∀ (r : Addr) (b : Nat) (bl : Addr) (zs : List (Addr × List Int)) (H' : Hp), Same H H' → RuleAt H' r b bl zs → GoodRule b (zs.map (·.2)) → wr b (zs.map (·.2)) = z → Q (.ref r) H'
theorem sc_read_rule : FnScope ["text", "words", "rule"] ["text"] (defScope s_read_rule) := ⟨rfl, rfl, rfl, by decide +kernel, rfl, by decide +kernel, by decide +kernel⟩
set_option maxHeartbeats 2000000 in
theorem ok_read_rule {CNoBase CNoText : Addr} {f f1 f2 f3 : Addr} {fd fd1 fd2 fd3 : FuncData} {t1 : Tok} (D : Df K mg "read_rule" s_read_rule ["text"] f fd) (Dread_number : Df K mg "read_number" s_read_number ["base", "text"] f1 fd1) (Gread_number : FnOk P w K mg base (CX1 P w) 6 f1 fd1 ["base", "text"] (sp_read_number CNoBase CNoText)) (Dfigures_in : Df K mg "figures_in" s_figures_in ["thing"] f2 fd2) (Gfigures_in : FnOk P w K mg base CX0 1 f2 fd2 ["thing"] sp_figures_in) (Dis_rule : Df K mg "is_rule" s_is_rule ["thing"] f3 fd3) (Gis_rule : FnOk P w K mg base CX0 6 f3 fd3 ["thing"] sp_is_rule) (x_NoText : ExcC K mg "NoText" CNoText) (c_TEN : mg "TEN" = some (.int 10 t1)) (T : Blt mg) (U : Blt2 mg) : FnOk P w K mg base (CX1 P w) 7 f fd ["text"] (sp_read_rule CNoText) := by
  refine D.fn.ok1 sc_read_rule (fun vs H Q E h => ?_) (fun cdv A outer s H vs Q E hr h => ?_)
  · obtain ⟨u, e, rfl, _⟩ := h; rfl
  · obtain ⟨u, e, rfl, he, ht, kT, kk⟩ := h
    refine ⟨_, (pss_cons (ps_if (pt_not (pt_val (pe_callB (k_isi K) (by rfl) T.n_isinstance boot_isinstance (pa_cons (pv 0) (pa_cons (pe_bltn (v := .ty "str") rfl U.n_str boot_str rfl) pa_nil)))))
        (pss_one (ps_raise x_NoText pass_new rfl (pa_cons pe_str pa_nil)))
        pss_nil)
      (pss_cons (ps_set (i := 1) sc_read_rule.nd rfl (Or.inl rfl) (k_bm K PySem.F.plainAttrs_str PySem.F.slot_str_split PySem.F.type_str_split mt_split (pv 0) (pa_cons pe_str pa_nil)))
      (pss_cons (ps_set (i := 2) sc_read_rule.nd rfl (Or.inl rfl) (pe_tup (pa_cons (pcallX Dread_number Gread_number (hr.mono (by decide)) pass_call (pa_cons (pe_glob (v := .int 10) rfl c_TEN ⟨_, rfl⟩) (pa_cons (pe_ix (k_ixL K) (pv 1) pe_int (fun _ _ => rfl)) pa_nil))) (pa_cons (pe_comp (show CScope (defScope s_read_rule) _ "word" ["text", "words", "rule"] [] [] from ⟨rfl, by decide +kernel, by decide +kernel, rfl, by decide +kernel, rfl, by decide +kernel, by decide +kernel⟩) rfl (k_pi K (pe_slice (k_slL K) (pv 1) (po_some pe_int) po_none)) (fun _ _ _ _ => pts_nil) (fun _ _ _ _ => (pcall Dfigures_in Gfigures_in (hr.mono (by decide)) (pa_cons (pv 0) pa_nil)))) pa_nil))))
      (pss_cons (ps_if (pt_not (pt_val (pcall Dis_rule Gis_rule (hr.mono (by decide)) (pa_cons (pv 2) pa_nil))))
        (pss_one (ps_raise x_NoText pass_new rfl (pa_cons pe_str pa_nil)))
        pss_nil)
      (pss_one (ps_ret (pv 2))))))), ?_⟩
    refine ⟨_, rfl, _, _, _, _, rfl, he.ty, kit_str e, _, rfl, ?_⟩
    cases hs : isT "str" e with
    | false => exact iteT ⟨by show 1 ≤ sizeLine; decide, kT (by cases e <;> first | rfl | cases hs) H (Same.refl _)⟩
    | true =>
      obtain ⟨z, rfl⟩ := isT_str hs
      rw [ThAt] at he
      subst he
      obtain ⟨ha, hl⟩ := ht z rfl
      refine iteF ?_
      refine ⟨_, rfl, rfl, z, " ", rfl, rfl, by decide +kernel, Nat.le_trans (Nat.add_le_add_right hl 2) (by decide), fun p hp => ?_⟩
      have hasc := wrds_asc ha
      have hsh := wrds_short z
      have hmn := wrds_many z
      obtain ⟨w0, ws, hw⟩ : ∃ w0 ws, wrds z = w0 :: ws := by
        cases e : wrds z with
        | nil => exact absurd e (wrds_ne z)
        | cons a b => exact ⟨a, b, rfl⟩
      have eR := wR_str hw
      have jw := join_wrds z
      rw [hw] at hasc hsh hmn jw
      rw [List.length_cons] at hmn
      rw [show Txt.split z " " = w0 :: ws from hw]
      have s1 := same_upd hp (o := .lst ((w0 :: ws).map V.str))
      have hp1 : upd H p (.lst ((w0 :: ws).map V.str)) p = some (.lst ((w0 :: ws).map V.str)) := upd_same
      generalize upd H p (.lst ((w0 :: ws).map V.str)) = H1 at s1 hp1
      refine ⟨_, rfl, p, _, _, V.str w0, rfl, rfl, SqL.of hp1, atI_zero _ _, .int 10, .str w0, .int 10, .str w0, rfl, by rw [ThAt], by rw [ThAt], fun y hy => ?_, (fun z => by cases z), (fun b hb b2 b16 hn H2 s2 => ?_), (fun b i hb b2 b16 hn H2 s2 => ?_)⟩
      · injection hy with hy
        subst hy
        exact ⟨hasc _ List.mem_cons_self, Nat.le_trans (hsh _ List.mem_cons_self) hl⟩
      · obtain rfl : b = 10 := by injection hb with hb; omega
        rw [hn] at eR
        exact kT eR H2 (s1.trans s2)
      obtain rfl : b = 10 := by injection hb with hb; omega
      rw [hn] at eR
      refine ⟨_, rfl, _, rfl, p, _, rfl, SqL.of (s2 _ _ hp1), fun q hq => ?_⟩
      rw [List.map_cons, cutV_one]
      have s3 := same_upd hq (o := .lst (ws.map V.str))
      have hq3 : upd H2 q (.lst (ws.map V.str)) q = some (.lst (ws.map V.str)) := upd_same
      generalize upd H2 q (.lst (ws.map V.str)) = H3 at s3 hq3
      refine ⟨q, rfl, ⟨_, SqL.of hq3⟩, comp_list (K := K) (a := q) (xs := ws.map V.str) (fun i ys H4 => Same H3 H4 ∧ ThsAt H4 ((ws.take i).map wD) ys ∧ ys.length = i) ⟨Same.refl _, by rw [List.take_zero, List.map_nil, ThsAt], rfl⟩ (fun i ys H4 _ ⟨e, _⟩ => SqL.of (e _ _ hq3)) ?_ ?_⟩
      · rintro j x ys H4 hx ⟨s4, hy, hyl⟩
        rw [List.getElem?_map] at hx
        obtain ⟨w1, hwj, e⟩ := Option.map_eq_some_iff.mp hx
        subst e
        have hwm := List.mem_of_getElem? hwj
        have hj : j < ws.length := (List.getElem?_eq_some_iff.mp hwj).1
        refine ⟨by rw [hyl]; exact Nat.lt_of_lt_of_le (show j < 2000 by omega) (by decide), ?_⟩
        unfold tYes
        dsimp only
        rw [if_pos rfl]
        have put : ∀ {v : V} {H5 : Hp}, Same H4 H5 → ThAt H5 (wD w1) v → Same H3 H5 ∧ ThsAt H5 ((ws.take (j + 1)).map wD) (ys ++ [v]) ∧ (ys ++ [v]).length = j + 1 := fun {v H5} s5 h5 => ⟨s4.trans s5, by
          rw [List.take_succ, hwj, List.map_append]
          exact (hy.same s5).app (by show ThsAt H5 [wD w1] [v]; rw [ThsAt]; exact ⟨_, _, rfl, h5, by rw [ThsAt]⟩), by rw [List.length_append, hyl]; rfl⟩
        refine ⟨_, rfl, .str w1, .str w1, rfl, by rw [ThAt], fun y hy => ?_, fun hf H5 s5 => put s5 ?_, fun hf l H5 hl5 s5 hv => put s5 ?_⟩
        · injection hy with hy
          subst hy
          exact ⟨hasc _ (List.mem_cons_of_mem _ hwm), Nat.le_trans (hsh _ (List.mem_cons_of_mem _ hwm)) hl⟩
        · have hf : isF w1 = false := hf
          unfold wD
          rw [if_neg (by rw [hf]; decide), ThAt]
        · have hf : isF w1 = true := hf
          unfold wD
          rw [if_pos hf]
          exact th_ints hv
      rintro ys H4 ⟨s4, hy, hyl⟩ bl hbl
      rw [List.length_map, List.take_length] at hy
      refine ⟨(by show 2 ≤ sizeLine; decide), fun r hr' => ?_⟩
      have s5 := same_upd hbl (o := .lst ys)
      have s6 := same_upd hr' (o := .tup [.int i, .ref bl])
      have s16 := (s1.trans (s2.trans s3)).trans (s4.trans (s5.trans s6))
      have th : ThAt (upd (upd H4 bl (.lst ys)) r (.tup [.int i, .ref bl])) (.tuple [.int i, .list (ws.map wD)]) (.ref r) := by
        rw [ThAt]
        refine ⟨r, _, rfl, upd_same, ?_⟩
        rw [ThsAt]
        refine ⟨_, _, rfl, by rw [ThAt], ?_⟩
        rw [ThsAt]
        refine ⟨_, _, rfl, ?_, by rw [ThsAt]⟩
        rw [ThAt]
        exact ⟨bl, _, rfl, s6 _ _ upd_same, hy.same (s5.trans s6)⟩
      generalize upd (upd H4 bl (.lst ys)) r (.tup [.int i, .ref bl]) = H6 at s6 s16 th
      have sz : sizT (.tuple [.int i, .list (ws.map wD)]) ≤ 100000 := by
        have := siz_wDs ws (n := 1000) fun w hw => Nat.le_trans (hsh _ (List.mem_cons_of_mem _ hw)) hl
        simp only [sizT, sizTs, List.length_map, List.length_cons, List.length_nil]
        omega
      refine ⟨_, rfl, .ref r, _, rfl, th, sz, fun H7 s7 => ⟨_, rfl, ?_⟩⟩
      have eR : wR (.str z) = ruleT (.tuple [.int i, .list (ws.map wD)]) := eR
      cases hR : ruleT (.tuple [.int i, .list (ws.map wD)]) with
      | false => exact iteT ⟨by show 1 ≤ sizeLine; decide, kT (eR.trans hR) H7 (s16.trans s7)⟩
      | true =>
        obtain ⟨r', b, bl', zs, er, R, g⟩ := th_rule (th.same s7) hR
        obtain rfl : r = r' := by injection er
        refine iteF ⟨_, rfl, kk z rfl (eR.trans hR) r b bl' zs H7 (s16.trans s7) R g ?_⟩
        have e1 := (th.same s7).uniq R.th
        injection e1 with e1
        injection e1 with e2 e3
        injection e3 with e3 _
        injection e2 with e2
        injection e3 with e3
        obtain ⟨n, e4, e5⟩ := rdN_is (by decide) (by decide) hn
        obtain rfl : b = n := by omega
        unfold wr wds
        rw [← e5, ← wD_txt e3]
        exact jw
end
end Lw
set_option Elab.async false
set_option linter.all false
set_option maxRecDepth 100000
namespace Lw
open PySem L2 PyProof.Rows
theorem q_nat {Q : VK} {H : Hp} {e B : Int} (h0 : 0 ≤ e) (h1 : e < B) (k : ∀ m : Nat, (m : Int) < B → Q (.int m) H) : Q (.int e) H := by
  have := k e.toNat (by omega)
  rwa [Int.toNat_of_nonneg h0] at this
section
variable {P : Program} {w : World} {K : PySem.W.Frag} {mg : Str → Option Value} {base : Heap}
def sp__law_cell (K : PySem.W.Frag) : Sp := fun vs H Q _ => ∃ (a : Addr) (ns : List Int) (k : Nat), vs = [.ref a, .int k] ∧ SqL K H a (ns.map V.int) ∧ ns.length ≤ 63 ∧ k ≤ 1000 ∧ ∀ c : Int, Q (.int c) H
theorem sc__law_cell : FnScope ["script", "k"] ["script", "k"] (defScope s__law_cell) := ⟨rfl, rfl, rfl, by decide +kernel, rfl, by decide +kernel, by decide +kernel⟩
theorem ok__law_cell {f : Addr} {fd : FuncData} (D : Df K mg "_law_cell" s__law_cell ["script", "k"] f fd) (T : Blt mg) : FnOk P w K mg base CX0 1 f fd ["script", "k"] (sp__law_cell K) := by
  refine D.fn.ok sc__law_cell (fun vs H Q E h => ?_) (fun cdv A outer s H vs Q E hr h => ?_)
  · obtain ⟨a, ns, k, rfl, _⟩ := h; rfl
  · obtain ⟨a, ns, k, rfl, hS, hlen, hk, kk⟩ := h
    refine ⟨_, (pss_cons (ps_if (pt_cmpR op_lt (pv 1) (pe_callB (k_len K) (by rfl) T.n_len PySem.boot_len (pa_cons (pv 0) pa_nil)) (nomark _))
        (pss_one (ps_ret (pe_ix (k_ixL K) (pv 0) (pv 1) (fun _ _ => rfl))))
        pss_nil)
      (pss_one (ps_ret (pe_op op_add (pe_op op_add (pe_op op_mul (pe_op op_mul pe_int (pv 1)) (pv 1)) (pe_op op_mul pe_int (pv 1))) pe_int)))), ?_⟩
    refine ⟨_, rfl, _, rfl, a, _, rfl, .inl hS, _, _, rfl, rfl, _, rfl, ?_⟩
    refine ite2 (fun hlt => ?_) (fun _ => ?_)
    · have hlt' : k < ns.length := by
        have := of_decide_eq_true hlt
        rw [List.length_map] at this
        omega
      refine ⟨_, rfl, _, rfl, a, _, _, .int (ns[k]), rfl, rfl, hS, ?_, kk _⟩
      exact atI_nat (by rw [List.getElem?_map, List.getElem?_eq_getElem hlt']; rfl)
    · refine ⟨_, rfl, _, _, rfl, rfl, .inl ⟨by decide, by decide⟩, _, rfl, _, _, rfl, rfl, .inr ⟨by omega, by omega⟩, _, rfl, _, _, rfl, rfl, .inl ⟨by decide, by decide⟩, _, _, rfl, rfl, _, _, rfl, rfl, kk _⟩
def sp__law_mixed : Sp := fun vs H Q _ => ∃ (c k : Nat), vs = [.int c, .int k] ∧ k ≤ 1000 ∧ ∀ (m : Nat) (H' : Hp), (m : Int) < 2 ^ 50 → Same H H' → Q (.int m) H'
theorem sc__law_mixed : FnScope ["cell", "k", "number", "some"] ["cell", "k"] (defScope s__law_mixed) := ⟨rfl, rfl, rfl, by decide +kernel, rfl, by decide +kernel, by decide +kernel⟩
theorem ok__law_mixed {f : Addr} {fd : FuncData} (D : Df K mg "_law_mixed" s__law_mixed ["cell", "k"] f fd) : FnOk P w K mg base CX0 1 f fd ["cell", "k"] sp__law_mixed := by
  refine D.fn.ok sc__law_mixed (fun vs H Q E h => ?_) (fun cdv A outer s H vs Q E hr h => ?_)
  · obtain ⟨c, k, rfl, _⟩ := h; rfl
  · obtain ⟨c, k, rfl, hk, kk⟩ := h
    refine ⟨_, (pss_cons (ps_set (i := 2) sc__law_mixed.nd rfl (Or.inl rfl) (pe_op op_mod (pe_op op_add (pe_op op_add (pe_op op_add (pe_op op_mul (pv 0) pe_int) (pe_op op_mul (pe_op op_mul pe_int (pv 1)) (pv 1))) (pe_op op_mul pe_int (pv 1))) pe_int) pe_int))
      (pss_cons (ps_set (i := 3) sc__law_mixed.nd rfl (Or.inl rfl) (pe_lst (pa_cons pe_int (pa_cons pe_int (pa_cons pe_int (pa_cons pe_int (pa_cons pe_int (pa_cons pe_int (pa_cons pe_int pa_nil)))))))))
      (pss_cons (ps_set (i := 2) sc__law_mixed.nd rfl (Or.inl rfl) (pe_op op_mod (pe_op op_mul (pv 2) (pv 2)) (pe_ix (k_ixL K) (pv 3) (pe_op op_mod (pv 1) pe_int) (fun _ _ => rfl))))
      (pss_one (ps_ret (pe_op op_fdivB (pe_op op_add (pe_op op_mul (pv 2) pe_int) (pe_op op_mod (pv 0) pe_int)) pe_int)))))), ?_⟩
    refine ⟨_, rfl, _, _, rfl, rfl, .inr ⟨by decide, by decide⟩, _, rfl, _, _, rfl, rfl, .inl ⟨by decide, by decide⟩, _, rfl, _, _, rfl, rfl, .inr ⟨by omega, by omega⟩, _, _, rfl, rfl, _, rfl, _, _, rfl, rfl, .inl ⟨by decide, by decide⟩, _, _, rfl, rfl, _, _, rfl, rfl, _, _, rfl, rfl, (by decide : (0 : Int) < 2147483647), ?_⟩
    dsimp only
    have n0 := Int.emod_nonneg ((c : Int) * 48271 + 7919 * (k : Int) * (k : Int) + 104729 * (k : Int) + 11) (by decide : (2147483647 : Int) ≠ 0)
    have n1 := Int.emod_lt_of_pos ((c : Int) * 48271 + 7919 * (k : Int) * (k : Int) + 104729 * (k : Int) + 11) (by decide : (0 : Int) < 2147483647)
    generalize ((c : Int) * 48271 + 7919 * (k : Int) * (k : Int) + 104729 * (k : Int) + 11) % 2147483647 = N at n0 n1 ⊢
    refine ⟨(by show 7 ≤ sizeLine; decide), fun l hl => ?_⟩
    obtain ⟨v, hv, hv0, hv1⟩ : ∃ v : Int, atI [V.int 2147483629, V.int 2147483587, V.int 2147483579, V.int 2147483563, V.int 2147483549, V.int 2147483543, V.int 2147483497] ((k : Int) % 7) = some (.int v) ∧ 0 < v ∧ v < 2147483648 := by
      have h7 : k % 7 < 7 := Nat.mod_lt _ (by decide)
      rw [show (k : Int) % 7 = ((k % 7 : Nat) : Int) by omega]
      match k % 7, h7 with
      | 0, _ => exact ⟨_, rfl, by decide, by decide⟩
      | 1, _ => exact ⟨_, rfl, by decide, by decide⟩
      | 2, _ => exact ⟨_, rfl, by decide, by decide⟩
      | 3, _ => exact ⟨_, rfl, by decide, by decide⟩
      | 4, _ => exact ⟨_, rfl, by decide, by decide⟩
      | 5, _ => exact ⟨_, rfl, by decide, by decide⟩
      | 6, _ => exact ⟨_, rfl, by decide, by decide⟩
    refine ⟨_, rfl, _, rfl, _, _, rfl, rfl, .inl ⟨by omega, by omega⟩, _, rfl, _, rfl, _, _, rfl, rfl, (by decide : (0 : Int) < 7), l, _, _, V.int v, rfl, rfl, SqL.of upd_same, hv, _, _, rfl, rfl, hv0, ?_⟩
    dsimp only
    have x0 := Int.emod_nonneg (N * N) (show v ≠ 0 by omega)
    have x1 := Int.emod_lt_of_pos (N * N) hv0
    generalize N * N % v = X at x0 x1 ⊢
    refine ⟨_, rfl, _, _, rfl, rfl, .inl ⟨by omega, by omega⟩, _, rfl, _, _, rfl, rfl, (by decide : (0 : Int) < 5), _, _, rfl, rfl, _, _, rfl, rfl, ⟨by decide, by decide⟩, ?_⟩
    dsimp only
    exact q_nat (B := 2 ^ 50) (by omega) (by omega) fun m hm => kk m _ hm (same_upd hl)
def sp__law_figures : Sp := fun vs H Q _ => ∃ b n : Nat, vs = [.int b, .int n] ∧ 2 ≤ b ∧ b ≤ 16 ∧ n < 2 ^ 100 ∧
  ∀ l H', H l = none → H' l = some (.lst ((figs b n).map V.int)) → Same H H' → Q (.ref l) H'
theorem sc__law_figures : FnScope ["base", "n", "found"] ["base", "n"] (defScope s__law_figures) := ⟨rfl, rfl, rfl, by decide +kernel, rfl, by decide +kernel, by decide +kernel⟩
theorem ok__law_figures {f : Addr} {fd : FuncData} (D : Df K mg "_law_figures" s__law_figures ["base", "n"] f fd) : FnOk P w K mg base CX0 1 f fd ["base", "n"] sp__law_figures := by
  refine D.fn.ok sc__law_figures (fun vs H Q E h => ?_) (fun cdv A outer s H vs Q E hr h => ?_)
  · obtain ⟨b, n, rfl, _⟩ := h; rfl
  · obtain ⟨b, n, rfl, b2, b16, hn, kk⟩ := h
    have hlen := figs_len b2 100 n hn
    refine ⟨_, (pss_cons (ps_set (i := 2) sc__law_figures.nd rfl (Or.inl rfl) (pe_lst (pa_cons (pe_op op_mod (pv 1) (pv 0)) pa_nil)))
      (pss_cons (ps_while PassesOwn.never (pt_cmpR op_ge (pv 1) (pv 0) (nomark _))
        (pss_cons (ps_set (i := 1) sc__law_figures.nd rfl (Or.inl rfl) (pe_op op_fdivB (pv 1) (pv 0)))
        (pss_one (ps_set (i := 2) sc__law_figures.nd rfl (Or.inl rfl) (pe_op op_cat (pe_lst (pa_cons (pe_op op_mod (pv 1) (pv 0)) pa_nil)) (pv 2))))))
      (pss_one (ps_ret (pv 2))))), ?_⟩
    refine ⟨_, rfl, _, rfl, _, _, rfl, rfl, by omega, (by show 1 ≤ sizeLine; decide), fun l0 hl0 => ?_⟩
    refine while_by (fun σ H2 => ∃ (m : Nat) (l : Addr) (fs : List Int), σ = [some (.int b), some (.int m), some (.ref l)] ∧ figs b n = ahead b (m / b) ++ fs ∧ H l = none ∧ H2 l = some (.lst (fs.map V.int)) ∧ Same H H2)
      (fun σ _ => match σ with | [_, some (.int m), _] => m.toNat | _ => 0) ⟨n, l0, [((n % b : Nat) : Int)], rfl, figs_step b2, hl0, by rw [upd_same]; simp, same_upd hl0⟩ ?_ ?_
    · rintro σ H2 ⟨m, l, fs, rfl, he, hl, hv, sm⟩
      refine ⟨_, rfl, _, rfl, _, _, rfl, rfl, _, rfl, ?_⟩
      refine ite2 (fun hc => ?_) (fun hc => ?_)
      · have hc' : b ≤ m := by have := of_decide_eq_true hc; omega
        have hm1 : m / b < m := Nat.div_lt_self (by omega) (by omega)
        have hm0 : m / b ≠ 0 := fun z => by
          have := (Nat.div_eq_zero_iff (a := m) (b := b)).mp z
          omega
        refine ⟨_, rfl, _, rfl, _, _, rfl, rfl, ⟨by omega, by omega⟩, _, rfl, _, rfl, _, _, rfl, rfl, by omega, (by show 1 ≤ sizeLine; decide), fun l1 hl1 => ?_⟩
        have s1 := same_upd hl1 (o := .lst [V.int ((m : Int) / (b : Int) % (b : Int))])
        have hfl : fs.length ≤ 101 := by have := congrArg List.length he; rw [List.length_append] at this; omega
        refine ⟨_, rfl, l1, l, _, _, rfl, rfl, upd_same, s1 _ _ hv, by rw [List.length_map]; exact Nat.le_trans (show 1 + fs.length ≤ 102 by omega) (by decide), fun l2 hl2 => ⟨⟨m / b, l2, ((m / b % b : Nat) : Int) :: fs, ?_, ?_, sm.free (s1.free hl2), ?_, sm.trans (s1.trans (same_upd hl2))⟩, ?_⟩⟩
        · rw [Int.natCast_ediv]; rfl
        · rw [he, ahead, if_neg hm0, figs_step b2, List.append_assoc]; rfl
        · rw [upd_same, List.map_cons, Int.natCast_emod, Int.natCast_ediv]; rfl
        · show ((m : Int) / (b : Int)).toNat < (m : Int).toNat
          rw [show (m : Int) / (b : Int) = ((m / b : Nat) : Int) from (Int.natCast_ediv m b).symm]
          omega
      · have hc' : m < b := by
          by_cases z : m < b
          · exact z
          · exact absurd (decide_eq_true (by omega : (b : Int) ≤ (m : Int))) hc
        rw [Nat.div_eq_of_lt hc', ahead, if_pos rfl, List.nil_append] at he
        refine ⟨_, rfl, kk l H2 hl (by rw [he]; exact hv) sm⟩
    · intro σ H2 Q Q' hq
      rintro ⟨v0, e0, v1, e1, i, j, h1, h2, c, e3, q⟩
      exact ⟨v0, e0, v1, e1, i, j, h1, h2, c, e3, hq _ _ q⟩
def sp__law_text : Sp := fun vs H Q _ => ∃ (a : Addr) (fs : List Int), vs = [.ref a] ∧ H a = some (.lst (fs.map V.int)) ∧ OkF fs ∧ fs.length ≤ 1000 ∧ ∀ H', Same H H' → Q (.str (txt fs)) H'
theorem sc__law_text : FnScope ["figures"] ["figures"] (defScope s__law_text) := ⟨rfl, rfl, rfl, by decide +kernel, rfl, by decide +kernel, by decide +kernel⟩
theorem ok__law_text {f : Addr} {fd : FuncData} (D : Df K mg "_law_text" s__law_text ["figures"] f fd) : FnOk P w K mg base CX0 1 f fd ["figures"] sp__law_text := by
  refine D.fn.ok sc__law_text (fun vs H Q E h => ?_) (fun cdv A outer s H vs Q E hr h => ?_)
  · obtain ⟨a, fs, rfl, _⟩ := h; rfl
  · obtain ⟨a, fs, rfl, ha, hf, hl, kk⟩ := h
    refine ⟨_, (pss_one (ps_ret (k_bm K PySem.F.plainAttrs_str PySem.F.slot_str_join PySem.F.type_str_join (k_join K) pe_str (pa_cons (pe_comp (show CScope (defScope s__law_text) _ "one" ["figures"] [] [] from ⟨rfl, by decide +kernel, by decide +kernel, rfl, by decide +kernel, rfl, by decide +kernel, by decide +kernel⟩) rfl (k_pi K (pv 0)) (fun _ _ _ _ => pts_nil) (fun _ _ _ _ => (pe_ix ix_str pe_str (pv 0) (fun _ _ => rfl)))) pa_nil)))), ?_⟩
    refine ⟨rfl, _, rfl, a, rfl, ⟨_, SqL.of ha⟩, comp_list (K := K) (a := a) (xs := fs.map V.int) (fun i ys H4 => H4 = H ∧ ys = ((fs.take i).map fun f => (⟨#[cd f.toNat]⟩ : Str)).map V.str) ⟨rfl, rfl⟩ (fun i ys H4 _ ⟨e, _⟩ => by rw [e]; exact SqL.of ha) ?_ ?_⟩
    · rintro j x ys H4 hx ⟨rfl, rfl⟩
      rw [List.getElem?_map] at hx
      obtain ⟨z, hz, e⟩ := Option.map_eq_some_iff.mp hx
      subst e
      have hz16 := hf z (List.mem_of_getElem? hz)
      refine ⟨by rw [List.length_map, List.length_map]; exact Nat.lt_of_le_of_lt (Nat.le_trans (List.length_take_le' _ _) hl) (by decide), ?_⟩
      unfold tYes
      dsimp only
      rw [if_pos rfl]
      refine ⟨_, rfl, SIG, z, cd z.toNat, rfl, rfl, by decide +kernel, ?_, rfl, ?_⟩
      · rw [show z = ((z.toNat : Nat) : Int) by omega]
        exact atI_nat (signs_at (by omega))
      · rw [List.take_succ, hz]; simp
    · rintro ys H4 ⟨rfl, rfl⟩ Dd hD
      rw [List.length_map, List.take_length]
      refine ⟨_, Dd, _, rfl, rfl, SqL.of upd_same, join_ok 1 (fun x hx => ?_) ?_, ?_⟩
      · obtain ⟨f, _, rfl⟩ := List.mem_map.mp hx
        exact Nat.le_refl 1
      · rw [List.length_map, show (Str.length "") = 0 from by decide +kernel]; omega
      · rw [join_txt]
        exact kk _ (same_upd hD)
def sp__law_number : Sp := fun vs H Q _ => ∃ (c k : Nat), vs = [.int c, .int k] ∧ k ≤ 900 ∧ ∀ (n : Nat) (H' : Hp), n < 2 ^ 100 → Same H H' → Q (.int n) H'
theorem sc__law_number : FnScope ["cell", "k", "one"] ["cell", "k"] (defScope s__law_number) := ⟨rfl, rfl, rfl, by decide +kernel, rfl, by decide +kernel, by decide +kernel⟩
theorem ok__law_number {f f1 : Addr} {fd fd1 : FuncData} (D : Df K mg "_law_number" s__law_number ["cell", "k"] f fd) (D_law_mixed : Df K mg "_law_mixed" s__law_mixed ["cell", "k"] f1 fd1) : FnOk P w K mg base CX0 2 f fd ["cell", "k"] sp__law_number := by
  have G_law_mixed : FnOk P w K mg base CX0 1 f1 fd1 ["cell", "k"] sp__law_mixed := ok__law_mixed D_law_mixed
  refine D.fn.ok sc__law_number (fun vs H Q E h => ?_) (fun cdv A outer s H vs Q E hr h => ?_)
  · obtain ⟨c, k, rfl, _⟩ := h; rfl
  · obtain ⟨c, k, rfl, hk, kk⟩ := h
    refine ⟨_, (pss_cons (ps_set (i := 2) sc__law_number.nd rfl (Or.inl rfl) (pe_op op_mul (pcall D_law_mixed G_law_mixed (hr.mono (by decide)) (pa_cons (pv 0) (pa_cons (pv 1) pa_nil))) (pe_op op_add (pe_op op_mul pe_int (pe_op op_pow pe_int pe_int)) pe_int)))
      (pss_one (ps_ret (pe_op op_mod (pv 2) (pe_ix (k_ixL K) (pe_lst (pa_cons pe_int (pa_cons pe_int (pa_cons (pe_op op_pow pe_int pe_int) (pa_cons (pe_op op_pow pe_int pe_int) pa_nil))))) (pe_op op_mod (pcall D_law_mixed G_law_mixed (hr.mono (by decide)) (pa_cons (pv 0) (pa_cons (pe_op op_add (pv 1) pe_int) pa_nil))) pe_int) (fun _ _ => rfl)))))), ?_⟩
    refine ⟨_, rfl, _, rfl, c, k, rfl, by omega, fun m H1 hm s1 => ?_⟩
    refine ⟨_, _, rfl, rfl, ⟨by decide, by decide, by decide⟩, _, _, rfl, rfl, .inl ⟨by decide, by decide⟩, _, _, rfl, rfl, _, _, rfl, rfl, .inl ⟨by omega, by omega⟩, ?_⟩
    refine ⟨_, rfl, _, _, rfl, rfl, ⟨by decide, by decide, by decide⟩, _, _, rfl, rfl, ⟨by decide, by decide, by decide⟩, (by show 4 ≤ sizeLine; decide), fun l hl => ?_⟩
    refine ⟨_, rfl, _, rfl, _, _, rfl, rfl, c, k + 1, rfl, by omega, fun m2 H3 hm2 s3 => ?_⟩
    obtain ⟨v, hv, hv0, hv1⟩ : ∃ v : Int, atI [V.int 30, V.int 1000, V.int ((10 : Int) ^ (12 : Int).toNat), V.int ((10 : Int) ^ (26 : Int).toNat)] ((m2 : Int) % 4) = some (.int v) ∧ 0 < v ∧ v < 2 ^ 100 := by
      have h4 : m2 % 4 < 4 := Nat.mod_lt _ (by decide)
      rw [show (m2 : Int) % 4 = ((m2 % 4 : Nat) : Int) by omega]
      match m2 % 4, h4 with
      | 0, _ => exact ⟨_, rfl, by decide, by decide⟩
      | 1, _ => exact ⟨_, rfl, by decide, by decide⟩
      | 2, _ => exact ⟨_, rfl, by decide, by decide⟩
      | 3, _ => exact ⟨_, rfl, by decide, by decide⟩
    refine ⟨_, _, rfl, rfl, (by decide : (0 : Int) < 4), l, _, _, V.int v, rfl, rfl, SqL.of (s3 _ _ upd_same), hv, _, _, rfl, rfl, hv0, ?_⟩
    dsimp only
    generalize (m : Int) * (46337 * 10 ^ (9 : Int).toNat + 461) = Y
    have y0 := Int.emod_nonneg Y (show v ≠ 0 by omega)
    have y1 := Int.emod_lt_of_pos Y hv0
    exact q_nat (B := 2 ^ 100) y0 (by omega) fun n hn => kk n _ (by omega) (s1.trans ((same_upd hl).trans s3))
end
section
variable {P : Program} {w : World} {K : PySem.W.Frag} {mg : Str → Option Value} {base : Heap}
theorem aw1_out {l : Addr} {H : Hp} {o : HO} : Same (aw [l] H) (aw [l] (upd H l o)) := fun c u e => by
  by_cases hc : c ∈ [l]
  · rw [aw_in hc] at e; cases e
  · rw [aw_out hc] at e ⊢
    rw [upd_ne (fun z => hc (by rw [z]; simp))]; exact e
def sp__law_rule : Sp := fun vs H Q _ => ∃ c : Nat, vs = [.int c] ∧ ∀ (r : Addr) (b : Nat) (bl : Addr) (zs : List (Addr × List Int)) (H' : Hp), Same H H' → RuleAt H' r b bl zs → GoodRule b (zs.map (·.2)) → Q (.ref r) H'
theorem sc__law_rule : FnScope ["cell", "base", "bad", "k", "wide", "long", "one"] ["cell"] (defScope s__law_rule) := ⟨rfl, rfl, rfl, by decide +kernel, rfl, by decide +kernel, by decide +kernel⟩
set_option maxHeartbeats 4000000 in
theorem ok__law_rule {f f1 : Addr} {fd fd1 : FuncData} (D : Df K mg "_law_rule" s__law_rule ["cell"] f fd) (D_law_mixed : Df K mg "_law_mixed" s__law_mixed ["cell", "k"] f1 fd1) (T : Blt mg) : FnOk P w K mg base CX0 2 f fd ["cell"] sp__law_rule := by
  have G_law_mixed : FnOk P w K mg base CX0 1 f1 fd1 ["cell", "k"] sp__law_mixed := ok__law_mixed D_law_mixed
  refine D.fn.ok sc__law_rule (fun vs H Q E h => ?_) (fun cdv A outer s H vs Q E hr h => ?_)
  · obtain ⟨c, rfl, _⟩ := h; rfl
  · obtain ⟨c, rfl, kk⟩ := h
    have HU := HUof hr
    refine ⟨_, (pss_cons (ps_set (i := 1) sc__law_rule.nd rfl (Or.inl rfl) (pe_op op_add pe_int (pe_op op_mod (pv 0) pe_int)))
      (pss_cons (ps_set (i := 2) sc__law_rule.nd rfl (Or.inl rfl) (pe_lst pa_nil))
      (pss_cons (ps_for PassesOwn.never rfl (pi_range1 rfl T.n_range (pa_cons (pe_op op_mod (pe_op op_fdivB (pv 0) pe_int) pe_int) pa_nil)) (pg_name (i := 3) sc__law_rule.nd rfl (Or.inr rfl))
        (pss_cons (ps_set (i := 4) sc__law_rule.nd rfl (Or.inr rfl) (pe_ix (k_ixL K) (pe_lst (pa_cons (pv 1) (pa_cons (pe_callB (call_min2 rfl) (by rfl) T.n_min boot_min (pa_cons (pv 1) (pa_cons pe_int pa_nil))) (pa_cons pe_int pa_nil)))) (pe_op op_mod (pcall D_law_mixed G_law_mixed (hr.mono (by decide)) (pa_cons (pv 0) (pa_cons (pv 3) pa_nil))) pe_int) (fun _ _ => rfl)))
        (pss_cons (ps_set (i := 5) sc__law_rule.nd rfl (Or.inl rfl) (pe_op op_add pe_int (pe_op op_mod (pcall D_law_mixed G_law_mixed (hr.mono (by decide)) (pa_cons (pv 0) (pa_cons (pe_op op_add pe_int (pv 3)) pa_nil))) pe_int)))
        (pss_cons (ps_setComp (i := 6) (show CScope (defScope s__law_rule) _ "j" ["cell", "base", "bad", "k", "wide", "long", "one"] ["wide", "cell", "k"] [4, 0, 3] from ⟨rfl, by decide +kernel, by decide +kernel, rfl, by decide +kernel, rfl, by decide +kernel, by decide +kernel⟩) rfl sc__law_rule.nd rfl (Or.inl rfl) (pi_range1 rfl T.n_range (pa_cons (pv 5) pa_nil)) (fun _ _ _ _ => pts_nil) (fun _ _ _ _ => (pe_op op_mod (pcall D_law_mixed G_law_mixed (hr.mono (by decide)) (pa_cons (pv 2) (pa_cons (pe_op op_add (pe_op op_add pe_int (pe_op op_mul pe_int (pv 3))) (pv 0)) pa_nil))) (pv 1))))
        (pss_one (ps_if (pt_cmpR (k_notInT K HU) (pv 6) (pv 2) (by with_unfolding_all rfl))
          (pss_one (ps_expr (pe_bm PySem.F.plainAttrs_list PySem.F.slot_list_append PySem.F.type_list_append mt_append (pv 2) (pa_cons (pv 6) pa_nil))))
          pss_nil))))))
      (pss_one (ps_ret (pe_tup (pa_cons (pv 1) (pa_cons (pe_callB (k_sortL K HU) (by rfl) T.n_sorted boot_sorted (pa_cons (pv 2) pa_nil)) pa_nil)))))))), ?_⟩
    refine ⟨_, rfl, _, _, rfl, rfl, (by decide : (0 : Int) < 15), _, _, rfl, rfl, ?_⟩
    obtain ⟨b, hb, b2, b16⟩ : ∃ b : Nat, b = 2 + c % 15 ∧ 2 ≤ b ∧ b ≤ 16 := ⟨2 + c % 15, rfl, by omega, by omega⟩
    refine ⟨(by decide : 0 ≤ sizeLine), fun bl hbl => ?_⟩
    refine ⟨_, rfl, _, _, rfl, rfl, ⟨by decide, by decide⟩, _, _, rfl, rfl, (by decide : (0 : Int) < 5), ?_⟩
    obtain ⟨N, hN, hN4⟩ : ∃ N : Nat, N = c / 15 % 5 ∧ N ≤ 4 := ⟨c / 15 % 5, rfl, by omega⟩
    have s0 := same_upd hbl (o := .lst [])
    refine ⟨(N : Int), by rw [hN]; rfl, by omega, by omega, for_range (lo := 0) (n := (N : Int).toNat) (fun i σ H15 => ∃ (v3 v4 v5 v6 : Option V) (zs : List (Addr × List Int)), σ = [some (.int c), some (.int b), some (.ref bl), v3, v4, v5, v6] ∧ zs.length ≤ i ∧ H15 bl = some (.lst (zs.map fun z => V.ref z.1)) ∧ (∀ z ∈ zs, H15 z.1 = some (.lst (z.2.map V.int)) ∧ z.1 ≠ bl) ∧ (∀ l ∈ zs.map (·.2), GoodSt b l) ∧ (zs.map (·.2)).Nodup ∧ Same (aw [bl] H) (aw [bl] H15)) ⟨none, none, none, none, [], (by rw [hb]; rfl), Nat.le_refl _, (by rw [upd_same]; rfl), (by simp), (by simp), (by simp), s0.aw [bl]⟩ ?_ ?_⟩
    · rintro i σ H15 hi ⟨v3, v4, v5, v6, zs, rfl, hzl, hB, hZ, hG, nd, sm⟩
      refine ⟨_, rfl, _, rfl, _, _, rfl, (by show 3 ≤ sizeLine; decide), fun l1 hl1 => ?_⟩
      have m1 := same_upd hl1 (o := .lst [V.int b, V.int (if (3 : Int) < (b : Int) then (3 : Int) else (b : Int)), V.int 2])
      refine ⟨_, rfl, _, rfl, c, i, by rw [Int.zero_add]; rfl, by omega, fun x1 H1 hx1 s1 => ?_⟩
      obtain ⟨wd, hw, hw2, hwb⟩ : ∃ wd : Nat, atI [V.int b, V.int (if (3 : Int) < (b : Int) then (3 : Int) else (b : Int)), V.int 2] ((x1 : Int) % 3) = some (.int wd) ∧ 2 ≤ wd ∧ wd ≤ b := by
        have h3 : x1 % 3 < 3 := Nat.mod_lt _ (by decide)
        rw [show (x1 : Int) % 3 = ((x1 % 3 : Nat) : Int) by omega]
        match x1 % 3, h3 with
        | 0, _ => exact ⟨b, rfl, by omega, by omega⟩
        | 1, _ =>
          by_cases z : 3 < b
          · exact ⟨3, by rw [if_pos (by omega)]; rfl, by omega, by omega⟩
          · exact ⟨b, by rw [if_neg (by omega)]; rfl, by omega, by omega⟩
        | 2, _ => exact ⟨2, rfl, by omega, by omega⟩
      refine ⟨_, _, rfl, rfl, (by decide : (0 : Int) < 3), l1, _, _, V.int wd, rfl, rfl, SqL.of (s1 _ _ upd_same), hw, ?_⟩
      refine ⟨_, rfl, _, rfl, _, _, rfl, rfl, c, 10 + i, by rw [Int.zero_add]; rfl, by omega, fun x2 H2 hx2 s2 => ?_⟩
      refine ⟨_, _, rfl, rfl, (by decide : (0 : Int) < 4), _, _, rfl, rfl, ?_⟩
      obtain ⟨lg, hlg, lg1, lg4⟩ : ∃ lg : Nat, lg = 1 + x2 % 4 ∧ 1 ≤ lg ∧ lg ≤ 4 := ⟨1 + x2 % 4, rfl, by omega, by omega⟩
      have m12 := m1.trans (s1.trans s2)
      refine ⟨_, rfl, (lg : Int), by rw [hlg]; rfl, by omega, by omega, comp_range (lo := 0) (n := (lg : Int).toNat) (fun j ys Hc => Same H15 Hc ∧ ∃ ms : List Int, ys = ms.map V.int ∧ ms.length = j ∧ ∀ f ∈ ms, 0 ≤ f ∧ f < (b : Int)) ⟨m12, [], rfl, rfl, by simp⟩ ?_ ?_⟩
      · rintro j ys Hc hj ⟨Sc, ms, rfl, hml, hmf⟩
        refine ⟨by rw [List.length_map, hml]; exact Nat.lt_of_lt_of_le (show j < 5 by omega) (by decide), ?_⟩
        unfold tYes
        dsimp only
        rw [if_pos rfl]
        refine ⟨_, rfl, _, rfl, _, _, rfl, rfl, .inl ⟨by decide, by decide⟩, _, _, rfl, rfl, _, rfl, _, _, rfl, rfl, c, 20 + 4 * i + j, ?_, by omega, fun y2 H17 hy2 S17 => ?_⟩
        · show [V.int c, V.int (20 + 4 * (0 + (i : Int)) + (0 + (j : Int)))] = _
          rw [show (20 + 4 * (0 + (i : Int)) + (0 + (j : Int))) = ((20 + 4 * i + j : Nat) : Int) by omega]
        refine ⟨_, rfl, _, _, rfl, rfl, (by omega : (0 : Int) < (wd : Int)), Sc.trans S17, ms ++ [(y2 : Int) % (wd : Int)], by simp, by simp [hml], fun f hf => ?_⟩
        rcases List.mem_append.mp hf with hf | hf
        · exact hmf f hf
        · have e : f = (y2 : Int) % (wd : Int) := by simpa using hf
          have := Int.emod_lt_of_pos (y2 : Int) (by omega : (0 : Int) < (wd : Int))
          have := Int.emod_nonneg (y2 : Int) (by omega : (wd : Int) ≠ 0)
          omega
      · rintro ys Hc ⟨Sc, ms, rfl, hml, hmf⟩ p hp
        have hBc := Sc _ _ hB
        have nbp : bl ≠ p := ne_of_none hBc hp
        have hZc : ∀ z ∈ zs, Hc z.1 = some (.lst (z.2.map V.int)) := fun z hz => Sc _ _ (hZ z hz).1
        refine ⟨_, rfl, _, rfl, bl, _, (zs.map (·.2)).map tInts, tInts ms, rfl, SqL.of (same_upd hp _ _ hBc), TrsAt.lists (fun z hz => same_upd hp _ _ (hZc z hz)), TrAt.ints (a := p) (SqL.of upd_same), Nat.le_trans (tdeps_tInts _) (by decide), _, rfl, ?_⟩
        have sm2 : Same (aw [bl] H) (aw [bl] (upd Hc p (.lst (ms.map V.int)))) := sm.trans ((Sc.trans (same_upd hp)).aw _)
        rw [if_pos rfl, notin_any]
        by_cases hin : ms ∈ zs.map (·.2)
        · rw [decide_eq_true hin]
          refine iteF ?_
          exact ⟨_, _, _, _, zs, rfl, by omega, same_upd hp _ _ hBc, fun z hz => ⟨same_upd hp _ _ (hZc z hz), (hZ z hz).2⟩, hG, nd, sm2⟩
        · rw [decide_eq_false hin]
          refine iteT ?_
          refine ⟨_, rfl, .inl ⟨rfl, _, SqL.of (same_upd hp _ _ hBc)⟩, _, rfl, bl, _, _, rfl, rfl, same_upd hp _ _ hBc, by rw [List.length_map]; exact Nat.lt_of_le_of_lt (show zs.length ≤ 4 by omega) (by decide), ?_⟩
          refine ⟨_, _, _, _, zs ++ [(p, ms)], rfl, by rw [List.length_append, List.length_singleton]; omega, by rw [upd_same]; simp, fun z hz => ?_, fun l hl => ?_, ?_, sm2.trans aw1_out⟩
          · rcases List.mem_append.mp hz with hz | hz
            · rw [upd_ne (hZ z hz).2]
              exact ⟨same_upd hp _ _ (hZc z hz), (hZ z hz).2⟩
            · have e : z = (p, ms) := by simpa using hz
              subst e
              exact ⟨by rw [upd_ne (Ne.symm nbp), upd_same], Ne.symm nbp⟩
          · rw [List.map_append] at hl
            rcases List.mem_append.mp hl with hl | hl
            · exact hG l hl
            · have e : l = ms := by simpa using hl
              subst e
              exact ⟨fun z => by rw [z] at hml; simp at hml; omega, by omega, hmf⟩
          · rw [List.map_append]
            refine List.nodup_append.mpr ⟨nd, by simp, fun x hx y hy => ?_⟩
            have e : y = ms := by simpa using hy
            rw [e]
            exact fun z => hin (z ▸ hx)
    · rintro σ H15 ⟨v3, v4, v5, v6, zs, rfl, hzl, hB, hZ, hG, nd, sm⟩
      refine ⟨_, rfl, _, rfl, bl, zs, rfl, SqL.of hB, by omega, fun z hz => SqL.of (hZ z hz).1, nd, fun p zs' hp pm pw => ⟨(by show 2 ≤ sizeLine; decide), fun r hr => ?_⟩⟩
      have s1 := same_upd hp (o := .lst (zs'.map fun z => V.ref z.1))
      have s2 := same_upd hr (o := .tup [V.int b, V.ref p])
      have hH : Same H H15 := fun c o e => by
        have hc : c ∉ [bl] := by simpa using ne_of_none e hbl
        have := sm c o (by rw [aw_out hc]; exact e)
        rwa [aw_out hc] at this
      exact kk r b p zs' _ (hH.trans (s1.trans s2)) ⟨upd_same, s2 _ _ upd_same, fun z hz => s2 _ _ (s1 _ _ (hZ z (pm.mem_iff.mp hz)).1)⟩ ⟨b2, b16, by rw [List.length_map, pm.length_eq]; omega, fun l hl => by
        obtain ⟨z, hz, rfl⟩ := List.mem_map.mp hl
        exact hG _ (List.mem_map.mpr ⟨z, pm.mem_iff.mp hz, rfl⟩), by rw [List.pairwise_map]; exact pw⟩
end
end Lw
set_option Elab.async false
set_option linter.all false
set_option maxRecDepth 100000
namespace Lw
open PySem L2 PyProof.Rows
theorem iteB {c : Bool} {A B : Prop} (hc : c = false) (h : B) : if c = true then A else B := by rw [hc]; exact iteF h
theorem iteA {c : Bool} {A B : Prop} (hc : c = true) (h : A) : if c = true then A else B := by rw [hc]; exact iteT h
theorem dec_ints {i j : Int} (h : ¬ i = j) : decide (V.int i = V.int j) = false := decide_eq_false (fun z => h (by injection z))
def inB (b : Nat) (z : Str) : Bool := z.cps.toList.all fun c => (ixb b c).isSome
theorem ixb_some {b c f : Nat} : ixb b c = some f ↔ ix c = some f ∧ f < b := by
  unfold ixb
  cases h : ix c with
  | none => simp
  | some g =>
    by_cases hg : g < b
    · simp only [if_pos hg, Option.some.injEq]
      exact ⟨fun e => ⟨e, by omega⟩, fun e => e.1⟩
    · simp only [if_neg hg, Option.some.injEq]
      exact ⟨(fun e => by cases e), fun e => absurd e.2 (by omega)⟩
theorem inB_iff {b : Nat} {z : Str} : inB b z = true ↔ isF z = true ∧ ∀ f ∈ fsOf z, 0 ≤ f ∧ f < (b : Int) := by
  unfold inB isF fsOf
  rw [List.all_eq_true, List.all_eq_true]
  constructor
  · intro h
    refine ⟨fun c hc => ?_, fun f hf => ?_⟩
    · obtain ⟨g, hg⟩ := Option.isSome_iff_exists.mp (h c hc)
      rw [(ixb_some.mp hg).1]; rfl
    · obtain ⟨c, hc, rfl⟩ := List.mem_map.mp hf
      obtain ⟨g, hg⟩ := Option.isSome_iff_exists.mp (h c hc)
      have := ixb_some.mp hg
      rw [this.1, Option.getD_some]
      omega
  · rintro ⟨h1, h2⟩ c hc
    obtain ⟨g, hg⟩ := Option.isSome_iff_exists.mp (h1 c hc)
    have h3 := h2 _ (List.mem_map.mpr ⟨c, hc, rfl⟩)
    rw [hg, Option.getD_some] at h3
    rw [ixb_some.mpr ⟨hg, by omega⟩]; rfl
theorem inB_figs {b : Nat} {z : Str} : (isF z && figsT b (.list ((fsOf z).map .int))) = inB b z := by
  rw [Bool.eq_iff_iff, inB_iff, Bool.and_eq_true, figsL, List.all_eq_true]
  exact and_congr_right fun _ => forall_congr' fun f => imp_congr_right fun _ => ⟨of_decide_eq_true, decide_eq_true⟩
theorem rdN_some (b : Nat) (z : Str) : (rdN b (.str z)).isSome = (inB b z && wrL (fsOf z)) := by
  rw [rdN_str, ← inB_figs]
  unfold writesT
  rw [intsL, ← Bool.and_assoc]
  split
  · rename_i h; rw [h]; rfl
  · rename_i h; rw [Bool.eq_false_iff.mpr h]; rfl
theorem stretch_wD (b : Nat) (w : Str) : stretchT b (wD w) = (inB b w && decide (1 ≤ w.length ∧ w.length ≤ 4)) := by
  unfold wD
  split
  · rename_i h
    rw [← inB_figs, h, Bool.true_and, ← fsOf_len w]
    unfold stretchT
    rw [show (eltsT (.list ((fsOf w).map PyData.int))).length = (fsOf w).length from List.length_map _]
  · rename_i h
    rw [← inB_figs, Bool.eq_false_iff.mpr h]
    rfl
theorem teq_nilS (ts : List Tr) : teq (.lst ts) (.lst []) = decide (ts = []) := by
  cases ts with
  | nil => rfl
  | cons t ts => simp [teq, teqs]
theorem TrsAt.strs {K : PySem.W.Frag} {H : Hp} : ∀ {ws : List Str}, TrsAt K H (ws.map Tr.str) (ws.map V.str)
  | [] => by rw [List.map_nil, List.map_nil, TrsAt]
  | w :: ws => by rw [List.map_cons, List.map_cons, TrsAt]; exact ⟨_, _, rfl, by rw [TrAt], TrsAt.strs⟩
theorem tdeps_strs : ∀ (ws : List Str), tdeps (ws.map Tr.str) ≤ 1
  | [] => by simp [tdeps]
  | w :: ws => by rw [List.map_cons, tdeps, tdep]; · have := tdeps_strs ws; omega
                  all_goals (intros; rename_i z; cases z)
def offB (b : Nat) (cs : List Nat) : List Str := (cs.filter fun c => (ixb b c).isNone).map fun c => ⟨#[c]⟩
theorem offB_nil {b : Nat} {z : Str} : decide ((offB b z.cps.toList).map Tr.str = []) = inB b z := by
  unfold offB inB
  rw [Bool.eq_iff_iff, decide_eq_true_iff, List.map_eq_nil_iff, List.map_eq_nil_iff, List.filter_eq_nil_iff, List.all_eq_true]
  refine forall_congr' fun c => imp_congr_right fun _ => ?_
  cases ixb b c <;> simp
section
variable {P : Program} {w : World} {K : PySem.W.Frag} {mg : Str → Option Value} {base : Heap}
def sp__law_writes_number : Sp := fun vs H Q _ => ∃ (b : Nat) (z : Str), vs = [.int b, .str z] ∧ 2 ≤ b ∧ b ≤ 16 ∧ Asc z ∧ z.length ≤ 1000 ∧ ∀ H', Same H H' → Q (.bl (rdN b (.str z)).isSome) H'
theorem sc__law_writes_number : FnScope ["base", "text", "signs"] ["base", "text"] (defScope s__law_writes_number) := ⟨rfl, rfl, rfl, by decide +kernel, rfl, by decide +kernel, by decide +kernel⟩
theorem ok__law_writes_number {f : Addr} {fd : FuncData} (D : Df K mg "_law_writes_number" s__law_writes_number ["base", "text"] f fd) (T : Blt mg) : FnOk P w K mg base CX0 1 f fd ["base", "text"] sp__law_writes_number := by
  refine D.fn.ok sc__law_writes_number (fun vs H Q E h => ?_) (fun cdv A outer s H vs Q E hr h => ?_)
  · obtain ⟨b, z, rfl, _⟩ := h; rfl
  · obtain ⟨b, z, rfl, b2, b16, ha, hl, kk⟩ := h
    have HU := HUof hr
    have hl' : z.cps.toList.length ≤ 1000 := by rw [← cps_size]; exact hl
    rw [rdN_some] at kk
    refine ⟨_, (pss_cons (ps_set (i := 2) sc__law_writes_number.nd rfl (Or.inr rfl) (pe_slice sl_str pe_str po_none (po_some (pv 0))))
      (pss_cons (ps_if (PW.pt (pw_or (pt_cmpR op_eq (pv 1) pe_str (nomark _)) (pw_or1 (pt_cmpR (k_neT K HU) (pe_comp (show CScope (defScope s__law_writes_number) _ "sign" ["base", "text", "signs"] ["signs"] [2] from ⟨rfl, by decide +kernel, by decide +kernel, rfl, by decide +kernel, rfl, by decide +kernel, by decide +kernel⟩) rfl (pi_str (pv 1)) (fun _ _ _ _ => (pts_one (pt_cmpR op_notIn_str (pv 0) (pv 1) (by with_unfolding_all rfl)))) (fun _ _ _ _ => (pv 0))) (pe_lst pa_nil) (nomark _)))))
        (pss_one (ps_ret pe_bl))
        pss_nil)
      (pss_one (ps_ret (pe_or (pe_cmpR op_eq (pe_callB call_len_str (by rfl) T.n_len PySem.boot_len (pa_cons (pv 1) pa_nil)) pe_int (nomark _)) (pe_one (pe_cmpR op_ne (pe_ix ix_str (pv 1) pe_int (fun _ _ => rfl)) pe_str (nomark _)))))))), ?_⟩
    refine ⟨_, rfl, (b : Int), rfl, SIG, rfl, by decide +kernel, ?_⟩
    rw [show Txt.slice SIG none (some (b : Int)) = SB b from rfl]
    refine ⟨_, rfl, rfl, _, rfl, ?_⟩
    by_cases h0 : z = ""
    · have k2 := kk H (Same.refl _)
      rw [h0, show (inB b "" && wrL (fsOf "")) = false by rw [show fsOf "" = [] from by decide +kernel]; exact Bool.and_false _] at k2
      exact iteA (decide_eq_true (by rw [h0])) (iteT k2)
    refine iteB (decide_eq_false (fun e => h0 (by injection e))) ?_
    refine ⟨_, rfl, z, rfl, ha, comp_str (z := z) (fun i ys H4 => H4 = H ∧ ys = (offB b (z.cps.toList.take i)).map V.str) ⟨rfl, rfl⟩ ?_ ?_⟩
    · rintro j c ys H4 hc ⟨rfl, rfl⟩
      refine ⟨?_, ?_⟩
      · rw [List.length_map]
        unfold offB
        rw [List.length_map]
        exact Nat.lt_of_le_of_lt (Nat.le_trans (List.length_filter_le _ _) (Nat.le_trans (List.length_take_le' _ _) hl')) (by decide)
      refine ⟨_, rfl, _, rfl, _, _, rfl, rfl, _, rfl, ?_⟩
      rw [occ_SB b16 (ha.at hc), List.take_succ, cps_at hc]
      cases hx : ixb b c with
      | none =>
        rw [if_pos (by rfl)]
        refine ⟨_, rfl, rfl, ?_⟩
        unfold offB
        simp [hx]
      | some g =>
        rw [if_neg (by simp)]
        refine ⟨rfl, ?_⟩
        unfold offB
        simp [hx]
    rintro ys H4 ⟨rfl, rfl⟩ Dd hD
    rw [cps_size, List.take_length]
    have s1 := same_upd hD (o := .lst ((offB b z.cps.toList).map V.str))
    have hD1 : upd H4 Dd (.lst ((offB b z.cps.toList).map V.str)) Dd = some (.lst ((offB b z.cps.toList).map V.str)) := upd_same
    generalize upd H4 Dd (.lst ((offB b z.cps.toList).map V.str)) = H5 at s1 hD1
    refine ⟨(by show 0 ≤ sizeLine; decide), fun le hle => ?_⟩
    have s2 := same_upd hle (o := .lst [])
    refine ⟨.lst ((offB b z.cps.toList).map Tr.str), .lst [], by rw [TrAt]; exact ⟨Dd, _, rfl, SqL.of (s2 _ _ hD1), TrsAt.strs⟩, by rw [TrAt]; exact ⟨le, _, rfl, SqL.of upd_same, by rw [TrsAt]⟩, ?_, _, rfl, ?_⟩
    · have := tdeps_strs (offB b z.cps.toList); simp only [tdep]; omega
    rw [if_pos rfl, teq_nilS, offB_nil]
    generalize upd H5 le (.lst []) = H6 at s2
    have k2 := kk H6 (s1.trans s2)
    cases hb : inB b z with
    | false =>
      rw [hb, Bool.false_and] at k2
      exact iteT k2
    | true =>
      rw [hb, Bool.true_and] at k2
      refine iteF ?_
      obtain ⟨c, cs, hcs⟩ : ∃ c cs, z.cps.toList = c :: cs := by
        cases e : z.cps.toList with
        | nil => exact absurd (str_ext (by rw [e]; rfl)) h0
        | cons a b => exact ⟨a, b, rfl⟩
      have hlen : z.length = cs.length + 1 := by
        show z.cps.size = _
        rw [cps_size, hcs, List.length_cons]
      have hfs : fsOf z = (((ix c).getD 0 : Nat) : Int) :: cs.map fun c => (((ix c).getD 0 : Nat) : Int) := by unfold fsOf; rw [hcs, List.map_cons]
      rw [hfs, show ∀ x r, wrL (x :: r) = (!decide (x = 0) || decide (r.length = 0)) from fun _ _ => rfl, List.length_map] at k2
      refine ⟨_, rfl, z, rfl, Nat.le_trans hl (by decide), rfl, _, rfl, ?_⟩
      by_cases h1 : cs.length = 0
      · rw [decide_eq_true h1, Bool.or_true] at k2
        exact iteA (decide_eq_true (by rw [hlen, h1]; rfl)) k2
      · rw [decide_eq_false h1, Bool.or_false] at k2
        refine iteB (dec_ints (by omega)) ?_
        refine ⟨_, rfl, z, 0, c, rfl, rfl, Nat.le_trans hl (by decide), by rw [hcs]; exact atI_zero _ _, rfl, ?_⟩
        obtain ⟨g, hg⟩ : ∃ g, ix c = some g := by
          have := (inB_iff.mp hb).1
          unfold isF at this
          rw [List.all_eq_true] at this
          exact Option.isSome_iff_exists.mp (this c (by rw [hcs]; exact List.mem_cons_self))
        rw [hg, Option.getD_some] at k2
        have e : decide (((g : Nat) : Int) = 0) = decide (V.str ⟨#[c]⟩ = V.str "0") := by
          have e48 : ("0" : Str) = ⟨#[48]⟩ := by decide +kernel
          refine decide_eq_decide.mpr ⟨fun z => ?_, fun z => ?_⟩
          · have := (ix_cd hg).2
            obtain rfl : g = 0 := by omega
            rw [e48, ← this]; rfl
          · injection z with z
            rw [e48] at z
            injection z with z
            obtain rfl : c = 48 := by simpa using z
            have : ix 48 = some 0 := by decide
            rw [this] at hg
            injection hg with hg
            omega
        rw [e] at k2
        exact k2
end
end Lw
set_option Elab.async false
set_option linter.all false
set_option maxRecDepth 100000
namespace HT
open PySem PyProof.Rows PySem.W
def kall {α : Type} (p : α → Bool) : KasT α → Bool
  | .ret a => p a
  | .ask _ _ k => kall p (k true) && kall p (k false)
theorem kall_run {α : Type} {p : α → Bool} (c : Nat → Nat → Bool) : ∀ t : KasT α, kall p t = true → p (krun c t) = true
  | .ret a, h => h
  | .ask i j k, h => by
    unfold kall at h
    rw [Bool.and_eq_true] at h
    unfold krun
    cases c i j with
    | true => exact kall_run c (k true) h.1
    | false => exact kall_run c (k false) h.2
theorem kall2 : kall (fun p => p.toList.isPerm (List.range 2)) (kas_sort 2) = true := by decide +kernel
theorem kall3 : kall (fun p => p.toList.isPerm (List.range 3)) (kas_sort 3) = true := by decide +kernel
theorem kall4 : kall (fun p => p.toList.isPerm (List.range 4)) (kas_sort 4) = true := by decide +kernel
theorem sort_some {n : Nat} (h2 : 2 ≤ n) (h4 : n ≤ 4) : kin n (kas_sort n) = true ∧ ∀ c, (krun c (kas_sort n)).toList.Perm (List.range n) := by
  rcases (show n = 2 ∨ n = 3 ∨ n = 4 by omega) with rfl | rfl | rfl
  · exact ⟨kin2, fun c => List.isPerm_iff.mp (kall_run c _ kall2)⟩
  · exact ⟨kin3, fun c => List.isPerm_iff.mp (kall_run c _ kall3)⟩
  · exact ⟨kin4, fun c => List.isPerm_iff.mp (kall_run c _ kall4)⟩
section
variable {prog : Program} {w : World} {A : Around} {E : Value → Shared → Prop} {s : Shared}
theorem sortE_tree {a : Addr} {zs : List (Addr × List Int)} {n0 : Nat} {P : Fin → Shared → Prop} (ho : s.heap.get? a = some (seqObj "list" (zs.map fun z => Value.ref z.1).toArray n0))
    (hz : ∀ z ∈ zs, z.1 ≠ a ∧ ∃ its : List Value, s.heap.IsList z.1 its.toArray ∧ IntsAre its z.2) (h4 : zs.length ≤ 4) (hu : A.units + 1 < cLine)
    (h : ∀ zs' : List (Addr × List Int), zs'.Perm zs → P (.done (.ret .none)) { s with heap := sortedHeap s.heap a (zs.map fun z => Value.ref z.1) (zs'.map fun z => Value.ref z.1).toArray }) :
    wpAny (model prog w) A (Builtin.«list.sort» ⟨[.ref a], []⟩) P E s := by
  rw [list_sort_plain]
  generalize hvs : (zs.map fun z => Value.ref z.1) = vs at ho h ⊢
  have hvl : vs.length = zs.length := by rw [← hvs, List.length_map]
  have hsl : vs.length ≤ sizeLine := by rw [hvl, sizeLine_eq]; omega
  have ha : a < s.heap.objs.size := Heap.lt_size ho
  obtain ⟨e1, ho1⟩ : ∃ e1, (s.heap.update a (Obj.mapSeq fun _ => #[])).get? a = some (seqObj "list" #[] e1) := ⟨_, get?_update_seq ho (fun _ => #[])⟩
  refine wpAny_bind (listItems_at ho rfl (wpAny_bind (listUpdate_at ho rfl (wpAny_bind (seqEpoch_at ho1 rfl (wpAny_bind (wpAny_newTuple (wpAny_bind (wpAny_newList (wpAny_holding ?_) (Nat.zero_le _))) (by show vs.length ≤ _; exact hsl))))) (by rw [List.size_toArray]; exact hsl) (Nat.zero_le _))))
  generalize hG : (((s.heap.update a (Obj.mapSeq fun _ => (#[] : Array Value))).push (seqObj "tuple" vs.toArray 0)).push (seqObj "list" #[] 0)) = G
  have ho6 : G.get? a = some (seqObj "list" #[] e1) := by
    rw [← hG, Heap.get?_push_ne _ _ _ (by rw [size_push', Heap.size_update]; exact Nat.ne_of_lt (Nat.lt_succ_of_lt ha)), Heap.get?_push_ne _ _ _ (by rw [Heap.size_update]; exact Nat.ne_of_lt ha)]; exact ho1
  have keep : ∀ b o, b ≠ a → s.heap.get? b = some o → G.get? b = some o := fun b o hb e => by
    have hlt := Heap.lt_size e
    rw [← hG, Heap.get?_push_ne _ _ _ (by rw [size_push', Heap.size_update]; exact Nat.ne_of_lt (Nat.lt_succ_of_lt hlt)), Heap.get?_push_ne _ _ _ (by rw [Heap.size_update]; exact Nat.ne_of_lt hlt), Heap.get?_update_other _ _ (Ne.symm hb)]; exact e
  show wpAny (model prog w) A _ P E { s with heap := G }
  dsimp only
  by_cases h2 : vs.toArray.size < 2
  · rw [if_pos h2, if_pos h2]
    refine wpAny_bind (wpAny_pure ?_)
    rw [StateT.run_pure]
    refine wpAny_bind (wpAny_pure ?_)
    dsimp only
    have hout : (arrOf (SortSt.mk' general' (vs.toArray.zip vs.toArray) #[] 7 none)).map (·.2) = vs.toArray := by
      show (vs.toArray.zip vs.toArray).map (·.2) = vs.toArray
      apply Array.toList_inj.mp
      rw [Array.toList_map, Array.toList_zip, List.map_snd_zip (by simp)]
    rw [hout]
    refine wpAny_bind (seqEpoch_at ho6 rfl (wpAny_bind (listUpdate_at ho6 rfl ?_ (Nat.zero_le _) (by rw [List.size_toArray]; exact Nat.le_succ_of_le hsl))))
    have q := h zs (List.Perm.refl _)
    rw [hvs] at q
    simp only [bne_self_eq_false, Bool.false_eq_true, if_false]
    have e2 : G.update a (Obj.mapSeq fun _ => vs.toArray) = sortedHeap s.heap a vs vs.toArray := by rw [← hG]; rfl
    rw [e2]
    exact wpAny_pure q
  · rw [if_neg h2, if_neg h2]
    rw [List.size_toArray, hvl] at h2
    have ls2 : (zs.map (·.2)).length = zs.length := List.length_map ..
    obtain ⟨hkin, hok⟩ := sort_some (by omega) h4
    generalize hcd : (fun i j => lexLt ((zs.map (·.2)).getD i []) ((zs.map (·.2)).getD j [])) = c
    have hok := hok c
    have gz : ∀ i, i < zs.length → vs.getD i Value.none = .ref (zs.getD i (0, [])).1 ∧ (zs.map (·.2)).getD i [] = (zs.getD i (0, [])).2 ∧ zs.getD i (0, []) ∈ zs := fun i hi => by
      have e : zs.getD i (0, []) = zs[i] := by rw [List.getD_eq_getElem?_getD, List.getElem?_eq_getElem hi]; rfl
      rw [e]
      refine ⟨?_, ?_, List.getElem_mem _⟩
      · rw [← hvs, List.getD_eq_getElem?_getD, List.getElem?_map, List.getElem?_eq_getElem hi]; rfl
      · rw [List.getD_eq_getElem?_getD, List.getElem?_map, List.getElem?_eq_getElem hi]; rfl
    refine wpAny_bind (kas_kind (T := .type "list") (by rw [hvl]; omega) (fun v hv => ?_) (by decide) (by decide) ?_)
    · rw [← hvs] at hv
      obtain ⟨z, hzm, rfl⟩ := List.mem_map.mp hv
      obtain ⟨hza, its, hl, _⟩ := hz z hzm
      obtain ⟨o, e, hcl, _⟩ := hl
      intro A' Q' E' s' k q
      exact wpAny_typeOf (T := "list") ⟨o, k _ _ (keep _ _ hza e), hcl⟩ q
    have est : SortSt.mk' oneType' (vs.toArray.zip vs.toArray) #[] 7 none = kas_st oneType' (pairsOf vs) (List.toArray (List.range vs.length)) := by
      have e := kas_range (pairsOf vs)
      rw [pairsOf_size] at e
      unfold kas_st; rw [e]; rfl
    have ask : (kas_sort vs.length).kasWp (kas_cmp prog w A oneType' (pairsOf vs)) (fun p s' => s' = { s with heap := G } ∧ p = krun c (kas_sort zs.length)) { s with heap := G } := by
      rw [hvl, ← kas_ask_eq]
      refine krun_wp (n := zs.length) (c := c) (fun i j C hi hj hC => ?_) _ hkin ⟨rfl, rfl⟩
      obtain ⟨a1, a2, a3⟩ := gz i hi
      obtain ⟨b1, b2, b3⟩ := gz j hj
      obtain ⟨hza, its, hl, hI⟩ := hz _ a3
      obtain ⟨hzb, its2, hl2, hI2⟩ := hz _ b3
      unfold kas_ask
      rw [a1, b1]
      refine one_lt (s := { s with heap := G }) (hl.at fun o e => keep _ o hza e) (hl2.at fun o e => keep _ o hzb e) (by simpa using hI) (by simpa using hI2) hu ?_
      rw [← hcd] at hC
      simp only [a2, b2] at hC
      exact hC
    have run := kas_runs (E := E) (Q := fun _ st' s' => s' = { s with heap := G } ∧ arrOf st' = (krun c (kas_sort zs.length)).map (kas_item (pairsOf vs)) ∧ failedOf st' = none) (by rw [hvl]; omega) (by rw [hvl]; omega)
      (fun p' st' s' a1 a2 a3 a4 => ⟨a4.1, by rw [a2, a4.2], a3⟩) ask
    rw [← est] at run
    refine wpAny_bind (wpAny_mono run ?_ fun _ _ e => e)
    rintro ⟨⟨⟩, st'⟩ s' ⟨rfl, har, hf⟩
    dsimp only
    generalize hp : krun c (kas_sort zs.length) = p at har hok
    have hout : (arrOf st').map (·.2) = ((p.toList.map fun i => zs.getD i (0, [])).map fun z => Value.ref z.1).toArray := by
      apply Array.toList_inj.mp
      rw [har, Array.map_map, Array.toList_map, List.map_map]
      refine List.map_congr_left fun i hi => ?_
      show (kas_item (pairsOf vs) i).2 = _
      rw [kas_item_eq]
      exact (gz i (List.mem_range.mp (hok.mem_iff.mp hi))).1
    rw [hout]
    have pm : p.toList.Perm (List.range zs.length) := hok
    have q := h (p.toList.map fun i => zs.getD i (0, [])) (perm_getD _ zs pm)
    have hol : ((p.toList.map fun i => zs.getD i (0, [])).map fun z => Value.ref z.1).length = zs.length := by rw [List.length_map, List.length_map, pm.length_eq, List.length_range]
    refine wpAny_bind (seqEpoch_at ho6 rfl (wpAny_bind (listUpdate_at ho6 rfl ?_ (Nat.zero_le _) (by rw [List.size_toArray, hol]; rw [hvl] at hsl; exact Nat.le_succ_of_le hsl))))
    rw [hf]
    simp only [bne_self_eq_false, Bool.false_eq_true, if_false]
    have e2 : ∀ out : Array Value, G.update a (Obj.mapSeq fun _ => out) = sortedHeap s.heap a vs out := fun out => by rw [← hG]; rfl
    rw [e2]
    exact wpAny_pure q
theorem sortedE {l : Addr} {zs : List (Addr × List Int)} {Q : Value → Shared → Prop} (hl : s.heap.IsList l (zs.map fun z => Value.ref z.1).toArray) (hz : ∀ z ∈ zs, ∃ its : List Value, s.heap.IsList z.1 its.toArray ∧ IntsAre its z.2) (h4 : zs.length ≤ 4) (hu : A.units + 8 < cLine)
    (h : ∀ zs' : List (Addr × List Int), zs'.Perm zs → Q (.ref (s.heap.objs.size + 1)) { s with heap := sortedAll s.heap (zs.map fun z => Value.ref z.1) (zs'.map fun z => Value.ref z.1).toArray }) :
    wpAny (model prog w) A (call (.builtin "sorted") [.ref l]) Q E s := by
  have hsl : (zs.map fun z => Value.ref z.1).length ≤ sizeLine := by rw [List.length_map, sizeLine_eq]; omega
  refine Calls.call_function_entry kind_sorted plain_sorted entry_sorted (args_sorted1 _) ?_
  unfold Builtin.«sorted»
  refine wpAny_bind (m := checkCount "sorted" 1 1 _) (wpAny_pure (wpAny_bind (collect_list hl (wpAny_bind (wpAny_newList ?_ hsl)) hsl)))
  generalize hB : (s.heap.push (seqObj "list" #[] 0)).update s.heap.objs.size (Obj.mapSeq (· ++ (zs.map fun z => Value.ref z.1).toArray)) = B
  have hsz : B.objs.size = s.heap.objs.size + 1 := by rw [← hB, Heap.size_update, size_push']
  have keep : ∀ b o, s.heap.get? b = some o → (B.push (seqObj "list" (zs.map fun z => Value.ref z.1).toArray 0)).get? b = some o := fun b o q => by
    have hlt : b < s.heap.objs.size := Heap.lt_size q
    rw [Heap.get?_push_ne _ _ _ (by rw [hsz]; exact Nat.ne_of_lt (Nat.lt_succ_of_lt hlt)), ← hB, Heap.get?_update_ne _ _ _ _ (Nat.ne_of_lt hlt), Heap.get?_push_ne _ _ _ (Nat.ne_of_lt hlt)]; exact q
  have hoL : (B.push (seqObj "list" (zs.map fun z => Value.ref z.1).toArray 0)).get? (s.heap.objs.size + 1) = some (seqObj "list" (zs.map fun z => Value.ref z.1).toArray 0) := by
    rw [← hsz]; exact Heap.get?_push_size _ rfl
  show wpAny _ _ _ _ _ { s with heap := B.push (seqObj "list" (zs.map fun z => Value.ref z.1).toArray 0) }
  dsimp only
  rw [hsz]
  refine wpAny_bind (wpAny_holding (wpAny_call_entry slot_list_sort ⟨_, hoL, rfl⟩ entry_list_sort (sortE_tree (A := A.in1.in1) (s := { s with heap := B.push (seqObj "list" (zs.map fun z => Value.ref z.1).toArray 0) }) hoL (fun z hzm => ?_) h4 (by show A.units + 1 + 1 + 1 < cLine; omega) fun zs' a1 => ⟨_, rfl, ?_⟩) (args_list_sort _)))
  · obtain ⟨its, hl', hI⟩ := hz z hzm
    obtain ⟨o, e, _⟩ := id hl'
    exact ⟨Nat.ne_of_lt (Nat.lt_succ_of_lt (Heap.lt_size e)), its, hl'.at fun o e => keep _ o e, hI⟩
  · have q := h zs' a1
    have e2 : sortedHeap (B.push (seqObj "list" (zs.map fun z => Value.ref z.1).toArray 0)) (s.heap.objs.size + 1) (zs.map fun z => Value.ref z.1) (zs'.map fun z => Value.ref z.1).toArray = sortedAll s.heap (zs.map fun z => Value.ref z.1) (zs'.map fun z => Value.ref z.1).toArray := by rw [← hB]; rfl
    show wpAny _ _ _ _ _ { s with heap := sortedHeap (B.push (seqObj "list" (zs.map fun z => Value.ref z.1).toArray 0)) (s.heap.objs.size + 1) (zs.map fun z => Value.ref z.1) (zs'.map fun z => Value.ref z.1).toArray }
    rw [e2]
    exact wpAny_pure ⟨_, rfl, q⟩
end
end HT
namespace L2
open PySem PySem.Spec PyProof.Rows
section
variable {X : Cx}
def rSortE (K : PySem.W.Frag) : List V → Hp → VK → Prop := fun xs H Q => ∃ (a : Addr) (zs : List (Addr × List Int)), xs = [.ref a] ∧ SqL K H a (zs.map fun z => V.ref z.1) ∧ zs.length ≤ 4 ∧ (∀ z ∈ zs, SqL K H z.1 (z.2.map V.int)) ∧
  ∀ (p : Addr) (zs' : List (Addr × List Int)), H p = none → zs'.Perm zs → ((zs.map (·.2)).Nodup → zs'.Pairwise (fun x y => HT.lexLt x.2 y.2 = true)) → Q (.ref p) (upd H p (.lst (zs'.map fun z => V.ref z.1)))
theorem k_sortE (K : PySem.W.Frag) (hu : X.A.units + 64 < cLine) (e : X.K = K := by rfl) : CallR X (.builtin "sorted") (rSortE K) := by
  subst e
  intro pins s σ H xs us Q I r h
  obtain ⟨a, zs, rfl, ha, h4, hz, q⟩ := h
  by_cases nd : (zs.map (·.2)).Nodup
  · exact k_sortL X.K hu rfl pins s σ H _ us Q I r ⟨a, zs, rfl, ha, h4, hz, nd, fun p zs' hp pm pw => q p zs' hp pm fun _ => pw⟩
  obtain ⟨u, rfl, rx⟩ := vals1 r
  cases rx
  obtain ⟨its, r1, p1, _⟩ := I.list ha
  have e1 := vals_refs r1
  subst e1
  refine HT.sortedE p1.isList (fun z hzm => ?_) h4 (by omega) fun zs' pm => ?_
  · obtain ⟨its, r2, p2, _⟩ := I.list (hz z hzm)
    exact ⟨its, p2.isList, by simpa using intsAre_of r2⟩
  · obtain ⟨c, hat⟩ := sortedAll_at s.heap (zs.map fun z => Value.ref z.1) (zs'.map fun z => Value.ref z.1).toArray
    have hfree : H (s.heap.objs.size + 1) = none := I.hok.fresh (Nat.le_succ _)
    refine ⟨.ref (s.heap.objs.size + 1), _, I.laid (t' := s.toks) (o := .lst (zs'.map fun z => V.ref z.1)) (fun b o e => sortedAll_old e) (Nat.le_succ _) ?_, rfl, q _ zs' hfree pm fun z => absurd z nd⟩
    exact ⟨by rw [List.length_map, pm.length_eq]; exact Nat.le_trans h4 (by decide), _, c, refs_vals zs', hat⟩
end
end L2
set_option Elab.async false
set_option linter.all false
set_option maxRecDepth 100000
namespace Lw
open PySem L2 PyProof.Rows
theorem ruleT_pair (d l : PyData) : ruleT (.tuple [d, l]) = (baseT d && badT (intT d) l) := rfl
theorem badT_list (b : Int) (xs : List PyData) : badT b (.list xs) = (decide (xs.length ≤ 4) && (xs.all (stretchT b) && risingL (xs.map intsT))) := rfl
def bWs : List Str := (List.range 15).map fun k => ((toString (((2 + k : Nat) : Int)) : String) : Str)
theorem bWs_mem {x : Str} : x ∈ bWs ↔ ∃ b : Nat, 2 ≤ b ∧ b ≤ 16 ∧ x = ((toString (b : Int) : String) : Str) := by
  unfold bWs
  rw [List.mem_map]
  constructor
  · rintro ⟨k, hk, rfl⟩
    have := List.mem_range.mp hk
    exact ⟨2 + k, by omega, by omega, rfl⟩
  · rintro ⟨b, h1, h2, rfl⟩
    exact ⟨b - 2, List.mem_range.mpr (by omega), by rw [show 2 + (b - 2) = b by omega]⟩
theorem rdN_base {b : Nat} (h2 : 2 ≤ b) (h16 : b ≤ 16) : rdN 10 (.str ((toString (b : Int) : String) : Str)) = some (b : Int) := by
  rw [base_text h2 h16]
  exact rdN_figs (by decide) (by decide)
theorem wR_nobase {z w0 : Str} {ws : List Str} (h : wrds z = w0 :: ws) (hn : w0 ∉ bWs) : wR (.str z) = false := by
  rw [wR_str h]
  cases e : rdN 10 (.str w0) with
  | none => rfl
  | some i =>
    show ruleT (.tuple [.int i, .list (ws.map wD)]) = false
    rw [ruleT_pair]
    cases hb : baseT (.int i) with
    | false => rfl
    | true =>
      have hb : 2 ≤ i ∧ i ≤ 16 := of_decide_eq_true hb
      obtain ⟨n, rfl, e2⟩ := rdN_is (by decide) (by decide) e
      exact absurd (bWs_mem.mpr ⟨n, by omega, by omega, by rw [base_text (by omega) (by omega)]; exact e2⟩) hn
theorem wR_base {z : Str} {ws : List Str} {b : Nat} (h2 : 2 ≤ b) (h16 : b ≤ 16) (h : wrds z = ((toString (b : Int) : String) : Str) :: ws) : wR (.str z) = badT b (.list (ws.map wD)) := by
  rw [wR_str h, rdN_base h2 h16]
  show ruleT (.tuple [.int (b : Int), .list (ws.map wD)]) = _
  rw [ruleT_pair, show baseT (.int (b : Int)) = true from decide_eq_true (by omega), Bool.true_and]
  rfl
theorem up_same : ∀ {l1 l2 : List (List Int)}, l1.Pairwise (fun x y => HT.lexLt x y = true) → l2.Pairwise (fun x y => HT.lexLt x y = true) → (∀ x, x ∈ l1 ↔ x ∈ l2) → l1 = l2
  | [], [], _, _, _ => rfl
  | [], y :: l2, _, _, h => absurd ((h y).mpr List.mem_cons_self) List.not_mem_nil
  | x :: l1, [], _, _, h => absurd ((h x).mp List.mem_cons_self) List.not_mem_nil
  | x :: l1, y :: l2, p1, p2, h => by
    rw [List.pairwise_cons] at p1 p2
    have e : x = y := by
      rcases List.mem_cons.mp ((h x).mp List.mem_cons_self) with e | e
      · exact e
      · rcases List.mem_cons.mp ((h y).mpr List.mem_cons_self) with e' | e'
        · exact e'.symm
        · have a1 := p2.1 x e
          have a2 := p1.1 y e'
          have := HT.lexLt_trans _ _ _ a1 a2
          rw [HT.lexLt_irrefl] at this; cases this
    subst e
    rw [up_same p1.2 p2.2 fun z => ?_]
    constructor
    · intro hz
      rcases List.mem_cons.mp ((h z).mp (List.mem_cons_of_mem _ hz)) with e | e
      · have := p1.1 z hz
        rw [e, HT.lexLt_irrefl] at this; cases this
      · exact e
    · intro hz
      rcases List.mem_cons.mp ((h z).mpr (List.mem_cons_of_mem _ hz)) with e | e
      · have := p2.1 z hz
        rw [e, HT.lexLt_irrefl] at this; cases this
      · exact e
theorem pair_rise {ls : List (List Int)} (h : ls.Pairwise fun x y => HT.lexLt x y = true) : risingL ls = true := by
  unfold risingL
  rw [List.all_eq_true]
  intro k hk
  have hk := List.mem_range.mp hk
  rw [List.getD_eq_getElem?_getD, List.getD_eq_getElem?_getD, List.getElem?_eq_getElem (show k < ls.length by omega), List.getElem?_eq_getElem (show k + 1 < ls.length by omega)]
  exact List.pairwise_iff_getElem.mp h k (k + 1) (by omega) (by omega) (by omega)
theorem pair_nodup {ls : List (List Int)} (h : ls.Pairwise fun x y => HT.lexLt x y = true) : ls.Nodup := h.imp fun {x y} q z => by rw [z, HT.lexLt_irrefl] at q; cases q
theorem teq_lists (a b : List (List Int)) : teq (.lst (a.map tInts)) (.lst (b.map tInts)) = decide (a = b) := by rw [teq]; exact teqs_map teq_ints a b
theorem cnt_lists (ls : List (List Int)) (l : List Int) : ((ls.map tInts).countP fun t => teq t (tInts l)) = ls.count l := by
  rw [List.countP_map]
  unfold List.count
  refine List.countP_congr fun x _ => ?_
  show teq (tInts x) (tInts l) = true ↔ _
  rw [teq_ints]
  simp
theorem any_strs {xs : List Str} {w : Str} : ((xs.map Tr.str).any fun t => teq t (.str w)) = decide (w ∈ xs) := by
  rw [List.any_map, Bool.eq_iff_iff, List.any_eq_true, decide_eq_true_iff]
  constructor
  · rintro ⟨x, hx, e⟩
    have e : teq (.str x) (.str w) = true := e
    rw [teq] at e
    rw [← eq_of_beq e]; exact hx
  · intro h
    exact ⟨w, h, by show teq (.str w) (.str w) = true; exact teq_refl _⟩
section
variable {P : Program} {w : World} {K : PySem.W.Frag} {mg : Str → Option Value} {base : Heap}
def sp__law_writes_rule : Sp := fun vs H Q _ => ∃ (z : Str), vs = [.str z] ∧ Asc z ∧ z.length ≤ 1000 ∧ ∀ H', Same H H' → Q (.bl (wR (.str z))) H'
theorem sc__law_writes_rule : FnScope ["text", "words", "signs", "found", "word", "twice"] ["text"] (defScope s__law_writes_rule) := ⟨rfl, rfl, rfl, by decide +kernel, rfl, by decide +kernel, by decide +kernel⟩
set_option maxHeartbeats 2000000 in
theorem ok__law_writes_rule {f : Addr} {fd : FuncData} (D : Df K mg "_law_writes_rule" s__law_writes_rule ["text"] f fd) (T : Blt mg) (U : Blt2 mg) : FnOk P w K mg base CX0 1 f fd ["text"] sp__law_writes_rule := by
  refine D.fn.ok sc__law_writes_rule (fun vs H Q E h => ?_) (fun cdv A outer s H vs Q E hr h => ?_)
  · obtain ⟨z, rfl, _⟩ := h; rfl
  · obtain ⟨z, rfl, ha, hl, kk⟩ := h
    have HU := HUof hr
    refine ⟨_, (pss_cons (ps_set (i := 1) sc__law_writes_rule.nd rfl (Or.inl rfl) (k_bm K PySem.F.plainAttrs_str PySem.F.slot_str_split PySem.F.type_str_split mt_split (pv 0) (pa_cons pe_str pa_nil)))
      (pss_cons (ps_if (PW.pt (pw_or (pt_cmpR (k_notInT K HU) (pe_ix (k_ixL K) (pv 1) pe_int (fun _ _ => rfl)) (pe_comp (show CScope (defScope s__law_writes_rule) _ "base" ["text", "words", "signs", "found", "word", "twice"] [] [] from ⟨rfl, by decide +kernel, by decide +kernel, rfl, by decide +kernel, rfl, by decide +kernel, by decide +kernel⟩) rfl (pi_range2 rfl T.n_range (pa_cons pe_int (pa_cons pe_int pa_nil))) (fun _ _ _ _ => pts_nil) (fun _ _ _ _ => (pe_callTy call_strI (by rfl) U.n_str boot_str (pa_cons (pv 0) pa_nil)))) (by with_unfolding_all rfl)) (pw_or1 (pt_cmpR op_gt (pe_callB (k_len K) (by rfl) T.n_len PySem.boot_len (pa_cons (pv 1) pa_nil)) pe_int (nomark _)))))
        (pss_one (ps_ret pe_bl))
        pss_nil)
      (pss_cons (ps_set (i := 2) sc__law_writes_rule.nd rfl (Or.inr rfl) (pe_slice sl_str pe_str po_none (po_some (pe_callTy call_intS (by rfl) T.n_int boot_int (pa_cons (pe_ix (k_ixL K) (pv 1) pe_int (fun _ _ => rfl)) pa_nil)))))
      (pss_cons (ps_set (i := 3) sc__law_writes_rule.nd rfl (Or.inr rfl) (pe_lst pa_nil))
      (pss_cons (ps_for PassesOwn.never rfl (k_pi K (pe_slice (k_slL K) (pv 1) (po_some pe_int) po_none)) (pg_name (i := 4) sc__law_writes_rule.nd rfl (Or.inl rfl))
        (pss_cons (ps_if (PW.pt (pw_or (pt_not (pt_chain op_le op_le pe_int (pe_callB call_len_str (by rfl) T.n_len PySem.boot_len (pa_cons (pv 4) pa_nil)) pe_int)) (pw_or1 (pt_cmpR (k_neT K HU) (pe_comp (show CScope (defScope s__law_writes_rule) _ "sign" ["text", "words", "signs", "found", "word", "twice"] ["signs"] [2] from ⟨rfl, by decide +kernel, by decide +kernel, rfl, by decide +kernel, rfl, by decide +kernel, by decide +kernel⟩) rfl (pi_str (pv 4)) (fun _ _ _ _ => (pts_one (pt_cmpR op_notIn_str (pv 0) (pv 1) (by with_unfolding_all rfl)))) (fun _ _ _ _ => (pv 0))) (pe_lst pa_nil) (nomark _)))))
          (pss_one (ps_ret pe_bl))
          pss_nil)
        (pss_one (ps_expr (pe_bm PySem.F.plainAttrs_list PySem.F.slot_list_append PySem.F.type_list_append mt_append (pv 3) (pa_cons (pe_comp (show CScope (defScope s__law_writes_rule) _ "sign" ["text", "words", "signs", "found", "word", "twice"] ["signs"] [2] from ⟨rfl, by decide +kernel, by decide +kernel, rfl, by decide +kernel, rfl, by decide +kernel, by decide +kernel⟩) rfl (pi_str (pv 4)) (fun _ _ _ _ => pts_nil) (fun _ _ _ _ => (k_bm K PySem.F.plainAttrs_str PySem.F.slot_str_index PySem.F.type_str_index mt_indexS (pv 1) (pa_cons (pv 0) pa_nil)))) pa_nil))))))
      (pss_cons (ps_setComp (i := 5) (show CScope (defScope s__law_writes_rule) _ "one" ["text", "words", "signs", "found", "word", "twice"] ["found"] [3] from ⟨rfl, by decide +kernel, by decide +kernel, rfl, by decide +kernel, rfl, by decide +kernel, by decide +kernel⟩) rfl sc__law_writes_rule.nd rfl (Or.inl rfl) (k_pi K (pv 3)) (fun _ _ _ _ => (pts_one (pt_cmpR op_gt (k_bm K PySem.F.plainAttrs_list PySem.F.slot_list_count PySem.F.type_list_count (k_countT K HU) (pv 1) (pa_cons (pv 0) pa_nil)) pe_int (nomark _)))) (fun _ _ _ _ => (pv 0)))
      (pss_one (ps_ret (pe_and (pe_cmpR (k_eqT K HU) (pv 3) (pe_callB (k_sortE K HU) (by rfl) T.n_sorted boot_sorted (pa_cons (pv 3) pa_nil)) (nomark _)) (pe_one (pe_cmpR (k_eqT K HU) (pv 5) (pe_lst pa_nil) (nomark _)))))))))))), ?_⟩
    refine ⟨_, rfl, rfl, z, " ", rfl, rfl, by decide +kernel, Nat.le_trans (Nat.add_le_add_right hl 2) (by decide), fun p hp => ?_⟩
    have hasc := wrds_asc ha
    have hsh := wrds_short z
    obtain ⟨w0, ws, hw⟩ : ∃ w0 ws, wrds z = w0 :: ws := by
      cases e : wrds z with
      | nil => exact absurd e (wrds_ne z)
      | cons a b => exact ⟨a, b, rfl⟩
    have hmn := wrds_many z
    rw [hw] at hasc hsh hmn
    rw [List.length_cons] at hmn
    rw [show Txt.split z " " = w0 :: ws from hw]
    have s1 := same_upd hp (o := .lst ((w0 :: ws).map V.str))
    have hp1 : upd H p (.lst ((w0 :: ws).map V.str)) p = some (.lst ((w0 :: ws).map V.str)) := upd_same
    generalize upd H p (.lst ((w0 :: ws).map V.str)) = H1 at s1 hp1
    refine ⟨_, rfl, p, _, _, V.str w0, rfl, rfl, SqL.of hp1, atI_zero _ _, ?_⟩
    refine ⟨2, 17, rfl, ⟨by decide, by decide, by decide, by decide⟩, comp_range (lo := 2) (n := ((17 : Int) - 2).toNat) (fun i ys H4 => H4 = H1 ∧ ys = (bWs.take i).map V.str) ⟨rfl, rfl⟩ ?_ ?_⟩
    · rintro j ys H4 hj ⟨rfl, rfl⟩
      have hj : j < 15 := hj
      refine ⟨by rw [List.length_map]; exact Nat.lt_of_le_of_lt (List.length_take_le _ _) (Nat.lt_of_lt_of_le (show j < 15 by omega) (by decide)), ?_⟩
      unfold tYes
      dsimp only
      rw [if_pos rfl]
      refine ⟨_, rfl, 2 + (j : Int), rfl, ?_, rfl, ?_⟩
      · have : ∀ j : Nat, j < 15 → (2 + (j : Int)).natAbs.log2 < 1920 := by decide +kernel
        exact this j hj
      · have e : bWs[j]? = some ((toString (2 + (j : Int)) : String) : Str) := by
          unfold bWs
          rw [List.getElem?_map, List.getElem?_range hj, Option.map_some, show ((2 + j : Nat) : Int) = 2 + (j : Int) by omega]
        rw [List.take_succ, e]
        simp
    rintro ys H4 ⟨rfl, rfl⟩ lb hlb
    rw [show ((17 : Int) - 2).toNat = 15 from rfl, show bWs.take 15 = bWs from List.take_of_length_le (by unfold bWs; rw [List.length_map, List.length_range]; exact Nat.le_refl _)]
    have s2 := same_upd hlb (o := .lst (bWs.map V.str))
    have s12 := s1.trans s2
    refine ⟨lb, _, bWs.map Tr.str, .str w0, rfl, SqL.of upd_same, TrsAt.strs, by rw [TrAt], Nat.le_trans (tdeps_strs bWs) (by decide), _, rfl, ?_⟩
    rw [if_pos rfl, any_strs]
    have hp2 := s2 _ _ hp1
    generalize upd H4 lb (.lst (bWs.map V.str)) = H2 at s2 s12 hp2
    by_cases hm : w0 ∈ bWs
    case neg =>
      rw [decide_eq_false hm]
      have k2 := kk H2 s12
      rw [wR_nobase hw hm] at k2
      exact iteT (iteT k2)
    rw [decide_eq_true hm]
    refine iteF ?_
    obtain ⟨b, b2, b16, rfl⟩ := bWs_mem.mp hm
    have eW := wR_base b2 b16 hw
    rw [eW] at kk
    refine ⟨_, rfl, p, _, rfl, .inl (SqL.of hp2), _, _, rfl, rfl, _, rfl, ?_⟩
    by_cases h4 : ws.length ≤ 4
    case neg =>
      have k2 := kk H2 s12
      rw [badT_list, List.length_map, decide_eq_false h4, Bool.false_and] at k2
      exact iteA (decide_eq_true (by rw [List.length_map, List.length_cons]; omega)) k2
    refine iteB (decide_eq_false (by rw [List.length_map, List.length_cons]; omega)) ?_
    refine ⟨_, rfl, p, _, _, V.str ((toString (b : Int) : String) : Str), rfl, rfl, SqL.of hp2, atI_zero _ _, b, rfl, by omega, (b : Int), rfl, SIG, rfl, by decide +kernel, ?_⟩
    rw [show Txt.slice SIG none (some (b : Int)) = SB b from rfl]
    refine ⟨(by show 0 ≤ sizeLine; decide), fun fo hfo => ?_⟩
    have s3 := same_upd hfo (o := .lst [])
    have hfo3 : upd H2 fo (.lst []) fo = some (.lst []) := upd_same
    have nfo : H fo = none := s12.free hfo
    have hp3 := s3 _ _ hp2
    have s13 := s12.trans s3
    have nop : fo ≠ p := Ne.symm (ne_of_none hp2 hfo)
    generalize upd H2 fo (.lst []) = H3 at s3 hfo3 hp3 s13
    refine ⟨_, rfl, _, rfl, p, _, rfl, SqL.of hp3, fun q hq => ?_⟩
    rw [List.map_cons, cutV_one]
    have s4 := same_upd hq (o := .lst (ws.map V.str))
    have hq4 : upd H3 q (.lst (ws.map V.str)) q = some (.lst (ws.map V.str)) := upd_same
    have hfo4 := s4 _ _ hfo3
    have noq : fo ≠ q := ne_of_none hfo3 hq
    have s14 := s13.trans s4
    generalize upd H3 q (.lst (ws.map V.str)) = H5 at s4 hq4 hfo4 s14
    refine ⟨q, rfl, ⟨_, SqL.of hq4⟩, for_list (K := K) (a := q) (xs := ws.map V.str) (fun i σ H6 => ∃ (v4 v5 : Option V) (zs : List (Addr × List Int)), σ = [some (.str z), some (.ref p), some (.str (SB b)), some (.ref fo), v4, v5] ∧ Same H H6 ∧ H6 q = some (.lst (ws.map V.str)) ∧ H6 fo = some (.lst (zs.map fun z => V.ref z.1)) ∧ (∀ z ∈ zs, z.1 ≠ fo ∧ H6 z.1 = some (.lst (z.2.map V.int))) ∧ zs.map (·.2) = (ws.take i).map fsOf ∧ (∀ w ∈ ws.take i, inB b w = true ∧ 1 ≤ w.length ∧ w.length ≤ 4)) ⟨_, _, [], rfl, s14, hq4, hfo4, (fun z hz => by cases hz), rfl, (fun w hw => by cases hw)⟩ (fun i σ H6 _ ⟨_, _, _, _, _, h, _⟩ => SqL.of h) ?_ ?_⟩
    · rintro j x σ H6 hx ⟨v4, v5, zs, rfl, m6, hq6, hf6, hz6, ez, gw⟩
      rw [List.getElem?_map] at hx
      obtain ⟨w1, hwj, e⟩ := Option.map_eq_some_iff.mp hx
      subst e
      have hwm := List.mem_of_getElem? hwj
      have hj : j < ws.length := (List.getElem?_eq_some_iff.mp hwj).1
      have ha1 := hasc _ (List.mem_cons_of_mem _ hwm)
      have hl1 : w1.length ≤ 1000 := Nat.le_trans (hsh _ (List.mem_cons_of_mem _ hwm)) hl
      have hl1' : w1.cps.toList.length ≤ 1000 := by rw [← cps_size]; exact hl1
      have bad : stretchT b (wD w1) = false → badT b (.list (ws.map wD)) = false := fun h => by
        rw [badT_list]
        have : (ws.map wD).all (stretchT b) = false := by
          rw [List.all_eq_false]
          exact ⟨wD w1, List.mem_map.mpr ⟨w1, hwm, rfl⟩, by rw [h]; decide⟩
        rw [this, Bool.false_and, Bool.and_false]
      rw [stretch_wD] at bad
      refine ⟨_, rfl, w1, rfl, Nat.le_trans hl1 (by decide), _, _, rfl, rfl, _, rfl, ?_⟩
      by_cases h1 : 1 ≤ w1.length
      case neg =>
        have k2 := kk H6 m6
        rw [bad (by rw [decide_eq_false (fun z => h1 z.1), Bool.and_false])] at k2
        exact iteB (decide_eq_false (by omega)) ⟨_, rfl, iteT (iteT k2)⟩
      refine iteA (decide_eq_true (by omega)) ⟨_, _, rfl, rfl, _, rfl, ?_⟩
      by_cases h5 : w1.length ≤ 4
      case neg =>
        have k2 := kk H6 m6
        rw [bad (by rw [decide_eq_false (fun z => h5 z.2), Bool.and_false])] at k2
        rw [decide_eq_false (show ¬ (w1.length : Int) ≤ 4 by omega)]
        exact iteT (iteT k2)
      rw [decide_eq_true (show (w1.length : Int) ≤ 4 by omega)]
      refine iteF ?_
      refine ⟨_, rfl, w1, rfl, ha1, comp_str (z := w1) (fun i ys H7 => H7 = H6 ∧ ys = (offB b (w1.cps.toList.take i)).map V.str) ⟨rfl, rfl⟩ ?_ ?_⟩
      · rintro i c ys H7 hc ⟨rfl, rfl⟩
        refine ⟨?_, ?_⟩
        · rw [List.length_map]
          unfold offB
          rw [List.length_map]
          exact Nat.lt_of_le_of_lt (Nat.le_trans (List.length_filter_le _ _) (Nat.le_trans (List.length_take_le' _ _) hl1')) (by decide)
        refine ⟨_, rfl, _, rfl, _, _, rfl, rfl, _, rfl, ?_⟩
        rw [occ_SB b16 (ha1.at hc), List.take_succ, cps_at hc]
        cases hx : ixb b c with
        | none =>
          rw [if_pos (by rfl)]
          refine ⟨_, rfl, rfl, ?_⟩
          unfold offB
          simp [hx]
        | some g =>
          rw [if_neg (by simp)]
          refine ⟨rfl, ?_⟩
          unfold offB
          simp [hx]
      rintro ys H7 ⟨rfl, rfl⟩ Dd hD
      rw [cps_size, List.take_length]
      have t1 := same_upd hD (o := .lst ((offB b w1.cps.toList).map V.str))
      have hD1 : upd H7 Dd (.lst ((offB b w1.cps.toList).map V.str)) Dd = some (.lst ((offB b w1.cps.toList).map V.str)) := upd_same
      generalize upd H7 Dd (.lst ((offB b w1.cps.toList).map V.str)) = H8 at t1 hD1
      refine ⟨(by show 0 ≤ sizeLine; decide), fun le hle => ?_⟩
      have t2 := same_upd hle (o := .lst [])
      refine ⟨.lst ((offB b w1.cps.toList).map Tr.str), .lst [], by rw [TrAt]; exact ⟨Dd, _, rfl, SqL.of (t2 _ _ hD1), TrsAt.strs⟩, by rw [TrAt]; exact ⟨le, _, rfl, SqL.of upd_same, by rw [TrsAt]⟩, ?_, _, rfl, ?_⟩
      · have := tdeps_strs (offB b w1.cps.toList); simp only [tdep]; omega
      rw [if_pos rfl, teq_nilS, offB_nil]
      have t12 := t1.trans t2
      generalize upd H8 le (.lst []) = H9 at t2 t12
      cases hb : inB b w1 with
      | false =>
        have k2 := kk H9 (m6.trans t12)
        rw [bad (by rw [hb, Bool.false_and])] at k2
        exact iteT k2
      | true =>
        refine iteF ?_
        have hf9 := t12 _ _ hf6
        refine ⟨_, rfl, .inl ⟨rfl, _, SqL.of hf9⟩, _, rfl, w1, rfl, ha1, comp_str (z := w1) (fun i ys H10 => H10 = H9 ∧ ys = ((w1.cps.toList.take i).map fun c => (((ix c).getD 0 : Nat) : Int)).map V.int) ⟨rfl, rfl⟩ ?_ ?_⟩
        · rintro i c ys H10 hc ⟨rfl, rfl⟩
          refine ⟨by rw [List.length_map, List.length_map]; exact Nat.lt_of_le_of_lt (Nat.le_trans (List.length_take_le' _ _) hl1') (by decide), ?_⟩
          unfold tYes
          dsimp only
          rw [if_pos rfl]
          obtain ⟨g, hg⟩ : ∃ g, ixb b c = some g := by
            have hb := hb
            unfold inB at hb
            rw [List.all_eq_true] at hb
            exact Option.isSome_iff_exists.mp (hb c (List.mem_of_getElem? (cps_at hc)))
          refine ⟨_, rfl, rfl, _, rfl, _, _, g, [], rfl, rfl, by rw [occ_SB b16 (ha1.at hc), hg]; rfl, rfl, ?_⟩
          rw [List.take_succ, cps_at hc]
          simp [(ixb_some.mp hg).1]
        rintro ys H10 ⟨rfl, rfl⟩ nl hnl
        rw [cps_size, List.take_length, show (w1.cps.toList.map fun c => (((ix c).getD 0 : Nat) : Int)) = fsOf w1 from rfl]
        have t3 := same_upd hnl (o := .lst ((fsOf w1).map V.int))
        have hnl3 : upd H10 nl (.lst ((fsOf w1).map V.int)) nl = some (.lst ((fsOf w1).map V.int)) := upd_same
        have hf10 := t3 _ _ hf9
        have nnf : nl ≠ fo := Ne.symm (ne_of_none hf9 hnl)
        have t13 := t12.trans t3
        generalize upd H10 nl (.lst ((fsOf w1).map V.int)) = H11 at t3 hnl3 hf10 t13
        have zl : zs.length = j := by
          have := congrArg List.length ez
          rw [List.length_map, List.length_map, List.length_take] at this
          omega
        refine ⟨fo, _, _, rfl, rfl, hf10, by rw [List.length_map]; exact Nat.lt_of_le_of_lt (show zs.length ≤ 4 by omega) (by decide), ?_⟩
        refine ⟨_, _, zs ++ [(nl, fsOf w1)], rfl, fun c o e => ?_, ?_, ?_, fun y hy => ?_, ?_, fun y hy => ?_⟩
        · rw [upd_ne (Ne.symm (fun z => by rw [← z, nfo] at e; cases e))]
          exact t13 _ _ (m6 _ _ e)
        · rw [upd_ne (Ne.symm noq)]
          exact t13 _ _ hq6
        · rw [upd_same]; simp
        · rcases List.mem_append.mp hy with hy | hy
          · exact ⟨(hz6 y hy).1, by rw [upd_ne (hz6 y hy).1]; exact t13 _ _ (hz6 y hy).2⟩
          · have e : y = (nl, fsOf w1) := by simpa using hy
            subst e
            exact ⟨nnf, by rw [upd_ne nnf]; exact hnl3⟩
        · rw [List.map_append, ez, List.take_succ, hwj]; simp
        · rw [List.take_succ, hwj] at hy
          rcases List.mem_append.mp hy with hy | hy
          · exact gw y hy
          · have e : y = w1 := by simpa using hy
            subst e
            exact ⟨hb, h1, h5⟩
    · rintro σ H6 ⟨v4, v5, zs, rfl, m6, hq6, hf6, hz6, ez, gw⟩
      rw [List.length_map, List.take_length] at ez
      rw [List.length_map, List.take_length] at gw
      have zl : zs.length ≤ 4 := by
        have := congrArg List.length ez
        rw [List.length_map, List.length_map] at this
        omega
      have eB : badT b (.list (ws.map wD)) = risingL (zs.map (·.2)) := by
        rw [badT_list, List.length_map, decide_eq_true h4, Bool.true_and, show (ws.map wD).all (stretchT b) = true from ?_, Bool.true_and, List.map_map, ez]
        · refine congrArg risingL (List.map_congr_left fun w hw => ?_)
          show intsT (wD w) = fsOf w
          unfold wD
          rw [if_pos (inB_iff.mp (gw w hw).1).1, intsL]
        · rw [List.all_map, List.all_eq_true]
          intro w hw
          show stretchT b (wD w) = true
          rw [stretch_wD, (gw w hw).1, decide_eq_true (gw w hw).2]; rfl
      rw [eB] at kk
      clear eB ez gw
      have tz : TrsAt K H6 ((zs.map (·.2)).map tInts) (zs.map fun z => V.ref z.1) := TrsAt.lists fun z hz => (hz6 z hz).2
      refine ⟨_, rfl, fo, rfl, ⟨_, SqL.of hf6⟩, comp_list (K := K) (a := fo) (xs := zs.map fun z => V.ref z.1) (fun i ys H7 => H7 = H6 ∧ ys = ((zs.take i).filter fun z => decide (1 < (zs.map (·.2)).count z.2)).map fun z => V.ref z.1) ⟨rfl, rfl⟩ (fun i ys H7 _ ⟨e, _⟩ => by rw [e]; exact SqL.of hf6) ?_ ?_⟩
      · rintro j x ys H7 hx ⟨rfl, rfl⟩
        rw [List.getElem?_map] at hx
        obtain ⟨y, hyj, e⟩ := Option.map_eq_some_iff.mp hx
        subst e
        have hym := List.mem_of_getElem? hyj
        refine ⟨by rw [List.length_map]; exact Nat.lt_of_le_of_lt (Nat.le_trans (List.length_filter_le _ _) (Nat.le_trans (List.length_take_le' _ _) zl)) (by decide), ?_⟩
        refine ⟨_, rfl, .inl ⟨rfl, _, SqL.of hf6⟩, _, rfl, fo, _, _, _, tInts y.2, rfl, rfl, SqL.of hf6, tz, TrAt.ints (SqL.of (hz6 y hym).2), Nat.le_trans (tdeps_tInts _) (by decide), _, _, rfl, rfl, _, rfl, ?_⟩
        rw [cnt_lists, List.take_succ, hyj]
        by_cases hc : 1 < (zs.map (·.2)).count y.2
        · rw [decide_eq_true (show (((zs.map (·.2)).count y.2 : Nat) : Int) > 1 by omega)]
          refine iteT ⟨_, rfl, rfl, ?_⟩
          simp [hc]
        · rw [decide_eq_false (show ¬ (((zs.map (·.2)).count y.2 : Nat) : Int) > 1 by omega)]
          refine iteF ⟨rfl, ?_⟩
          simp [hc]
      rintro ys H7 ⟨rfl, rfl⟩ tw htw
      rw [List.length_map, List.take_length]
      have t1 := same_upd htw (o := .lst ((zs.filter fun z => decide (1 < (zs.map (·.2)).count z.2)).map fun z => V.ref z.1))
      have htw1 : upd H7 tw (.lst ((zs.filter fun z => decide (1 < (zs.map (·.2)).count z.2)).map fun z => V.ref z.1)) tw = some (.lst ((zs.filter fun z => decide (1 < (zs.map (·.2)).count z.2)).map fun z => V.ref z.1)) := upd_same
      generalize upd H7 tw (.lst ((zs.filter fun z => decide (1 < (zs.map (·.2)).count z.2)).map fun z => V.ref z.1)) = H8 at t1 htw1
      refine ⟨_, rfl, _, rfl, fo, zs, rfl, SqL.of (t1 _ _ hf6), zl, fun y hy => SqL.of (t1 _ _ (hz6 y hy).2), fun so zs' hso pm pw => ?_⟩
      have t2 := same_upd hso (o := .lst (zs'.map fun z => V.ref z.1))
      have hz8 : ∀ y ∈ zs, upd H8 so (.lst (zs'.map fun z => V.ref z.1)) y.1 = some (.lst (y.2.map V.int)) := fun y hy => t2 _ _ (t1 _ _ (hz6 y hy).2)
      have hso2 : upd H8 so (.lst (zs'.map fun z => V.ref z.1)) so = some (.lst (zs'.map fun z => V.ref z.1)) := upd_same
      have t12 := t1.trans t2
      have htw2 := t2 _ _ htw1
      generalize upd H8 so (.lst (zs'.map fun z => V.ref z.1)) = H9 at t2 hz8 hso2 t12 htw2
      refine ⟨.lst ((zs.map (·.2)).map tInts), .lst ((zs'.map (·.2)).map tInts), by rw [TrAt]; exact ⟨fo, _, rfl, SqL.of (t12 _ _ hf6), TrsAt.lists hz8⟩, by rw [TrAt]; exact ⟨so, _, rfl, SqL.of hso2, TrsAt.lists fun y hy => hz8 y (pm.mem_iff.mp hy)⟩, ?_, _, rfl, ?_⟩
      · have := tdeps_tInts (zs.map (·.2)); simp only [tdep]; omega
      simp only [Bool.false_eq_true, if_false]
      rw [teq_lists]
      have k9 := kk H9 (m6.trans t12)
      by_cases es : zs.map (·.2) = zs'.map (·.2)
      case neg =>
        rw [decide_eq_false es]
        have : risingL (zs.map (·.2)) = false := by
          rw [Bool.eq_false_iff]
          intro hr
          have hp := rise_pair hr
          have nd := pair_nodup hp
          exact es (up_same hp (List.pairwise_map.mpr (pw nd)) fun x => ((pm.map (·.2)).mem_iff).symm)
        rw [this] at k9
        exact iteF k9
      rw [decide_eq_true es]
      refine iteT ?_
      refine ⟨_, rfl, (by show 0 ≤ sizeLine; decide), fun le hle => ?_⟩
      have t3 := same_upd hle (o := .lst [])
      refine ⟨.lst (((zs.filter fun z => decide (1 < (zs.map (·.2)).count z.2)).map (·.2)).map tInts), .lst [], by rw [TrAt]; exact ⟨tw, _, rfl, SqL.of (t3 _ _ htw2), TrsAt.lists fun y hy => t3 _ _ (hz8 y ((List.mem_filter.mp hy).1))⟩, by rw [TrAt]; exact ⟨le, _, rfl, SqL.of upd_same, by rw [TrsAt]⟩, ?_, ?_⟩
      · have := tdeps_tInts ((zs.filter fun z => decide (1 < (zs.map (·.2)).count z.2)).map (·.2)); simp only [tdep]; omega
      rw [if_neg (by decide), teq_nilS]
      have k10 := kk _ ((m6.trans t12).trans t3)
      have e : decide ((((zs.filter fun z => decide (1 < (zs.map (·.2)).count z.2)).map (·.2)).map tInts) = []) = risingL (zs.map (·.2)) := by
        rw [Bool.eq_iff_iff, decide_eq_true_iff, List.map_eq_nil_iff, List.map_eq_nil_iff, List.filter_eq_nil_iff]
        constructor
        · intro h
          have nd : (zs.map (·.2)).Nodup := List.nodup_iff_count.mpr fun l => by
            by_cases hl : l ∈ zs.map (·.2)
            · obtain ⟨y, hy, rfl⟩ := List.mem_map.mp hl
              have := h y hy
              simp only [decide_eq_true_eq] at this
              omega
            · rw [List.count_eq_zero.mpr hl]; omega
          refine pair_rise ?_
          rw [es]
          exact List.pairwise_map.mpr (pw nd)
        · intro hr y hy hc
          have := List.nodup_iff_count.mp (pair_nodup (rise_pair hr)) y.2
          have hc := of_decide_eq_true hc
          omega
      rw [e]
      exact k10
end
end Lw
set_option Elab.async false
set_option linter.all false
set_option maxRecDepth 100000
namespace Lw
open PySem L2 PyProof.Rows
def okV : V → Bool
  | .str z => z.cps.all (· < 128) && decide (z.length ≤ 100)
  | _ => false
def GdS (zs : List Str) : Prop := (∀ z ∈ zs, Asc z ∧ z.length ≤ 100) ∧ 1 ≤ zs.length
theorem okV_all : ∀ {xs : List V}, xs.all okV = true → ∃ zs : List Str, xs = zs.map V.str ∧ ∀ z ∈ zs, Asc z ∧ z.length ≤ 100
  | [], _ => ⟨[], rfl, (fun z hz => by cases hz)⟩
  | x :: xs, h => by
    rw [List.all_cons, Bool.and_eq_true] at h
    obtain ⟨zs, rfl, hz⟩ := okV_all h.2
    cases x with
    | str z =>
      have h1 := h.1
      unfold okV at h1
      rw [Bool.and_eq_true] at h1
      refine ⟨z :: zs, rfl, fun y hy => ?_⟩
      rcases List.mem_cons.mp hy with rfl | hy
      · exact ⟨h1.1, of_decide_eq_true h1.2⟩
      · exact hz y hy
    | _ => cases h.1
theorem lit_of {H H' : Hp} {xs : List V} {a : Addr} (hu : upd H a (.lst xs) = H') (ha : H a = none) (hx : xs.all okV = true) (hn : (!xs.isEmpty && decide (xs.length ≤ 20)) = true) : ∃ zs : List Str, H' a = some (.lst (zs.map V.str)) ∧ GdS zs ∧ zs.length ≤ 20 ∧ Same H H' := by
  obtain ⟨zs, rfl, hz⟩ := okV_all hx
  rw [← hu]
  rw [Bool.and_eq_true, List.length_map] at hn
  refine ⟨zs, upd_same, ⟨hz, ?_⟩, of_decide_eq_true hn.2, same_upd ha⟩
  cases zs with
  | nil => cases hn.1
  | cons _ _ => rw [List.length_cons]; omega
theorem cat_of {H H' : Hp} {xs ys : List Str} {a : Addr} (hu : upd H a (.lst (xs.map V.str ++ ys.map V.str)) = H') (ha : H a = none) (gx : GdS xs) (gy : GdS ys) : ∃ zs : List Str, H' a = some (.lst (zs.map V.str)) ∧ GdS zs ∧ zs.length = xs.length + ys.length ∧ Same H H' := by
  rw [← List.map_append] at hu
  rw [← hu]
  refine ⟨xs ++ ys, upd_same, ⟨fun z hz => ?_, ?_⟩, List.length_append, same_upd ha⟩
  · rcases List.mem_append.mp hz with hz | hz
    · exact gx.1 z hz
    · exact gy.1 z hz
  · rw [List.length_append]; have := gx.2; omega
theorem pick_str {c : Nat} {zs : List Str} (h : 1 ≤ zs.length) : ∃ z ∈ zs, atI (zs.map V.str) ((c : Int) % ((zs.map V.str).length : Nat)) = some (.str z) := by
  have hl : c % zs.length < zs.length := Nat.mod_lt _ (by omega)
  refine ⟨zs[c % zs.length], List.getElem_mem hl, ?_⟩
  rw [List.length_map, show ((c : Int) % (zs.length : Nat)) = ((c % zs.length : Nat) : Int) from rfl]
  exact atI_nat (by rw [List.getElem?_map, List.getElem?_eq_getElem hl]; rfl)
theorem len_line {x y n : Nat} (h : x + y ≤ n) (hn : n ≤ 1000) : x + y ≤ sizeLine := Nat.le_trans h (Nat.le_trans hn (by decide))
section
variable {P : Program} {w : World} {K : PySem.W.Frag} {mg : Str → Option Value} {base : Heap}
def sp__law_odd : Sp := fun vs H Q _ => ∃ c : Nat, vs = [.int c] ∧ ∀ (z : Str) (H' : Hp), Asc z → z.length ≤ 100 → Same H H' → Q (.str z) H'
theorem sc__law_odd : FnScope ["cell", "some"] ["cell"] (defScope s__law_odd) := ⟨rfl, rfl, rfl, by decide +kernel, rfl, by decide +kernel, by decide +kernel⟩
set_option maxHeartbeats 4000000 in
theorem ok__law_odd {f : Addr} {fd : FuncData} (D : Df K mg "_law_odd" s__law_odd ["cell"] f fd) (T : Blt mg) : FnOk P w K mg base CX0 1 f fd ["cell"] sp__law_odd := by
  refine D.fn.ok sc__law_odd (fun vs H Q E h => ?_) (fun cdv A outer s H vs Q E hr h => ?_)
  · obtain ⟨c, rfl, _⟩ := h; rfl
  · obtain ⟨c, rfl, kk⟩ := h
    refine ⟨_, (PSsI.o (pssI_set (i := 1) sc__law_odd.nd rfl (Or.inl rfl) (pai_str (pai_str (pai_str (pai_str (pai_str (pai_str (pai_str (pai_str (pai_str pai_nil)))))))))
      (pss_cons (ps_set (i := 1) sc__law_odd.nd rfl (Or.inl rfl) (pe_opJ op_cat (pv 1) (pei_lst (pai_str (pai_str (pai_str (pai_str (pai_str (pai_str (pai_str (pai_str (pai_str pai_nil))))))))))))
      (pss_cons (ps_set (i := 1) sc__law_odd.nd rfl (Or.inl rfl) (pe_opJ op_cat (pv 1) (pei_lst (pai_str (pai_str (pai_str (pai_str (pai_str (pai_str (pai_str (pai_str pai_nil)))))))))))
      (pss_cons (ps_set (i := 1) sc__law_odd.nd rfl (Or.inl rfl) (pe_opJ op_cat (pv 1) (pei_lst (pai_str (pai_str (pai_str (pai_str (pai_str (pai_str (pai_str pai_nil))))))))))
      (pss_cons (ps_set (i := 1) sc__law_odd.nd rfl (Or.inl rfl) (pe_opJ op_cat (pv 1) (pei_lst (pai_str (pai_str (pai_str (pai_str (pai_str (pai_str pai_nil)))))))))
      (pss_cons (ps_set (i := 1) sc__law_odd.nd rfl (Or.inl rfl) (pe_opJ op_cat (pv 1) (pei_lst (pai_str (pai_str (pai_str (pai_str (pai_str (pai_str pai_nil)))))))))
      (pss_cons (ps_set (i := 1) sc__law_odd.nd rfl (Or.inl rfl) (pe_opJ op_cat (pv 1) (pei_lst (pai_str (pai_str (pai_str (pai_str (pai_str (pai_str (pai_str (pai_str (pai_str (pai_str pai_nil)))))))))))))
      (pss_cons (ps_set (i := 1) sc__law_odd.nd rfl (Or.inl rfl) (pe_opJ op_cat (pv 1) (pei_lst (pai_str (pai_str (pai_str (pai_str (pai_str (pai_str (pai_str (pai_str (pai_str pai_nil))))))))))))
      (pss_one (ps_ret (pe_ix (k_ixL K) (pv 1) (pe_op op_mod (pv 0) (pe_callB (k_len K) (by rfl) T.n_len PySem.boot_len (pa_cons (pv 1) pa_nil))) (fun _ _ => rfl))))))))))))), ?_⟩
    refine ⟨(by decide), fun a0 ha0 => ?_⟩
    generalize hu0 : upd H a0 (.lst _) = H0
    obtain ⟨z0, h0, g0, l0, s0⟩ := lit_of hu0 ha0 (by decide +kernel) (by decide +kernel)
    clear hu0
    refine ⟨_, rfl, (by decide), fun b1 hb1 => ?_⟩
    generalize hv1 : upd H0 b1 (.lst _) = J1
    obtain ⟨y1, i1, f1, m1, t1⟩ := lit_of hv1 hb1 (by decide +kernel) (by decide +kernel)
    clear hv1
    refine ⟨a0, b1, _, _, rfl, rfl, t1 _ _ h0, i1, by rw [List.length_map, List.length_map]; exact len_line (n := 40) (by omega) (by decide), fun a1 ha1 => ?_⟩
    generalize hu1 : upd J1 a1 (.lst _) = H1
    obtain ⟨z1, h1, g1, l1, s1⟩ := cat_of hu1 ha1 g0 f1
    clear hu1
    have s1 := s0.trans (t1.trans s1)
    refine ⟨_, rfl, (by decide), fun b2 hb2 => ?_⟩
    generalize hv2 : upd H1 b2 (.lst _) = J2
    obtain ⟨y2, i2, f2, m2, t2⟩ := lit_of hv2 hb2 (by decide +kernel) (by decide +kernel)
    clear hv2
    refine ⟨a1, b2, _, _, rfl, rfl, t2 _ _ h1, i2, by rw [List.length_map, List.length_map]; exact len_line (n := 60) (by omega) (by decide), fun a2 ha2 => ?_⟩
    generalize hu2 : upd J2 a2 (.lst _) = H2
    obtain ⟨z2, h2, g2, l2, s2⟩ := cat_of hu2 ha2 g1 f2
    clear hu2
    have s2 := s1.trans (t2.trans s2)
    refine ⟨_, rfl, (by decide), fun b3 hb3 => ?_⟩
    generalize hv3 : upd H2 b3 (.lst _) = J3
    obtain ⟨y3, i3, f3, m3, t3⟩ := lit_of hv3 hb3 (by decide +kernel) (by decide +kernel)
    clear hv3
    refine ⟨a2, b3, _, _, rfl, rfl, t3 _ _ h2, i3, by rw [List.length_map, List.length_map]; exact len_line (n := 80) (by omega) (by decide), fun a3 ha3 => ?_⟩
    generalize hu3 : upd J3 a3 (.lst _) = H3
    obtain ⟨z3, h3, g3, l3, s3⟩ := cat_of hu3 ha3 g2 f3
    clear hu3
    have s3 := s2.trans (t3.trans s3)
    refine ⟨_, rfl, (by decide), fun b4 hb4 => ?_⟩
    generalize hv4 : upd H3 b4 (.lst _) = J4
    obtain ⟨y4, i4, f4, m4, t4⟩ := lit_of hv4 hb4 (by decide +kernel) (by decide +kernel)
    clear hv4
    refine ⟨a3, b4, _, _, rfl, rfl, t4 _ _ h3, i4, by rw [List.length_map, List.length_map]; exact len_line (n := 100) (by omega) (by decide), fun a4 ha4 => ?_⟩
    generalize hu4 : upd J4 a4 (.lst _) = H4
    obtain ⟨z4, h4, g4, l4, s4⟩ := cat_of hu4 ha4 g3 f4
    clear hu4
    have s4 := s3.trans (t4.trans s4)
    refine ⟨_, rfl, (by decide), fun b5 hb5 => ?_⟩
    generalize hv5 : upd H4 b5 (.lst _) = J5
    obtain ⟨y5, i5, f5, m5, t5⟩ := lit_of hv5 hb5 (by decide +kernel) (by decide +kernel)
    clear hv5
    refine ⟨a4, b5, _, _, rfl, rfl, t5 _ _ h4, i5, by rw [List.length_map, List.length_map]; exact len_line (n := 120) (by omega) (by decide), fun a5 ha5 => ?_⟩
    generalize hu5 : upd J5 a5 (.lst _) = H5
    obtain ⟨z5, h5, g5, l5, s5⟩ := cat_of hu5 ha5 g4 f5
    clear hu5
    have s5 := s4.trans (t5.trans s5)
    refine ⟨_, rfl, (by decide), fun b6 hb6 => ?_⟩
    generalize hv6 : upd H5 b6 (.lst _) = J6
    obtain ⟨y6, i6, f6, m6, t6⟩ := lit_of hv6 hb6 (by decide +kernel) (by decide +kernel)
    clear hv6
    refine ⟨a5, b6, _, _, rfl, rfl, t6 _ _ h5, i6, by rw [List.length_map, List.length_map]; exact len_line (n := 140) (by omega) (by decide), fun a6 ha6 => ?_⟩
    generalize hu6 : upd J6 a6 (.lst _) = H6
    obtain ⟨z6, h6, g6, l6, s6⟩ := cat_of hu6 ha6 g5 f6
    clear hu6
    have s6 := s5.trans (t6.trans s6)
    refine ⟨_, rfl, (by decide), fun b7 hb7 => ?_⟩
    generalize hv7 : upd H6 b7 (.lst _) = J7
    obtain ⟨y7, i7, f7, m7, t7⟩ := lit_of hv7 hb7 (by decide +kernel) (by decide +kernel)
    clear hv7
    refine ⟨a6, b7, _, _, rfl, rfl, t7 _ _ h6, i7, by rw [List.length_map, List.length_map]; exact len_line (n := 160) (by omega) (by decide), fun a7 ha7 => ?_⟩
    generalize hu7 : upd J7 a7 (.lst _) = H7
    obtain ⟨z7, h7, g7, l7, s7⟩ := cat_of hu7 ha7 g6 f7
    clear hu7
    have s7 := s6.trans (t7.trans s7)
    refine ⟨_, rfl, _, rfl, _, rfl, a7, _, rfl, .inl (SqL.of h7), _, _, rfl, rfl, ?_⟩
    have hpos := g7.2
    obtain ⟨z, hz, hat⟩ := pick_str (c := c) hpos
    refine ⟨by rw [List.length_map]; omega, a7, _, _, V.str z, rfl, rfl, SqL.of h7, hat, ?_⟩
    exact kk z H7 (g7.1 z hz).1 (g7.1 z hz).2 s7
end
end Lw
set_option Elab.async false
set_option linter.all false
set_option maxRecDepth 100000
namespace Lw
open PySem L2 PyProof.Rows
theorem ite_any {c : Bool} {A B : Prop} (h1 : A) (h2 : B) : if c = true then A else B := by
  cases c
  · exact iteF h2
  · exact iteT h1
theorem slice_to_len {z : Str} {j : Int} (h0 : 0 ≤ j) (h1 : j ≤ z.length) : ((Txt.slice z none (some j)).length : Int) ≤ j := by
  have e := eq_of_beq (PyProof.Rows.slice_closes_to (x := z) (j := j) ⟨h0, by rw [Array.length_toList]; exact h1⟩)
  rw [e]
  show (((List.take _ _).toArray.size : Nat) : Int) ≤ j
  rw [List.size_toArray, List.length_take]
  omega
theorem slice_from_len {z : Str} {i : Int} (h0 : 0 ≤ i) : ((Txt.slice z (some i) none).length : Int) ≤ max 0 (z.length - i) := by
  by_cases h : i ≤ z.length
  · rw [PyProof.Rows.slice_from_eq h0 h rfl]
    show (((List.take _ _).toArray.size : Nat) : Int) ≤ _
    rw [List.size_toArray, List.length_take]
    omega
  · rw [PyProof.Rows.slice_beyond (by omega)]
    show ((Str.empty.length : Nat) : Int) ≤ _
    rw [show Str.empty.length = 0 from rfl]
    omega
theorem wr_short {b : Nat} {ls : List (List Int)} (g : GoodRule b ls) : (wr b ls).length ≤ 35 := by
  have h : ∀ (l : List Str), (∀ x ∈ l, x.length ≤ 6) → (Str.join " " l).length ≤ 7 * l.length := by
    intro l
    induction l with
    | nil => intro _; decide +kernel
    | cons x l ih =>
      intro hx
      cases l with
      | nil => have := hx x List.mem_cons_self; show x.length ≤ _; rw [List.length_singleton]; omega
      | cons y l =>
        rw [Str.join, Str.length_append, Str.length_append, show (Str.length " ") = 1 from by decide +kernel]
        · have h1 := hx x List.mem_cons_self
          have h2 := ih fun z hz => hx z (List.mem_cons_of_mem _ hz)
          rw [List.length_cons]
          omega
        · intro z; cases z
  have h1 := h _ (wds_short g)
  have h2 := g.len
  have h3 : (wds b ls).length ≤ 5 := by unfold wds; rw [List.length_cons, List.length_map]; omega
  show (Txt.join " " (wds b ls)).length ≤ 35
  rw [show Txt.join " " (wds b ls) = _ from StrLaws.glued_eq_join _ _]
  omega
theorem wr_asc {b : Nat} {ls : List (List Int)} (g : GoodRule b ls) : Asc (wr b ls) := asc_join (by unfold Asc; decide +kernel) fun x hx => by
  rcases List.mem_cons.mp hx with rfl | hx
  · exact asc_txt (okF_figs (by decide) (by decide))
  · obtain ⟨l, hl, rfl⟩ := List.mem_map.mp hx
    exact asc_txt (g.okF hl)
section
variable {P : Program} {w : World} {K : PySem.W.Frag} {mg : Str → Option Value} {base : Heap}
def sp__law_given : Sp := fun vs H Q _ => ∃ c : Nat, vs = [.int c] ∧ ∀ (z : Str) (H' : Hp), Asc z → z.length ≤ 210 → Same H H' → Q (.str z) H'
theorem sc__law_given : FnScope ["cell", "kind", "rule", "text", "long", "signs", "at", "sign"] ["cell"] (defScope s__law_given) := ⟨rfl, rfl, rfl, by decide +kernel, rfl, by decide +kernel, by decide +kernel⟩
set_option maxHeartbeats 4000000 in
theorem ok__law_given {f f1 f2 f3 f4 f5 f6 : Addr} {fd fd1 fd2 fd3 fd4 fd5 fd6 : FuncData} (D : Df K mg "_law_given" s__law_given ["cell"] f fd) (D_law_odd : Df K mg "_law_odd" s__law_odd ["cell"] f1 fd1) (D_law_rule : Df K mg "_law_rule" s__law_rule ["cell"] f2 fd2) (D_law_mixed : Df K mg "_law_mixed" s__law_mixed ["cell", "k"] f3 fd3) (D_law_text : Df K mg "_law_text" s__law_text ["figures"] f4 fd4) (D_law_figures : Df K mg "_law_figures" s__law_figures ["base", "n"] f5 fd5) (D_law_number : Df K mg "_law_number" s__law_number ["cell", "k"] f6 fd6) (T : Blt mg) (U : Blt2 mg) : FnOk P w K mg base CX0 3 f fd ["cell"] sp__law_given := by
  have G_law_odd : FnOk P w K mg base CX0 1 f1 fd1 ["cell"] sp__law_odd := ok__law_odd D_law_odd T
  have G_law_rule : FnOk P w K mg base CX0 2 f2 fd2 ["cell"] sp__law_rule := ok__law_rule D_law_rule D_law_mixed T
  have G_law_mixed : FnOk P w K mg base CX0 1 f3 fd3 ["cell", "k"] sp__law_mixed := ok__law_mixed D_law_mixed
  have G_law_text : FnOk P w K mg base CX0 1 f4 fd4 ["figures"] sp__law_text := ok__law_text D_law_text
  have G_law_figures : FnOk P w K mg base CX0 1 f5 fd5 ["base", "n"] sp__law_figures := ok__law_figures D_law_figures
  have G_law_number : FnOk P w K mg base CX0 2 f6 fd6 ["cell", "k"] sp__law_number := ok__law_number D_law_number D_law_mixed
  refine D.fn.ok sc__law_given (fun vs H Q E h => ?_) (fun cdv A outer s H vs Q E hr h => ?_)
  · obtain ⟨c, rfl, _⟩ := h; rfl
  · obtain ⟨c, rfl, kk⟩ := h
    refine ⟨_, (pss_cons (ps_set (i := 1) sc__law_given.nd rfl (Or.inl rfl) (pe_op op_mod (pv 0) pe_int))
      (pss_cons (ps_if (pt_cmpR op_eq (pv 1) pe_int (nomark _))
        (pss_one (ps_ret (pcall D_law_odd G_law_odd (hr.mono (by decide)) (pa_cons (pe_op op_fdivB (pv 0) pe_int) pa_nil))))
        pss_nil)
      (pss_cons (ps_set (i := 2) sc__law_given.nd rfl (Or.inr rfl) (pcall D_law_rule G_law_rule (hr.mono (by decide)) (pa_cons (pcall D_law_mixed G_law_mixed (hr.mono (by decide)) (pa_cons (pv 0) (pa_cons pe_int pa_nil))) pa_nil)))
      (pss_cons (ps_set (i := 3) sc__law_given.nd rfl (Or.inl rfl) (k_bm K PySem.F.plainAttrs_str PySem.F.slot_str_join PySem.F.type_str_join (k_join K) pe_str (pa_cons (pe_op op_cat (pe_lst (pa_cons (pe_callTy call_strI (by rfl) U.n_str boot_str (pa_cons (pe_ix (k_ixT K) (pv 2) pe_int (fun _ _ => rfl)) pa_nil)) pa_nil)) (pe_comp (show CScope (defScope s__law_given) _ "one" ["cell", "kind", "rule", "text", "long", "signs", "at", "sign"] [] [] from ⟨rfl, by decide +kernel, by decide +kernel, rfl, by decide +kernel, rfl, by decide +kernel, by decide +kernel⟩) rfl (k_pi K (pe_ix (k_ixT K) (pv 2) pe_int (fun _ _ => rfl))) (fun _ _ _ _ => pts_nil) (fun _ _ _ _ => (pcall D_law_text G_law_text (hr.mono (by decide)) (pa_cons (pv 0) pa_nil))))) pa_nil)))
      (pss_cons (ps_mid (ps_if (pt_cmpR op_eq (pe_op op_mod (pe_op op_fdivB (pv 0) pe_int) pe_int) pe_int (nomark _))
        (pss_cons (ps_set (i := 3) sc__law_given.nd rfl (Or.inl rfl) (pcall D_law_text G_law_text (hr.mono (by decide)) (pa_cons (pcall D_law_figures G_law_figures (hr.mono (by decide)) (pa_cons (pe_ix (k_ixT K) (pv 2) pe_int (fun _ _ => rfl)) (pa_cons (pcall D_law_number G_law_number (hr.mono (by decide)) (pa_cons (pv 0) (pa_cons pe_int pa_nil))) pa_nil))) pa_nil)))
        (pss_one (ps_if (pt_cmpR op_eq (pe_op op_mod (pe_op op_fdivB (pv 0) pe_int) pe_int) pe_int (nomark _))
          (pss_cons (ps_set (i := 4) sc__law_given.nd rfl (Or.inl rfl) (pe_op op_add pe_int (pe_op op_mod (pcall D_law_mixed G_law_mixed (hr.mono (by decide)) (pa_cons (pv 0) (pa_cons pe_int pa_nil))) pe_int)))
          (pss_one (ps_set (i := 3) sc__law_given.nd rfl (Or.inl rfl) (pe_op op_add_str pe_str (pcall D_law_text G_law_text (hr.mono (by decide)) (pa_cons (pe_comp (show CScope (defScope s__law_given) _ "j" ["cell", "kind", "rule", "text", "long", "signs", "at", "sign"] ["cell", "rule"] [0, 2] from ⟨rfl, by decide +kernel, by decide +kernel, rfl, by decide +kernel, rfl, by decide +kernel, by decide +kernel⟩) rfl (pi_range1 rfl T.n_range (pa_cons (pv 4) pa_nil)) (fun _ _ _ _ => pts_nil) (fun _ _ _ _ => (pe_op op_mod (pcall D_law_mixed G_law_mixed (hr.mono (by decide)) (pa_cons (pv 1) (pa_cons (pe_op op_add pe_int (pv 0)) pa_nil))) (pe_ix (k_ixT K) (pv 2) pe_int (fun _ _ => rfl))))) pa_nil))))))
          pss_nil)))
        pss_nil))
      (pss_cons (ps_set (i := 5) sc__law_given.nd rfl (Or.inl rfl) pe_str)
      (pss_cons (ps_mid (ps_if (pt_cmpR op_gt (pe_op op_mod (pe_op op_fdivB (pv 0) pe_int) pe_int) pe_int (nomark _))
        (pss_one (ps_set (i := 5) sc__law_given.nd rfl (Or.inl rfl) pe_str))
        pss_nil))
      (pss_cons (ps_set (i := 6) sc__law_given.nd rfl (Or.inl rfl) (pe_op op_mod (pe_op op_fdivB (pv 0) pe_int) (pe_op op_add (pe_callB call_len_str (by rfl) T.n_len PySem.boot_len (pa_cons (pv 3) pa_nil)) pe_int)))
      (pss_cons (ps_set (i := 7) sc__law_given.nd rfl (Or.inl rfl) (pe_ix ix_str (pv 5) (pe_op op_mod (pe_op op_fdivB (pv 0) pe_int) (pe_callB call_len_str (by rfl) T.n_len PySem.boot_len (pa_cons (pv 5) pa_nil))) (fun _ _ => rfl)))
      (pss_cons (ps_if (pt_cmpR op_eq (pv 1) pe_int (nomark _))
        (pss_one (ps_ret (pe_op op_add_str (pe_slice sl_str (pv 3) po_none (po_some (pv 6))) (pe_slice sl_str (pv 3) (po_some (pe_op op_add (pv 6) pe_int)) po_none))))
        pss_nil)
      (pss_one (ps_ret (pe_op op_add_str (pe_op op_add_str (pe_slice sl_str (pv 3) po_none (po_some (pv 6))) (pv 7)) (pe_slice sl_str (pv 3) (po_some (pe_op op_add (pv 6) (pe_callTy call_int1 (by rfl) T.n_int boot_int (pa_cons (pe_cmpR op_eq (pv 1) pe_int (nomark _)) pa_nil)))) po_none)))))))))))))), ?_⟩
    refine ⟨_, rfl, _, _, rfl, rfl, (by decide : (0 : Int) < 4), ?_⟩
    obtain ⟨kd, hkd, hk4⟩ : ∃ kd : Nat, kd = c % 4 ∧ kd < 4 := ⟨c % 4, rfl, by omega⟩
    dsimp only
    rw [show (c : Int) % 4 = (kd : Int) by rw [hkd]; rfl]
    refine ⟨_, rfl, rfl, _, rfl, ?_⟩
    by_cases h0 : kd = 0
    · refine iteA (decide_eq_true (by rw [h0]; rfl)) ⟨_, rfl, _, _, rfl, rfl, ⟨by decide, by decide⟩, c / 4, rfl, fun z H1 ha hl s1 => kk z H1 ha (by omega) s1⟩
    refine iteB (dec_ints (by omega)) ?_
    refine ⟨_, rfl, c, 3, rfl, by decide, fun x1 H1 hx1 s1 => ?_⟩
    refine ⟨x1, rfl, fun r b bl zs H2 s2 R2 g => ?_⟩
    have b2 := g.b2
    have b16 := g.b16
    have s12 := s1.trans s2
    have h4 : zs.length ≤ 4 := by have := g.len; rwa [List.length_map] at this
    refine ⟨rfl, _, rfl, r, _, _, V.int b, rfl, rfl, SqT.of R2.tu, rfl, (b : Int), rfl, ?_, (by show 1 ≤ sizeLine; decide), fun l1 hl1 => ?_⟩
    · show Nat.log2 b < 1920
      exact Nat.lt_of_le_of_lt (Nat.log2_le_self b) (by omega)
    rw [base_text b2 b16]
    have s9 := same_upd hl1 (o := .lst [V.str (txt (figs 10 b))])
    have hl9 : upd H2 l1 (.lst [V.str (txt (figs 10 b))]) l1 = some (.lst [V.str (txt (figs 10 b))]) := upd_same
    generalize upd H2 l1 (.lst [V.str (txt (figs 10 b))]) = H9 at s9 hl9
    have R9 := R2.same s9
    refine ⟨_, rfl, r, _, _, V.ref bl, rfl, rfl, SqT.of R9.tu, rfl, bl, rfl, ⟨_, SqL.of R9.li⟩, comp_list (K := K) (a := bl) (xs := zs.map fun z => V.ref z.1) (fun i ys H4 => Same H9 H4 ∧ ys = ((zs.take i).map fun z => txt z.2).map V.str) ⟨Same.refl _, rfl⟩ (fun i ys H4 _ ⟨e, _⟩ => SqL.of (e _ _ R9.li)) ?_ ?_⟩
    · rintro j x ys H4 hx ⟨s4, rfl⟩
      rw [List.getElem?_map] at hx
      obtain ⟨z, hzj, e⟩ := Option.map_eq_some_iff.mp hx
      subst e
      have hzm := List.mem_of_getElem? hzj
      have gz := g.st z.2 (List.mem_map.mpr ⟨z, hzm, rfl⟩)
      refine ⟨by rw [List.length_map, List.length_map]; exact Nat.lt_of_le_of_lt (Nat.le_trans (List.length_take_le' _ _) h4) (by decide), ?_⟩
      unfold tYes
      dsimp only
      rw [if_pos rfl]
      refine ⟨_, rfl, z.1, z.2, rfl, s4 _ _ (R9.st z hzm), okF_of b16 gz.fig, Nat.le_trans gz.len (by decide), fun H5 s5 => ⟨s4.trans s5, ?_⟩⟩
      rw [List.take_succ, hzj]; simp
    rintro ys H10 ⟨s10, rfl⟩ Dd hD
    rw [List.length_map, List.take_length]
    have s11 := same_upd hD (o := .lst ((zs.map fun z => txt z.2).map V.str))
    refine ⟨l1, Dd, _, _, rfl, rfl, s11 _ _ (s10 _ _ hl9), upd_same, ?_, fun p hp => ?_⟩
    · rw [List.length_map, List.length_map]; exact Nat.le_trans (show 1 + zs.length ≤ 5 by omega) (by decide)
    have s13 := same_upd hp (o := .lst ([V.str (txt (figs 10 b))] ++ (zs.map fun z => txt z.2).map V.str))
    have ew : [V.str (txt (figs 10 b))] ++ (zs.map fun z => txt z.2).map V.str = (wds b (zs.map (·.2))).map V.str := by
      unfold wds
      rw [List.map_cons, List.map_map, List.map_map, List.map_map]
      rfl
    rw [ew] at s13 ⊢
    refine ⟨_, p, _, rfl, rfl, SqL.of upd_same, wds_ok g, ?_⟩
    have s3 := s9.trans (s10.trans (s11.trans s13))
    have R3 := R2.same s3
    have s03 := s12.trans s3
    generalize upd (upd H10 Dd (.lst ((zs.map fun z => txt z.2).map V.str))) p (.lst ((wds b (zs.map (·.2))).map V.str)) = H3 at s3 R3 s03
    refine ⟨fun σ H' => ∃ (z : Str) (v4 v5 v6 v7 : Option V), σ = [some (.int c), some (.int kd), some (.ref r), some (.str z), v4, v5, v6, v7] ∧ Asc z ∧ z.length ≤ 199 ∧ Same H H', ?_, ?_⟩
    · refine ⟨_, rfl, _, _, rfl, rfl, ⟨by decide, by decide⟩, _, _, rfl, rfl, (by decide : (0 : Int) < 2), rfl, _, rfl, ?_⟩
      refine ite_any ?_ ⟨_, _, _, _, _, rfl, wr_asc g, Nat.le_trans (wr_short g) (by decide), s03⟩
      refine ⟨_, rfl, r, _, _, V.int b, rfl, rfl, SqT.of R3.tu, rfl, _, rfl, c, 40, rfl, by decide, fun n H4 hn s4 => ⟨b, n, rfl, b2, b16, hn, fun l H5 hl hv s5 => ?_⟩⟩
      have hfl := figs_len b2 100 n hn
      refine ⟨l, figs b n, rfl, hv, okF_figs b2 b16, Nat.le_trans hfl (by decide), fun H6 s6 => ?_⟩
      have s46 := s4.trans (s5.trans s6)
      have s06 := s03.trans s46
      have R6 := R3.same s46
      refine ⟨_, rfl, _, _, rfl, rfl, ⟨by decide, by decide⟩, _, _, rfl, rfl, (by decide : (0 : Int) < 5), rfl, _, rfl, ?_⟩
      refine ite_any ?_ ⟨_, _, _, _, _, rfl, asc_txt (okF_figs b2 b16), by rw [txt_len]; omega, s06⟩
      refine ⟨_, rfl, c, 50, rfl, by decide, fun m H7 hm s7 => ⟨_, _, rfl, rfl, (by decide : (0 : Int) < 198), _, _, rfl, rfl, ?_⟩⟩
      obtain ⟨lg, hlg, lg1, lg2⟩ : ∃ lg : Nat, lg = 1 + m % 198 ∧ 1 ≤ lg ∧ lg ≤ 198 := ⟨1 + m % 198, rfl, by omega, by omega⟩
      have R7 := R6.same s7
      refine ⟨_, rfl, (lg : Int), by rw [hlg]; rfl, by omega, by omega, comp_range (lo := 0) (n := (lg : Int).toNat) (fun j ys Hc => Same H7 Hc ∧ ∃ ms : List Int, ys = ms.map V.int ∧ ms.length = j ∧ ∀ f ∈ ms, 0 ≤ f ∧ f < (b : Int)) ⟨Same.refl _, [], rfl, rfl, by simp⟩ ?_ ?_⟩
      · rintro j ys Hc hj ⟨Sc, ms, rfl, hml, hmf⟩
        refine ⟨by rw [List.length_map, hml]; exact Nat.lt_of_lt_of_le (show j < 300 by omega) (by decide), ?_⟩
        unfold tYes
        dsimp only
        rw [if_pos rfl]
        refine ⟨_, rfl, _, rfl, _, _, rfl, rfl, c, 60 + j, ?_, by omega, fun y2 Hd hy2 Sd => ?_⟩
        · show [V.int c, V.int (60 + (0 + (j : Int)))] = _
          rw [show (60 + (0 + (j : Int))) = ((60 + j : Nat) : Int) by omega]
        refine ⟨_, rfl, r, _, _, V.int b, rfl, rfl, SqT.of (R7.same (Sc.trans Sd)).tu, rfl, _, _, rfl, rfl, (by omega : (0 : Int) < (b : Int)), Sc.trans Sd, ms ++ [(y2 : Int) % (b : Int)], by simp, by simp [hml], fun f hf => ?_⟩
        rcases List.mem_append.mp hf with hf | hf
        · exact hmf f hf
        · have e : f = (y2 : Int) % (b : Int) := by simpa using hf
          have := Int.emod_lt_of_pos (y2 : Int) (by omega : (0 : Int) < (b : Int))
          have := Int.emod_nonneg (y2 : Int) (by omega : (b : Int) ≠ 0)
          omega
      rintro ys Hc ⟨Sc, ms, rfl, hml, hmf⟩ q hq
      refine ⟨q, ms, rfl, upd_same, okF_of b16 hmf, by omega, fun H8 s8 => ?_⟩
      have hml' : ms.length ≤ 198 := by omega
      refine ⟨"1", txt ms, rfl, rfl, ?_, ?_⟩
      · rw [txt_len, show (Str.length "1") = 1 from by decide +kernel]
        exact Nat.le_trans (show 1 + ms.length ≤ 200 by omega) (by decide)
      · refine ⟨_, _, _, _, _, rfl, asc_append (by unfold Asc; decide +kernel) (asc_txt (okF_of b16 hmf)), ?_, s06.trans (s7.trans (Sc.trans ((same_upd hq).trans s8)))⟩
        rw [len_append, txt_len, show (Str.length "1") = 1 from by decide +kernel]
        omega
    · rintro σ H4 ⟨z, v4, v5, v6, v7, rfl, hz, hzl, s4⟩
      refine ⟨fun σ H' => ∃ (sg : Str) (v4 v6 v7 : Option V), σ = [some (.int c), some (.int kd), some (.ref r), some (.str z), v4, some (.str sg), v6, v7] ∧ Asc sg ∧ 1 ≤ sg.length ∧ sg.length ≤ 1000 ∧ H' = H4, ?_, ?_⟩
      · refine ⟨_, rfl, _, _, rfl, rfl, ⟨by decide, by decide⟩, _, _, rfl, rfl, (by decide : (0 : Int) < 3), _, _, rfl, rfl, _, rfl, ?_⟩
        refine ite_any ⟨_, _, _, _, rfl, by unfold Asc; decide +kernel, by decide +kernel, by decide +kernel, rfl⟩ ⟨_, _, _, _, rfl, by unfold Asc; decide +kernel, by decide +kernel, by decide +kernel, rfl⟩
      · rintro σ H5 ⟨sg, v4, v6, v7, rfl, hsg, hs1, hs2, rfl⟩
        refine ⟨_, rfl, _, _, rfl, rfl, ⟨by decide, by decide⟩, _, rfl, z, rfl, Nat.le_trans hzl (by decide), _, _, rfl, rfl, _, _, rfl, rfl, by omega, ?_⟩
        have at1 : 0 ≤ (c : Int) / 24 % ((z.length : Int) + 1) := Int.emod_nonneg _ (by omega)
        have at2 : (c : Int) / 24 % ((z.length : Int) + 1) < (z.length : Int) + 1 := Int.emod_lt_of_pos _ (by omega)
        dsimp only
        generalize ((c : Int) / 24 % ((z.length : Int) + 1)) = at0 at at1 at2
        refine ⟨_, rfl, _, rfl, _, _, rfl, rfl, ⟨by decide, by decide⟩, _, rfl, sg, rfl, Nat.le_trans hs2 (by decide), _, _, rfl, rfl, by omega, ?_⟩
        obtain ⟨ch, hch, hat⟩ : ∃ ch, ch < 128 ∧ atI sg.cps.toList ((c : Int) / 24000 % (sg.length : Nat)) = some ch := by
          have hl : c / 24000 % sg.length < sg.cps.toList.length := by rw [← cps_size]; exact Nat.mod_lt _ (by omega)
          refine ⟨sg.cps.toList[c / 24000 % sg.length], hsg.mem (List.getElem_mem hl), ?_⟩
          rw [show ((c : Int) / 24000 % (sg.length : Nat)) = ((c / 24000 % sg.length : Nat) : Int) from rfl]
          exact atI_nat (List.getElem?_eq_getElem hl)
        refine ⟨sg, _, ch, rfl, rfl, Nat.le_trans hs2 (by decide), hat, ?_⟩
        have hzs : z.length ≤ sizeLine := Nat.le_trans hzl (by decide)
        have l1 := slice_to_len (z := z) at1 (by omega)
        refine ⟨_, rfl, rfl, _, rfl, ?_⟩
        by_cases h1 : kd = 1
        · refine iteA (decide_eq_true (by rw [h1]; rfl)) ?_
          have l2 := slice_from_len (z := z) (i := at0 + 1) (by omega)
          refine ⟨_, rfl, _, rfl, at0, rfl, z, rfl, hzs, _, rfl, _, rfl, _, _, rfl, rfl, at0 + 1, rfl, z, rfl, hzs, _, _, rfl, rfl, ?_, ?_⟩
          · exact Nat.le_trans (show (Txt.slice z none (some at0)).length + (Txt.slice z (some (at0 + 1)) none).length ≤ 400 by omega) (by decide)
          · exact kk _ _ (asc_append (asc_slice hz _ _) (asc_slice hz _ _)) (by rw [len_append]; omega) s4
        · refine iteB (dec_ints (by omega)) ?_
          refine ⟨_, rfl, _, rfl, at0, rfl, z, rfl, hzs, _, rfl, _, _, rfl, rfl, ?_, ?_⟩
          · exact Nat.le_trans (show (Txt.slice z none (some at0)).length + 1 ≤ 400 by omega) (by decide)
          refine ⟨_, rfl, _, rfl, _, rfl, rfl, .inr ⟨_, rfl, ?_⟩⟩
          have fin : ∀ i : Int, at0 ≤ i → (Txt.slice z none (some at0) ++ (⟨#[ch]⟩ : Str)).length + (Txt.slice z (some i) none).length ≤ sizeLine ∧ Q (.str ((Txt.slice z none (some at0) ++ (⟨#[ch]⟩ : Str)) ++ Txt.slice z (some i) none)) H5 := fun i hi => by
            have l2 := slice_from_len (z := z) (i := i) (by omega)
            have l3 : (Txt.slice z none (some at0) ++ (⟨#[ch]⟩ : Str)).length = (Txt.slice z none (some at0)).length + 1 := len_append _ _
            refine ⟨Nat.le_trans (show (Txt.slice z none (some at0) ++ (⟨#[ch]⟩ : Str)).length + (Txt.slice z (some i) none).length ≤ 400 by omega) (by decide), ?_⟩
            refine kk _ _ (asc_append (asc_append (asc_slice hz _ _) (asc_of fun c hc => ?_)) (asc_slice hz _ _)) (by rw [len_append, l3]; omega) s4
            have : c = ch := by simpa using hc
            omega
          obtain ⟨h1', h2'⟩ := fin (at0 + (if kd = 2 then 1 else 0)) (by split <;> omega)
          refine ⟨_, _, rfl, rfl, at0 + (if kd = 2 then 1 else 0), ?_, z, rfl, hzs, _, _, rfl, rfl, h1', h2'⟩
          by_cases h2 : kd = 2
          · rw [if_pos h2, h2]; rfl
          · rw [if_neg h2, dec_ints (show ¬ (kd : Int) = 2 by omega)]; rfl
end
end Lw
set_option Elab.async false
set_option linter.all false
set_option maxRecDepth 100000
namespace Lw
open PySem L2 PyProof.Rows
structure XNames (mg : Str → Option Value) (CNoBase CNoNumber CNoFigures CNoRule CNoStand CNoGood CEndless CNoRules CNoStretch CTooMany CNoText CNoName CNoRow : Addr) : Prop where
  g_NoBase : mg "NoBase" = some (.ref CNoBase)
  g_NoNumber : mg "NoNumber" = some (.ref CNoNumber)
  g_NoFigures : mg "NoFigures" = some (.ref CNoFigures)
  g_NoRule : mg "NoRule" = some (.ref CNoRule)
  g_NoStand : mg "NoStand" = some (.ref CNoStand)
  g_NoGood : mg "NoGood" = some (.ref CNoGood)
  g_Endless : mg "Endless" = some (.ref CEndless)
  g_NoRules : mg "NoRules" = some (.ref CNoRules)
  g_NoStretch : mg "NoStretch" = some (.ref CNoStretch)
  g_TooMany : mg "TooMany" = some (.ref CTooMany)
  g_NoText : mg "NoText" = some (.ref CNoText)
  g_NoName : mg "NoName" = some (.ref CNoName)
  g_NoRow : mg "NoRow" = some (.ref CNoRow)
structure KindK (K : PySem.W.Frag) (C CNoBase CNoNumber CNoFigures CNoRule CNoStand CNoGood CEndless CNoRules CNoStretch CTooMany CNoText CNoName CNoRow : Addr) (k : Nat) : Prop where
  i : ExcI K C
  v : PySem.W.kitOne K (.ref C) (.type "ValueError") = some true
  k0 : PySem.W.kitOne K (.ref C) (.ref CNoBase) = some (decide (0 = k))
  k1 : PySem.W.kitOne K (.ref C) (.ref CNoNumber) = some (decide (1 = k))
  k2 : PySem.W.kitOne K (.ref C) (.ref CNoFigures) = some (decide (2 = k))
  k3 : PySem.W.kitOne K (.ref C) (.ref CNoRule) = some (decide (3 = k))
  k4 : PySem.W.kitOne K (.ref C) (.ref CNoStand) = some (decide (4 = k))
  k5 : PySem.W.kitOne K (.ref C) (.ref CNoGood) = some (decide (5 = k))
  k6 : PySem.W.kitOne K (.ref C) (.ref CEndless) = some (decide (6 = k))
  k7 : PySem.W.kitOne K (.ref C) (.ref CNoRules) = some (decide (7 = k))
  k8 : PySem.W.kitOne K (.ref C) (.ref CNoStretch) = some (decide (8 = k))
  k9 : PySem.W.kitOne K (.ref C) (.ref CTooMany) = some (decide (9 = k))
  k10 : PySem.W.kitOne K (.ref C) (.ref CNoText) = some (decide (10 = k))
  k11 : PySem.W.kitOne K (.ref C) (.ref CNoName) = some (decide (11 = k))
  k12 : PySem.W.kitOne K (.ref C) (.ref CNoRow) = some (decide (12 = k))
theorem boot_ValueError : bootBuiltins "ValueError" = some (.type "ValueError") := by decide +kernel
theorem kitAny_no {K : PySem.W.Frag} {t : Value} : ∀ {cs : List Addr}, (∀ c ∈ cs, PySem.W.kitOne K t (.ref c) = some false) → PySem.W.kitAny K t (cs.map Value.ref) = some false
  | [], _ => rfl
  | c :: cs, h => by
    rw [List.map_cons, PySem.W.kitAny, h c List.mem_cons_self]
    exact kitAny_no fun c hc => h c (List.mem_cons_of_mem _ hc)
theorem RuleAt.put {H : Hp} {r bl fl : Addr} {b : Nat} {zs : List (Addr × List Int)} {o : HO} (R : RuleAt H r b bl zs) (h : H fl = some (.lst [.bl false, .non])) : RuleAt (upd H fl o) r b bl zs := by
  refine ⟨?_, ?_, fun z hz => ?_⟩
  · rw [upd_ne (fun e => by have := R.tu; rw [e, h] at this; cases this)]; exact R.tu
  · rw [upd_ne (fun e => ?_)]
    · exact R.li
    · have := R.li
      rw [e, h] at this
      injection this with this
      injection this with this
      cases zs with
      | nil => cases this
      | cons z zs => rw [List.map_cons] at this; cases this
  · rw [upd_ne (fun e => ?_)]
    · exact R.st z hz
    · have := R.st z hz
      rw [e, h] at this
      injection this with this
      injection this with this
      cases e2 : z.2 with
      | nil => rw [e2] at this; cases this
      | cons i l => rw [e2, List.map_cons] at this; cases this
theorem badD_ints (ls : List (List Int)) : (ls.map fun l => PyData.list (l.map .int)).map intsT = ls := by
  rw [List.map_map]
  conv => rhs; rw [← List.map_id ls]
  exact List.map_congr_left fun l _ => intsL l
theorem RuleAt.one {H : Hp} {r bl bl' : Addr} {b b' : Nat} {zs zs' : List (Addr × List Int)} (R : RuleAt H r b bl zs) (R' : RuleAt H r b' bl' zs') : b = b' ∧ zs.map (·.2) = zs'.map (·.2) := by
  have e := R.th.uniq R'.th
  injection e with e
  injection e with e1 e
  injection e with e2 _
  injection e1 with e1
  injection e2 with e2
  have e3 := congrArg (List.map intsT) e2
  rw [badD_ints, badD_ints] at e3
  exact ⟨by omega, e3⟩
theorem TrsAt.bls {K : PySem.W.Frag} {H : Hp} : ∀ {bs : List Bool}, TrsAt K H (bs.map Tr.bl) (bs.map V.bl)
  | [] => by rw [List.map_nil, List.map_nil, TrsAt]
  | w :: ws => by rw [List.map_cons, List.map_cons, TrsAt]; exact ⟨_, _, rfl, by rw [TrAt], TrsAt.bls⟩
def refA (ask : Nat) (d e : PyData) : Option Str :=
  if ask = 0 then (if wR e = true then none else some "text")
  else if ask = 1 then (if baseT d = false then some "base" else if (rdN (intT d).toNat e).isNone = true then some "text" else none)
  else if ask = 2 then (if ruleT e = true then none else some "rule")
  else if baseT d = false then some "base" else if numT e = false then some "number" else none
def okA (ask : Nat) (d e : PyData) (u x : V) (H H' : Hp) : Prop :=
  (ask = 0 → ∃ (z : Str) (r : Addr) (b : Nat) (bl : Addr) (zs : List (Addr × List Int)), e = .str z ∧ x = .ref r ∧ RuleAt H' r b bl zs ∧ GoodRule b (zs.map (·.2)) ∧ wr b (zs.map (·.2)) = z) ∧
  (ask = 1 → ∃ (b : Nat) (i : Int), d = .int b ∧ rdN b e = some i ∧ x = .int i) ∧
  (ask = 2 → ∀ (r : Addr) (b : Nat) (bl : Addr) (zs : List (Addr × List Int)), u = .ref r → RuleAt H r b bl zs → GoodRule b (zs.map (·.2)) → x = .str (wr b (zs.map (·.2)))) ∧
  (ask = 3 → ∃ b n : Nat, d = .int b ∧ e = .int n ∧ x = .str (txt (figs b n)))
section
variable {P : Program} {w : World} {K : PySem.W.Frag} {mg : Str → Option Value} {base : Heap}
def sp__law_asked : Sp := fun vs H Q _ => ∃ (ask : Nat) (v u : V) (d e : PyData), vs = [.int ask, v, u] ∧ ask ≤ 3 ∧ ThAt H d v ∧ ThAt H e u ∧ (ask ≤ 1 → Tx e) ∧ sizT e ≤ 100000 ∧ (ask = 3 → ∀ n : Nat, e = .int n → n < 2 ^ 900) ∧
  (∀ wd, refA ask d e = some wd → ∀ (l : Addr) (H' : Hp), H l = none → Same H H' → H' l = some (.lst [.bl true, .str wd]) → Q (.ref l) H') ∧
  (refA ask d e = none → ∀ (l : Addr) (x : V) (H' : Hp), H l = none → Same H H' → H' l = some (.lst [.bl false, x]) → okA ask d e u x H H' → Q (.ref l) H')
theorem sc__law_asked : FnScope ["ask", "base", "thing", "found", "e", "kinds", "others"] ["ask", "base", "thing"] (defScope s__law_asked) := ⟨rfl, rfl, rfl, by decide +kernel, rfl, by decide +kernel, by decide +kernel⟩
set_option maxHeartbeats 4000000 in
theorem ok__law_asked {CNoBase CNoNumber CNoFigures CNoRule CNoStand CNoGood CEndless CNoRules CNoStretch CTooMany CNoText CNoName CNoRow CLackError : Addr} {f f1 f2 f3 f4 : Addr} {fd fd1 fd2 fd3 fd4 : FuncData} (D : Df K mg "_law_asked" s__law_asked ["ask", "base", "thing"] f fd) (Dread_rule : Df K mg "read_rule" s_read_rule ["text"] f1 fd1) (Gread_rule : FnOk P w K mg base (CX1 P w) 7 f1 fd1 ["text"] (sp_read_rule CNoText)) (Dread_number : Df K mg "read_number" s_read_number ["base", "text"] f2 fd2) (Gread_number : FnOk P w K mg base (CX1 P w) 6 f2 fd2 ["base", "text"] (sp_read_number CNoBase CNoText)) (Dshow_rule : Df K mg "show_rule" s_show_rule ["rule"] f3 fd3) (Gshow_rule : FnOk P w K mg base (CX1 P w) 8 f3 fd3 ["rule"] (sp_show_rule CNoRule)) (Dshow_number : Df K mg "show_number" s_show_number ["base", "n"] f4 fd4) (Gshow_number : FnOk P w K mg base (CX1 P w) 5 f4 fd4 ["base", "n"] (sp_show_number CNoBase CNoNumber))
    (XN : XNames mg CNoBase CNoNumber CNoFigures CNoRule CNoStand CNoGood CEndless CNoRules CNoStretch CTooMany CNoText CNoName CNoRow) (n_ValueError : mg "ValueError" = none) (h_LackError : CatchC K mg "LackError" CLackError) (kt_NoText : PySem.W.kitCls K (.ref CNoText) (.ref CLackError) = some true) (kt_NoRule : PySem.W.kitCls K (.ref CNoRule) (.ref CLackError) = some true) (kt_NoBase : PySem.W.kitCls K (.ref CNoBase) (.ref CLackError) = some true) (kt_NoNumber : PySem.W.kitCls K (.ref CNoNumber) (.ref CLackError) = some true)
    (kd_NoText : KindK K CNoText CNoBase CNoNumber CNoFigures CNoRule CNoStand CNoGood CEndless CNoRules CNoStretch CTooMany CNoText CNoName CNoRow 10) (kd_NoRule : KindK K CNoRule CNoBase CNoNumber CNoFigures CNoRule CNoStand CNoGood CEndless CNoRules CNoStretch CTooMany CNoText CNoName CNoRow 3) (kd_NoBase : KindK K CNoBase CNoBase CNoNumber CNoFigures CNoRule CNoStand CNoGood CEndless CNoRules CNoStretch CTooMany CNoText CNoName CNoRow 0) (kd_NoNumber : KindK K CNoNumber CNoBase CNoNumber CNoFigures CNoRule CNoStand CNoGood CEndless CNoRules CNoStretch CTooMany CNoText CNoName CNoRow 1)
    (T : Blt mg) (U : Blt2 mg) : FnOk P w K mg base CX0 9 f fd ["ask", "base", "thing"] sp__law_asked := by
  obtain ⟨g_NoBase, g_NoNumber, g_NoFigures, g_NoRule, g_NoStand, g_NoGood, g_Endless, g_NoRules, g_NoStretch, g_TooMany, g_NoText, g_NoName, g_NoRow⟩ := XN
  refine D.fn.ok sc__law_asked (fun vs H Q E h => ?_) (fun cdv A outer s H vs Q E hr h => ?_)
  · obtain ⟨ask, v, u, d, e, rfl, _⟩ := h; rfl
  · obtain ⟨ask, v, u, d, e, rfl, h3, hd, he, ht, hs, hn, kR, kO⟩ := h
    have HU := HUof hr
    refine ⟨_, (pss_cons (ps_set (i := 3) sc__law_asked.nd rfl (Or.inl rfl) (pe_lst (pa_cons pe_bl (pa_cons pe_non pa_nil))))
      (pss_cons (ps_tryAs (i := 4) h_LackError rfl rfl sc__law_asked.nd rfl rfl (fun _ _ _ hS =>
        (pss_one (ps_if (pt_cmpR op_eq (pv 0) pe_int (nomark _))
          (pss_one (ps_asg (pcallX Dread_rule Gread_rule (hr.mono (by decide)) hS (pa_cons (pv 2) pa_nil)) (pg_sub (pv 3) pe_int set_list)))
          (pss_one (ps_if (pt_cmpR op_eq (pv 0) pe_int (nomark _))
            (pss_one (ps_asg (pcallX Dread_number Gread_number (hr.mono (by decide)) hS (pa_cons (pv 1) (pa_cons (pv 2) pa_nil))) (pg_sub (pv 3) pe_int set_list)))
            (pss_one (ps_if (pt_cmpR op_eq (pv 0) pe_int (nomark _))
              (pss_one (ps_asg (pcallX Dshow_rule Gshow_rule (hr.mono (by decide)) hS (pa_cons (pv 2) pa_nil)) (pg_sub (pv 3) pe_int set_list)))
              (pss_one (ps_asg (pcallX Dshow_number Gshow_number (hr.mono (by decide)) hS (pa_cons (pv 1) (pa_cons (pv 2) pa_nil))) (pg_sub (pv 3) pe_int set_list)))))))))) (fun _ =>
        (pss_cons (ps_set (i := 5) sc__law_asked.nd rfl (Or.inl rfl) (pe_lst (pa_cons (pe_callB (k_isiX K) (by rfl) T.n_isinstance boot_isinstance (pa_cons (pv 4) (pa_cons (pe_glob (v := .ref CNoText) rfl g_NoText rfl) pa_nil))) (pa_cons (pe_callB (k_isiX K) (by rfl) T.n_isinstance boot_isinstance (pa_cons (pv 4) (pa_cons (pe_glob (v := .ref CNoRule) rfl g_NoRule rfl) pa_nil))) pa_nil))))
        (pss_cons (ps_set (i := 5) sc__law_asked.nd rfl (Or.inl rfl) (pe_op op_cat (pv 5) (pe_lst (pa_cons (pe_callB (k_isiX K) (by rfl) T.n_isinstance boot_isinstance (pa_cons (pv 4) (pa_cons (pe_glob (v := .ref CNoBase) rfl g_NoBase rfl) pa_nil))) (pa_cons (pe_callB (k_isiX K) (by rfl) T.n_isinstance boot_isinstance (pa_cons (pv 4) (pa_cons (pe_glob (v := .ref CNoNumber) rfl g_NoNumber rfl) pa_nil))) pa_nil)))))
        (pss_cons (ps_set (i := 6) sc__law_asked.nd rfl (Or.inl rfl) (pe_callB (k_isiTup K) (by rfl) T.n_isinstance boot_isinstance (pa_cons (pv 4) (pa_cons (pe_tup (pa_cons (pe_glob (v := .ref CEndless) rfl g_Endless rfl) (pa_cons (pe_glob (v := .ref CNoFigures) rfl g_NoFigures rfl) (pa_cons (pe_glob (v := .ref CNoGood) rfl g_NoGood rfl) (pa_cons (pe_glob (v := .ref CNoName) rfl g_NoName rfl) (pa_cons (pe_glob (v := .ref CNoRow) rfl g_NoRow rfl) pa_nil)))))) pa_nil))))
        (pss_cons (ps_set (i := 6) sc__law_asked.nd rfl (Or.inl rfl) (pe_or (pv 6) (pe_one (pe_callB (k_isiTup K) (by rfl) T.n_isinstance boot_isinstance (pa_cons (pv 4) (pa_cons (pe_tup (pa_cons (pe_glob (v := .ref CNoRules) rfl g_NoRules rfl) (pa_cons (pe_glob (v := .ref CNoStand) rfl g_NoStand rfl) (pa_cons (pe_glob (v := .ref CNoStretch) rfl g_NoStretch rfl) (pa_cons (pe_glob (v := .ref CTooMany) rfl g_TooMany rfl) pa_nil))))) pa_nil))))))
        (pss_cons (ps_set (i := 3) sc__law_asked.nd rfl (Or.inl rfl) (pe_lst (pa_cons pe_bl (pa_cons pe_str pa_nil))))
        (pss_one (ps_if (PW.pt (pw_and (pt_val (pe_callB (k_isiX K) (by rfl) T.n_isinstance boot_isinstance (pa_cons (pv 4) (pa_cons (pe_bltn (v := .ty "ValueError") rfl n_ValueError boot_ValueError rfl) pa_nil)))) (pw_and (pt_not (pt_val (pv 6))) (pw_and1 (pt_cmpR op_eq (k_bm K PySem.F.plainAttrs_list PySem.F.slot_list_count PySem.F.type_list_count (k_countT K HU) (pv 5) (pa_cons pe_bl pa_nil)) pe_int (nomark _))))))
          (pss_one (ps_set (i := 3) sc__law_asked.nd rfl (Or.inl rfl) (pe_lst (pa_cons pe_bl (pa_cons (pe_ix (k_ixL K) (pe_lst (pa_cons pe_str (pa_cons pe_str (pa_cons pe_str (pa_cons pe_str pa_nil))))) (k_bm K PySem.F.plainAttrs_list PySem.F.slot_list_index PySem.F.type_list_index (k_indexT K HU) (pv 5) (pa_cons pe_bl pa_nil)) (fun _ _ => rfl)) pa_nil)))))
          pss_nil)))))))))
      (pss_one (ps_ret (pv 3))))), ?_⟩
    refine ⟨(by show 2 ≤ sizeLine; decide), fun fl hfl => ?_⟩
    have s1 := same_upd hfl (o := .lst [.bl false, .non])
    have h1 : upd H fl (.lst [.bl false, .non]) fl = some (.lst [.bl false, .non]) := upd_same
    generalize upd H fl (.lst [.bl false, .non]) = H1 at s1 h1
    have hd1 := hd.same s1
    have he1 := he.same s1
    have eX : ∀ (x Ce : Addr) (j p : Nat) (dk : Str) (H2 : Hp), refA ask d e = some dk → KindK K Ce CNoBase CNoNumber CNoFigures CNoRule CNoStand CNoGood CEndless CNoRules CNoStretch CTooMany CNoText CNoName CNoRow j → (j, p, dk) ∈ [(10, 0, ("text" : Str)), (3, 1, "rule"), (0, 2, "base"), (1, 3, "number")] → Same H1 H2 → H2 x = none → ∃ (C : Addr) (j p : Nat) (dk : Str), upd H2 x (excO x Ce) x = some (excO x C) ∧ KindK K C CNoBase CNoNumber CNoFigures CNoRule CNoStand CNoGood CEndless CNoRules CNoStretch CTooMany CNoText CNoName CNoRow j ∧ (j, p, dk) ∈ [(10, 0, ("text" : Str)), (3, 1, "rule"), (0, 2, "base"), (1, 3, "number")] ∧ Same H (upd H2 x (excO x Ce)) ∧ refA ask d e = some dk := fun x Ce j p dk H2 q Kd hm m hx => ⟨Ce, j, p, dk, upd_same, Kd, hm, s1.trans (m.trans (same_upd hx)), q⟩
    have put : ∀ {H2 : Hp} {x : V}, Same H1 H2 → refA ask d e = none → okA ask d e u x H (upd H2 fl (.lst [.bl false, x])) → Q (.ref fl) (upd H2 fl (.lst [.bl false, x])) := fun {H2 x} s2 hq ok => kO hq fl x _ hfl (fun c o hc => by rw [upd_ne (ne_of_none hc hfl)]; exact s2 _ _ (s1 _ _ hc)) upd_same ok
    refine ⟨_, rfl, rfl, _, rfl, ?_⟩
    rcases (show ask = 0 ∨ ask = 1 ∨ ask = 2 ∨ ask = 3 by omega) with rfl | rfl | rfl | rfl
    case' inl =>
      refine iteA (decide_eq_true rfl) ⟨_, rfl, u, e, rfl, he1, ht (by decide), fun hw H2 s2 => ⟨_, rfl, kt_NoText, fun x hx => ?t0⟩, fun z hz hw r b bl zs H2 s2 R g ew => ?k0⟩
    case' inr.inl =>
      refine iteB (dec_ints (by decide)) ⟨_, rfl, rfl, _, rfl, iteA (decide_eq_true rfl) ⟨_, rfl, _, rfl, v, u, d, e, rfl, hd1, he1, ht (by decide), fun hb H2 s2 => ⟨_, rfl, kt_NoBase, fun x hx => ?b1⟩, fun b hb b2 b16 hr H2 s2 => ⟨_, rfl, kt_NoText, fun x hx => ?t1⟩, fun b i hb b2 b16 hr H2 s2 => ?k1⟩⟩
    case' inr.inr.inl =>
      refine iteB (dec_ints (by decide)) ⟨_, rfl, rfl, _, rfl, iteB (dec_ints (by decide)) ⟨_, rfl, rfl, _, rfl, iteA (decide_eq_true rfl) ⟨_, rfl, u, e, rfl, he1, hs, fun hR H2 s2 => ⟨_, rfl, kt_NoRule, fun x hx => ?r2⟩, fun r b bl zs hu R g H2 s2 => ?k2⟩⟩⟩
    case' inr.inr.inr =>
      refine iteB (dec_ints (by decide)) ⟨_, rfl, rfl, _, rfl, iteB (dec_ints (by decide)) ⟨_, rfl, rfl, _, rfl, iteB (dec_ints (by decide)) ⟨_, rfl, _, rfl, v, u, d, e, rfl, hd1, he1, fun hb => ⟨_, rfl, kt_NoBase, fun x hx => ?b3⟩, fun hb hn' => ⟨_, rfl, kt_NoNumber, fun x hx => ?n3⟩, fun b n hb b2 b16 hn' => ⟨hn rfl n hn', fun H2 s2 => ?k3⟩⟩⟩⟩
    case' t0 =>
      obtain ⟨Ce, j, p, dk, hC, Kd, hw, m2, hq⟩ := eX x _ 10 0 "text" H2 (by unfold refA; rw [if_pos rfl, if_neg (by rw [hw]; decide)]) kd_NoText (by simp) s2 hx
      generalize upd H2 x (excO x CNoText) = H3 at hC m2
    case' b1 =>
      obtain ⟨Ce, j, p, dk, hC, Kd, hw, m2, hq⟩ := eX x _ 0 2 "base" H2 (by unfold refA; rw [if_neg (by decide), if_pos rfl, if_pos hb]) kd_NoBase (by simp) s2 hx
      generalize upd H2 x (excO x CNoBase) = H3 at hC m2
    case' t1 =>
      obtain ⟨Ce, j, p, dk, hC, Kd, hw, m2, hq⟩ := eX x _ 10 0 "text" H2 (by subst hb; unfold refA; rw [if_neg (by decide), if_pos rfl, if_neg (by show ¬ decide (2 ≤ (b : Int) ∧ (b : Int) ≤ 16) = false; rw [decide_eq_true (by omega)]; decide), if_pos (by show (rdN (b : Int).toNat e).isNone = true; rw [Int.toNat_natCast, hr]; rfl)]) kd_NoText (by simp) s2 hx
      generalize upd H2 x (excO x CNoText) = H3 at hC m2
    case' r2 =>
      obtain ⟨Ce, j, p, dk, hC, Kd, hw, m2, hq⟩ := eX x _ 3 1 "rule" H2 (by unfold refA; rw [if_neg (by decide), if_neg (by decide), if_pos rfl, if_neg (by rw [hR]; decide)]) kd_NoRule (by simp) s2 hx
      generalize upd H2 x (excO x CNoRule) = H3 at hC m2
    case' b3 =>
      obtain ⟨Ce, j, p, dk, hC, Kd, hw, m2, hq⟩ := eX x _ 0 2 "base" H1 (by unfold refA; rw [if_neg (by decide), if_neg (by decide), if_neg (by decide), if_pos hb]) kd_NoBase (by simp) (Same.refl _) hx
      generalize upd H1 x (excO x CNoBase) = H3 at hC m2
    case' n3 =>
      obtain ⟨Ce, j, p, dk, hC, Kd, hw, m2, hq⟩ := eX x _ 1 3 "number" H1 (by unfold refA; rw [if_neg (by decide), if_neg (by decide), if_neg (by decide), if_neg (by rw [hb]; decide), if_pos hn']) kd_NoNumber (by simp) (Same.refl _) hx
      generalize upd H1 x (excO x CNoNumber) = H3 at hC m2
    case k0 =>
      refine ⟨_, rfl, fl, _, _, 1, rfl, rfl, s2 _ _ h1, rfl, ?_⟩
      refine ⟨_, rfl, put s2 (by unfold refA; rw [if_pos rfl, if_pos hw]) ⟨fun _ => ⟨z, r, b, bl, zs, hz, rfl, R.put (s2 _ _ h1), g, ew⟩, (fun q => by cases q), (fun q => by cases q), (fun q => by cases q)⟩⟩
    case k1 =>
      refine ⟨_, rfl, fl, _, _, 1, rfl, rfl, s2 _ _ h1, rfl, ?_⟩
      refine ⟨_, rfl, put s2 (by subst hb; unfold refA; rw [if_neg (by decide), if_pos rfl, if_neg (by show ¬ decide (2 ≤ (b : Int) ∧ (b : Int) ≤ 16) = false; rw [decide_eq_true (by omega)]; decide), if_neg (by show ¬ (rdN (b : Int).toNat e).isNone = true; rw [Int.toNat_natCast, hr]; simp)]) ⟨(fun q => by cases q), fun _ => ⟨b, i, hb, hr, rfl⟩, (fun q => by cases q), (fun q => by cases q)⟩⟩
    case k2 =>
      refine ⟨_, rfl, fl, _, _, 1, rfl, rfl, s2 _ _ h1, rfl, ?_⟩
      subst hu
      have ee := he1.uniq R.th
      refine ⟨_, rfl, put s2 (by unfold refA; rw [if_neg (by decide), if_neg (by decide), if_pos rfl, if_pos (by rw [ee]; exact ruleT_good g)]) ⟨(fun q => by cases q), (fun q => by cases q), fun _ r' b' bl' zs' hu' R' g' => ?_, (fun q => by cases q)⟩⟩
      obtain rfl : r = r' := by injection hu'
      obtain ⟨e1, e2⟩ := (R'.same s1).one R
      rw [e1, e2]
    case k3 =>
      refine ⟨_, rfl, fl, _, _, 1, rfl, rfl, s2 _ _ h1, rfl, ?_⟩
      refine ⟨_, rfl, put s2 (by subst hb hn'; unfold refA; rw [if_neg (by decide), if_neg (by decide), if_neg (by decide), if_neg (by show ¬ decide (2 ≤ (b : Int) ∧ (b : Int) ≤ 16) = false; rw [decide_eq_true (by omega)]; decide), if_neg (by show ¬ decide (0 ≤ (n : Int)) = false; rw [decide_eq_true (by omega)]; decide)]) ⟨(fun q => by cases q), (fun q => by cases q), (fun q => by cases q), fun _ => ⟨b, n, hb, hn', rfl⟩⟩⟩
    all_goals
      refine ⟨_, rfl, x, Ce, _, _, _, rfl, rfl, (fun _ h => h), hC, Kd.i, Kd.k10, _, rfl, x, Ce, _, _, _, rfl, rfl, (fun _ h => h), hC, Kd.i, Kd.k3, (by show 2 ≤ sizeLine; decide), fun l0 hl0 => ?_⟩
      have m0 := same_upd hl0 (o := .lst [V.bl (decide (10 = j)), V.bl (decide (3 = j))])
      have h0 : upd H3 l0 (.lst [V.bl (decide (10 = j)), V.bl (decide (3 = j))]) l0 = some (.lst [V.bl (decide (10 = j)), V.bl (decide (3 = j))]) := upd_same
      generalize upd H3 l0 (.lst [V.bl (decide (10 = j)), V.bl (decide (3 = j))]) = G0 at m0 h0
      refine ⟨_, rfl, _, rfl, x, Ce, _, _, _, rfl, rfl, (fun _ h => h), m0 _ _ hC, Kd.i, Kd.k0, _, rfl, x, Ce, _, _, _, rfl, rfl, (fun _ h => h), m0 _ _ hC, Kd.i, Kd.k1, (by show 2 ≤ sizeLine; decide), fun a1 ha1 => ?_⟩
      have n1 := same_upd ha1 (o := .lst [V.bl (decide (0 = j)), V.bl (decide (1 = j))])
      refine ⟨l0, a1, _, _, rfl, rfl, n1 _ _ h0, upd_same, (by show 2 + 2 ≤ sizeLine; decide), fun l1 hl1 => ?_⟩
      rw [show ([V.bl (decide (10 = j)), V.bl (decide (3 = j))] ++ [V.bl (decide (0 = j)), V.bl (decide (1 = j))] : List V) = [V.bl (decide (10 = j)), V.bl (decide (3 = j)), V.bl (decide (0 = j)), V.bl (decide (1 = j))] from rfl]
      have m1 := m0.trans (n1.trans (same_upd hl1 (o := .lst [V.bl (decide (10 = j)), V.bl (decide (3 = j)), V.bl (decide (0 = j)), V.bl (decide (1 = j))])))
      have hk : upd (upd G0 a1 (.lst [V.bl (decide (0 = j)), V.bl (decide (1 = j))])) l1 (.lst [V.bl (decide (10 = j)), V.bl (decide (3 = j)), V.bl (decide (0 = j)), V.bl (decide (1 = j))]) l1 = some (.lst [V.bl (decide (10 = j)), V.bl (decide (3 = j)), V.bl (decide (0 = j)), V.bl (decide (1 = j))]) := upd_same
      generalize upd (upd G0 a1 (.lst [V.bl (decide (0 = j)), V.bl (decide (1 = j))])) l1 (.lst [V.bl (decide (10 = j)), V.bl (decide (3 = j)), V.bl (decide (0 = j)), V.bl (decide (1 = j))]) = G1 at m1 hk
      have hj : j = 10 ∨ j = 3 ∨ j = 0 ∨ j = 1 := by
        simp only [List.mem_cons, Prod.mk.injEq, List.not_mem_nil, or_false] at hw
        omega
      refine ⟨_, rfl, (by show 5 ≤ sizeLine; decide), fun t1 ht1 => ?_⟩
      have n2 := same_upd ht1 (o := .tup [V.ref CEndless, V.ref CNoFigures, V.ref CNoGood, V.ref CNoName, V.ref CNoRow])
      refine ⟨x, Ce, t1, [CEndless, CNoFigures, CNoGood, CNoName, CNoRow], false, rfl, upd_same, n2 _ _ (m1 _ _ hC), Kd.i, kitAny_no (fun c hc => ?_), ?_⟩
      · simp only [List.mem_cons, List.not_mem_nil, or_false] at hc
        rcases hc with rfl | rfl | rfl | rfl | rfl
        · rw [Kd.k6, decide_eq_false (by omega)]
        · rw [Kd.k2, decide_eq_false (by omega)]
        · rw [Kd.k5, decide_eq_false (by omega)]
        · rw [Kd.k11, decide_eq_false (by omega)]
        · rw [Kd.k12, decide_eq_false (by omega)]
      have m3 := m1.trans n2
      have hk3 := n2 _ _ hk
      generalize upd G1 t1 (.tup [V.ref CEndless, V.ref CNoFigures, V.ref CNoGood, V.ref CNoName, V.ref CNoRow]) = G2 at m3 hk3
      refine ⟨_, rfl, _, rfl, iteF ⟨_, rfl, (by show 4 ≤ sizeLine; decide), fun t2 ht2 => ?_⟩⟩
      have n3 := same_upd ht2 (o := .tup [V.ref CNoRules, V.ref CNoStand, V.ref CNoStretch, V.ref CTooMany])
      refine ⟨x, Ce, t2, [CNoRules, CNoStand, CNoStretch, CTooMany], false, rfl, upd_same, n3 _ _ (m3 _ _ hC), Kd.i, kitAny_no (fun c hc => ?_), ?_⟩
      · simp only [List.mem_cons, List.not_mem_nil, or_false] at hc
        rcases hc with rfl | rfl | rfl | rfl
        · rw [Kd.k7, decide_eq_false (by omega)]
        · rw [Kd.k4, decide_eq_false (by omega)]
        · rw [Kd.k8, decide_eq_false (by omega)]
        · rw [Kd.k9, decide_eq_false (by omega)]
      have m4 := m3.trans n3
      have hk4 := n3 _ _ hk3
      generalize upd G2 t2 (.tup [V.ref CNoRules, V.ref CNoStand, V.ref CNoStretch, V.ref CTooMany]) = G3 at m4 hk4
      refine ⟨(by show 2 ≤ sizeLine; decide), fun f2 hf2 => ?_⟩
      have n4 := same_upd hf2 (o := .lst [.bl true, .str "other"])
      have m5 := m4.trans n4
      have hk5 := n4 _ _ hk4
      generalize upd G3 f2 (.lst [.bl true, .str "other"]) = G4 at m5 hk5
      refine ⟨_, rfl, x, Ce, _, _, _, rfl, rfl, (fun _ h => h), m5 _ _ hC, Kd.i, Kd.v, _, rfl, iteT ?_⟩
      refine ⟨_, rfl, _, rfl, iteT ?_⟩
      have sk : SqL K G4 l1 ([decide (10 = j), decide (3 = j), decide (0 = j), decide (1 = j)].map V.bl) := SqL.of hk5
      have hj3 : j = 10 ∧ p = 0 ∧ dk = "text" ∨ j = 3 ∧ p = 1 ∧ dk = "rule" ∨ j = 0 ∧ p = 2 ∧ dk = "base" ∨ j = 1 ∧ p = 3 ∧ dk = "number" := by
        simpa only [List.mem_cons, Prod.mk.injEq, List.not_mem_nil, or_false] using hw
      refine ⟨_, rfl, .inl ⟨rfl, _, sk⟩, l1, _, _, [decide (10 = j), decide (3 = j), decide (0 = j), decide (1 = j)].map Tr.bl, .bl true, rfl, rfl, sk, TrsAt.bls, by rw [TrAt], by simp [tdeps, tdep], rfl, _, rfl, iteA ?_ ?_⟩
      · rcases hj3 with ⟨rfl, rfl, rfl⟩ | ⟨rfl, rfl, rfl⟩ | ⟨rfl, rfl, rfl⟩ | ⟨rfl, rfl, rfl⟩ <;> rfl
      refine ⟨(by show 4 ≤ sizeLine; decide), fun l4 hl4 => ?_⟩
      have n5 := same_upd hl4 (o := .lst [.str "text", .str "rule", .str "base", .str "number"])
      have m6 := m5.trans n5
      have h6 : upd G4 l4 (.lst [.str "text", .str "rule", .str "base", .str "number"]) l4 = some (.lst [.str "text", .str "rule", .str "base", .str "number"]) := upd_same
      have sk6 : SqL K (upd G4 l4 (.lst [.str "text", .str "rule", .str "base", .str "number"])) l1 ([decide (10 = j), decide (3 = j), decide (0 = j), decide (1 = j)].map V.bl) := SqL.of (n5 _ _ hk5)
      generalize upd G4 l4 (.lst [.str "text", .str "rule", .str "base", .str "number"]) = G5 at m6 h6 sk6
      refine ⟨_, rfl, .inl ⟨rfl, _, sk6⟩, l1, _, _, [decide (10 = j), decide (3 = j), decide (0 = j), decide (1 = j)].map Tr.bl, .bl true, p, rfl, rfl, sk6, TrsAt.bls, by rw [TrAt], by simp [tdeps, tdep], ?_, ?_, ?_, ?_⟩
      · rcases hj3 with ⟨rfl, rfl, rfl⟩ | ⟨rfl, rfl, rfl⟩ | ⟨rfl, rfl, rfl⟩ | ⟨rfl, rfl, rfl⟩ <;> simp
      · intro t ht
        rcases hj3 with ⟨rfl, rfl, rfl⟩ | ⟨rfl, rfl, rfl⟩ | ⟨rfl, rfl, rfl⟩ | ⟨rfl, rfl, rfl⟩ <;> (cases ht; rfl)
      · intro m t hm ht
        rcases hj3 with ⟨rfl, rfl, rfl⟩ | ⟨rfl, rfl, rfl⟩ | ⟨rfl, rfl, rfl⟩ | ⟨rfl, rfl, rfl⟩
        · omega
        · match m, hm with
          | 0, _ => cases ht; rfl
        · match m, hm with
          | 0, _ => cases ht; rfl
          | 1, _ => cases ht; rfl
        · match m, hm with
          | 0, _ => cases ht; rfl
          | 1, _ => cases ht; rfl
          | 2, _ => cases ht; rfl
      refine ⟨l4, _, _, V.str dk, rfl, rfl, SqL.of h6, ?_, (by show 2 ≤ sizeLine; decide), fun f3 hf3 => ?_⟩
      · rcases hj3 with ⟨rfl, rfl, rfl⟩ | ⟨rfl, rfl, rfl⟩ | ⟨rfl, rfl, rfl⟩ | ⟨rfl, rfl, rfl⟩ <;> rfl
      have m7 := m2.trans m6
      exact ⟨_, rfl, kR dk hq f3 _ (m7.free hf3) (m7.trans (same_upd hf3)) upd_same⟩
end
end Lw
set_option Elab.async false
set_option linter.all false
set_option maxRecDepth 100000
namespace Lw
open PySem L2 PyProof.Rows
def allV : View := ⟨fun H => H, fun _ => True, fun h => h, fun {H p} o _ hp => ⟨trivial, same_upd hp, upd_same⟩⟩
def grV (sm : Addr) (ys : List V) : View := ⟨aw [sm], fun H => H sm = some (.lst ys), fun h => aw_same _ _ _ _ h, fun {H p} o ok hp => by
  have n : p ≠ sm := Ne.symm (ne_of_none ok hp)
  refine ⟨by rw [upd_ne (Ne.symm n)]; exact ok, (same_upd hp).aw [sm], ?_⟩
  rw [aw_out (by simpa using n)]; exact upd_same⟩
section
variable {K : PySem.W.Frag} {s : Addr} {Γ : Cxt} {te : TE} {lo hi : Int} {x : Nat}
def badD (ls : List (List Int)) : PyData := .list (ls.map fun l => .list (l.map .int))
def tyRx (b : Nat) (ls : List (List Int)) : Ty := ⟨fun G v => ∃ r bl, v = .ref r ∧ G r = some (.tup [.int b, .ref bl]) ∧ ThAt G (badD ls) (.ref bl), fun s ⟨r, bl, h1, h2, h3⟩ => ⟨r, bl, h1, s _ _ h2, h3.same s⟩⟩
theorem tyRx.of {G : Hp} {r bl : Addr} {b : Nat} {zs : List (Addr × List Int)} (R : RuleAt G r b bl zs) : (tyRx b (zs.map (·.2))).p G (.ref r) := by
  refine ⟨r, bl, rfl, R.tu, ?_⟩
  unfold badD
  rw [List.map_map]
  exact ThAt.lst R.li (ThsAt.map fun z hz => ThAt.ints (R.st z hz))
end
def noFig (b : Int) : PyData → Bool := fun d => !figT b d
def noStr (b : Int) : PyData → Bool := fun d => !stretchT b d
def noBad (b : Int) : PyData → Bool := fun d => !badT b d
def noRul : PyData → Bool := fun d => !ruleT d
def noBas : PyData → Bool := fun d => !baseT d
def noNum : PyData → Bool := fun d => !numT d
def isI (b : Int) : PyData → Bool
  | .int i => decide (i = b)
  | _ => false
section
variable {b : Int} {s : Nat}
theorem noFig_of (hs : s ≠ 2) : ∀ d, shT d = s → noFig b d = true := fun d h => by cases d <;> first | rfl | exact absurd h.symm hs
theorem noStr_of (hs : s ≠ 4) : ∀ d, shT d = s → noStr b d = true := fun d h => by cases d <;> first | rfl | exact absurd h.symm hs
theorem noBad_of (hs : s ≠ 4) : ∀ d, shT d = s → noBad b d = true := fun d h => by cases d <;> first | rfl | exact absurd h.symm hs
theorem noRul_of (hs : s ≠ 5) : ∀ d, shT d = s → noRul d = true := fun d h => by cases d <;> first | rfl | exact absurd h.symm hs
theorem noBas_of (hs : s ≠ 2) : ∀ d, shT d = s → noBas d = true := fun d h => by cases d <;> first | rfl | exact absurd h.symm hs
theorem noNum_of (hs : s ≠ 2) : ∀ d, shT d = s → noNum d = true := fun d h => by cases d <;> first | rfl | exact absurd h.symm hs
theorem noFig_I {x : Int} (h : x < 0 ∨ b ≤ x) : noFig b (.int x) = true := by
  show (!decide (0 ≤ x ∧ x < b)) = true
  rw [decide_eq_false (by omega)]; rfl
theorem noBas_I {x : Int} (h : x < 2 ∨ 16 < x) : noBas (.int x) = true := by
  show (!decide (2 ≤ x ∧ x ≤ 16)) = true
  rw [decide_eq_false (by omega)]; rfl
theorem noNum_I {x : Int} (h : x < 0) : noNum (.int x) = true := by
  show (!decide (0 ≤ x)) = true
  rw [decide_eq_false (by omega)]; rfl
theorem not_t {c : Bool} (h : (!c) = true) : c = false := by cases c <;> first | rfl | cases h
theorem noStr_in (ds : List PyData) (d : PyData) (h : d ∈ ds) (hd : noFig b d = true) : noStr b (.list ds) = true := by
  have : ds.all (figT b) = false := by
    rw [List.all_eq_false]
    exact ⟨d, h, by rw [not_t hd]; intro z; cases z⟩
  show (!(ds.all (figT b) && _)) = true
  rw [this]; rfl
theorem noStr_len {ds : List PyData} (h : ds.length < 1 ∨ 4 < ds.length) : noStr b (.list ds) = true := by
  show (!(ds.all (figT b) && decide (1 ≤ ds.length ∧ ds.length ≤ 4))) = true
  rw [decide_eq_false (by omega), Bool.and_false]; rfl
theorem noBad_in (ds : List PyData) (d : PyData) (h : d ∈ ds) (hd : noStr b d = true) : noBad b (.list ds) = true := by
  have : ds.all (stretchT b) = false := by
    rw [List.all_eq_false]
    exact ⟨d, h, by rw [not_t hd]; intro z; cases z⟩
  show (!(decide (ds.length ≤ 4) && (ds.all (stretchT b) && risingL (ds.map intsT)))) = true
  rw [this, Bool.false_and, Bool.and_false]; rfl
theorem noBad_len {ds : List PyData} (h : 4 < ds.length) : noBad b (.list ds) = true := by
  show (!(decide (ds.length ≤ 4) && _)) = true
  rw [decide_eq_false (by omega), Bool.false_and]; rfl
theorem noBad_rise {ds : List PyData} (h : risingL (ds.map intsT) = false) : noBad b (.list ds) = true := by
  show (!(decide (ds.length ≤ 4) && (ds.all (stretchT b) && risingL (ds.map intsT)))) = true
  rw [h, Bool.and_false, Bool.and_false]; rfl
theorem noRul_1 {b : Int} (d e : PyData) (h : isI b d = true) (he : noBad b e = true) : noRul (.tuple [d, e]) = true := by
  cases d with
  | int i =>
    have h : i = b := of_decide_eq_true h
    subst h
    show (!(baseT (.int i) && badT i e)) = true
    rw [not_t he, Bool.and_false]; rfl
  | _ => cases h
theorem noRul_2 (d e : PyData) (h : noBas d = true) (_ : (fun _ => true) e = true) : noRul (.tuple [d, e]) = true := by
  show (!(baseT d && badT (intT d) e)) = true
  rw [not_t h, Bool.false_and]; rfl
theorem noRul_len {ds : List PyData} (h : ds.length ≠ 2) : noRul (.tuple ds) = true := by
  match ds, h with
  | [], _ => rfl
  | [_], _ => rfl
  | [_, _], h => exact absurd rfl h
  | _ :: _ :: _ :: _, _ => rfl
end
theorem Fit.lst {k n n' : Nat} {ds : List PyData} (h : ∀ d ∈ ds, Fit k n d) (hn : (n + 1) * ds.length ≤ n') : Fit (k + 1) n' (.list ds) := by
  have go : ∀ ds : List PyData, (∀ d ∈ ds, Fit k n d) → PyData.leavesShortAll 40 ds = true ∧ PyData.showableAll ds = true ∧ PyData.depthAll ds ≤ k ∧ PyData.weightAll ds ≤ (n + 1) * ds.length := by
    intro ds
    induction ds with
    | nil => intro _; exact ⟨by rw [PyData.leavesShortAll], by rw [PyData.showableAll], by rw [PyData.depthAll]; exact Nat.zero_le _, by rw [PyData.weightAll]; exact Nat.zero_le _⟩
    | cons d ds ih =>
      intro h
      obtain ⟨g2, g3, g4, g5⟩ := ih fun d hd => h d (.tail _ hd)
      have f := h d (.head _)
      refine ⟨by rw [PyData.leavesShortAll, f.ls, g2]; rfl, by rw [PyData.showableAll, f.sh, g3]; rfl, ?_, ?_⟩
      · rw [PyData.depthAll]; have := f.dp; omega
      · rw [PyData.weightAll, List.length_cons, Nat.mul_succ]; have := f.wt; omega
  obtain ⟨g2, g3, g4, g5⟩ := go ds h
  exact ⟨by rw [PyData.leavesShort]; exact g2, by rw [PyData.showable]; exact g3, by rw [PyData.depth]; omega, by rw [PyData.weight]; omega⟩
theorem Fit.int {k n : Nat} {i : Int} (h : i.natAbs < 10 ^ 30) (hn : 100 ≤ n) : Fit k n (.int i) := Th.fit (H := fun _ => none) (v := .int i) (Th.int h hn) (by rw [ThAt])
theorem Fit.ints {n : Nat} {l : List Int} (h : ∀ i ∈ l, i.natAbs < 10 ^ 30) (hn : 101 * l.length ≤ n) : Fit 1 n (.list (l.map .int)) := Fit.lst (k := 0) (n := 100) (fun d hd => by
  obtain ⟨i, hi, rfl⟩ := List.mem_map.mp hd
  exact Fit.int (h i hi) (Nat.le_refl _)) (by rw [List.length_map]; exact hn)
theorem bad_fit {b : Nat} {ls : List (List Int)} (g : GoodRule b ls) : ∀ d ∈ ls.map (fun l => PyData.list (l.map .int)), Fit 1 404 d := fun d hd => by
  obtain ⟨l, hl, rfl⟩ := List.mem_map.mp hd
  have st := g.st l hl
  have b16 := g.b16
  exact Fit.ints (fun i hi => by have := st.fig i hi; omega) (by have := st.len; omega)
theorem fitL (ls : List (List Int)) (h1 : ls.length ≤ 6) (h2 : ∀ l ∈ ls, l.length ≤ 4) (h3 : ∀ l ∈ ls, ∀ i ∈ l, i.natAbs < 10 ^ 30) : Fit 3 9856 (.list (ls.map fun l => .list (l.map .int))) :=
  (Fit.lst (k := 1) (n := 404) (n' := 9856) (fun d hd => by
    obtain ⟨l, hl, rfl⟩ := List.mem_map.mp hd
    exact Fit.ints (h3 l hl) (by have := h2 l hl; omega)) (by rw [List.length_map]; omega)).le (by decide) (by decide)
end Lw
set_option Elab.async false
set_option linter.all false
set_option maxRecDepth 100000
namespace Lw
open PySem L2 PyProof.Rows
theorem tp_strB {w : View} {Γ : Cxt} {te : TE} {b : Nat} (b2 : 2 ≤ b) (b16 : b ≤ 16) (h : Tp w Γ te (tyI b b)) : Tp w Γ (tCB rStrI (tCons te tNil)) (tyS 0 100 3) := fun σ H Q o f q => h σ H _ o f fun v H1 o1 s1 ⟨i, e, h1, h2⟩ => by
  obtain rfl : i = (b : Int) := by omega
  subst e
  refine ⟨_, rfl, ?_, ?_⟩
  · show Nat.log2 b < 1920
    exact Nat.lt_of_le_of_lt (Nat.log2_le_self b) (by omega)
  · have hh : ∀ b : Nat, b < 17 → ((((toString (b : Int) : String) : Str).cps.toList.all fun c => decide (c < 16 ^ 8)) = true ∧ ((toString (b : Int) : String) : Str).cps.size ≤ 100) := by decide +kernel
    exact q _ H1 o1 s1 ((Th.str (hh b (by omega)).1 (hh b (by omega)).2).sh fun d t => by rw [t.uniq (e := .str _) (by rw [ThAt])]; rfl)
theorem aw_grow {p : Addr} {H : Hp} {o : HO} (h : H p = none) : Same H (aw [p] (upd H p o)) := fun c u e => by
  have n := ne_of_none e h
  rw [aw_out (by simpa using n), upd_ne n]; exact e
theorem fitM (ls : List (List Int)) (h1 : ls.length ≤ 6) (h2 : ∀ l ∈ ls, l.length ≤ 4) (h3 : ∀ l ∈ ls, ∀ i ∈ l, i.natAbs < 10 ^ 30) : Fit 3 12672 (.list (ls.map fun l => .list (l.map .int))) := (fitL ls h1 h2 h3).le (by decide) (by decide)
theorem rev_bad {b : Nat} {ls : List (List Int)} (g : GoodRule b ls) (h : 1 < ls.length) : Fit 3 12672 (.list (ls.map fun l => PyData.list (l.map .int)).reverse) ∧ noBad b (.list (ls.map fun l => PyData.list (l.map .int)).reverse) = true := by
  constructor
  · refine (Fit.lst (k := 1) (n := 404) (n' := 1620) (fun d hd => bad_fit g d (List.mem_reverse.mp hd)) ?_).le (by decide) (by decide)
    have := g.len
    rw [List.length_reverse, List.length_map]
    omega
  · refine noBad_rise ?_
    rw [← List.map_reverse, badD_ints, Bool.eq_false_iff]
    intro hr
    have p1 := List.pairwise_reverse.mp (rise_pair hr)
    have p2 := g.up
    match ls, h, p1, p2 with
    | x :: y :: r, _, p1, p2 =>
      rw [List.pairwise_cons] at p1 p2
      have a1 := p1.1 y List.mem_cons_self
      have a2 := p2.1 y List.mem_cons_self
      have := HT.lexLt_trans _ _ _ a1 a2
      rw [HT.lexLt_irrefl] at this
      cases this
section
variable {P : Program} {w : World} {K : PySem.W.Frag} {mg : Str → Option Value} {base : Heap}
def sp__law_bad : Sp := fun vs H Q _ => ∃ (r : Addr) (c b : Nat) (bl : Addr) (zs : List (Addr × List Int)), vs = [.ref r, .int c] ∧ RuleAt H r b bl zs ∧ GoodRule b (zs.map (·.2)) ∧ ∀ (v : V) (d : PyData) (H' : Hp), Same H H' → ThAt H' d v → ruleT d = false → Fit 4 25346 d → Q v H'
theorem sc__law_bad : FnScope ["rule", "cell", "base", "bad", "some", "at", "odd", "one"] ["rule", "cell"] (defScope s__law_bad) := ⟨rfl, rfl, rfl, by decide +kernel, rfl, by decide +kernel, by decide +kernel⟩
set_option maxHeartbeats 8000000 in
theorem ok__law_bad {f : Addr} {fd : FuncData} (D : Df K mg "_law_bad" s__law_bad ["rule", "cell"] f fd) (T : Blt mg) (U : Blt2 mg) : FnOk P w K mg base CX0 1 f fd ["rule", "cell"] sp__law_bad := by
  refine D.fn.ok sc__law_bad (fun vs H Q E h => ?_) (fun cdv A outer s H vs Q E hr h => ?_)
  · obtain ⟨r, c, b, bl, zs, rfl, _⟩ := h; rfl
  · obtain ⟨r, c, b, bl, zs, rfl, R, g, kk⟩ := h
    have HU := HUof hr
    have b2 := g.b2
    have b16 := g.b16
    have TB : ThAt H (badD (zs.map (·.2))) (.ref bl) := by
      obtain ⟨r', bl', e, h1, h2⟩ := tyRx.of R
      obtain rfl : r = r' := by injection e
      have := R.tu
      rw [h1] at this
      injection this with this
      injection this with this
      injection this with _ this
      injection this with this
      injection this with this
      rw [← this]; exact h2
    have zl : zs.length ≤ 4 := by have := g.len; rwa [List.length_map] at this
    have hbl := R.li
    have hRt := R.tu
    refine ⟨_, (pss_cons (ps_asg (pv 0) (pg_tup rfl (pgs_cons (pg_name (i := 2) sc__law_bad.nd rfl (Or.inl rfl)) (pgs_cons (pg_name (i := 3) sc__law_bad.nd rfl (Or.inl rfl)) pgs_nil))))
      (pss_cons (ps_setI (i := 4) sc__law_bad.nd rfl (Or.inl rfl) (pei_lst (pai_cons (pei pe_non) (pai_cons (pei (pv 2)) (pai_cons (pei (pe_tup (pa_cons (pv 2) pa_nil))) (pai_cons (pei (pe_lst (pa_cons (pv 2) (pa_cons (pv 3) pa_nil)))) (pai_cons (pei (pe_tup (pa_cons (pv 2) (pa_cons (pv 3) (pa_cons pe_int pa_nil))))) (pai_cons (pei_tup (pai_cons pei_int (pai_cons (pei_lst pai_nil) pai_nil))) pai_nil))))))))
      (pss_cons (ps_set (i := 4) sc__law_bad.nd rfl (Or.inl rfl) (pe_op op_cat (pv 4) (pe_lst (pa_cons (pe_tup (pa_cons pe_int (pa_cons (pe_lst pa_nil) pa_nil))) (pa_cons (pe_tup (pa_cons pe_bl (pa_cons (pe_lst pa_nil) pa_nil))) (pa_cons (pe_tup (pa_cons (pe_callTy call_strI (by rfl) U.n_str boot_str (pa_cons (pv 2) pa_nil)) (pa_cons (pv 3) pa_nil))) pa_nil))))))
      (pss_cons (ps_set (i := 4) sc__law_bad.nd rfl (Or.inl rfl) (pe_op op_cat (pv 4) (pe_lst (pa_cons (pe_tup (pa_cons (pv 2) (pa_cons pe_non pa_nil))) (pa_cons (pe_tup (pa_cons (pv 2) (pa_cons (pe_callTy call_tuple_of (by rfl) T.n_tuple boot_tuple (pa_cons (pv 3) pa_nil)) pa_nil))) pa_nil)))))
      (pss_cons (ps_set (i := 5) sc__law_bad.nd rfl (Or.inl rfl) (pe_op op_mod (pe_op op_fdivB (pv 1) pe_int) (pe_op op_add (pe_callB (k_len K) (by rfl) T.n_len PySem.boot_len (pa_cons (pv 3) pa_nil)) pe_int)))
      (pss_cons (ps_setI (i := 6) sc__law_bad.nd rfl (Or.inl rfl) (pei_lst (pai_cons (pei_lst pai_nil) (pai_cons (pei (pe_lst (pa_cons (pv 2) pa_nil))) (pai_cons (pei_lst (pai_cons (pei (pe_un un_neg pe_int)) pai_nil)) (pai_cons (pei_lst (pai_cons (pei pe_bl) pai_nil)) (pai_cons (pei_lst (pai_cons (pei pe_non) pai_nil)) (pai_cons (pei_lst (pai_str pai_nil)) (pai_cons (pei_lst (pai_cons pei_int (pai_cons pei_int (pai_cons pei_int (pai_cons pei_int (pai_cons pei_int pai_nil)))))) (pai_cons (pei_tup (pai_cons pei_int pai_nil)) pai_nil))))))))))
      (pss_cons (ps_for PassesOwn.never rfl (k_pi K (pe_opJ op_cat (pv 6) (pei_lst (pai_cons pei_int (pai_str (pai_cons (pei pe_non) (pai_cons (pei_lst (pai_cons (pei_lst (pai_cons pei_int pai_nil)) pai_nil)) (pai_cons (pei (pe_lst (pa_cons pe_int (pa_cons (pv 2) pa_nil)))) (pai_cons (pei_lst (pai_cons pei_int (pai_cons pei_int (pai_cons (pei (pe_un un_neg pe_int)) pai_nil)))) pai_nil))))))))) (pg_name (i := 7) sc__law_bad.nd rfl (Or.inl rfl))
        (pss_one (ps_expr (pe_bm PySem.F.plainAttrs_list PySem.F.slot_list_append PySem.F.type_list_append mt_append (pv 4) (pa_cons (pe_tup (pa_cons (pv 2) (pa_cons (pe_op op_cat (pe_op op_cat (pe_slice (k_slL K) (pv 3) po_none (po_some (pv 5))) (pe_lst (pa_cons (pv 7) pa_nil))) (pe_slice (k_slL K) (pv 3) (po_some (pe_op op_add (pv 5) pe_int)) po_none)) pa_nil))) pa_nil)))))
      (pss_cons (ps_expr (pe_bm PySem.F.plainAttrs_list PySem.F.slot_list_append PySem.F.type_list_append mt_append (pv 4) (pa_cons (pe_tup (pa_cons (pv 2) (pa_consI (pei_lst (pai_cons (pei_lst (pai_cons pei_int pai_nil)) (pai_cons (pei_lst (pai_cons pei_int (pai_cons pei_int pai_nil))) (pai_cons (pei_lst (pai_cons pei_int pai_nil)) (pai_cons (pei_lst (pai_cons pei_int (pai_cons pei_int pai_nil))) (pai_cons (pei_lst (pai_cons pei_int (pai_cons pei_int pai_nil))) pai_nil)))))) pa_nil))) pa_nil)))
      (pss_cons (ps_expr (pe_bm PySem.F.plainAttrs_list PySem.F.slot_list_append PySem.F.type_list_append mt_append (pv 4) (pa_cons (pe_tup (pa_cons (pv 2) (pa_cons (pe_lst (pa_cons (pe_lst (pa_cons pe_int pa_nil)) (pa_cons (pe_lst (pa_cons pe_int pa_nil)) pa_nil))) pa_nil))) pa_nil)))
      (pss_cons (ps_expr (pe_bm PySem.F.plainAttrs_list PySem.F.slot_list_append PySem.F.type_list_append mt_append (pv 4) (pa_cons (pe_tup (pa_cons (pv 2) (pa_cons (pe_lst (pa_cons (pe_lst (pa_cons pe_int (pa_cons pe_int pa_nil))) (pa_cons (pe_lst (pa_cons pe_int (pa_cons pe_int pa_nil))) pa_nil))) pa_nil))) pa_nil)))
      (pss_cons (ps_mid (ps_if (pt_cmpR op_gt (pe_callB (k_len K) (by rfl) T.n_len PySem.boot_len (pa_cons (pv 3) pa_nil)) pe_int (nomark _))
        (pss_one (ps_expr (pe_bm PySem.F.plainAttrs_list PySem.F.slot_list_append PySem.F.type_list_append mt_append (pv 4) (pa_cons (pe_tup (pa_cons (pv 2) (pa_cons (pe_revSlice (pv 3)) pa_nil))) pa_nil))))
        pss_nil))
      (pss_one (ps_ret (pe_ix (k_ixL K) (pv 4) (pe_op op_mod (pv 1) (pe_callB (k_len K) (by rfl) T.n_len PySem.boot_len (pa_cons (pv 4) pa_nil))) (fun _ _ => rfl))))))))))))))), ?_⟩
    refine ⟨_, rfl, r, _, rfl, SqT.of R.tu, rfl, _, _, rfl, _, _, rfl, rfl, ?_⟩
    have hls : (zs.map (·.2)).length = zs.length := List.length_map _
    generalize zs.map (·.2) = ls at g TB hls
    have hB : ∀ {w : View} {Γ : Cxt} {x : Nat}, Γ[x]? = some (some (tyD (badD ls))) → Tp w Γ (tVar x) (tyL 1 404 0 4) := fun h => Tp.wideL (Tp.dL (Tp.var h) (bad_fit g)) (fun _ _ t => t) (Nat.zero_le _) (by rw [List.length_map]; exact g.len)
    refine Tp.asg2 (w := allV) (Γ := [none, none, some (tyI b b), some (tyD (badD ls)), none, none, none, none]) (T1 := tyLof (tyQ 4 25346 noRul) 6 6) (Tp.lstT (TpB.cons (Tp.sQ Tp.nonS (noRul_of (by decide)))
        (TpB.cons (Tp.qI (Tp.var rfl) (fun _ _ _ => rfl) (by omega) (by omega))
        (TpB.cons (Tp.tupQ (TpA.cons (Tp.ofI (Tp.var rfl) (by omega) (by omega)) TpA.nil) (fun ds h => noRul_len (by omega)))
        (TpB.cons (Tp.sQ (Tp.lS (Tp.lst (TpA.cons (Tp.ofI (Tp.var rfl) (by omega) (by omega)) (TpA.cons (Tp.ofL (hB rfl)) TpA.nil)))) (noRul_of (by decide)))
        (TpB.cons (Tp.tupQ (TpA.cons (Tp.ofI (Tp.var rfl) (by omega) (by omega)) (TpA.cons (Tp.ofL (hB rfl)) (TpA.cons (Tp.ofI Tp.int) TpA.nil))) (fun ds h => noRul_len (by omega)))
        (TpB.cons (Tp.tup2 (k := 3) (n := 12672) (P := noBas) (P' := fun _ => true) (Tp.qI Tp.int (fun x h1 h2 => noBas_I (.inl (by omega)))) (Tp.lenQ (Tp.lst TpA.nil) (fun _ _ _ => rfl)) noRul_2)
        TpB.nil))))))) trivial (Fits.skip (Fits.skip (Fits.cons ⟨_, rfl, Int.le_refl _, Int.le_refl _⟩ (Fits.cons TB (Fits.any _))))) fun v1 H1 _ m1 t1 => ?_
    have TB1 := TB.same m1
    refine Tp.asg2 (w := allV) (Γ := [none, none, some (tyI b b), some (tyD (badD ls)), some (tyLof (tyQ 4 25346 noRul) 6 6), none, none, none]) (T1 := tyLof (tyQ 4 25346 noRul) 9 9) (Tp.catT (Tp.var rfl) (Tp.lstT (TpB.cons (Tp.tup2 (k := 3) (n := 12672) (P := noBas) (P' := fun _ => true) (Tp.qI Tp.int (fun x h1 h2 => noBas_I (.inr (by omega)))) (Tp.lenQ (Tp.lst TpA.nil) (fun _ _ _ => rfl)) noRul_2)
        (TpB.cons (Tp.tup2 (k := 3) (n := 12672) (P := noBas) (P' := fun _ => true) (Tp.sQ Tp.blS (noBas_of (by decide))) (Tp.lenQ (Tp.lst TpA.nil) (fun _ _ _ => rfl)) noRul_2)
        (TpB.cons (Tp.tup2 (k := 3) (n := 12672) (P := noBas) (P' := fun _ => true) (Tp.sQ (tp_strB b2 b16 (Tp.var rfl)) (noBas_of (by decide))) (Tp.lenQ (hB rfl) (fun _ _ _ => rfl)) noRul_2)
        TpB.nil))))) trivial (Fits.skip (Fits.skip (Fits.cons ⟨_, rfl, Int.le_refl _, Int.le_refl _⟩ (Fits.cons TB1 (Fits.cons t1 (Fits.any _)))))) fun v2 H2 _ m2 t2 => ?_
    have TB2 := TB1.same m2
    obtain ⟨a2, x2, rfl, h2, l2, l2', q2⟩ := t2
    refine ⟨_, rfl, ?_⟩
    refine (Tp.lstT (w := allV) (Γ := [none, none, some (tyI b b), some (tyD (badD ls)), none, none, none, none]) (T := tyQ 4 25346 noRul) (TpB.cons (Tp.tup2 (k := 3) (n := 12672) (P := isI b) (P' := noBad b) (Tp.qI (Tp.var rfl) (fun x h1 h2 => decide_eq_true (by omega)) (by omega) (by omega)) (Tp.sQ Tp.nonS (noBad_of (by decide))) noRul_1)
        (TpB.cons (Tp.tup2 (k := 3) (n := 12672) (P := isI b) (P' := noBad b) (Tp.qI (Tp.var rfl) (fun x h1 h2 => decide_eq_true (by omega)) (by omega) (by omega)) (Tp.sQ (Tp.tupOfS (hB rfl)) (noBad_of (by decide))) noRul_1)
        TpB.nil))) _ _ _ trivial (Fits.skip (Fits.skip (Fits.cons ⟨_, rfl, Int.le_refl _, Int.le_refl _⟩ (Fits.cons TB2 (Fits.any _))))) fun v3 H3 _ m3 t3 => ?_
    obtain ⟨b3, x3, rfl, h3, l3, l3', q3⟩ := t3
    refine ⟨a2, b3, x2, x3, rfl, rfl, m3 _ _ h2, h3, Nat.le_trans (show x2.length + x3.length ≤ 11 by omega) (by decide), fun sm hsm => ?_⟩
    have S03 : Same H H3 := m1.trans (m2.trans m3)
    have G04 : Same H (aw [sm] (upd H3 sm (.lst (x2 ++ x3)))) := S03.trans (aw_grow hsm)
    have TB4 : ThAt (aw [sm] (upd H3 sm (.lst (x2 ++ x3)))) (badD ls) (.ref bl) := TB.same G04
    have y4 : ∀ y ∈ x2 ++ x3, (tyQ 4 25346 noRul).p (aw [sm] (upd H3 sm (.lst (x2 ++ x3)))) y := fun y hy => by
      rcases List.mem_append.mp hy with hy | hy
      · exact (tyQ 4 25346 noRul).mo (Same.trans m3 (aw_grow hsm)) (q2 y hy)
      · exact (tyQ 4 25346 noRul).mo (aw_grow hsm) (q3 y hy)
    have yl4 : (x2 ++ x3).length = 11 := by rw [List.length_append]; omega
    have ok4 : upd H3 sm (.lst (x2 ++ x3)) sm = some (.lst (x2 ++ x3)) := upd_same
    generalize upd H3 sm (.lst (x2 ++ x3)) = H4 at G04 TB4 y4 ok4
    generalize x2 ++ x3 = ys0 at y4 yl4 ok4
    refine ⟨_, rfl, _, _, rfl, rfl, ⟨by decide, by decide⟩, _, rfl, bl, _, rfl, .inl (SqL.of (aw_same _ _ _ _ (G04 _ _ hbl))), _, _, rfl, rfl, _, _, rfl, rfl, by omega, ?_⟩
    rw [List.length_map]
    have at1 : 0 ≤ (c : Int) / 100 % ((zs.length : Int) + 1) := Int.emod_nonneg _ (by omega)
    have at2 : (c : Int) / 100 % ((zs.length : Int) + 1) < (zs.length : Int) + 1 := Int.emod_lt_of_pos _ (by omega)
    dsimp only
    generalize ((c : Int) / 100 % ((zs.length : Int) + 1)) = at0 at at1 at2
    have at4 : at0 ≤ 4 := by omega
    refine Tp.asg2 (w := grV sm ys0) (Γ := [none, none, some (tyI b b), some (tyD (badD ls)), none, none, none, none]) (T1 := tyLof (tyQ 2 1407 (noStr b)) 8 8) (Tp.lstT (TpB.cons (Tp.lenQ (Tp.lst TpA.nil) (fun ds _ h => noStr_len (.inl (by omega))))
        (TpB.cons (Tp.lxQ (Tp.oneX (k := 1) (n := 200) (P := noFig b) (Tp.qI (Tp.var rfl) (fun x h1 h2 => noFig_I (.inr (by omega))) (by omega) (by omega))) noStr_in)
        (TpB.cons (Tp.lxQ (Tp.oneX (k := 1) (n := 200) (P := noFig b) (Tp.qI (Tp.neg Tp.int) (fun x h1 h2 => noFig_I (.inl (by omega))))) noStr_in)
        (TpB.cons (Tp.lxQ (Tp.oneX (k := 1) (n := 200) (P := noFig b) (Tp.sQ Tp.blS (noFig_of (by decide)))) noStr_in)
        (TpB.cons (Tp.lxQ (Tp.oneX (k := 1) (n := 200) (P := noFig b) (Tp.sQ Tp.nonS (noFig_of (by decide)))) noStr_in)
        (TpB.cons (Tp.lxQ (Tp.oneX (k := 1) (n := 200) (P := noFig b) (Tp.sQ (Tp.strS (by decide +kernel) (by decide +kernel)) (noFig_of (by decide)))) noStr_in)
        (TpB.cons (Tp.lenQ (Tp.lst (TpA.cons (Tp.ofI Tp.int) (TpA.cons (Tp.ofI Tp.int) (TpA.cons (Tp.ofI Tp.int) (TpA.cons (Tp.ofI Tp.int) (TpA.cons (Tp.ofI Tp.int) TpA.nil)))))) (fun ds h _ => noStr_len (.inr (by omega))))
        (TpB.cons (Tp.tupQ (TpA.cons (Tp.ofI Tp.int) TpA.nil) (fun _ _ => rfl))
        TpB.nil))))))))) ok4 (Fits.skip (Fits.skip (Fits.cons ⟨_, rfl, Int.le_refl _, Int.le_refl _⟩ (Fits.cons TB4 (Fits.any _))))) fun vo H5 o5 m5 t5 => ?_
    have TB5 := TB4.same m5
    refine (Tp.catT (w := grV sm ys0) (Γ := [none, none, some (tyI b b), some (tyD (badD ls)), none, none, some (tyLof (tyQ 2 1407 (noStr b)) 8 8), none]) (Tp.var rfl) (Tp.lstT (TpB.cons (Tp.qI Tp.int (fun _ _ _ => rfl))
        (TpB.cons (Tp.sQ (Tp.strS (by decide +kernel) (by decide +kernel)) (noStr_of (by decide)))
        (TpB.cons (Tp.sQ Tp.nonS (noStr_of (by decide)))
        (TpB.cons (Tp.lxQ (Tp.oneX (k := 1) (n := 200) (P := noFig b) (Tp.sQ (Tp.lS (Tp.lst (TpA.cons (Tp.ofI Tp.int) TpA.nil))) (noFig_of (by decide)))) noStr_in)
        (TpB.cons (Tp.dQ (Tp.lstD (TpD.cons Tp.intD (TpD.cons (Tp.ofID (Tp.var rfl)) TpD.nil))) ((Fit.ints (n := 1407) (l := [0, (b : Int)]) (fun i hi => by simp at hi; omega) (by simp)).le (by decide) (by decide)) (noStr_in _ (.int b) (by simp) (noFig_I (.inr (Int.le_refl _)))))
        (TpB.cons (Tp.dQ (Tp.lstD (TpD.cons Tp.intD (TpD.cons Tp.intD (TpD.cons (Tp.ofID (Tp.neg Tp.int)) TpD.nil)))) ((Fit.ints (n := 1407) (l := [0, 0, -1]) (fun i hi => by simp at hi; omega) (by decide)).le (by decide) (by decide)) (noStr_in _ (.int (-1)) (by simp) (noFig_I (.inl (by decide)))))
        TpB.nil)))))))) _ _ _ o5 (Fits.skip (Fits.skip (Fits.cons ⟨_, rfl, Int.le_refl _, Int.le_refl _⟩ (Fits.cons TB5 (Fits.skip (Fits.skip (Fits.cons t5 (Fits.any _)))))))) fun vi H6 o6 m6 t6 => ?_
    have TB6 := TB5.same m6
    obtain ⟨ai, xi, rfl, hi6, li, li', qi⟩ := t6
    have y6 : ∀ y ∈ ys0, (tyQ 4 25346 noRul).p (aw [sm] H6) y := fun y hy => (tyQ 4 25346 noRul).mo (Same.trans m5 m6) (y4 y hy)
    have G06 : Same H (aw [sm] H6) := G04.trans (Same.trans m5 m6)
    have put : ∀ {G G1 : Hp} {ys : List V} {v : V}, Same (aw [sm] H6) (aw [sm] G) → Same (aw [sm] G) (aw [sm] G1) → (∀ y ∈ ys, (tyQ 4 25346 noRul).p (aw [sm] G) y) → (tyQ 4 25346 noRul).p (aw [sm] G1) v → (∀ y ∈ ys ++ [v], (tyQ 4 25346 noRul).p (aw [sm] (upd G1 sm (.lst (ys ++ [v])))) y) ∧ Same (aw [sm] H6) (aw [sm] (upd G1 sm (.lst (ys ++ [v])))) := fun {G G1 ys v} m0 m1 hy hv => by
      refine ⟨fun y hy' => ?_, m0.trans (m1.trans aw1_out)⟩
      rcases List.mem_append.mp hy' with h | h
      · exact (tyQ 4 25346 noRul).mo (m1.trans aw1_out) (hy y h)
      · rw [List.mem_singleton.mp h]
        exact (tyQ 4 25346 noRul).mo aw1_out hv
    refine ⟨ai, rfl, ⟨_, SqL.of (aw_same _ _ _ _ hi6)⟩, for_list (K := K) (a := ai) (xs := xi) (fun i σ G => ∃ (v7 : Option V) (ys : List V), σ = [some (.ref r), some (.int c), some (.int b), some (.ref bl), some (.ref sm), some (.int at0), some vo, v7] ∧ G sm = some (.lst ys) ∧ ys.length = 11 + i ∧ (∀ y ∈ ys, (tyQ 4 25346 noRul).p (aw [sm] G) y) ∧ Same (aw [sm] H6) (aw [sm] G)) ⟨_, ys0, rfl, o6, yl4, y6, Same.refl _⟩ (fun i σ G _ ⟨_, _, _, _, _, _, mG⟩ => SqL.of (aw_same _ _ _ _ (mG _ _ hi6))) ?_ ?_⟩
    · rintro i x σ G hx ⟨v7, ys, rfl, hG, yl, yq, mG⟩
      have hi : i < xi.length := (List.getElem?_eq_some_iff.mp hx).1
      refine ⟨_, rfl, .inl ⟨rfl, _, SqL.of hG⟩, ?_⟩
      refine (Tp.tup2 (k' := 4) (n' := 25346) (w := grV sm ys) (Γ := [none, none, some (tyI b b), some (tyD (badD ls)), none, some (tyI 0 4), none, some (tyQ 2 1407 (noStr b))]) (k := 3) (n := 12672) (P := isI b) (P' := noBad b) (Tp.qI (Tp.var rfl) (fun x h1 h2 => decide_eq_true (by omega)) (by omega) (by omega)) (Tp.lxQ (Tp.catXl (Tp.catXr (Tp.sl (Tp.leL (k' := 2) (n' := 1407) (hB rfl)) TpO.none (TpO.some (Tp.var rfl))) (Tp.oneX (Tp.var rfl))) (Tp.sl (Tp.leL (k' := 2) (n' := 1407) (hB rfl)) (TpO.some (Tp.add (Tp.var rfl) Tp.int)) TpO.none)) noBad_in) noRul_1) _ _ _ hG (Fits.skip (Fits.skip (Fits.cons ⟨_, rfl, Int.le_refl _, Int.le_refl _⟩ (Fits.cons (TB6.same mG) (Fits.skip (Fits.cons ⟨_, rfl, at1, at4⟩ (Fits.skip (Fits.cons ((tyQ 2 1407 (noStr b)).mo mG (qi x (List.mem_of_getElem? hx))) (Fits.any _))))))))) fun v G1 o1 n1 t1 => ?_
      obtain ⟨pa, pb⟩ := put mG n1 yq t1
      exact ⟨sm, _, _, rfl, rfl, o1, Nat.lt_of_le_of_lt (show ys.length ≤ 100 by omega) (by decide), _, ys ++ [v], rfl, upd_same, by rw [List.length_append, yl]; rfl, pa, pb⟩
    · rintro σ G ⟨v7, ys, rfl, hG, yl, yq, mG⟩
      refine ⟨_, rfl, .inl ⟨rfl, _, SqL.of hG⟩, ?_⟩
      refine (Tp.tup2 (k' := 4) (n' := 25346) (w := grV sm ys) (Γ := [none, none, some (tyI b b), some (tyD (badD ls)), none, none, none, none]) (k := 3) (n := 12672) (P := isI b) (P' := noBad b) (Tp.qI (Tp.var rfl) (fun x h1 h2 => decide_eq_true (by omega)) (by omega) (by omega)) (Tp.dQ (Tp.lstD (TpD.cons (Tp.lstD (TpD.cons Tp.intD TpD.nil)) (TpD.cons (Tp.lstD (TpD.cons Tp.intD (TpD.cons Tp.intD TpD.nil))) (TpD.cons (Tp.lstD (TpD.cons Tp.intD TpD.nil)) (TpD.cons (Tp.lstD (TpD.cons Tp.intD (TpD.cons Tp.intD TpD.nil))) (TpD.cons (Tp.lstD (TpD.cons Tp.intD (TpD.cons Tp.intD TpD.nil))) TpD.nil)))))) (fitM [[0], [0, 1], [1], [1, 0], [1, 1]] (by decide) (by decide) (by decide)) (noBad_len (by decide))) noRul_1) _ _ _ hG (Fits.skip (Fits.skip (Fits.cons ⟨_, rfl, Int.le_refl _, Int.le_refl _⟩ (Fits.cons (TB6.same mG) (Fits.any _))))) fun w0 J0 o0 n0 t0' => ?_
      obtain ⟨pa0, pb0⟩ := put mG n0 yq t0'
      refine ⟨sm, _, _, rfl, rfl, o0, Nat.lt_of_le_of_lt (show ys.length ≤ 100 by omega) (by decide), ?_⟩
      have hs0 : upd J0 sm (.lst (ys ++ [w0])) sm = some (.lst (ys ++ [w0])) := upd_same
      have yl0 : (ys ++ [w0]).length = ys.length + 1 := List.length_append
      generalize upd J0 sm (.lst (ys ++ [w0])) = K0 at hs0 pa0 pb0
      generalize ys ++ [w0] = z0 at hs0 pa0 pb0 yl0
      refine ⟨_, rfl, .inl ⟨rfl, _, SqL.of hs0⟩, ?_⟩
      refine (Tp.tup2 (k' := 4) (n' := 25346) (w := grV sm z0) (Γ := [none, none, some (tyI b b), some (tyD (badD ls)), none, none, none, none]) (k := 3) (n := 12672) (P := isI b) (P' := noBad b) (Tp.qI (Tp.var rfl) (fun x h1 h2 => decide_eq_true (by omega)) (by omega) (by omega)) (Tp.dQ (Tp.lstD (TpD.cons (Tp.lstD (TpD.cons Tp.intD TpD.nil)) (TpD.cons (Tp.lstD (TpD.cons Tp.intD TpD.nil)) TpD.nil))) (fitM [[1], [0]] (by decide) (by decide) (by decide)) (noBad_rise (by rfl))) noRul_1) _ _ _ hs0 (Fits.skip (Fits.skip (Fits.cons ⟨_, rfl, Int.le_refl _, Int.le_refl _⟩ (Fits.cons (TB6.same pb0) (Fits.any _))))) fun w1 J1 o1 n1 t1' => ?_
      obtain ⟨pa1, pb1⟩ := put pb0 n1 pa0 t1'
      refine ⟨sm, _, _, rfl, rfl, o1, Nat.lt_of_le_of_lt (show z0.length ≤ 100 by omega) (by decide), ?_⟩
      have hs1 : upd J1 sm (.lst (z0 ++ [w1])) sm = some (.lst (z0 ++ [w1])) := upd_same
      have yl1 : (z0 ++ [w1]).length = z0.length + 1 := List.length_append
      generalize upd J1 sm (.lst (z0 ++ [w1])) = K1 at hs1 pa1 pb1
      generalize z0 ++ [w1] = z1 at hs1 pa1 pb1 yl1
      refine ⟨_, rfl, .inl ⟨rfl, _, SqL.of hs1⟩, ?_⟩
      refine (Tp.tup2 (k' := 4) (n' := 25346) (w := grV sm z1) (Γ := [none, none, some (tyI b b), some (tyD (badD ls)), none, none, none, none]) (k := 3) (n := 12672) (P := isI b) (P' := noBad b) (Tp.qI (Tp.var rfl) (fun x h1 h2 => decide_eq_true (by omega)) (by omega) (by omega)) (Tp.dQ (Tp.lstD (TpD.cons (Tp.lstD (TpD.cons Tp.intD (TpD.cons Tp.intD TpD.nil))) (TpD.cons (Tp.lstD (TpD.cons Tp.intD (TpD.cons Tp.intD TpD.nil))) TpD.nil))) (fitM [[0, 1], [0, 1]] (by decide) (by decide) (by decide)) (noBad_rise (by rfl))) noRul_1) _ _ _ hs1 (Fits.skip (Fits.skip (Fits.cons ⟨_, rfl, Int.le_refl _, Int.le_refl _⟩ (Fits.cons (TB6.same pb1) (Fits.any _))))) fun w2 J2 o2 n2 t2' => ?_
      obtain ⟨pa2, pb2⟩ := put pb1 n2 pa1 t2'
      refine ⟨sm, _, _, rfl, rfl, o2, Nat.lt_of_le_of_lt (show z1.length ≤ 100 by omega) (by decide), ?_⟩
      have hs2 : upd J2 sm (.lst (z1 ++ [w2])) sm = some (.lst (z1 ++ [w2])) := upd_same
      have yl2 : (z1 ++ [w2]).length = z1.length + 1 := List.length_append
      generalize upd J2 sm (.lst (z1 ++ [w2])) = K2 at hs2 pa2 pb2
      generalize z1 ++ [w2] = z2 at hs2 pa2 pb2 yl2
      refine ⟨fun σ G => ∃ (v6 v7 : Option V) (ys : List V), σ = [some (.ref r), some (.int c), some (.int b), some (.ref bl), some (.ref sm), some (.int at0), v6, v7] ∧ G sm = some (.lst ys) ∧ 1 ≤ ys.length ∧ (∀ y ∈ ys, (tyQ 4 25346 noRul).p (aw [sm] G) y) ∧ Same (aw [sm] H6) (aw [sm] G), ?_, ?_⟩
      · refine ⟨_, rfl, bl, _, rfl, .inl (SqL.of (aw_same _ _ _ _ (pb2 _ _ (G06 _ _ hbl)))), _, _, rfl, rfl, _, rfl, ?_⟩
        rw [List.length_map]
        by_cases hl : 1 < zs.length
        · refine iteA (decide_eq_true (by omega)) ?_
          obtain ⟨f1, f2⟩ := rev_bad g (by omega)
          refine ⟨_, rfl, .inl ⟨rfl, _, SqL.of hs2⟩, ?_⟩
          refine (Tp.tup2 (k' := 4) (n' := 25346) (w := grV sm z2) (Γ := [none, none, some (tyI b b), some (tyD (badD ls)), none, none, none, none]) (k := 3) (n := 12672) (P := isI b) (P' := noBad b) (Tp.qI (Tp.var rfl) (fun x h1 h2 => decide_eq_true (by omega)) (by omega) (by omega)) (Tp.dQ (Tp.revD (Tp.var rfl)) f1 f2) noRul_1) _ _ _ hs2 (Fits.skip (Fits.skip (Fits.cons ⟨_, rfl, Int.le_refl _, Int.le_refl _⟩ (Fits.cons (TB6.same pb2) (Fits.any _))))) fun w3 J3 o3 n3 t3' => ?_
          obtain ⟨pa3, pb3⟩ := put pb2 n3 pa2 t3'
          exact ⟨sm, _, _, rfl, rfl, o3, Nat.lt_of_le_of_lt (show z2.length ≤ 100 by omega) (by decide), _, _, z2 ++ [w3], rfl, upd_same, by rw [List.length_append]; omega, pa3, pb3⟩
        · exact iteB (decide_eq_false (by omega)) ⟨_, _, z2, rfl, hs2, by omega, pa2, pb2⟩
      · rintro σ G ⟨v6, v7, ys, rfl, hG, yl, yq, mG⟩
        refine ⟨_, rfl, _, rfl, _, rfl, sm, _, rfl, .inl (SqL.of hG), _, _, rfl, rfl, by omega, ?_⟩
        have hl : c % ys.length < ys.length := Nat.mod_lt _ (by omega)
        obtain ⟨d, td, fd', pd⟩ := yq ys[c % ys.length] (List.getElem_mem hl)
        refine ⟨sm, _, _, ys[c % ys.length], rfl, rfl, SqL.of hG, atI_nat (List.getElem?_eq_getElem hl), ?_⟩
        exact kk _ d G ((G06.trans mG).trans (aw_same _ _)) (td.same (aw_same _ _)) (not_t pd) fd'
end
end Lw
set_option Elab.async false
set_option linter.all false
set_option maxRecDepth 100000
namespace Lw
open PySem L2 PyProof.Rows
theorem TrAt.two {K : PySem.W.Frag} {H : Hp} {l : Addr} {b : Bool} {x : Str} (h : H l = some (.lst [.bl b, .str x])) : TrAt K H (.lst [.bl b, .str x]) (.ref l) := by
  rw [TrAt]
  refine ⟨l, _, rfl, SqL.of h, ?_⟩
  rw [TrsAt]
  refine ⟨_, _, rfl, by rw [TrAt], ?_⟩
  rw [TrsAt]
  exact ⟨_, _, rfl, by rw [TrAt], by rw [TrsAt]⟩
theorem two_dep (b : Bool) (x : Str) : tdep (.lst [.bl b, .str x]) ≤ 8 := by simp [tdep, tdeps]
def noTxt : PyData → Bool
  | .str _ => false
  | .int i => decide (i < 1000)
  | _ => true
theorem noTxt_of {s : Nat} (h2 : s ≠ 2) (h3 : s ≠ 3) : ∀ d, shT d = s → noTxt d = true := fun d h => by cases d <;> first | rfl | exact absurd h.symm h2 | exact absurd h.symm h3
theorem refA1 {d e : PyData} {k : Nat} (h : baseT d = false) (hk : k = 1 ∨ k = 3) : refA k d e = some ("base" : Str) := by
  rcases hk with rfl | rfl
  · unfold refA; rw [if_neg (by decide), if_pos rfl, if_pos h]
  · unfold refA; rw [if_neg (by decide), if_neg (by decide), if_neg (by decide), if_pos h]
theorem base_ok {b : Nat} (h2 : 2 ≤ b) (h16 : b ≤ 16) : baseT (.int (b : Int)) = true := decide_eq_true (by omega)
theorem refA3 {b : Nat} {e : PyData} (h2 : 2 ≤ b) (h16 : b ≤ 16) (h : numT e = false) : refA 3 (.int b) e = some ("number" : Str) := by unfold refA; rw [if_neg (by decide), if_neg (by decide), if_neg (by decide), if_neg (by rw [base_ok h2 h16]; decide), if_pos h]
theorem refA3n {b n : Nat} (h2 : 2 ≤ b) (h16 : b ≤ 16) : refA 3 (.int b) (.int n) = none := by unfold refA; rw [if_neg (by decide), if_neg (by decide), if_neg (by decide), if_neg (by rw [base_ok h2 h16]; decide), if_neg (by show ¬ decide (0 ≤ (n : Int)) = false; rw [decide_eq_true (by omega)]; decide)]
theorem refA2 {d e : PyData} (h : ruleT e = false) : refA 2 d e = some ("rule" : Str) := by unfold refA; rw [if_neg (by decide), if_neg (by decide), if_pos rfl, if_neg (by rw [h]; decide)]
theorem refA2n {d e : PyData} (h : ruleT e = true) : refA 2 d e = none := by unfold refA; rw [if_neg (by decide), if_neg (by decide), if_pos rfl, if_pos h]
theorem refA0 {d e : PyData} (h : wR e = false) : refA 0 d e = some ("text" : Str) := by unfold refA; rw [if_pos rfl, if_neg (by rw [h]; decide)]
theorem refA0n {d e : PyData} (h : wR e = true) : refA 0 d e = none := by unfold refA; rw [if_pos rfl, if_pos h]
theorem refA1t {b : Nat} {e : PyData} (h2 : 2 ≤ b) (h16 : b ≤ 16) (h : rdN b e = none) : refA 1 (.int b) e = some ("text" : Str) := by unfold refA; rw [if_neg (by decide), if_pos rfl, if_neg (by rw [base_ok h2 h16]; decide), if_pos (by show (rdN (b : Int).toNat e).isNone = true; rw [Int.toNat_natCast, h]; rfl)]
theorem refA1n {b : Nat} {e : PyData} {i : Int} (h2 : 2 ≤ b) (h16 : b ≤ 16) (h : rdN b e = some i) : refA 1 (.int b) e = none := by unfold refA; rw [if_neg (by decide), if_pos rfl, if_neg (by rw [base_ok h2 h16]; decide), if_neg (by show ¬ (rdN (b : Int).toNat e).isNone = true; rw [Int.toNat_natCast, h]; simp)]
theorem noTxt_wR {e : PyData} (h : noTxt e = true) : wR e = false ∧ (∀ b, rdN b e = none) ∧ Tx e ∧ ∀ n : Nat, e = .int n → n < 2 ^ 900 := by
  cases e with
  | str z => cases h
  | int i =>
    refine ⟨rfl, fun _ => rfl, (fun z e => by cases e), fun n e => ?_⟩
    have h : i < 1000 := of_decide_eq_true h
    injection e with e
    exact Nat.lt_of_lt_of_le (show n < 2 ^ 10 by omega) (Nat.pow_le_pow_right (by decide) (by decide))
  | _ => exact ⟨rfl, fun _ => rfl, (fun z e => by cases e), fun n e => by cases e⟩
theorem siz_fit {k n : Nat} {d : PyData} (f : Fit k n d) (h : n ≤ 100000) : sizT d ≤ 100000 := Nat.le_trans (siz_wt d) (Nat.le_trans f.wt h)
theorem figs_big {b n k : Nat} (h2 : 2 ≤ b) (h16 : b ≤ 16) (h : (figs b n).length ≤ 210) : n < 2 ^ 900 := by
  obtain ⟨m, e1, e2⟩ := numI_bound (b := b) (figs b n) (figs_mem h2 n)
  rw [numI_figs h2] at e1
  have e3 : m = n := by omega
  have h3 : b ^ (figs b n).length ≤ 16 ^ 210 := Nat.le_trans (Nat.pow_le_pow_left h16 _) (Nat.pow_le_pow_right (by decide) h)
  have h4 : (16 : Nat) ^ 210 < 2 ^ 900 := by
    rw [show (16 : Nat) = 2 ^ 4 from rfl, ← Nat.pow_mul]
    exact Nat.pow_lt_pow_right (by decide) (by decide)
  omega
end Lw
set_option Elab.async false
set_option linter.all false
set_option maxRecDepth 100000
namespace L2
open PySem PySem.Spec PyProof.Rows
section
variable {X : Cx} {es : List Expr} {te : TE} {t : TA} {pos : Pos}
theorem pai_c {c : Const} {j : Nat} (ha : PEI X (.Constant c j pos) te) (hr : PAI X es t) : PAI X (.Constant c j pos :: es) (tCons te t) := pai_cons ha hr rfl
theorem pai_u {o : UnaryOp} {e : Expr} (ha : PEI X (.UnaryOp o e pos) te) (hr : PAI X es t) : PAI X (.UnaryOp o e pos :: es) (tCons te t) := pai_cons ha hr rfl
theorem pai_b {o : Operator} {a b : Expr} (ha : PEI X (.BinOp a o b pos) te) (hr : PAI X es t) : PAI X (.BinOp a o b pos :: es) (tCons te t) := pai_cons ha hr rfl
theorem pai_l {ds : List Expr} (ha : PEI X (.List ds pos) te) (hr : PAI X es t) : PAI X (.List ds pos :: es) (tCons te t) := pai_cons ha hr rfl
theorem pai_t {ds : List Expr} {k} (ha : PEI X (.Tuple ds k pos) te) (hr : PAI X es t) : PAI X (.Tuple ds k pos :: es) (tCons te t) := pai_cons ha hr rfl
theorem pai_d {ks} {vs : List Expr} (ha : PEI X (.Dict ks vs pos) te) (hr : PAI X es t) : PAI X (.Dict ks vs pos :: es) (tCons te t) := pai_cons ha hr rfl
end
theorem pei_ixI {X : Cx} {a b : Expr} {ta tb : TE} {pos : Pos} {r : R2} (hr : IxR X r) (ha : PEI X a ta) (hb : PE X b tb) (hs : PlainIx b) : PEI X (.Subscript a b pos) (tOp r ta tb) := pei (pe_ixI hr ha hb hs)
theorem pssI_setI {X : Cx} {i : Nat} {x : Str} {e : Expr} {te : TE} {u : TS} {rest : List Stmt} {pos' pos : Pos} (hN : X.N.Nodup) (hi : X.N[i]? = some x) (hx : Loc X.env.scope x) (he : PEI X e te) (hr : PSs X rest u) (hs : swapsWith e (some (.Name x pos')) pos.line X.env = pure false := by rfl) (hf : X.fn x = true ∨ X.env.scope.names.lookup x = some .local := by first | exact .inl rfl | exact .inr rfl | assumption) :
    PSsI X (.Assign [.Name x pos'] e pos :: rest) (tSeq (tAsg te (gName i)) u) := pssi (pss_cons (ps_setI hN hi hx he hs hf) hr)
theorem pssI_for {X : Cx} {K : PySem.W.Frag} {tg l : Expr} {tl : TE} {body rest : List Stmt} {g : TG} {tb u : TS} {pos : Pos} (hp : PassesOwn (model X.prog X.w) X.A X.env X.xe) (hc : X.calm = true) (e : X.K = K) (hl : PEI X l tl) (hg : PG X tg g) (hb : PSs X body tb) (hr : PSs X rest u)
    (hs : ∀ x, foldedSetIterable l X.env x = pure x := by intro _; rfl) : PSsI X (.For tg l body [] pos :: rest) (tSeq (tFor (iList K tl) g tb) u) := pssi (pss_cons (ps_for hp hc (k_pi K hl.o e) hg hb hs) hr)
end L2
set_option Elab.async false
set_option linter.all false
set_option maxRecDepth 100000
namespace Lw
open PySem L2 PyProof.Rows
section
variable {P : Program} {w : World} {K : PySem.W.Frag} {mg : Str → Option Value} {base : Heap}
theorem in_asg {t : TA} {r : R2} {tb : TE} {g : TG} {u : TS} {D : Ends} {σ : L2.St} {H : Hp} (h : tLst t σ H fun x H1 => tb σ H1 fun y H2 => r x y H2 fun z H3 => g z σ H3 (u D)) : tNext { D with nx := tSeq (tAsg (tOp r (tLst t) tb) g) u D } σ H := h
theorem in_for {t : TA} {K : PySem.W.Frag} {g : TG} {tb u : TS} {D : Ends} {σ : L2.St} {H : Hp} (h : tLst t σ H fun x H1 => ∃ a, x = .ref a ∧ (∃ xs, SqL K H1 a xs) ∧ tFor (fun _ H3 R => R (Itl K a) H3) g tb { D with nx := u D } σ H1) : tSeq (tFor (iList K (tLst t)) g tb) u D σ H := h
def sp_law (K : PySem.W.Frag) : Sp := fun vs H Q _ => ∃ (a : Addr) (ns : List Int), vs = [.ref a] ∧ SqL K H a (ns.map V.int) ∧ ns.length ≤ 63 ∧ ∀ H', Q (.bl true) H'
theorem sc_law : FnScope ["script", "k", "cell", "text", "base", "ask", "found", "bad", "kept", "odd", "worse"] ["script"] (defScope s_law) := ⟨rfl, rfl, rfl, by decide +kernel, rfl, by decide +kernel, by decide +kernel⟩
set_option maxHeartbeats 40000000 in
theorem ok_law {f f1 f2 f3 f4 f5 f6 f7 f8 f9 f10 f11 f12 : Addr} {fd fd1 fd2 fd3 fd4 fd5 fd6 fd7 fd8 fd9 fd10 fd11 fd12 : FuncData} (D : Df K mg "law" s_law ["script"] f fd) (D_law_cell : Df K mg "_law_cell" s__law_cell ["script", "k"] f1 fd1) (D_law_mixed : Df K mg "_law_mixed" s__law_mixed ["cell", "k"] f2 fd2) (D_law_rule : Df K mg "_law_rule" s__law_rule ["cell"] f3 fd3) (D_law_figures : Df K mg "_law_figures" s__law_figures ["base", "n"] f4 fd4) (D_law_text : Df K mg "_law_text" s__law_text ["figures"] f5 fd5) (D_law_number : Df K mg "_law_number" s__law_number ["cell", "k"] f6 fd6) (D_law_writes_rule : Df K mg "_law_writes_rule" s__law_writes_rule ["text"] f7 fd7) (D_law_writes_number : Df K mg "_law_writes_number" s__law_writes_number ["base", "text"] f8 fd8) (D_law_odd : Df K mg "_law_odd" s__law_odd ["cell"] f9 fd9) (D_law_given : Df K mg "_law_given" s__law_given ["cell"] f10 fd10) (D_law_asked : Df K mg "_law_asked" s__law_asked ["ask", "base", "thing"] f11 fd11) (G_law_asked : FnOk P w K mg base CX0 9 f11 fd11 ["ask", "base", "thing"] sp__law_asked) (D_law_bad : Df K mg "_law_bad" s__law_bad ["rule", "cell"] f12 fd12) (T : Blt mg) (U : Blt2 mg) : FnOk P w K mg base CX0 10 f fd ["script"] (sp_law K) := by
  have G_law_cell : FnOk P w K mg base CX0 1 f1 fd1 ["script", "k"] (sp__law_cell K) := ok__law_cell D_law_cell T
  have G_law_mixed : FnOk P w K mg base CX0 1 f2 fd2 ["cell", "k"] sp__law_mixed := ok__law_mixed D_law_mixed
  have G_law_rule : FnOk P w K mg base CX0 2 f3 fd3 ["cell"] sp__law_rule := ok__law_rule D_law_rule D_law_mixed T
  have G_law_writes_rule : FnOk P w K mg base CX0 1 f7 fd7 ["text"] sp__law_writes_rule := ok__law_writes_rule D_law_writes_rule T U
  have G_law_writes_number : FnOk P w K mg base CX0 1 f8 fd8 ["base", "text"] sp__law_writes_number := ok__law_writes_number D_law_writes_number T
  have G_law_given : FnOk P w K mg base CX0 3 f10 fd10 ["cell"] sp__law_given := ok__law_given D_law_given D_law_odd D_law_rule D_law_mixed D_law_text D_law_figures D_law_number T U
  have G_law_bad : FnOk P w K mg base CX0 1 f12 fd12 ["rule", "cell"] sp__law_bad := ok__law_bad D_law_bad T U
  refine D.fn.ok sc_law (fun vs H Q E h => ?_) (fun cdv A outer s H vs Q E hr h => ?_)
  · obtain ⟨a, ns, rfl, _⟩ := h; rfl
  · obtain ⟨a, ns, rfl, hS, hlen, kk⟩ := h
    have HU := HUof hr
    refine ⟨_, (pss_consJ (ps_for PassesOwn.never rfl (pi_range1 rfl T.n_range (pa_cons (pe_callB (call_max2 rfl) (by rfl) T.n_max boot_max (pa_cons pe_int (pa_cons (pe_callB (call_min2 rfl) (by rfl) T.n_min boot_min (pa_cons (pe_callB (k_len K) (by rfl) T.n_len PySem.boot_len (pa_cons (pv 0) pa_nil)) (pa_cons pe_int pa_nil))) pa_nil))) pa_nil)) (pg_name (i := 1) sc_law.nd rfl (Or.inl rfl)) (pss_cons (ps_set (i := 2) sc_law.nd rfl (Or.inl rfl) (pe_callB call_abs (by rfl) U.n_abs boot_abs (pa_cons (pcall D_law_cell G_law_cell (hr.mono (by decide)) (pa_cons (pv 0) (pa_cons (pv 1) pa_nil))) pa_nil)))
 (pss_cons (ps_set (i := 3) sc_law.nd rfl (Or.inl rfl) (pcall D_law_given G_law_given (hr.mono (by decide)) (pa_cons (pv 2) pa_nil)))
 (pss_cons (ps_set (i := 4) sc_law.nd rfl (Or.inl rfl) (pe_op op_add pe_int (pe_op op_mod (pcall D_law_mixed G_law_mixed (hr.mono (by decide)) (pa_cons (pv 2) (pa_cons pe_int pa_nil))) pe_int)))
 (pss_cons (ps_for PassesOwn.never rfl (pi_range1 rfl T.n_range (pa_cons pe_int pa_nil)) (pg_name (i := 5) sc_law.nd rfl (Or.inl rfl)) (pss_cons (ps_set (i := 6) sc_law.nd rfl (Or.inl rfl) (pcall D_law_asked G_law_asked (hr.mono (by decide)) (pa_cons (pv 5) (pa_cons (pv 4) (pa_cons (pv 3) pa_nil)))))
 (pss_one (ps_if (pt_val (pe_ix (k_ixL K) (pe_lst (pa_cons (pcall D_law_writes_rule G_law_writes_rule (hr.mono (by decide)) (pa_cons (pv 3) pa_nil)) (pa_cons (pcall D_law_writes_number G_law_writes_number (hr.mono (by decide)) (pa_cons (pv 4) (pa_cons (pv 3) pa_nil))) pa_nil))) (pv 5) (fun _ _ => rfl))) (pss_one (ps_if (PW.pt (pw_or (pt_val (pe_ix (k_ixL K) (pv 6) pe_int (fun _ _ => rfl))) (pw_or1 (pt_cmpR (k_neT K HU) (pcall D_law_asked G_law_asked (hr.mono (by decide)) (pa_cons (pe_op op_add pe_int (pv 5)) (pa_cons (pv 4) (pa_cons (pe_ix (k_ixL K) (pv 6) pe_int (fun _ _ => rfl)) pa_nil)))) (pe_lst (pa_cons pe_bl (pa_cons (pv 3) pa_nil))) (nomark _))))) (pss_one (ps_ret pe_bl)) pss_nil)) (pss_one (ps_if (pt_cmpR (k_neT K HU) (pv 6) (pe_lst (pa_cons pe_bl (pa_str pa_nil))) (nomark _)) (pss_one (ps_ret pe_bl)) pss_nil))))))
 (pss_cons (ps_set (i := 7) sc_law.nd rfl (Or.inl rfl) (pcall D_law_bad G_law_bad (hr.mono (by decide)) (pa_cons (pcall D_law_rule G_law_rule (hr.mono (by decide)) (pa_cons (pcall D_law_mixed G_law_mixed (hr.mono (by decide)) (pa_cons (pv 2) (pa_cons pe_int pa_nil))) pa_nil)) (pa_cons (pcall D_law_mixed G_law_mixed (hr.mono (by decide)) (pa_cons (pv 2) (pa_cons pe_int pa_nil))) pa_nil))))
 (pss_cons (ps_set (i := 8) sc_law.nd rfl (Or.inl rfl) (pe_callB (call_reprT hr.gd HU) (by rfl) T.n_repr PyProof.Rows.boot_repr (pa_cons (pv 7) pa_nil)))
 (pss_consJ (ps_if (PW.pt (pw_or (pt_cmpR (k_neT K HU) (pcall D_law_asked G_law_asked (hr.mono (by decide)) (pa_cons pe_int (pa_cons (pv 4) (pa_cons (pv 7) pa_nil)))) (pe_lst (pa_cons pe_bl (pa_str pa_nil))) (nomark _)) (pw_or1 (pt_cmpR op_ne (pe_callB (call_reprT hr.gd HU) (by rfl) T.n_repr PyProof.Rows.boot_repr (pa_cons (pv 7) pa_nil)) (pv 8) (nomark _))))) (pss_one (ps_ret pe_bl)) pss_nil)
 (pssI_setI (i := 9) sc_law.nd rfl (Or.inl rfl) (pei_ixI (k_ixL K) (pei_lst (pai_c (pei pe_non) (pai_c pei_int (pai_c pei_int (pai_c pei_int (pai_c (pei pe_bl) (pai_str (pai_l (pei_lst (pai_c pei_int pai_nil)) (pai_u (pei (pe_un un_neg pe_int)) (pai_b (pei (pe_op op_pow pe_int pe_int)) (pai_t (pei_tup (pai_c pei_int pai_nil)) (pai_d (pei pe_dnewK) pai_nil)))))))))))) (pe_op op_mod (pcall D_law_mixed G_law_mixed (hr.mono (by decide)) (pa_cons (pv 2) (pa_cons pe_int pa_nil))) pe_int) (fun _ _ => rfl))
 (pss_consJ (ps_if (PW.pt (pw_or (pt_cmpR (k_neT K HU) (pcall D_law_asked G_law_asked (hr.mono (by decide)) (pa_cons pe_int (pa_cons (pv 9) (pa_cons (pv 3) pa_nil)))) (pe_lst (pa_cons pe_bl (pa_str pa_nil))) (nomark _)) (pw_or1 (pt_cmpR (k_neT K HU) (pcall D_law_asked G_law_asked (hr.mono (by decide)) (pa_cons pe_int (pa_cons (pv 9) (pa_cons pe_int pa_nil)))) (pe_lst (pa_cons pe_bl (pa_str pa_nil))) (nomark _))))) (pss_one (ps_ret pe_bl)) pss_nil)
 (pssI_setI (i := 10) sc_law.nd rfl (Or.inl rfl) (pei_ixI (k_ixL K) (pei_lst (pai_c (pei pe_non) (pai_u (pei (pe_un un_neg pe_int)) (pai_c (pei pe_bl) (pai_str (pai_l (pei_lst (pai_c pei_int pai_nil)) (pai_t (pei_tup (pai_c pei_int pai_nil)) (pai_d (pei pe_dnewK) (pai_u (pei (pe_un un_neg (pe_op op_pow pe_int pe_int))) (pai_c (pei pe_bl) pai_nil)))))))))) (pe_op op_mod (pcall D_law_mixed G_law_mixed (hr.mono (by decide)) (pa_cons (pv 2) (pa_cons pe_int pa_nil))) pe_int) (fun _ _ => rfl))
 (pss_cons (ps_if (pt_cmpR (k_neT K HU) (pcall D_law_asked G_law_asked (hr.mono (by decide)) (pa_cons pe_int (pa_cons (pv 4) (pa_cons (pv 10) pa_nil)))) (pe_lst (pa_cons pe_bl (pa_str pa_nil))) (nomark _)) (pss_one (ps_ret pe_bl)) pss_nil)
 (pss_one (ps_if (pt_cmpR (k_neT K HU) (pcall D_law_asked G_law_asked (hr.mono (by decide)) (pa_cons pe_int (pa_cons (pv 9) (pa_cons (pv 10) pa_nil)))) (pe_lst (pa_cons pe_bl (pa_str pa_nil))) (nomark _)) (pss_one (ps_ret pe_bl)) pss_nil))))))))))))))
 (pssI_for PassesOwn.never rfl rfl (pei_lst (pai_c (pei pe_non) (pai_c pei_int (pai_l (pei_lst (pai_str pai_nil)) (pai_t (pei_tup (pai_c pei_int (pai_l (pei_lst pai_nil) pai_nil))) (pai_c (pei pe_bl) (pai_d (pei pe_dnewK) (pai_l (pei_lst (pai_c pei_int pai_nil)) pai_nil)))))))) (pg_name (i := 9) sc_law.nd rfl (Or.inl rfl)) (pss_one (ps_if (PW.pt (pw_or (pt_cmpR (k_neT K HU) (pcall D_law_asked G_law_asked (hr.mono (by decide)) (pa_cons pe_int (pa_cons pe_int (pa_cons (pv 9) pa_nil)))) (pe_lst (pa_cons pe_bl (pa_str pa_nil))) (nomark _)) (pw_or1 (pt_cmpR (k_neT K HU) (pcall D_law_asked G_law_asked (hr.mono (by decide)) (pa_cons pe_int (pa_cons pe_int (pa_cons (pv 9) pa_nil)))) (pe_lst (pa_cons pe_bl (pa_str pa_nil))) (nomark _))))) (pss_one (ps_ret pe_bl)) pss_nil))
 (pss_one (ps_ret pe_bl)))), ?_⟩
    have no : ∀ {wd : Str} {l l2 : Addr} {H2 : Hp} {R : V → Hp → Prop}, H2 l = some (.lst [.bl true, .str wd]) → H2 l2 = none → R (.bl false) (upd H2 l2 (.lst [.bl true, .str wd])) → rEqT K true (.ref l) (.ref l2) (upd H2 l2 (.lst [.bl true, .str wd])) R := fun {wd l l2 H2 R} h h2 q => ⟨_, _, TrAt.two (same_upd h2 _ _ h), TrAt.two upd_same, two_dep _ _, by rw [if_pos rfl, teq_refl]; exact q⟩
    refine ⟨_, rfl, a, _, rfl, .inl hS, _, _, rfl, _, _, rfl, ?_⟩
    rw [List.length_map]
    generalize hm : (if (if (63 : Int) < (ns.length : Int) then (63 : Int) else (ns.length : Int)) > (16 : Int) then (if (63 : Int) < (ns.length : Int) then (63 : Int) else (ns.length : Int)) else (16 : Int)) = m
    have hm6 : 0 ≤ m ∧ m ≤ 63 := by
      rw [← hm]
      constructor <;> (repeat' split) <;> omega
    refine ⟨m, rfl, by omega, by omega, for_range (lo := 0) (n := m.toNat) (fun i σ H3 => ∃ (v1 v2 v3 v4 v5 v6 v7 v8 v9 v10 : Option V), σ = [some (.ref a), v1, v2, v3, v4, v5, v6, v7, v8, v9, v10] ∧ Same H H3) ⟨none, none, none, none, none, none, none, none, none, none, rfl, Same.refl _⟩ ?_ ?_⟩
    · rintro i σ H3 hi ⟨v1, v2, v3, v4, v5, v6, v7, v8, v9, v10, rfl, sH⟩
      refine ⟨_, rfl, _, rfl, a, ns, i, by rw [Int.zero_add]; rfl, sH.seq hS, hlen, by omega, fun c => ⟨c, rfl, ?_⟩⟩
      obtain ⟨C, hC⟩ : ∃ C : Nat, (if c < 0 then -c else c) = (C : Int) := ⟨c.natAbs, by split <;> omega⟩
      rw [hC]
      refine ⟨_, rfl, C, rfl, fun z H4 ha hl s4 => ?_⟩
      refine ⟨_, rfl, C, 9, rfl, by decide, fun m9 H5 hm9 s5 => ⟨_, _, rfl, rfl, (by decide : (0 : Int) < 15), _, _, rfl, rfl, ?_⟩⟩
      obtain ⟨b, hb, b2, b16⟩ : ∃ b : Nat, b = 2 + m9 % 15 ∧ 2 ≤ b ∧ b ≤ 16 := ⟨2 + m9 % 15, rfl, by omega, by omega⟩
      dsimp only
      rw [show (2 + (m9 : Int) % 15) = (b : Int) by rw [hb]; rfl]
      have s05 := sH.trans (s4.trans s5)
      have tx : Tx (.str z) := fun y hy => by injection hy with hy; subst hy; exact ⟨ha, by omega⟩
      have szz : sizT (.str z) ≤ 100000 := by simp [sizT]
      have hzl : z.length ≤ 1000 := by omega
      refine ⟨2, rfl, by decide, by decide, for_range (lo := 0) (n := (2 : Int).toNat) (fun j σ H6 => ∃ (v5 v6 v7 v8 v9 v10 : Option V), σ = [some (.ref a), some (.int (0 + (i : Int))), some (.int C), some (.str z), some (.int b), v5, v6, v7, v8, v9, v10] ∧ Same H5 H6) ⟨_, _, _, _, _, _, rfl, Same.refl _⟩ ?_ ?_⟩
      · rintro j σ H6 hj ⟨w5, w6, w7, w8, w9, w10, rfl, s6⟩
        have hj : j < 2 := hj
        refine ⟨_, rfl, _, rfl, _, rfl, j, .int b, .str z, .int b, .str z, (by rw [Int.zero_add]; rfl), by omega, by rw [ThAt], by rw [ThAt], (fun _ => tx), szz, (fun _ n e => by cases e), fun wd hq l H7 hl7 s7 h7 => ?_, fun hq l x H7 hl7 s7 h7 ok => ?_⟩
        · obtain ⟨rfl, hw⟩ : wd = ("text" : Str) ∧ atI [V.bl (wR (.str z)), V.bl (rdN b (.str z)).isSome] (0 + (j : Int)) = some (.bl false) := by
            rcases (show j = 0 ∨ j = 1 by omega) with rfl | rfl
            · cases h : wR (.str z) with
              | false => rw [refA0 h] at hq; injection hq with hq; exact ⟨hq.symm, rfl⟩
              | true => rw [refA0n h] at hq; cases hq
            · cases h : rdN b (.str z) with
              | none => rw [refA1t b2 b16 h] at hq; injection hq with hq; exact ⟨hq.symm, rfl⟩
              | some i => rw [refA1n b2 b16 h] at hq; cases hq
          refine ⟨_, rfl, z, rfl, ha, hzl, fun H8 s8 => ⟨_, rfl, _, rfl, b, z, rfl, b2, b16, ha, hzl, fun H9 s9 => ⟨(by show 2 ≤ sizeLine; decide), fun lw hlw => ?_⟩⟩⟩
          have n9 := same_upd hlw (o := .lst [V.bl (wR (.str z)), V.bl (rdN b (.str z)).isSome])
          refine ⟨_, rfl, lw, _, _, V.bl false, rfl, rfl, SqL.of upd_same, hw, _, rfl, iteF ?_⟩
          refine ⟨_, rfl, (by show 2 ≤ sizeLine; decide), fun l2 hl2 => no (n9 _ _ (s9 _ _ (s8 _ _ h7))) hl2 ⟨_, rfl, iteF ?_⟩⟩
          exact ⟨_, _, _, _, _, _, rfl, s6.trans (s7.trans (s8.trans (s9.trans (n9.trans (same_upd hl2)))))⟩
        · have hw : atI [V.bl (wR (.str z)), V.bl (rdN b (.str z)).isSome] (0 + (j : Int)) = some (.bl true) := by
            rcases (show j = 0 ∨ j = 1 by omega) with rfl | rfl
            · cases h : wR (.str z) with
              | false => rw [refA0 h] at hq; cases hq
              | true => rfl
            · cases h : rdN b (.str z) with
              | none => rw [refA1t b2 b16 h] at hq; cases hq
              | some i => rfl
          refine ⟨_, rfl, z, rfl, ha, hzl, fun H8 s8 => ⟨_, rfl, _, rfl, b, z, rfl, b2, b16, ha, hzl, fun H9 s9 => ⟨(by show 2 ≤ sizeLine; decide), fun lw hlw => ?_⟩⟩⟩
          have n9 := same_upd hlw (o := .lst [V.bl (wR (.str z)), V.bl (rdN b (.str z)).isSome])
          refine ⟨_, rfl, lw, _, _, V.bl true, rfl, rfl, SqL.of upd_same, hw, _, rfl, iteT ?_⟩
          have n79 := s8.trans (s9.trans n9)
          generalize upd H9 lw (.lst [V.bl (wR (.str z)), V.bl (rdN b (.str z)).isSome]) = G0 at n9 n79
          have hf := n79 _ _ h7
          refine ⟨_, rfl, l, _, _, V.bl false, rfl, rfl, SqL.of hf, rfl, _, rfl, iteF ?_⟩
          refine ⟨_, rfl, _, _, rfl, rfl, _, rfl, _, rfl, l, _, _, x, rfl, rfl, SqL.of hf, rfl, ?_⟩
          have fin : ∀ {l2 : Addr} {y : V} {G1 : Hp}, Same G0 G1 → G1 l2 = some (.lst [.bl false, y]) → y = .str z → ∀ l3, G1 l3 = none → ∀ {R : V → Hp → Prop}, R (.bl false) (upd G1 l3 (.lst [.bl false, .str z])) → rEqT K true (.ref l2) (.ref l3) (upd G1 l3 (.lst [.bl false, .str z])) R := fun {l2 y G1} m h e l3 h3 {R} q => by
            subst e
            exact ⟨_, _, TrAt.two (same_upd h3 _ _ h), TrAt.two upd_same, two_dep _ _, by rw [if_pos rfl, teq_refl]; exact q⟩
          rcases (show j = 0 ∨ j = 1 by omega) with rfl | rfl
          · obtain ⟨z', r, bb, bl, zs, e1, rfl, R7, g, ew⟩ := ok.1 rfl
            injection e1 with e1
            subst e1
            have RG := R7.same n79
            obtain ⟨dd, td, _, fdd⟩ := RG.thing g
            refine ⟨2, .int b, .ref r, .int b, _, rfl, by decide, by rw [ThAt], RG.th, (fun q => by omega), ?_, (fun q => by omega), (fun wd hq2 => by rw [refA2n (ruleT_good g)] at hq2; cases hq2), fun hq2 l2 y G1 hl2 m2 h2 ok2 => ⟨_, rfl, (by show 2 ≤ sizeLine; decide), fun l3 hl3 => fin m2 h2 ((ok2.2.2.1 rfl r bb bl zs rfl RG g).trans (by rw [ew])) l3 hl3 ⟨_, rfl, iteF ?_⟩⟩⟩
            · rw [RG.th.uniq td]
              exact siz_fit fdd (by decide)
            · exact ⟨_, _, _, _, _, _, rfl, s6.trans (s7.trans (n79.trans (m2.trans (same_upd hl3))))⟩
          · obtain ⟨b', i', e1, e2, rfl⟩ := ok.2.1 rfl
            obtain rfl : b = b' := by injection e1 with e1; omega
            obtain ⟨n, rfl, ez⟩ := rdN_is b2 b16 e2
            have hn9 : n < 2 ^ 900 := figs_big (k := 0) b2 b16 (by rw [← txt_len, ← ez]; exact hl)
            refine ⟨3, .int b, .int n, .int b, .int n, rfl, by decide, by rw [ThAt], by rw [ThAt], (fun q => by omega), by simp [sizT], (fun _ k e => by injection e with e; obtain rfl : n = k := (by omega); exact hn9), (fun wd hq2 => by rw [refA3n b2 b16] at hq2; cases hq2), fun hq2 l2 y G1 hl2 m2 h2 ok2 => ?_⟩
            obtain ⟨b', n', e3, e4, e5⟩ := ok2.2.2.2 rfl
            obtain rfl : b = b' := by injection e3 with e3; omega
            obtain rfl : n = n' := by injection e4 with e4; omega
            refine ⟨_, rfl, (by show 2 ≤ sizeLine; decide), fun l3 hl3 => fin m2 h2 (e5.trans (by rw [← ez])) l3 hl3 ⟨_, rfl, iteF ?_⟩⟩
            exact ⟨_, _, _, _, _, _, rfl, s6.trans (s7.trans (n79.trans (m2.trans (same_upd hl3))))⟩
      · rintro σ H6 ⟨w5, w6, w7, w8, w9, w10, rfl, s6⟩
        refine ⟨_, rfl, C, 5, rfl, by decide, fun m5 H7 hm5 s7 => ⟨m5, rfl, fun r bb bl zs H8 s8 R8 g8 => ⟨_, rfl, C, 6, rfl, by decide, fun m6 H9 hm6 s9 => ⟨r, m6, bb, bl, zs, rfl, R8.same s9, g8, fun vb db H10 s10 hdb hnr fb => ?_⟩⟩⟩⟩
        have s510 := s6.trans (s7.trans (s8.trans (s9.trans s10)))
        refine ⟨_, rfl, vb, db, rfl, hdb, fb.sh, fb.shown (by decide), Nat.le_trans fb.dp (by decide), ?_⟩
        refine ⟨_, rfl, _, rfl, 2, .int b, vb, .int b, db, rfl, by decide, by rw [ThAt], hdb, (fun q => by omega), siz_fit fb (by decide), (fun q => by omega), fun wd hq l H11 hl11 s11 h11 => ?_, (fun hq => by rw [refA2 hnr] at hq; cases hq)⟩
        obtain rfl : wd = ("rule" : Str) := by rw [refA2 hnr] at hq; injection hq with hq; exact hq.symm
        refine ⟨(by show 2 ≤ sizeLine; decide), fun l2 hl2 => no h11 hl2 ⟨_, rfl, iteF ?_⟩⟩
        have s12 := s11.trans (same_upd hl2 (o := .lst [.bl true, .str "rule"]))
        generalize upd H11 l2 (.lst [.bl true, .str "rule"]) = H12 at s12
        refine ⟨_, rfl, vb, db, rfl, hdb.same s12, fb.sh, fb.shown (by decide), Nat.le_trans fb.dp (by decide), _, rfl, rfl, _, rfl, iteB (by rw [decide_eq_true rfl]; rfl) ?_⟩
        have s512 := s510.trans s12
        refine in_asg ?_
        refine (Tp.lstT (w := allV) (Γ := [none, none, none, none, none, none, none, none, none, none, none]) (T := tyQ 2 300 noBas) (TpB.cons (Tp.sQ Tp.nonS (noBas_of (by decide)))
          (TpB.cons (Tp.qI Tp.int (fun x h1 h2 => noBas_I (.inl (by omega))))
          (TpB.cons (Tp.qI Tp.int (fun x h1 h2 => noBas_I (.inl (by omega))))
          (TpB.cons (Tp.qI Tp.int (fun x h1 h2 => noBas_I (.inr (by omega))))
          (TpB.cons (Tp.sQ Tp.blS (noBas_of (by decide)))
          (TpB.cons (Tp.sQ (Tp.strS (by decide +kernel) (by decide +kernel)) (noBas_of (by decide)))
          (TpB.cons (Tp.sQ (Tp.lS (Tp.lst (TpA.cons (Tp.ofI Tp.int) TpA.nil))) (noBas_of (by decide)))
          (TpB.cons (Tp.qI (Tp.neg Tp.int) (fun x h1 h2 => noBas_I (.inl (by omega))))
          (TpB.cons (Tp.qI (Tp.pow ⟨by decide, by decide, by decide⟩) (fun x h1 h2 => noBas_I (.inr (Int.lt_of_lt_of_le (by decide) h1))))
          (TpB.cons (Tp.tupQ (TpA.cons (Tp.ofI Tp.int) TpA.nil) (fun _ _ => rfl))
          (TpB.cons (Tp.sQ Tp.empS (noBas_of (by decide)))
          TpB.nil)))))))))))) _ _ _ trivial (Fits.any _) fun vo H13 _ s13 to => ?_
        obtain ⟨ao, xo, rfl, ho, lo1, lo2, qo⟩ := to
        refine ⟨_, rfl, C, 7, rfl, by decide, fun m7 H14 hm7 s14 => ⟨_, _, rfl, rfl, (by decide : (0 : Int) < 11), ?_⟩⟩
        have ho14 := s14 _ _ ho
        have hi11 : m7 % 11 < xo.length := by omega
        obtain ⟨od, tod, _, pod⟩ := qo xo[m7 % 11] (List.getElem_mem hi11)
        have bod : baseT od = false := not_t pod
        have tod14 := tod.same s14
        refine ⟨ao, _, _, xo[m7 % 11], rfl, rfl, SqL.of ho14, by rw [show (m7 : Int) % 11 = ((m7 % 11 : Nat) : Int) from rfl]; exact atI_nat (List.getElem?_eq_getElem hi11), ?_⟩
        generalize xo[m7 % 11] = ov at tod14
        have s514 := s512.trans (Same.trans s13 s14)
        refine ⟨_, rfl, _, rfl, 1, ov, .str z, od, .str z, rfl, by decide, tod14, by rw [ThAt], (fun _ => tx), szz, (fun _ n e => by cases e), fun wd hq l H15 hl15 s15 h15 => ?_, (fun hq => by rw [refA1 bod (.inl rfl)] at hq; cases hq)⟩
        obtain rfl : wd = ("base" : Str) := by rw [refA1 bod (.inl rfl)] at hq; injection hq with hq; exact hq.symm
        refine ⟨(by show 2 ≤ sizeLine; decide), fun l2 hl2 => no h15 hl2 ⟨_, rfl, iteF ?_⟩⟩
        have s16 := s15.trans (same_upd hl2 (o := .lst [.bl true, .str "base"]))
        generalize upd H15 l2 (.lst [.bl true, .str "base"]) = H16 at s16
        have tod16 := tod14.same s16
        refine ⟨_, rfl, 3, ov, .int 5, od, .int 5, rfl, by decide, tod16, by rw [ThAt], (fun q => by omega), by simp [sizT], (fun _ n e => by injection e with e; exact Nat.lt_of_lt_of_le (show n < 2 ^ 3 by omega) (Nat.pow_le_pow_right (by decide) (by decide))), fun wd hq l H17 hl17 s17 h17 => ?_, (fun hq => by rw [refA1 bod (.inr rfl)] at hq; cases hq)⟩
        obtain rfl : wd = ("base" : Str) := by rw [refA1 bod (.inr rfl)] at hq; injection hq with hq; exact hq.symm
        refine ⟨(by show 2 ≤ sizeLine; decide), fun l2 hl2 => no h17 hl2 ⟨_, rfl, iteF ?_⟩⟩
        have s18 := s17.trans (same_upd hl2 (o := .lst [.bl true, .str "base"]))
        generalize upd H17 l2 (.lst [.bl true, .str "base"]) = H18 at s18
        have s518 := s514.trans (s16.trans s18)
        have tod18 := tod16.same s18
        refine in_asg ?_
        refine (Tp.lstT (w := allV) (Γ := [none, none, none, none, none, none, none, none, none, none, none]) (T := tyQ 2 300 noNum) (TpB.cons (Tp.sQ Tp.nonS (noNum_of (by decide)))
          (TpB.cons (Tp.qI (Tp.neg Tp.int) (fun x h1 h2 => noNum_I (by omega)))
          (TpB.cons (Tp.sQ Tp.blS (noNum_of (by decide)))
          (TpB.cons (Tp.sQ (Tp.strS (by decide +kernel) (by decide +kernel)) (noNum_of (by decide)))
          (TpB.cons (Tp.sQ (Tp.lS (Tp.lst (TpA.cons (Tp.ofI Tp.int) TpA.nil))) (noNum_of (by decide)))
          (TpB.cons (Tp.tupQ (TpA.cons (Tp.ofI Tp.int) TpA.nil) (fun _ _ => rfl))
          (TpB.cons (Tp.sQ Tp.empS (noNum_of (by decide)))
          (TpB.cons (Tp.qI (Tp.neg (Tp.pow ⟨by decide, by decide, by decide⟩)) (fun x h1 h2 => noNum_I (Int.lt_of_le_of_lt h2 (by decide))))
          (TpB.cons (Tp.sQ Tp.blS (noNum_of (by decide)))
          TpB.nil)))))))))) _ _ _ trivial (Fits.any _) fun vw H19 _ s19 tw => ?_
        obtain ⟨aw0, xw, rfl, hw0, lw1, lw2, qw⟩ := tw
        refine ⟨_, rfl, C, 8, rfl, by decide, fun m8 H20 hm8 s20 => ⟨_, _, rfl, rfl, (by decide : (0 : Int) < 9), ?_⟩⟩
        have hw20 := s20 _ _ hw0
        have hi9 : m8 % 9 < xw.length := by omega
        obtain ⟨wd0, twd, fwd, pwd⟩ := qw xw[m8 % 9] (List.getElem_mem hi9)
        have nwd : numT wd0 = false := not_t pwd
        have twd20 := twd.same s20
        refine ⟨aw0, _, _, xw[m8 % 9], rfl, rfl, SqL.of hw20, by rw [show (m8 : Int) % 9 = ((m8 % 9 : Nat) : Int) from rfl]; exact atI_nat (List.getElem?_eq_getElem hi9), ?_⟩
        generalize xw[m8 % 9] = wv at twd20
        have s520 := s518.trans (Same.trans s19 s20)
        have tod20 := tod18.same (Same.trans s19 s20)
        have iw : ∀ n : Nat, wd0 = .int n → n < 2 ^ 900 := fun n e => by
          subst e
          have : numT (.int (n : Int)) = true := (show decide (0 ≤ (n : Int)) = true from decide_eq_true (by omega))
          rw [this] at nwd; cases nwd
        refine ⟨_, rfl, _, rfl, 3, .int b, wv, .int b, wd0, rfl, by decide, by rw [ThAt], twd20, (fun q => by omega), siz_fit fwd (by decide), (fun _ => iw), fun wd hq l H21 hl21 s21 h21 => ?_, (fun hq => by rw [refA3 b2 b16 nwd] at hq; cases hq)⟩
        obtain rfl : wd = ("number" : Str) := by rw [refA3 b2 b16 nwd] at hq; injection hq with hq; exact hq.symm
        refine ⟨(by show 2 ≤ sizeLine; decide), fun l2 hl2 => no h21 hl2 ⟨_, rfl, iteF ?_⟩⟩
        have s22 := s21.trans (same_upd hl2 (o := .lst [.bl true, .str "number"]))
        generalize upd H21 l2 (.lst [.bl true, .str "number"]) = H22 at s22
        refine ⟨_, rfl, _, rfl, 3, ov, wv, od, wd0, rfl, by decide, tod20.same s22, twd20.same s22, (fun q => by omega), siz_fit fwd (by decide), (fun _ => iw), fun wd hq l H23 hl23 s23 h23 => ?_, (fun hq => by rw [refA1 bod (.inr rfl)] at hq; cases hq)⟩
        obtain rfl : wd = ("base" : Str) := by rw [refA1 bod (.inr rfl)] at hq; injection hq with hq; exact hq.symm
        refine ⟨(by show 2 ≤ sizeLine; decide), fun l2 hl2 => no h23 hl2 ⟨_, rfl, iteF ?_⟩⟩
        exact ⟨_, _, _, _, _, _, _, _, _, _, rfl, s05.trans (s520.trans (s22.trans (s23.trans (same_upd hl2))))⟩
    · rintro σ H3 ⟨v1, v2, v3, v4, v5, v6, v7, v8, v9, v10, rfl, sH⟩
      dsimp only
      refine in_for ?_
      refine (Tp.lstT (w := allV) (Γ := [none, none, none, none, none, none, none, none, none, none, none]) (T := tyQ 2 300 noTxt) (TpB.cons (Tp.sQ Tp.nonS (noTxt_of (by decide) (by decide)))
        (TpB.cons (Tp.qI Tp.int (fun x h1 h2 => decide_eq_true (by omega)))
        (TpB.cons (Tp.sQ (Tp.lS (Tp.lst (TpA.cons (Tp.str (by decide +kernel) (by decide +kernel)) TpA.nil))) (noTxt_of (by decide) (by decide)))
        (TpB.cons (Tp.tupQ (TpA.cons (Tp.ofI Tp.int) (TpA.cons (Tp.ofL (Tp.lst TpA.nil)) TpA.nil)) (fun _ _ => rfl))
        (TpB.cons (Tp.sQ Tp.blS (noTxt_of (by decide) (by decide)))
        (TpB.cons (Tp.sQ Tp.empS (noTxt_of (by decide) (by decide)))
        (TpB.cons (Tp.sQ (Tp.lS (Tp.lst (TpA.cons (Tp.ofI Tp.int) TpA.nil))) (noTxt_of (by decide) (by decide)))
        TpB.nil)))))))) _ _ _ trivial (Fits.any _) fun vl H4 _ s4 tl => ?_
      obtain ⟨al, xl, rfl, hl4, ll1, ll2, ql⟩ := tl
      refine ⟨al, rfl, ⟨_, SqL.of hl4⟩, for_list (K := K) (a := al) (xs := xl) (fun i σ H5 => ∃ (v1 v2 v3 v4 v5 v6 v7 v8 v9 v10 : Option V), σ = [some (.ref a), v1, v2, v3, v4, v5, v6, v7, v8, v9, v10] ∧ Same H4 H5) ⟨_, _, _, _, _, _, _, _, _, _, rfl, Same.refl _⟩ (fun i σ H5 _ ⟨_, _, _, _, _, _, _, _, _, _, _, m⟩ => SqL.of (m _ _ hl4)) ?_ ?_⟩
      · rintro i x σ H5 hx ⟨u1, u2, u3, u4, u5, u6, u7, u8, u9, u10, rfl, s5⟩
        obtain ⟨d, td, fd', pd⟩ := ql x (List.mem_of_getElem? hx)
        obtain ⟨w1, w2, w3, w4⟩ := noTxt_wR pd
        have td5 := td.same s5
        refine ⟨_, rfl, 0, .int 10, x, .int 10, d, rfl, by decide, by rw [ThAt], td5, (fun _ => w3), siz_fit fd' (by decide), (fun q => by omega), fun wd hq l H6 hl6 s6 h6 => ?_, (fun hq => by rw [refA0 w1] at hq; cases hq)⟩
        obtain rfl : wd = ("text" : Str) := by rw [refA0 w1] at hq; injection hq with hq; exact hq.symm
        refine ⟨(by show 2 ≤ sizeLine; decide), fun l2 hl2 => no h6 hl2 ⟨_, rfl, iteF ?_⟩⟩
        have s7 := s6.trans (same_upd hl2 (o := .lst [.bl true, .str "text"]))
        generalize upd H6 l2 (.lst [.bl true, .str "text"]) = H7 at s7
        have e10 : refA 1 (.int (10 : Int)) d = some ("text" : Str) := refA1t (b := 10) (by decide) (by decide) (w2 10)
        refine ⟨_, rfl, 1, .int 10, x, .int 10, d, rfl, by decide, by rw [ThAt], td5.same s7, (fun _ => w3), siz_fit fd' (by decide), (fun q => by omega), fun wd hq l H8 hl8 s8 h8 => ?_, (fun hq => by rw [e10] at hq; cases hq)⟩
        obtain rfl : wd = ("text" : Str) := by rw [e10] at hq; injection hq with hq; exact hq.symm
        refine ⟨(by show 2 ≤ sizeLine; decide), fun l2 hl2 => no h8 hl2 ⟨_, rfl, iteF ?_⟩⟩
        exact ⟨_, _, _, _, _, _, _, _, _, _, rfl, s5.trans (s7.trans (s8.trans (same_upd hl2)))⟩
      · rintro σ H5 ⟨u1, u2, u3, u4, u5, u6, u7, u8, u9, u10, rfl, s5⟩
        exact kk H5
end
end Lw
set_option Elab.async false
set_option linter.all false
set_option maxRecDepth 100000
namespace Lw
open PySem L2
def FF (K : PySem.W.Frag) (n q : Str) (st : Stmt) (f : Addr) (cd : Value) : Prop := ∃ (od an : Option Addr) (sl : Array (Option Value)) (oc kV dc pm ct : Value), K.lookup f = some ⟨oc, od, .func (PySem.W.fnOf n q (defArgs st) (defBody st) (defScope st) .none kV dc pm an cd ct), sl⟩ ∧ PySem.W.codeIn K cd q = true ∧ PySem.W.keepIn K (.ref f) = true
def FD (K : PySem.W.Frag) (n : Str) (st : Stmt) : Prop := ∃ (f : Addr) (cd : Value), PySem.W.nsIn K mainGlobals n = some (some (.ref f)) ∧ FF K n n st f cd
section
variable {K : PySem.W.Frag} {n q : Str} {st : Stmt} {f C : Addr} {cd : Value} {od an : Option Addr} {sl : Array (Option Value)} {oc kV dc pm ct : Value}
theorem fdm (a : PySem.W.nsIn K mainGlobals n = some (some (.ref f))) (l : K.lookup f = some ⟨oc, od, .func (PySem.W.fnOf n n (defArgs st) (defBody st) (defScope st) .none kV dc pm an cd ct), sl⟩) (e : PySem.W.codeIn K cd n = true) (k : PySem.W.keepIn K (.ref f) = true) : FD K n st := ⟨f, cd, a, od, an, sl, oc, kV, dc, pm, ct, l, e, k⟩
def FB (n q : Str) (st : Stmt) (ps : List Str) : Prop := ∀ (kV doc pm : Value) (an : Option Addr) (cdv ct : Value) (us : List Value), us.length = ps.length → bindArgs (PySem.W.fnOf n q (defArgs st) (defBody st) (defScope st) .none kV doc pm an cdv ct) ⟨us, []⟩ = pure (ps.zip us)
theorem FD.df {h : Heap} {mg : Str → Option Value} {ps : List Str} (x : FD K n st) (X : K.In h) (G : h.Ns mainGlobals mg) (b : FB n n st ps) : ∃ f fd, Df K mg n st ps f fd := by
  obtain ⟨f, cd, a, od, an, sl, oc, kV, dc, pm, ct, l, e, k⟩ := x
  exact ⟨_, _, df_mk X G a l e k b⟩
end
structure CF (K : PySem.W.Frag) (n : Str) (C : Addr) : Prop where
  g : PySem.W.nsIn K mainGlobals n = some (some (.ref C))
  m : PySem.W.mroIn K C (.type "object") = some true
  t : PySem.W.typeIn K (.ref C) = some (.type "type")
theorem CF.cls {K : PySem.W.Frag} {n : Str} {C D : Addr} {b : Bool} (x : CF K n D) (e : PySem.W.mroIn K C (.ref D) = some b) : PySem.W.kitCls K (.ref C) (.ref D) = some b := by
  obtain ⟨cd, h, _⟩ := Option.bind_eq_some_iff.mp x.m
  show (if ((PySem.W.clsIn K D).isSome && PySem.W.typeIn K (.ref D) == some (.type "type")) = true then PySem.W.subIn K (.ref C) (.ref D) else none) = _
  rw [if_pos (by rw [h, x.t, Option.isSome_some, Bool.true_and]; exact beq_self_eq_true _)]
  exact e
theorem CF.no {K : PySem.W.Frag} {n : Str} {C D : Addr} (x : CF K n D) (s : PySem.W.mroIn K C (.ref C) = some true) (e : PySem.W.mroIn K C (.ref D) = some false) : PySem.W.kitOne K (.ref C) (.ref D) = some false := by
  unfold PySem.W.kitOne
  rw [if_neg (fun q => by
    have h : Value.ref C = Value.ref D := eq_of_beq q
    injection h with h
    rw [← h, s] at e
    cases e)]
  exact x.cls e
theorem kit_self {K : PySem.W.Frag} {C : Addr} : PySem.W.kitOne K (.ref C) (.ref C) = some true := by
  unfold PySem.W.kitOne
  rw [if_pos (beq_self_eq_true _)]
theorem kit_ve {K : PySem.W.Frag} {C : Addr} (e : PySem.W.mroIn K C (.type "ValueError") = some true) : PySem.W.kitOne K (.ref C) (.type "ValueError") = some true := by
  unfold PySem.W.kitOne
  split
  · rfl
  · show (if PySem.W.kitMeta "ValueError" = true then PySem.W.subIn K (.ref C) (.type "ValueError") else none) = _
    rw [if_pos (by decide +kernel)]
    exact e
set_option maxHeartbeats 0 in
theorem all_mk {l : PySem.W.OpenLaw} {w : World} {K : PySem.W.Frag} {h : Heap} {mg : Str → Option Value} {fa : Addr} (X : K.In h) (G : h.Ns mainGlobals mg) (hfa : mg "law" = some (.ref fa))
    (x0 : FD K "is_whole" s_is_whole)
    (x1 : FD K "is_number" s_is_number)
    (x2 : FD K "is_base" s_is_base)
    (x3 : FD K "is_figure" s_is_figure)
    (x4 : FD K "are_figures" s_are_figures)
    (x5 : FD K "writes_number" s_writes_number)
    (x6 : FD K "is_stretch" s_is_stretch)
    (x7 : FD K "is_rising" s_is_rising)
    (x8 : FD K "is_bad_list" s_is_bad_list)
    (x9 : FD K "is_rule" s_is_rule)
    (x10 : FD K "check_base" s_check_base)
    (x11 : FD K "check_number" s_check_number)
    (x12 : FD K "check_rule" s_check_rule)
    (x13 : FD K "figures_of" s_figures_of)
    (x14 : FD K "number_by" s_number_by)
    (x15 : FD K "text_by" s_text_by)
    (x16 : FD K "figures_in" s_figures_in)
    (x17 : FD K "show_number" s_show_number)
    (x18 : FD K "read_number" s_read_number)
    (x19 : FD K "show_rule" s_show_rule)
    (x20 : FD K "read_rule" s_read_rule)
    (x21 : FD K "_law_cell" s__law_cell)
    (x22 : FD K "_law_mixed" s__law_mixed)
    (x23 : FD K "_law_rule" s__law_rule)
    (x24 : FD K "_law_figures" s__law_figures)
    (x25 : FD K "_law_text" s__law_text)
    (x26 : FD K "_law_number" s__law_number)
    (x27 : FD K "_law_writes_rule" s__law_writes_rule)
    (x28 : FD K "_law_writes_number" s__law_writes_number)
    (x29 : FD K "_law_odd" s__law_odd)
    (x30 : FD K "_law_given" s__law_given)
    (x31 : FD K "_law_asked" s__law_asked)
    (x32 : FD K "_law_bad" s__law_bad)
    (x33 : FD K "law" s_law)
    {CNoBase : Addr} (qNoBase : CF K "NoBase" CNoBase)
    {CNoNumber : Addr} (qNoNumber : CF K "NoNumber" CNoNumber)
    {CNoFigures : Addr} (qNoFigures : CF K "NoFigures" CNoFigures)
    {CNoRule : Addr} (qNoRule : CF K "NoRule" CNoRule)
    {CNoStand : Addr} (qNoStand : CF K "NoStand" CNoStand)
    {CNoGood : Addr} (qNoGood : CF K "NoGood" CNoGood)
    {CEndless : Addr} (qEndless : CF K "Endless" CEndless)
    {CNoRules : Addr} (qNoRules : CF K "NoRules" CNoRules)
    {CNoStretch : Addr} (qNoStretch : CF K "NoStretch" CNoStretch)
    {CTooMany : Addr} (qTooMany : CF K "TooMany" CTooMany)
    {CNoText : Addr} (qNoText : CF K "NoText" CNoText)
    {CNoName : Addr} (qNoName : CF K "NoName" CNoName)
    {CNoRow : Addr} (qNoRow : CF K "NoRow" CNoRow)
    {CLackError : Addr} (qLackError : CF K "LackError" CLackError)
    (mNF : PySem.W.mroIn K CNoFigures (.type "BaseException") = some true)
    (mLE : PySem.W.mroIn K CLackError (.type "BaseException") = some true) (nVE : PySem.W.nsIn K mainGlobals "ValueError" = some none)
    (pNoRule : PySem.W.excIn K CNoRule veT "ValueError.__new__" = true) (iNoRule : ExcI K CNoRule) (vNoRule : PySem.W.mroIn K CNoRule (.type "ValueError") = some true) (lNoRule : PySem.W.mroIn K CNoRule (.ref CLackError) = some true)
    (mNoRule_NoBase : PySem.W.mroIn K CNoRule (.ref CNoBase) = some false)
    (mNoRule_NoNumber : PySem.W.mroIn K CNoRule (.ref CNoNumber) = some false)
    (mNoRule_NoFigures : PySem.W.mroIn K CNoRule (.ref CNoFigures) = some false)
    (mNoRule_NoRule : PySem.W.mroIn K CNoRule (.ref CNoRule) = some true)
    (mNoRule_NoStand : PySem.W.mroIn K CNoRule (.ref CNoStand) = some false)
    (mNoRule_NoGood : PySem.W.mroIn K CNoRule (.ref CNoGood) = some false)
    (mNoRule_Endless : PySem.W.mroIn K CNoRule (.ref CEndless) = some false)
    (mNoRule_NoRules : PySem.W.mroIn K CNoRule (.ref CNoRules) = some false)
    (mNoRule_NoStretch : PySem.W.mroIn K CNoRule (.ref CNoStretch) = some false)
    (mNoRule_TooMany : PySem.W.mroIn K CNoRule (.ref CTooMany) = some false)
    (mNoRule_NoText : PySem.W.mroIn K CNoRule (.ref CNoText) = some false)
    (mNoRule_NoName : PySem.W.mroIn K CNoRule (.ref CNoName) = some false)
    (mNoRule_NoRow : PySem.W.mroIn K CNoRule (.ref CNoRow) = some false)
    (pNoNumber : PySem.W.excIn K CNoNumber veT "ValueError.__new__" = true) (iNoNumber : ExcI K CNoNumber) (vNoNumber : PySem.W.mroIn K CNoNumber (.type "ValueError") = some true) (lNoNumber : PySem.W.mroIn K CNoNumber (.ref CLackError) = some true)
    (mNoNumber_NoBase : PySem.W.mroIn K CNoNumber (.ref CNoBase) = some false)
    (mNoNumber_NoNumber : PySem.W.mroIn K CNoNumber (.ref CNoNumber) = some true)
    (mNoNumber_NoFigures : PySem.W.mroIn K CNoNumber (.ref CNoFigures) = some false)
    (mNoNumber_NoRule : PySem.W.mroIn K CNoNumber (.ref CNoRule) = some false)
    (mNoNumber_NoStand : PySem.W.mroIn K CNoNumber (.ref CNoStand) = some false)
    (mNoNumber_NoGood : PySem.W.mroIn K CNoNumber (.ref CNoGood) = some false)
    (mNoNumber_Endless : PySem.W.mroIn K CNoNumber (.ref CEndless) = some false)
    (mNoNumber_NoRules : PySem.W.mroIn K CNoNumber (.ref CNoRules) = some false)
    (mNoNumber_NoStretch : PySem.W.mroIn K CNoNumber (.ref CNoStretch) = some false)
    (mNoNumber_TooMany : PySem.W.mroIn K CNoNumber (.ref CTooMany) = some false)
    (mNoNumber_NoText : PySem.W.mroIn K CNoNumber (.ref CNoText) = some false)
    (mNoNumber_NoName : PySem.W.mroIn K CNoNumber (.ref CNoName) = some false)
    (mNoNumber_NoRow : PySem.W.mroIn K CNoNumber (.ref CNoRow) = some false)
    (pNoBase : PySem.W.excIn K CNoBase veT "ValueError.__new__" = true) (iNoBase : ExcI K CNoBase) (vNoBase : PySem.W.mroIn K CNoBase (.type "ValueError") = some true) (lNoBase : PySem.W.mroIn K CNoBase (.ref CLackError) = some true)
    (mNoBase_NoBase : PySem.W.mroIn K CNoBase (.ref CNoBase) = some true)
    (mNoBase_NoNumber : PySem.W.mroIn K CNoBase (.ref CNoNumber) = some false)
    (mNoBase_NoFigures : PySem.W.mroIn K CNoBase (.ref CNoFigures) = some false)
    (mNoBase_NoRule : PySem.W.mroIn K CNoBase (.ref CNoRule) = some false)
    (mNoBase_NoStand : PySem.W.mroIn K CNoBase (.ref CNoStand) = some false)
    (mNoBase_NoGood : PySem.W.mroIn K CNoBase (.ref CNoGood) = some false)
    (mNoBase_Endless : PySem.W.mroIn K CNoBase (.ref CEndless) = some false)
    (mNoBase_NoRules : PySem.W.mroIn K CNoBase (.ref CNoRules) = some false)
    (mNoBase_NoStretch : PySem.W.mroIn K CNoBase (.ref CNoStretch) = some false)
    (mNoBase_TooMany : PySem.W.mroIn K CNoBase (.ref CTooMany) = some false)
    (mNoBase_NoText : PySem.W.mroIn K CNoBase (.ref CNoText) = some false)
    (mNoBase_NoName : PySem.W.mroIn K CNoBase (.ref CNoName) = some false)
    (mNoBase_NoRow : PySem.W.mroIn K CNoBase (.ref CNoRow) = some false)
    (pNoText : PySem.W.excIn K CNoText veT "ValueError.__new__" = true) (iNoText : ExcI K CNoText) (vNoText : PySem.W.mroIn K CNoText (.type "ValueError") = some true) (lNoText : PySem.W.mroIn K CNoText (.ref CLackError) = some true)
    (mNoText_NoBase : PySem.W.mroIn K CNoText (.ref CNoBase) = some false)
    (mNoText_NoNumber : PySem.W.mroIn K CNoText (.ref CNoNumber) = some false)
    (mNoText_NoFigures : PySem.W.mroIn K CNoText (.ref CNoFigures) = some false)
    (mNoText_NoRule : PySem.W.mroIn K CNoText (.ref CNoRule) = some false)
    (mNoText_NoStand : PySem.W.mroIn K CNoText (.ref CNoStand) = some false)
    (mNoText_NoGood : PySem.W.mroIn K CNoText (.ref CNoGood) = some false)
    (mNoText_Endless : PySem.W.mroIn K CNoText (.ref CEndless) = some false)
    (mNoText_NoRules : PySem.W.mroIn K CNoText (.ref CNoRules) = some false)
    (mNoText_NoStretch : PySem.W.mroIn K CNoText (.ref CNoStretch) = some false)
    (mNoText_TooMany : PySem.W.mroIn K CNoText (.ref CTooMany) = some false)
    (mNoText_NoText : PySem.W.mroIn K CNoText (.ref CNoText) = some true)
    (mNoText_NoName : PySem.W.mroIn K CNoText (.ref CNoName) = some false)
    (mNoText_NoRow : PySem.W.mroIn K CNoText (.ref CNoRow) = some false)
    (pNoFigures : PySem.W.excIn K CNoFigures veT "ValueError.__new__" = true) (iNoFigures : ExcI K CNoFigures) (vNoFigures : PySem.W.mroIn K CNoFigures (.type "ValueError") = some true) (lNoFigures : PySem.W.mroIn K CNoFigures (.ref CLackError) = some true)
    (mNoFigures_NoBase : PySem.W.mroIn K CNoFigures (.ref CNoBase) = some false)
    (mNoFigures_NoNumber : PySem.W.mroIn K CNoFigures (.ref CNoNumber) = some false)
    (mNoFigures_NoFigures : PySem.W.mroIn K CNoFigures (.ref CNoFigures) = some true)
    (mNoFigures_NoRule : PySem.W.mroIn K CNoFigures (.ref CNoRule) = some false)
    (mNoFigures_NoStand : PySem.W.mroIn K CNoFigures (.ref CNoStand) = some false)
    (mNoFigures_NoGood : PySem.W.mroIn K CNoFigures (.ref CNoGood) = some false)
    (mNoFigures_Endless : PySem.W.mroIn K CNoFigures (.ref CEndless) = some false)
    (mNoFigures_NoRules : PySem.W.mroIn K CNoFigures (.ref CNoRules) = some false)
    (mNoFigures_NoStretch : PySem.W.mroIn K CNoFigures (.ref CNoStretch) = some false)
    (mNoFigures_TooMany : PySem.W.mroIn K CNoFigures (.ref CTooMany) = some false)
    (mNoFigures_NoText : PySem.W.mroIn K CNoFigures (.ref CNoText) = some false)
    (mNoFigures_NoName : PySem.W.mroIn K CNoFigures (.ref CNoName) = some false)
    (mNoFigures_NoRow : PySem.W.mroIn K CNoFigures (.ref CNoRow) = some false)
    {t0 : Tok} (g0 : PySem.W.nsIn K mainGlobals "LEAST_BASE" = some (some (.int 2 t0)))
    {t1 : Tok} (g1 : PySem.W.nsIn K mainGlobals "GREATEST_BASE" = some (some (.int 16 t1)))
    {t2 : Tok} (g2 : PySem.W.nsIn K mainGlobals "MOST_STRETCHES" = some (some (.int 4 t2)))
    {t3 : Tok} (g3 : PySem.W.nsIn K mainGlobals "LONGEST_STRETCH" = some (some (.int 4 t3)))
    {t4 : Tok} (g4 : PySem.W.nsIn K mainGlobals "SIGNS" = some (some (.str "0123456789abcdef" t4)))
    {t5 : Tok} (g5 : PySem.W.nsIn K mainGlobals "TEN" = some (some (.int 10 t5)))
    (z0 : PySem.W.nsIn K mainGlobals "isinstance" = some none)
    (z1 : PySem.W.nsIn K mainGlobals "int" = some none)
    (z2 : PySem.W.nsIn K mainGlobals "bool" = some none)
    (z3 : PySem.W.nsIn K mainGlobals "list" = some none)
    (z4 : PySem.W.nsIn K mainGlobals "tuple" = some none)
    (z5 : PySem.W.nsIn K mainGlobals "reversed" = some none)
    (z6 : PySem.W.nsIn K mainGlobals "len" = some none)
    (z7 : PySem.W.nsIn K mainGlobals "max" = some none)
    (z8 : PySem.W.nsIn K mainGlobals "min" = some none)
    (z9 : PySem.W.nsIn K mainGlobals "range" = some none)
    (z10 : PySem.W.nsIn K mainGlobals "all" = some none)
    (z11 : PySem.W.nsIn K mainGlobals "any" = some none)
    (z12 : PySem.W.nsIn K mainGlobals "sorted" = some none)
    (z13 : PySem.W.nsIn K mainGlobals "enumerate" = some none)
    (z14 : PySem.W.nsIn K mainGlobals "repr" = some none)
    (z15 : PySem.W.nsIn K mainGlobals "sum" = some none)
    (z16 : PySem.W.nsIn K mainGlobals "abs" = some none)
    (z17 : PySem.W.nsIn K mainGlobals "zip" = some none)
    (z18 : PySem.W.nsIn K mainGlobals "str" = some none)
    : ∃ fd : FuncData, (∀ (s : Shared) (v : Value), BindsTo s fd ⟨[v], []⟩ [("script", v)]) ∧ ∀ base : Heap, K.In base → base.Ns mainGlobals mg → FnOk l.prog w K mg base CX0 10 fa fd ["script"] (sp_law K) := by
  obtain ⟨fL, cd33, aL, od33, an33, sl33, oc33, kV33, dc33, pm33, ct33, lL, eL, kL⟩ := x33
  have e := hfa.symm.trans (PySem.W.mg_of X G aL)
  cases e
  have T : Blt mg := ⟨PySem.W.mg_none_of X G z0, PySem.W.mg_none_of X G z1, PySem.W.mg_none_of X G z2, PySem.W.mg_none_of X G z3, PySem.W.mg_none_of X G z4, PySem.W.mg_none_of X G z5, PySem.W.mg_none_of X G z6, PySem.W.mg_none_of X G z7, PySem.W.mg_none_of X G z8, PySem.W.mg_none_of X G z9, PySem.W.mg_none_of X G z10, PySem.W.mg_none_of X G z11, PySem.W.mg_none_of X G z12, PySem.W.mg_none_of X G z13, PySem.W.mg_none_of X G z14⟩
  have U : Blt2 mg := ⟨PySem.W.mg_none_of X G z15, PySem.W.mg_none_of X G z16, PySem.W.mg_none_of X G z17, PySem.W.mg_none_of X G z18⟩
  have c_LEAST_BASE := PySem.W.mg_of X G g0
  have c_GREATEST_BASE := PySem.W.mg_of X G g1
  have c_MOST_STRETCHES := PySem.W.mg_of X G g2
  have c_LONGEST_STRETCH := PySem.W.mg_of X G g3
  have c_SIGNS := PySem.W.mg_of X G g4
  have c_TEN := PySem.W.mg_of X G g5
  obtain ⟨_, _, Dis_whole⟩ := x0.df (ps := ["thing"]) X G fun _ _ _ _ _ _ us hl => match us, hl with | [_], _ => rfl
  obtain ⟨_, _, Dis_number⟩ := x1.df (ps := ["thing"]) X G fun _ _ _ _ _ _ us hl => match us, hl with | [_], _ => rfl
  obtain ⟨_, _, Dis_base⟩ := x2.df (ps := ["thing"]) X G fun _ _ _ _ _ _ us hl => match us, hl with | [_], _ => rfl
  obtain ⟨_, _, Dis_figure⟩ := x3.df (ps := ["base", "thing"]) X G fun _ _ _ _ _ _ us hl => match us, hl with | [_, _], _ => rfl
  obtain ⟨_, _, Dare_figures⟩ := x4.df (ps := ["base", "thing"]) X G fun _ _ _ _ _ _ us hl => match us, hl with | [_, _], _ => rfl
  obtain ⟨_, _, Dwrites_number⟩ := x5.df (ps := ["base", "thing"]) X G fun _ _ _ _ _ _ us hl => match us, hl with | [_, _], _ => rfl
  obtain ⟨_, _, Dis_stretch⟩ := x6.df (ps := ["base", "thing"]) X G fun _ _ _ _ _ _ us hl => match us, hl with | [_, _], _ => rfl
  obtain ⟨_, _, Dis_rising⟩ := x7.df (ps := ["stretches"]) X G fun _ _ _ _ _ _ us hl => match us, hl with | [_], _ => rfl
  obtain ⟨_, _, Dis_bad_list⟩ := x8.df (ps := ["base", "thing"]) X G fun _ _ _ _ _ _ us hl => match us, hl with | [_, _], _ => rfl
  obtain ⟨_, _, Dis_rule⟩ := x9.df (ps := ["thing"]) X G fun _ _ _ _ _ _ us hl => match us, hl with | [_], _ => rfl
  obtain ⟨_, _, Dcheck_base⟩ := x10.df (ps := ["thing"]) X G fun _ _ _ _ _ _ us hl => match us, hl with | [_], _ => rfl
  obtain ⟨_, _, Dcheck_number⟩ := x11.df (ps := ["thing"]) X G fun _ _ _ _ _ _ us hl => match us, hl with | [_], _ => rfl
  obtain ⟨_, _, Dcheck_rule⟩ := x12.df (ps := ["thing"]) X G fun _ _ _ _ _ _ us hl => match us, hl with | [_], _ => rfl
  obtain ⟨_, _, Dfigures_of⟩ := x13.df (ps := ["base", "n"]) X G fun _ _ _ _ _ _ us hl => match us, hl with | [_, _], _ => rfl
  obtain ⟨_, _, Dnumber_by⟩ := x14.df (ps := ["base", "figures"]) X G fun _ _ _ _ _ _ us hl => match us, hl with | [_, _], _ => rfl
  obtain ⟨_, _, Dtext_by⟩ := x15.df (ps := ["figures"]) X G fun _ _ _ _ _ _ us hl => match us, hl with | [_], _ => rfl
  obtain ⟨_, _, Dfigures_in⟩ := x16.df (ps := ["thing"]) X G fun _ _ _ _ _ _ us hl => match us, hl with | [_], _ => rfl
  obtain ⟨_, _, Dshow_number⟩ := x17.df (ps := ["base", "n"]) X G fun _ _ _ _ _ _ us hl => match us, hl with | [_, _], _ => rfl
  obtain ⟨_, _, Dread_number⟩ := x18.df (ps := ["base", "text"]) X G fun _ _ _ _ _ _ us hl => match us, hl with | [_, _], _ => rfl
  obtain ⟨_, _, Dshow_rule⟩ := x19.df (ps := ["rule"]) X G fun _ _ _ _ _ _ us hl => match us, hl with | [_], _ => rfl
  obtain ⟨_, _, Dread_rule⟩ := x20.df (ps := ["text"]) X G fun _ _ _ _ _ _ us hl => match us, hl with | [_], _ => rfl
  obtain ⟨_, _, D_law_cell⟩ := x21.df (ps := ["script", "k"]) X G fun _ _ _ _ _ _ us hl => match us, hl with | [_, _], _ => rfl
  obtain ⟨_, _, D_law_mixed⟩ := x22.df (ps := ["cell", "k"]) X G fun _ _ _ _ _ _ us hl => match us, hl with | [_, _], _ => rfl
  obtain ⟨_, _, D_law_rule⟩ := x23.df (ps := ["cell"]) X G fun _ _ _ _ _ _ us hl => match us, hl with | [_], _ => rfl
  obtain ⟨_, _, D_law_figures⟩ := x24.df (ps := ["base", "n"]) X G fun _ _ _ _ _ _ us hl => match us, hl with | [_, _], _ => rfl
  obtain ⟨_, _, D_law_text⟩ := x25.df (ps := ["figures"]) X G fun _ _ _ _ _ _ us hl => match us, hl with | [_], _ => rfl
  obtain ⟨_, _, D_law_number⟩ := x26.df (ps := ["cell", "k"]) X G fun _ _ _ _ _ _ us hl => match us, hl with | [_, _], _ => rfl
  obtain ⟨_, _, D_law_writes_rule⟩ := x27.df (ps := ["text"]) X G fun _ _ _ _ _ _ us hl => match us, hl with | [_], _ => rfl
  obtain ⟨_, _, D_law_writes_number⟩ := x28.df (ps := ["base", "text"]) X G fun _ _ _ _ _ _ us hl => match us, hl with | [_, _], _ => rfl
  obtain ⟨_, _, D_law_odd⟩ := x29.df (ps := ["cell"]) X G fun _ _ _ _ _ _ us hl => match us, hl with | [_], _ => rfl
  obtain ⟨_, _, D_law_given⟩ := x30.df (ps := ["cell"]) X G fun _ _ _ _ _ _ us hl => match us, hl with | [_], _ => rfl
  obtain ⟨_, _, D_law_asked⟩ := x31.df (ps := ["ask", "base", "thing"]) X G fun _ _ _ _ _ _ us hl => match us, hl with | [_, _, _], _ => rfl
  obtain ⟨_, _, D_law_bad⟩ := x32.df (ps := ["rule", "cell"]) X G fun _ _ _ _ _ _ us hl => match us, hl with | [_, _], _ => rfl
  have Dlaw : Df K mg "law" s_law ["script"] _ _ := df_mk X G aL lL eL kL fun _ _ _ _ _ _ us hl => match us, hl with | [_], _ => rfl
  refine ⟨PySem.W.fnOf "law" "law" (defArgs s_law) (defBody s_law) (defScope s_law) .none kV33 dc33 pm33 an33 cd33 ct33, fun s v => .of_eq rfl, fun base _ _ => ?_⟩
  have XN : XNames mg CNoBase CNoNumber CNoFigures CNoRule CNoStand CNoGood CEndless CNoRules CNoStretch CTooMany CNoText CNoName CNoRow := ⟨PySem.W.mg_of X G qNoBase.g, PySem.W.mg_of X G qNoNumber.g, PySem.W.mg_of X G qNoFigures.g, PySem.W.mg_of X G qNoRule.g, PySem.W.mg_of X G qNoStand.g, PySem.W.mg_of X G qNoGood.g, PySem.W.mg_of X G qEndless.g, PySem.W.mg_of X G qNoRules.g, PySem.W.mg_of X G qNoStretch.g, PySem.W.mg_of X G qTooMany.g, PySem.W.mg_of X G qNoText.g, PySem.W.mg_of X G qNoName.g, PySem.W.mg_of X G qNoRow.g⟩
  have n_ValueError : mg "ValueError" = none := PySem.W.mg_none_of X G nVE
  have h_LackError : CatchC K mg "LackError" CLackError := ⟨PySem.W.mg_of X G qLackError.g, mLE⟩
  have x_NoRule : ExcC K mg "NoRule" CNoRule := ⟨PySem.W.mg_of X G qNoRule.g, pNoRule⟩
  have kt_NoRule : PySem.W.kitCls K (.ref CNoRule) (.ref CLackError) = some true := qLackError.cls lNoRule
  have kd_NoRule : KindK K CNoRule CNoBase CNoNumber CNoFigures CNoRule CNoStand CNoGood CEndless CNoRules CNoStretch CTooMany CNoText CNoName CNoRow 3 := ⟨iNoRule, kit_ve vNoRule, qNoBase.no mNoRule_NoRule mNoRule_NoBase, qNoNumber.no mNoRule_NoRule mNoRule_NoNumber, qNoFigures.no mNoRule_NoRule mNoRule_NoFigures, kit_self, qNoStand.no mNoRule_NoRule mNoRule_NoStand, qNoGood.no mNoRule_NoRule mNoRule_NoGood, qEndless.no mNoRule_NoRule mNoRule_Endless, qNoRules.no mNoRule_NoRule mNoRule_NoRules, qNoStretch.no mNoRule_NoRule mNoRule_NoStretch, qTooMany.no mNoRule_NoRule mNoRule_TooMany, qNoText.no mNoRule_NoRule mNoRule_NoText, qNoName.no mNoRule_NoRule mNoRule_NoName, qNoRow.no mNoRule_NoRule mNoRule_NoRow⟩
  have x_NoNumber : ExcC K mg "NoNumber" CNoNumber := ⟨PySem.W.mg_of X G qNoNumber.g, pNoNumber⟩
  have kt_NoNumber : PySem.W.kitCls K (.ref CNoNumber) (.ref CLackError) = some true := qLackError.cls lNoNumber
  have kd_NoNumber : KindK K CNoNumber CNoBase CNoNumber CNoFigures CNoRule CNoStand CNoGood CEndless CNoRules CNoStretch CTooMany CNoText CNoName CNoRow 1 := ⟨iNoNumber, kit_ve vNoNumber, qNoBase.no mNoNumber_NoNumber mNoNumber_NoBase, kit_self, qNoFigures.no mNoNumber_NoNumber mNoNumber_NoFigures, qNoRule.no mNoNumber_NoNumber mNoNumber_NoRule, qNoStand.no mNoNumber_NoNumber mNoNumber_NoStand, qNoGood.no mNoNumber_NoNumber mNoNumber_NoGood, qEndless.no mNoNumber_NoNumber mNoNumber_Endless, qNoRules.no mNoNumber_NoNumber mNoNumber_NoRules, qNoStretch.no mNoNumber_NoNumber mNoNumber_NoStretch, qTooMany.no mNoNumber_NoNumber mNoNumber_TooMany, qNoText.no mNoNumber_NoNumber mNoNumber_NoText, qNoName.no mNoNumber_NoNumber mNoNumber_NoName, qNoRow.no mNoNumber_NoNumber mNoNumber_NoRow⟩
  have x_NoBase : ExcC K mg "NoBase" CNoBase := ⟨PySem.W.mg_of X G qNoBase.g, pNoBase⟩
  have kt_NoBase : PySem.W.kitCls K (.ref CNoBase) (.ref CLackError) = some true := qLackError.cls lNoBase
  have kd_NoBase : KindK K CNoBase CNoBase CNoNumber CNoFigures CNoRule CNoStand CNoGood CEndless CNoRules CNoStretch CTooMany CNoText CNoName CNoRow 0 := ⟨iNoBase, kit_ve vNoBase, kit_self, qNoNumber.no mNoBase_NoBase mNoBase_NoNumber, qNoFigures.no mNoBase_NoBase mNoBase_NoFigures, qNoRule.no mNoBase_NoBase mNoBase_NoRule, qNoStand.no mNoBase_NoBase mNoBase_NoStand, qNoGood.no mNoBase_NoBase mNoBase_NoGood, qEndless.no mNoBase_NoBase mNoBase_Endless, qNoRules.no mNoBase_NoBase mNoBase_NoRules, qNoStretch.no mNoBase_NoBase mNoBase_NoStretch, qTooMany.no mNoBase_NoBase mNoBase_TooMany, qNoText.no mNoBase_NoBase mNoBase_NoText, qNoName.no mNoBase_NoBase mNoBase_NoName, qNoRow.no mNoBase_NoBase mNoBase_NoRow⟩
  have x_NoText : ExcC K mg "NoText" CNoText := ⟨PySem.W.mg_of X G qNoText.g, pNoText⟩
  have kt_NoText : PySem.W.kitCls K (.ref CNoText) (.ref CLackError) = some true := qLackError.cls lNoText
  have kd_NoText : KindK K CNoText CNoBase CNoNumber CNoFigures CNoRule CNoStand CNoGood CEndless CNoRules CNoStretch CTooMany CNoText CNoName CNoRow 10 := ⟨iNoText, kit_ve vNoText, qNoBase.no mNoText_NoText mNoText_NoBase, qNoNumber.no mNoText_NoText mNoText_NoNumber, qNoFigures.no mNoText_NoText mNoText_NoFigures, qNoRule.no mNoText_NoText mNoText_NoRule, qNoStand.no mNoText_NoText mNoText_NoStand, qNoGood.no mNoText_NoText mNoText_NoGood, qEndless.no mNoText_NoText mNoText_Endless, qNoRules.no mNoText_NoText mNoText_NoRules, qNoStretch.no mNoText_NoText mNoText_NoStretch, qTooMany.no mNoText_NoText mNoText_TooMany, kit_self, qNoName.no mNoText_NoText mNoText_NoName, qNoRow.no mNoText_NoText mNoText_NoRow⟩
  have x_NoFigures : ExcC K mg "NoFigures" CNoFigures := ⟨PySem.W.mg_of X G qNoFigures.g, pNoFigures⟩
  have kt_NoFigures : PySem.W.kitCls K (.ref CNoFigures) (.ref CLackError) = some true := qLackError.cls lNoFigures
  have kd_NoFigures : KindK K CNoFigures CNoBase CNoNumber CNoFigures CNoRule CNoStand CNoGood CEndless CNoRules CNoStretch CTooMany CNoText CNoName CNoRow 2 := ⟨iNoFigures, kit_ve vNoFigures, qNoBase.no mNoFigures_NoFigures mNoFigures_NoBase, qNoNumber.no mNoFigures_NoFigures mNoFigures_NoNumber, kit_self, qNoRule.no mNoFigures_NoFigures mNoFigures_NoRule, qNoStand.no mNoFigures_NoFigures mNoFigures_NoStand, qNoGood.no mNoFigures_NoFigures mNoFigures_NoGood, qEndless.no mNoFigures_NoFigures mNoFigures_Endless, qNoRules.no mNoFigures_NoFigures mNoFigures_NoRules, qNoStretch.no mNoFigures_NoFigures mNoFigures_NoStretch, qTooMany.no mNoFigures_NoFigures mNoFigures_TooMany, qNoText.no mNoFigures_NoFigures mNoFigures_NoText, qNoName.no mNoFigures_NoFigures mNoFigures_NoName, qNoRow.no mNoFigures_NoFigures mNoFigures_NoRow⟩
  have h_NoFigures : CatchC K mg "NoFigures" CNoFigures := ⟨PySem.W.mg_of X G qNoFigures.g, mNF⟩
  have kn_NoFigures : PySem.W.kitCls K (.ref CNoFigures) (.ref CNoFigures) = some true := qNoFigures.cls mNoFigures_NoFigures
  have kn_NoBase : PySem.W.kitCls K (.ref CNoBase) (.ref CNoFigures) = some false := qNoFigures.cls mNoBase_NoFigures
  have Gis_whole : FnOk l.prog w K mg base CX0 1 _ _ ["thing"] sp_is_whole := ok_is_whole Dis_whole T
  have Gis_base : FnOk l.prog w K mg base CX0 2 _ _ ["thing"] sp_is_base := ok_is_base Dis_base Dis_whole T c_LEAST_BASE c_GREATEST_BASE
  have Gis_figure : FnOk l.prog w K mg base CX0 2 _ _ ["base", "thing"] sp_is_figure := ok_is_figure Dis_figure Dis_whole T
  have Gare_figures : FnOk l.prog w K mg base CX0 3 _ _ ["base", "thing"] sp_are_figures := ok_are_figures Dare_figures Dis_figure Gis_figure T
  have Gis_stretch : FnOk l.prog w K mg base CX0 4 _ _ ["base", "thing"] sp_is_stretch := ok_is_stretch Dis_stretch Dare_figures Gare_figures c_LONGEST_STRETCH T
  have Gis_rising : FnOk l.prog w K mg base CX0 1 _ _ ["stretches"] sp_is_rising := ok_is_rising Dis_rising T
  have Gis_bad_list : FnOk l.prog w K mg base CX0 5 _ _ ["base", "thing"] sp_is_bad_list := ok_is_bad_list Dis_bad_list Dis_stretch Gis_stretch Dis_rising c_MOST_STRETCHES T
  have Gis_rule : FnOk l.prog w K mg base CX0 6 _ _ ["thing"] sp_is_rule := ok_is_rule Dis_rule Dis_base Gis_base Dis_bad_list Gis_bad_list T
  have Gis_number : FnOk l.prog w K mg base CX0 2 _ _ ["thing"] sp_is_number := ok_is_number Dis_number Dis_whole T
  have Gcheck_rule : FnOk l.prog w K mg base (CX1 l.prog w) 7 _ _ ["thing"] (sp_check_rule CNoRule) := ok_check_rule Dcheck_rule Dis_rule Gis_rule x_NoRule
  have Gcheck_base : FnOk l.prog w K mg base (CX1 l.prog w) 3 _ _ ["thing"] (sp_check_base CNoBase) := ok_check_base Dcheck_base Dis_base Gis_base x_NoBase
  have Gcheck_number : FnOk l.prog w K mg base (CX1 l.prog w) 3 _ _ ["thing"] (sp_check_number CNoNumber) := ok_check_number Dcheck_number Dis_number Gis_number x_NoNumber
  have Gfigures_of : FnOk l.prog w K mg base (CX1 l.prog w) 4 _ _ ["base", "n"] (sp_figures_of CNoBase CNoNumber) := ok_figures_of Dfigures_of Dcheck_base Gcheck_base Dcheck_number Gcheck_number T
  have Gwrites_number : FnOk l.prog w K mg base CX0 4 _ _ ["base", "thing"] sp_writes_number := ok_writes_number Dwrites_number Dare_figures Gare_figures T
  have Gtext_by : FnOk l.prog w K mg base CX0 1 _ _ ["figures"] sp_text_by := ok_text_by Dtext_by c_SIGNS
  have Gnumber_by : FnOk l.prog w K mg base (CX2 CNoFigures l.prog w) 5 _ _ ["base", "figures"] (sp_number_by CNoBase CNoFigures) := ok_number_by Dnumber_by Dcheck_base Gcheck_base Dwrites_number Gwrites_number x_NoFigures kn_NoBase kn_NoFigures T
  have Gfigures_in : FnOk l.prog w K mg base CX0 1 _ _ ["thing"] sp_figures_in := ok_figures_in Dfigures_in c_SIGNS T U
  have Gshow_number : FnOk l.prog w K mg base (CX1 l.prog w) 5 _ _ ["base", "n"] (sp_show_number CNoBase CNoNumber) := ok_show_number Dshow_number Dtext_by Gtext_by Dfigures_of Gfigures_of
  have Gread_number : FnOk l.prog w K mg base (CX1 l.prog w) 6 _ _ ["base", "text"] (sp_read_number CNoBase CNoText) := ok_read_number Dread_number Dnumber_by Gnumber_by Dfigures_in Gfigures_in h_NoFigures x_NoText kn_NoBase kn_NoFigures
  have Gshow_rule : FnOk l.prog w K mg base (CX1 l.prog w) 8 _ _ ["rule"] (sp_show_rule CNoRule) := ok_show_rule Dshow_rule Dcheck_rule Gcheck_rule Dshow_number Gshow_number Dtext_by Gtext_by c_TEN
  have Gread_rule : FnOk l.prog w K mg base (CX1 l.prog w) 7 _ _ ["text"] (sp_read_rule CNoText) := ok_read_rule Dread_rule Dread_number Gread_number Dfigures_in Gfigures_in Dis_rule Gis_rule x_NoText c_TEN T U
  have G_law_cell : FnOk l.prog w K mg base CX0 1 _ _ ["script", "k"] (sp__law_cell K) := ok__law_cell D_law_cell T
  have G_law_mixed : FnOk l.prog w K mg base CX0 1 _ _ ["cell", "k"] sp__law_mixed := ok__law_mixed D_law_mixed
  have G_law_figures : FnOk l.prog w K mg base CX0 1 _ _ ["base", "n"] sp__law_figures := ok__law_figures D_law_figures
  have G_law_text : FnOk l.prog w K mg base CX0 1 _ _ ["figures"] sp__law_text := ok__law_text D_law_text
  have G_law_number : FnOk l.prog w K mg base CX0 2 _ _ ["cell", "k"] sp__law_number := ok__law_number D_law_number D_law_mixed
  have G_law_rule : FnOk l.prog w K mg base CX0 2 _ _ ["cell"] sp__law_rule := ok__law_rule D_law_rule D_law_mixed T
  have G_law_writes_number : FnOk l.prog w K mg base CX0 1 _ _ ["base", "text"] sp__law_writes_number := ok__law_writes_number D_law_writes_number T
  have G_law_writes_rule : FnOk l.prog w K mg base CX0 1 _ _ ["text"] sp__law_writes_rule := ok__law_writes_rule D_law_writes_rule T U
  have G_law_odd : FnOk l.prog w K mg base CX0 1 _ _ ["cell"] sp__law_odd := ok__law_odd D_law_odd T
  have G_law_given : FnOk l.prog w K mg base CX0 3 _ _ ["cell"] sp__law_given := ok__law_given D_law_given D_law_odd D_law_rule D_law_mixed D_law_text D_law_figures D_law_number T U
  have G_law_asked : FnOk l.prog w K mg base CX0 9 _ _ ["ask", "base", "thing"] sp__law_asked := ok__law_asked D_law_asked Dread_rule Gread_rule Dread_number Gread_number Dshow_rule Gshow_rule Dshow_number Gshow_number XN n_ValueError h_LackError kt_NoText kt_NoRule kt_NoBase kt_NoNumber kd_NoText kd_NoRule kd_NoBase kd_NoNumber T U
  have G_law_bad : FnOk l.prog w K mg base CX0 1 _ _ ["rule", "cell"] sp__law_bad := ok__law_bad D_law_bad T U
  exact ok_law Dlaw D_law_cell D_law_mixed D_law_rule D_law_figures D_law_text D_law_number D_law_writes_rule D_law_writes_number D_law_odd D_law_given D_law_asked G_law_asked D_law_bad T U
theorem walk {l : PySem.W.OpenLaw} {q : Program} {loose : List Str} {XP : (Str → Option Value) → Heap → Prop} {YP : World → Heap → Prop} {d : DefRec} {K : Params → PySem.W.Frag} (hn : l.most = some 63) (hdf : d.params.defaults = [])
    (hY : ∀ (w : World) (h : Heap), YP w h → (K w.params).In h)
    (F : ∀ (w : World) (mg : Str → Option Value) (fa : Addr) (h : Heap), (K w.params).In h → h.Ns mainGlobals mg → mg d.name = some (.ref fa) →
      ∃ fd : FuncData, (∀ (s : Shared) (u : Value), BindsTo s fd ⟨[u], []⟩ [("script", u)]) ∧ ∀ base : Heap, (K w.params).In base → base.Ns mainGlobals mg → FnOk l.prog w (K w.params) mg base CX0 10 fa fd ["script"] (sp_law (K w.params))) :
    PySem.W.WalkO q loose XP YP l.row.toRowW d [] (fun f vs => PySem.call f vs) :=
  L2.walk_of (n := 63) (k := 10) (x := "script") (CX := fun _ => CX0) (sp := fun w => sp_law (K w.params)) hn (by decide) hdf ⟨rfl, by decide, by decide, rfl⟩ hY F (fun _ _ a ns hl _ hS => ⟨a, ns, rfl, hS, hl, fun _ => rfl⟩) fun _ _ _ _ _ z => z
end Lw
open PySem PySem.W PyProof.Rows
set_option maxRecDepth 100000 in
set_option maxHeartbeats 0 in
theorem PySem.Challenge.cw_lackstretch_k38_texts_that_write_none_holds : PySem.Challenge.rw_lackstretch_k38_texts_that_write_none.Holds := by
  w_on; o_law; k_head; (case hw => w_witness2)
  k_fill
  refine Lw.walk (l := PySem.Challenge.rw_lackstretch_k38_texts_that_write_none) rfl rfl (fun w h Y => PySem.W.kIn_of Y) ?F
  case F =>
    intro w mg fa h KX G hmg
    refine' Lw.all_mk KX G hmg ?yyx0 ?yyx1 ?yyx2 ?yyx3 ?yyx4 ?yyx5 ?yyx6 ?yyx7 ?yyx8 ?yyx9 ?yyx10 ?yyx11 ?yyx12 ?yyx13 ?yyx14 ?yyx15 ?yyx16 ?yyx17 ?yyx18 ?yyx19 ?yyx20 ?yyx21 ?yyx22 ?yyx23 ?yyx24 ?yyx25 ?yyx26 ?yyx27 ?yyx28 ?yyx29 ?yyx30 ?yyx31 ?yyx32 ?yyx33 ?yyqNoBase ?yyqNoNumber ?yyqNoFigures ?yyqNoRule ?yyqNoStand ?yyqNoGood ?yyqEndless ?yyqNoRules ?yyqNoStretch ?yyqTooMany ?yyqNoText ?yyqNoName ?yyqNoRow ?yyqLackError ?yymNF ?yymLE ?yynVE ?yypNoRule ?yyiNoRule ?yyvNoRule ?yylNoRule ?yymNoRule_NoBase ?yymNoRule_NoNumber ?yymNoRule_NoFigures ?yymNoRule_NoRule ?yymNoRule_NoStand ?yymNoRule_NoGood ?yymNoRule_Endless ?yymNoRule_NoRules ?yymNoRule_NoStretch ?yymNoRule_TooMany ?yymNoRule_NoText ?yymNoRule_NoName ?yymNoRule_NoRow ?yypNoNumber ?yyiNoNumber ?yyvNoNumber ?yylNoNumber ?yymNoNumber_NoBase ?yymNoNumber_NoNumber ?yymNoNumber_NoFigures ?yymNoNumber_NoRule ?yymNoNumber_NoStand ?yymNoNumber_NoGood ?yymNoNumber_Endless ?yymNoNumber_NoRules ?yymNoNumber_NoStretch ?yymNoNumber_TooMany ?yymNoNumber_NoText ?yymNoNumber_NoName ?yymNoNumber_NoRow ?yypNoBase ?yyiNoBase ?yyvNoBase ?yylNoBase ?yymNoBase_NoBase ?yymNoBase_NoNumber ?yymNoBase_NoFigures ?yymNoBase_NoRule ?yymNoBase_NoStand ?yymNoBase_NoGood ?yymNoBase_Endless ?yymNoBase_NoRules ?yymNoBase_NoStretch ?yymNoBase_TooMany ?yymNoBase_NoText ?yymNoBase_NoName ?yymNoBase_NoRow ?yypNoText ?yyiNoText ?yyvNoText ?yylNoText ?yymNoText_NoBase ?yymNoText_NoNumber ?yymNoText_NoFigures ?yymNoText_NoRule ?yymNoText_NoStand ?yymNoText_NoGood ?yymNoText_Endless ?yymNoText_NoRules ?yymNoText_NoStretch ?yymNoText_TooMany ?yymNoText_NoText ?yymNoText_NoName ?yymNoText_NoRow ?yypNoFigures ?yyiNoFigures ?yyvNoFigures ?yylNoFigures ?yymNoFigures_NoBase ?yymNoFigures_NoNumber ?yymNoFigures_NoFigures ?yymNoFigures_NoRule ?yymNoFigures_NoStand ?yymNoFigures_NoGood ?yymNoFigures_Endless ?yymNoFigures_NoRules ?yymNoFigures_NoStretch ?yymNoFigures_TooMany ?yymNoFigures_NoText ?yymNoFigures_NoName ?yymNoFigures_NoRow ?yyg0 ?yyg1 ?yyg2 ?yyg3 ?yyg4 ?yyg5 ?yyz0 ?yyz1 ?yyz2 ?yyz3 ?yyz4 ?yyz5 ?yyz6 ?yyz7 ?yyz8 ?yyz9 ?yyz10 ?yyz11 ?yyz12 ?yyz13 ?yyz14 ?yyz15 ?yyz16 ?yyz17 ?yyz18
    (case yyx0 => refine' Lw.fdm ?_ ?_ ?_ ?_ <;> try k_is)
    (case yyx1 => refine' Lw.fdm ?_ ?_ ?_ ?_ <;> try k_is)
    (case yyx2 => refine' Lw.fdm ?_ ?_ ?_ ?_ <;> try k_is)
    (case yyx3 => refine' Lw.fdm ?_ ?_ ?_ ?_ <;> try k_is)
    (case yyx4 => refine' Lw.fdm ?_ ?_ ?_ ?_ <;> try k_is)
    (case yyx5 => refine' Lw.fdm ?_ ?_ ?_ ?_ <;> try k_is)
    (case yyx6 => refine' Lw.fdm ?_ ?_ ?_ ?_ <;> try k_is)
    (case yyx7 => refine' Lw.fdm ?_ ?_ ?_ ?_ <;> try k_is)
    (case yyx8 => refine' Lw.fdm ?_ ?_ ?_ ?_ <;> try k_is)
    (case yyx9 => refine' Lw.fdm ?_ ?_ ?_ ?_ <;> try k_is)
    (case yyx10 => refine' Lw.fdm ?_ ?_ ?_ ?_ <;> try k_is)
    (case yyx11 => refine' Lw.fdm ?_ ?_ ?_ ?_ <;> try k_is)
    (case yyx12 => refine' Lw.fdm ?_ ?_ ?_ ?_ <;> try k_is)
    (case yyx13 => refine' Lw.fdm ?_ ?_ ?_ ?_ <;> try k_is)
    (case yyx14 => refine' Lw.fdm ?_ ?_ ?_ ?_ <;> try k_is)
    (case yyx15 => refine' Lw.fdm ?_ ?_ ?_ ?_ <;> try k_is)
    (case yyx16 => refine' Lw.fdm ?_ ?_ ?_ ?_ <;> try k_is)
    (case yyx17 => refine' Lw.fdm ?_ ?_ ?_ ?_ <;> try k_is)
    (case yyx18 => refine' Lw.fdm ?_ ?_ ?_ ?_ <;> try k_is)
    (case yyx19 => refine' Lw.fdm ?_ ?_ ?_ ?_ <;> try k_is)
    (case yyx20 => refine' Lw.fdm ?_ ?_ ?_ ?_ <;> try k_is)
    (case yyx21 => refine' Lw.fdm ?_ ?_ ?_ ?_ <;> try k_is)
    (case yyx22 => refine' Lw.fdm ?_ ?_ ?_ ?_ <;> try k_is)
    (case yyx23 => refine' Lw.fdm ?_ ?_ ?_ ?_ <;> try k_is)
    (case yyx24 => refine' Lw.fdm ?_ ?_ ?_ ?_ <;> try k_is)
    (case yyx25 => refine' Lw.fdm ?_ ?_ ?_ ?_ <;> try k_is)
    (case yyx26 => refine' Lw.fdm ?_ ?_ ?_ ?_ <;> try k_is)
    (case yyx27 => refine' Lw.fdm ?_ ?_ ?_ ?_ <;> try k_is)
    (case yyx28 => refine' Lw.fdm ?_ ?_ ?_ ?_ <;> try k_is)
    (case yyx29 => refine' Lw.fdm ?_ ?_ ?_ ?_ <;> try k_is)
    (case yyx30 => refine' Lw.fdm ?_ ?_ ?_ ?_ <;> try k_is)
    (case yyx31 => refine' Lw.fdm ?_ ?_ ?_ ?_ <;> try k_is)
    (case yyx32 => refine' Lw.fdm ?_ ?_ ?_ ?_ <;> try k_is)
    (case yyx33 => refine' Lw.fdm ?_ ?_ ?_ ?_ <;> try k_is)
    (case yyqNoBase => refine' ⟨?_, ?_, ?_⟩ <;> try k_is)
    (case yyqNoNumber => refine' ⟨?_, ?_, ?_⟩ <;> try k_is)
    (case yyqNoFigures => refine' ⟨?_, ?_, ?_⟩ <;> try k_is)
    (case yyqNoRule => refine' ⟨?_, ?_, ?_⟩ <;> try k_is)
    (case yyqNoStand => refine' ⟨?_, ?_, ?_⟩ <;> try k_is)
    (case yyqNoGood => refine' ⟨?_, ?_, ?_⟩ <;> try k_is)
    (case yyqEndless => refine' ⟨?_, ?_, ?_⟩ <;> try k_is)
    (case yyqNoRules => refine' ⟨?_, ?_, ?_⟩ <;> try k_is)
    (case yyqNoStretch => refine' ⟨?_, ?_, ?_⟩ <;> try k_is)
    (case yyqTooMany => refine' ⟨?_, ?_, ?_⟩ <;> try k_is)
    (case yyqNoText => refine' ⟨?_, ?_, ?_⟩ <;> try k_is)
    (case yyqNoName => refine' ⟨?_, ?_, ?_⟩ <;> try k_is)
    (case yyqNoRow => refine' ⟨?_, ?_, ?_⟩ <;> try k_is)
    (case yyqLackError => refine' ⟨?_, ?_, ?_⟩ <;> try k_is)
    (case yymNF => k_is)
    (case yymLE => k_is)
    (case yynVE => k_is)
    (case yypNoRule => k_exc)
    (case yyiNoRule => refine' ⟨?_, ?_, ?_, ?_, ?_, ?_, ?_⟩ <;> k_is)
    (case yyvNoRule => k_is)
    (case yylNoRule => k_is)
    (case yymNoRule_NoBase => k_is)
    (case yymNoRule_NoNumber => k_is)
    (case yymNoRule_NoFigures => k_is)
    (case yymNoRule_NoRule => k_is)
    (case yymNoRule_NoStand => k_is)
    (case yymNoRule_NoGood => k_is)
    (case yymNoRule_Endless => k_is)
    (case yymNoRule_NoRules => k_is)
    (case yymNoRule_NoStretch => k_is)
    (case yymNoRule_TooMany => k_is)
    (case yymNoRule_NoText => k_is)
    (case yymNoRule_NoName => k_is)
    (case yymNoRule_NoRow => k_is)
    (case yypNoNumber => k_exc)
    (case yyiNoNumber => refine' ⟨?_, ?_, ?_, ?_, ?_, ?_, ?_⟩ <;> k_is)
    (case yyvNoNumber => k_is)
    (case yylNoNumber => k_is)
    (case yymNoNumber_NoBase => k_is)
    (case yymNoNumber_NoNumber => k_is)
    (case yymNoNumber_NoFigures => k_is)
    (case yymNoNumber_NoRule => k_is)
    (case yymNoNumber_NoStand => k_is)
    (case yymNoNumber_NoGood => k_is)
    (case yymNoNumber_Endless => k_is)
    (case yymNoNumber_NoRules => k_is)
    (case yymNoNumber_NoStretch => k_is)
    (case yymNoNumber_TooMany => k_is)
    (case yymNoNumber_NoText => k_is)
    (case yymNoNumber_NoName => k_is)
    (case yymNoNumber_NoRow => k_is)
    (case yypNoBase => k_exc)
    (case yyiNoBase => refine' ⟨?_, ?_, ?_, ?_, ?_, ?_, ?_⟩ <;> k_is)
    (case yyvNoBase => k_is)
    (case yylNoBase => k_is)
    (case yymNoBase_NoBase => k_is)
    (case yymNoBase_NoNumber => k_is)
    (case yymNoBase_NoFigures => k_is)
    (case yymNoBase_NoRule => k_is)
    (case yymNoBase_NoStand => k_is)
    (case yymNoBase_NoGood => k_is)
    (case yymNoBase_Endless => k_is)
    (case yymNoBase_NoRules => k_is)
    (case yymNoBase_NoStretch => k_is)
    (case yymNoBase_TooMany => k_is)
    (case yymNoBase_NoText => k_is)
    (case yymNoBase_NoName => k_is)
    (case yymNoBase_NoRow => k_is)
    (case yypNoText => k_exc)
    (case yyiNoText => refine' ⟨?_, ?_, ?_, ?_, ?_, ?_, ?_⟩ <;> k_is)
    (case yyvNoText => k_is)
    (case yylNoText => k_is)
    (case yymNoText_NoBase => k_is)
    (case yymNoText_NoNumber => k_is)
    (case yymNoText_NoFigures => k_is)
    (case yymNoText_NoRule => k_is)
    (case yymNoText_NoStand => k_is)
    (case yymNoText_NoGood => k_is)
    (case yymNoText_Endless => k_is)
    (case yymNoText_NoRules => k_is)
    (case yymNoText_NoStretch => k_is)
    (case yymNoText_TooMany => k_is)
    (case yymNoText_NoText => k_is)
    (case yymNoText_NoName => k_is)
    (case yymNoText_NoRow => k_is)
    (case yypNoFigures => k_exc)
    (case yyiNoFigures => refine' ⟨?_, ?_, ?_, ?_, ?_, ?_, ?_⟩ <;> k_is)
    (case yyvNoFigures => k_is)
    (case yylNoFigures => k_is)
    (case yymNoFigures_NoBase => k_is)
    (case yymNoFigures_NoNumber => k_is)
    (case yymNoFigures_NoFigures => k_is)
    (case yymNoFigures_NoRule => k_is)
    (case yymNoFigures_NoStand => k_is)
    (case yymNoFigures_NoGood => k_is)
    (case yymNoFigures_Endless => k_is)
    (case yymNoFigures_NoRules => k_is)
    (case yymNoFigures_NoStretch => k_is)
    (case yymNoFigures_TooMany => k_is)
    (case yymNoFigures_NoText => k_is)
    (case yymNoFigures_NoName => k_is)
    (case yymNoFigures_NoRow => k_is)
    (case yyg0 => k_is)
    (case yyg1 => k_is)
    (case yyg2 => k_is)
    (case yyg3 => k_is)
    (case yyg4 => k_is)
    (case yyg5 => k_is)
    (case yyz0 => k_is)
    (case yyz1 => k_is)
    (case yyz2 => k_is)
    (case yyz3 => k_is)
    (case yyz4 => k_is)
    (case yyz5 => k_is)
    (case yyz6 => k_is)
    (case yyz7 => k_is)
    (case yyz8 => k_is)
    (case yyz9 => k_is)
    (case yyz10 => k_is)
    (case yyz11 => k_is)
    (case yyz12 => k_is)
    (case yyz13 => k_is)
    (case yyz14 => k_is)
    (case yyz15 => k_is)
    (case yyz16 => k_is)
    (case yyz17 => k_is)
    (case yyz18 => k_is)
