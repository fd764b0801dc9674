import PyProof.Rows.All
import Wide.All
import OpenK.AllK
import Wide.FinOn
import Lean
import PyProof.EqAt
import PyProof.EqKinds
import PyProof.TupleCall
import PyProof.NeKinds
import KE.KRevSl
import KE.KRevIter
import PyProof.ConsumeWalk
import PyProof.ReprRoads
import PyProof.CallFns
import KE.KSortAsk
import KE.KSortTup
import KE.KDictSum
import PyProof.Rows.SumAny
import PyProof.EnumStmt
import PyProof.EnumMake
import PyProof.Rows.EnumRows
import PyProof.Rows.FactsN_abs
import PyProof.ReprLen
import PyProof.ZipIter
import PyProof.Rows.ZipGen
import PyProof.StrCalls2
import PyProof.PureStr
import PyProof.CallStr
import PyProof.StrLoop
import PyProof.StrWalks
import PyProof.RulesTry
import PyProof.StrOps
import KE.KLam
import PyProof.LongRange
import PySem.Challenge.RW_lackstretch_k30_together_refused
set_option Elab.async false
set_option linter.all false
set_option maxRecDepth 100000
namespace L2
open PySem PySem.Spec PyProof.Rows
abbrev Key := Sum Int Str
def keyIs : Key → Value → Bool
  | .inl k, v => Value.isInt k v
  | .inr x, v => Value.isStrOf x v
def keyH (w : World) : Key → Int
  | .inl k => hashInt k
  | .inr x => hashStr w x
theorem keyIs_shape : ∀ {k : Key} {v : Value}, keyIs k v = true → (∃ i t, k = Sum.inl i ∧ v = Value.int i t) ∨ (∃ x t, k = Sum.inr x ∧ v = Value.str x t)
  | .inl i, v, h => by
    obtain ⟨t, e⟩ := Value.isInt_shape (k := i) (v := v) h
    exact .inl ⟨i, t, rfl, e⟩
  | .inr x, v, h => by
    obtain ⟨t, e⟩ := Value.isStrOf_shape (x := x) (v := v) h
    exact .inr ⟨x, t, rfl, e⟩
theorem keyIs_int (i : Int) (t : Tok) : keyIs (.inl i) (.int i t) = true := by simp [keyIs, Value.isInt]
theorem keyIs_str (x : Str) (t : Tok) : keyIs (.inr x) (.str x t) = true := by simp [keyIs, Value.isStrOf]
theorem key_ll (a b : Int) : decide ((Sum.inl a : Key) = Sum.inl b) = (a == b) := by
  by_cases e : a = b
  · subst e; simp
  · have h : ¬ (Sum.inl a : Key) = Sum.inl b := fun q => e (Sum.inl.inj q)
    rw [decide_eq_false h]
    exact (beq_eq_false_iff_ne.mpr e).symm
theorem key_rr (a b : Str) : decide ((Sum.inr a : Key) = Sum.inr b) = decide (a = b) := by
  by_cases e : a = b
  · subst e; simp
  · have h : ¬ (Sum.inr a : Key) = Sum.inr b := fun q => e (Sum.inr.inj q)
    rw [decide_eq_false h, decide_eq_false e]
theorem key_lr (a : Int) (b : Str) : decide ((Sum.inl a : Key) = Sum.inr b) = false := decide_eq_false (fun q => nomatch q)
theorem key_rl (a : Str) (b : Int) : decide ((Sum.inr a : Key) = Sum.inl b) = false := decide_eq_false (fun q => nomatch q)
def mixKind (prog : Program) (w : World) : PySem.KeyKind prog w Key where
  is := keyIs
  hash := keyH w
  inj := fun v a b ha hb => by
    rcases keyIs_shape ha with ⟨i, t, rfl, rfl⟩ | ⟨x, t, rfl, rfl⟩
    · rcases keyIs_shape hb with ⟨j, u, rfl, e⟩ | ⟨y, u, rfl, e⟩
      · injection e with e1 _; rw [e1]
      · exact nomatch e
    · rcases keyIs_shape hb with ⟨j, u, rfl, e⟩ | ⟨y, u, rfl, e⟩
      · exact nomatch e
      · injection e with e1 _; rw [e1]
  byValue := fun k v h => by
    rcases keyIs_shape h with ⟨i, t, rfl, rfl⟩ | ⟨x, t, rfl, rfl⟩ <;> rfl
  pyHash := fun hv h => by
    rcases keyIs_shape hv with ⟨i, t, rfl, rfl⟩ | ⟨x, t, rfl, rfl⟩
    · exact wpAny_pyHash_int h
    · exact wpAny_pyHash_str h
  eqBool := fun hu hv h => by
    rcases keyIs_shape hu with ⟨i, t, rfl, rfl⟩ | ⟨x, t, rfl, rfl⟩
    · rcases keyIs_shape hv with ⟨j, u, rfl, rfl⟩ | ⟨y, u, rfl, rfl⟩
      · rw [key_ll] at h; exact wpAny_eqBool_int h
      · rw [key_lr] at h; exact SeqAt.EqAt.int_str i t y u _ _ _ _ h
    · rcases keyIs_shape hv with ⟨j, u, rfl, rfl⟩ | ⟨y, u, rfl, rfl⟩
      · rw [key_rl] at h; exact SeqAt.EqAt.str_int x t j u _ _ _ _ h
      · rw [key_rr] at h; exact wpAny_eqBool_str h
  «strs» := fun k x t v h => by
    rcases keyIs_shape h with ⟨i, u, rfl, e⟩ | ⟨y, u, rfl, e⟩
    · exact nomatch e
    · injection e with e1 _
      subst e1
      cases v <;> rfl
theorem mixKind_int (prog : Program) (w : World) (i : Int) (t : Tok) : (mixKind prog w).is (.inl i) (.int i t) = true := keyIs_int i t
theorem mixKind_str (prog : Program) (w : World) (x : Str) (t : Tok) : (mixKind prog w).is (.inr x) (.str x t) = true := keyIs_str x t
end L2
namespace L2
open PySem PySem.Spec PyProof.Rows
inductive V where
  | non | bl (b : Bool) | int (i : Int) | str (x : Str) | byt (b : Array UInt8) | flt (b : UInt64) | ref (a : Addr) | ty (n : String)
  deriving DecidableEq
def RelV : V → Value → Prop
  | .non, u => u = Value.none
  | .bl b, u => u = Value.bool b
  | .int i, u => ∃ t, u = Value.int i t
  | .str x, u => ∃ t, u = Value.str x t
  | .byt b, u => ∃ t, u = Value.bytes b t
  | .flt b, u => ∃ t, u = Value.float b t
  | .ref a, u => u = Value.ref a
  | .ty n, u => u = Value.type n
abbrev Vals : List V → List Value → Prop := Paired RelV
theorem Vals.length {xs : List V} {us : List Value} (r : Vals xs us) : xs.length = us.length := Paired.length r
theorem Vals.get : ∀ {xs : List V} {us : List Value} {i : Nat} {x : V}, Vals xs us → xs[i]? = some x → ∃ u, us[i]? = some u ∧ RelV x u
  | _, _, _, _, .nil, e => by simp at e
  | _, _, 0, _, .cons r _, e => by simp at e; subst e; exact ⟨_, rfl, r⟩
  | _, _, i + 1, x, .cons _ t, e => by
    obtain ⟨u, h1, h2⟩ := Vals.get (i := i) (x := x) t (by simpa using e)
    exact ⟨u, by simpa using h1, h2⟩
theorem Vals.set {x : V} {u : Value} (r : RelV x u) : ∀ {xs : List V} {us : List Value} (i : Nat), Vals xs us → Vals (xs.set i x) (us.set i u)
  | _, _, _, .nil => .nil
  | _, _, 0, .cons _ t => .cons r t
  | _, _, i + 1, .cons q t => .cons q (Vals.set r i t)
theorem Vals.append : ∀ {xs ys : List V} {us ws : List Value}, Vals xs us → Vals ys ws → Vals (xs ++ ys) (us ++ ws)
  | _, _, _, _, .nil, s => s
  | _, _, _, _, .cons r t, s => .cons r (Vals.append t s)
theorem Vals.take : ∀ {xs : List V} {us : List Value} (n : Nat), Vals xs us → Vals (xs.take n) (us.take n)
  | _, _, 0, _ => .nil
  | _, _, _ + 1, .nil => .nil
  | _, _, n + 1, .cons r t => .cons r (Vals.take n t)
theorem Vals.drop : ∀ {xs : List V} {us : List Value} (n : Nat), Vals xs us → Vals (xs.drop n) (us.drop n)
  | _, _, 0, r => r
  | _, _, _ + 1, .nil => .nil
  | _, _, n + 1, .cons _ t => Vals.drop n t
def RelO : Option V → Option Value → Prop
  | some v, some u => RelV v u
  | none, none => True
  | _, _ => False
def KV {κ : Type} : List (κ × V) → List (κ × Value) → Prop := Paired fun (p : κ × V) (q : κ × Value) => p.1 = q.1 ∧ RelV p.2 q.2
def kV : Key → V
  | .inl i => .int i
  | .inr x => .str x
inductive HO where
  | lst (xs : List V)
  | tup (xs : List V)
  | dK (kvs : List (Key × V)) | dT (kvs : List (List Key × V))
  | set (S : Int → Bool) (n : Nat)
  | ins (C dx : Addr) (fs : List (Str × V))
  | own (x : Addr)
  | xd (fs : List (Str × V))
  | met (f x : Addr)
  | rng (lo hi : Int)
  | frz (o : Obj) (u : HO)
  | tbl (ps : Array Value)
  | ext (φ : Heap → Prop)
abbrev Hp := Addr → Option HO
def upd (H : Hp) (a : Addr) (o : HO) : Hp := fun b => if b = a then some o else H b
theorem upd_same {H : Hp} {a : Addr} {o : HO} : upd H a o a = some o := by unfold upd; rw [if_pos rfl]
theorem upd_ne {H : Hp} {a b : Addr} {o : HO} (h : b ≠ a) : upd H a o b = H b := by unfold upd; rw [if_neg h]
theorem ne_of {H : Hp} {a b : Addr} {o u : HO} (h : H a = some o) (h' : H b = some u) (d : o ≠ u) : a ≠ b := by
  intro e; subst e; rw [h] at h'; exact d (Option.some.inj h')
theorem ne_of_none {H : Hp} {a b : Addr} {o : HO} (h : H a = some o) (h' : H b = none) : a ≠ b := by
  intro e; subst e; rw [h] at h'; cases h'
section
variable (P : Program) (w : World)
def ObjOk (H : Hp) (h : Heap) (a : Addr) : HO → Prop
  | .lst xs => xs.length ≤ sizeLine ∧ ∃ (its : List Value) (n : Nat), Vals xs its ∧ h.get? a = some { cls := .type "list", data := .seq its.toArray n }
  | .tup xs => xs.length ≤ sizeLine ∧ ∃ its : List Value, Vals xs its ∧ IsTup h a its.toArray
  | .dK kvs => kvs.length ≤ sizeLine ∧ (a == sysModules) = false ∧ ∃ vs, KV kvs vs ∧ h.DictOf (mixKind P w) a vs
  | .dT kvs => kvs.length ≤ sizeLine ∧ (a == sysModules) = false ∧ ∃ xs : List (List Key × Addr × Value),
      Paired (fun (p : List Key × V) (q : List Key × Addr × Value) => p.1 = q.1 ∧ H q.2.1 = some (.tup (p.1.map kV)) ∧ RelV p.2 q.2.2) kvs xs ∧
      ∃ o es ep, h.get? a = some o ∧ o.ExactDict ∧ o.data = .dict es ep ∧ es.toList = xs.map (entryOfKey (tupleKind (mixKind P w))) ∧ (xs.map (·.1)).Nodup
  | .set S n => h.SetOf (intKind P w) a S n
  | .ins C dx fs => H dx = some (.own a) ∧ fs.length ≤ 1000 ∧ dx ≠ a ∧ h.get? a = some (PySem.W.instObj C dx) ∧
      ∃ mA, h.Ns1 dx mA ∧ (∀ f, RelO (fs.lookup f) (mA f)) ∧ PySem.Within mA (fs.map (·.1))
  | .own _ => ∃ o, h.get? a = some o
  | .xd fs => ∃ mA, h.Ns1 a mA ∧ ∀ f, RelO (fs.lookup f) (mA f)
  | .rng lo hi => ∃ t u v, h.get? a = some { cls := .type "range", data := .fields #[.int lo t, .int hi u, .int 1 v] }
  | .frz o u => h.get? a = some o ∧ ObjOk H h a u
  | .tbl ps => h.get? a = some { cls := .none, data := .fields ps }
  | .met f x => h.get? a = some (PySem.W.methodObj (.ref f) (.ref x))
  | .ext φ => φ h ∧ (∃ o, h.get? a = some o) ∧ ∀ h1 h2 : Heap, φ h1 → (∀ o, h1.get? a = some o → h2.get? a = some o) → φ h2
def HOk (H : Hp) (h : Heap) : Prop := ∀ a o, H a = some o → ObjOk P w H h a o
end
section
variable {P : Program} {w : World} {H H' : Hp} {h h' : Heap} {a : Addr} {o : HO}
theorem ObjOk.lt (x : ObjOk P w H h a o) : a < h.objs.size := by
  cases o with
  | lst xs => obtain ⟨_, _, _, _, e⟩ := x; exact Heap.lt_size e
  | tup xs => obtain ⟨_, _, _, p⟩ := x; exact p.lt
  | dK kvs => obtain ⟨_, _, _, _, o, _, _, e, _⟩ := x; exact Heap.lt_size e
  | dT kvs => obtain ⟨_, _, _, _, o, _, _, e, _⟩ := x; exact Heap.lt_size e
  | set S n => obtain ⟨o, _, _, _, e, _⟩ := x; exact Heap.lt_size e
  | ins C dx fs => obtain ⟨_, _, _, e, _⟩ := x; exact Heap.lt_size e
  | own y => obtain ⟨_, e⟩ := x; exact Heap.lt_size e
  | xd fs => obtain ⟨_, ⟨_, _, _, e, _⟩, _⟩ := x; exact Heap.lt_size e
  | rng lo hi => obtain ⟨_, _, _, e⟩ := x; exact Heap.lt_size e
  | frz ob u => obtain ⟨e, _⟩ := x; exact Heap.lt_size e
  | tbl ps => exact Heap.lt_size (show h.get? a = some _ from x)
  | met f y => exact Heap.lt_size (show h.get? a = some _ from x)
  | ext φ => obtain ⟨_, ⟨_, e⟩, _⟩ := x; exact Heap.lt_size e
theorem Paired.mapP {α β : Type} {F G : α → β → Prop} : ∀ {l₁ : List α} {l₂ : List β}, Paired F l₁ l₂ → (∀ a b, F a b → G a b) → Paired G l₁ l₂
  | _, _, .nil, _ => .nil
  | _, _, .cons r t, f => .cons (f _ _ r) (Paired.mapP t f)
theorem ObjOk.stay (x : ObjOk P w H h a o) (k : ∀ b u, (b = a ∨ H b = some (.own a)) → h.get? b = some u → h'.get? b = some u)
    (ho : ∀ b, H b = some (.own a) → H' b = some (.own a)) (ht : ∀ b xs, H b = some (.tup xs) → H' b = some (.tup xs)) : ObjOk P w H' h' a o := by
  induction o with
  | lst xs => obtain ⟨z, its, n, r, e⟩ := x; exact ⟨z, its, n, r, k _ _ (.inl rfl) e⟩
  | tup xs => obtain ⟨z, its, r, ob, e, c⟩ := x; exact ⟨z, its, r, ob, k _ _ (.inl rfl) e, c⟩
  | dK kvs => obtain ⟨z, y, vs, r, ob, es, ep, e, c⟩ := x; exact ⟨z, y, vs, r, ob, es, ep, k _ _ (.inl rfl) e, c⟩
  | dT kvs =>
    obtain ⟨z, y, xs, r, ob, es, ep, e, c⟩ := x
    exact ⟨z, y, xs, Paired.mapP r fun p q z => ⟨z.1, ht _ _ z.2.1, z.2.2⟩, ob, es, ep, k _ _ (.inl rfl) e, c⟩
  | set S n => obtain ⟨ob, es, ep, t, e, c⟩ := x; exact ⟨ob, es, ep, t, k _ _ (.inl rfl) e, c⟩
  | ins C dx fs =>
    obtain ⟨d, z, ne, e, mA, ⟨od, es, ep, e2, c⟩, r⟩ := x
    exact ⟨ho _ d, z, ne, k _ _ (.inl rfl) e, mA, ⟨od, es, ep, k _ _ (.inr d) e2, c⟩, r⟩
  | own y => obtain ⟨ob, e⟩ := x; exact ⟨ob, k _ _ (.inl rfl) e⟩
  | xd fs => obtain ⟨mA, ⟨od, es, ep, e, c⟩, r⟩ := x; exact ⟨mA, ⟨od, es, ep, k _ _ (.inl rfl) e, c⟩, r⟩
  | rng lo hi => obtain ⟨t, u, v, e⟩ := x; exact ⟨t, u, v, k _ _ (.inl rfl) e⟩
  | frz ob u ih => obtain ⟨e, q⟩ := x; exact ⟨k _ _ (.inl rfl) e, ih q⟩
  | tbl ps =>
    have e : h.get? a = some { cls := .none, data := .fields ps } := x
    show h'.get? a = some { cls := .none, data := .fields ps }
    exact k a _ (.inl rfl) e
  | met f y =>
    have e : h.get? a = some (PySem.W.methodObj (.ref f) (.ref y)) := x
    show h'.get? a = some (PySem.W.methodObj (.ref f) (.ref y))
    exact k a _ (.inl rfl) e
  | ext φ => obtain ⟨p, ⟨o, e⟩, st⟩ := x; exact ⟨st _ _ p fun o q => k _ _ (.inl rfl) q, ⟨o, k _ _ (.inl rfl) e⟩, st⟩
theorem HOk.lt (x : HOk P w H h) (e : H a = some o) : a < h.objs.size := (x a o e).lt
theorem HOk.fresh (x : HOk P w H h) (e : h.objs.size ≤ a) : H a = none := by
  cases q : H a with
  | none => rfl
  | some u => exact absurd (Nat.lt_of_lt_of_le (x.lt q) e) (Nat.lt_irrefl _)
theorem HOk.kept (x : HOk P w H h) (k : ∀ b u, h.get? b = some u → h'.get? b = some u) : HOk P w H h' := fun a o e =>
  (x a o e).stay (fun b u _ q => k b u q) (fun _ q => q) fun _ _ q => q
theorem HOk.laid (x : HOk P w H h) (k : ∀ b u, h.get? b = some u → h'.get? b = some u) (hp : h.objs.size ≤ a) (new : ObjOk P w (upd H a o) h' a o) : HOk P w (upd H a o) h' := fun b u e => by
  have hn := x.fresh hp
  by_cases hb : b = a
  · subst hb; rw [upd_same] at e; cases e; exact new
  · rw [upd_ne hb] at e
    exact (x b u e).stay (fun c v _ q => k c v q) (fun c q => by rw [upd_ne (ne_of_none q hn)]; exact q) fun c xs q => by rw [upd_ne (ne_of_none q hn)]; exact q
end
def Rd (H : Hp) (a : Addr) (u : HO) : Prop := H a = some u ∨ ∃ o, H a = some (.frz o u)
theorem Rd.of {H : Hp} {a : Addr} {u : HO} (h : H a = some u) : Rd H a u := .inl h
theorem Rd.ok {P : Program} {w : World} {H : Hp} {h : Heap} {a : Addr} {u : HO} (r : Rd H a u) (x : HOk P w H h) : ObjOk P w H h a u := by
  rcases r with r | ⟨o, r⟩
  · exact x a u r
  · obtain ⟨_, q⟩ := x a _ r
    exact q
def Mut : Option HO → Prop
  | some (.lst _) => True
  | some (.dK _) => True
  | some (.dT _) => True
  | some (.set _ _) => True
  | some (.ins _ _ _) => True
  | some (.ext _) => True
  | _ => False
section
variable {P : Program} {w : World} {H : Hp} {h h' : Heap} {x e : Addr} {o' : HO}
theorem HOk.write (ok : HOk P w H h) (mu : Mut (H x)) (he : e = x ∨ H e = some (.own x)) (k : ∀ b u, b ≠ e → h.get? b = some u → h'.get? b = some u) (heo : ∃ u, h'.get? e = some u)
    (new : ObjOk P w (upd H x o') h' x o') : HOk P w (upd H x o') h' := fun b u q => by
  have nown : ∀ c y, H c = some (.own y) → c ≠ x := fun c y r z => by subst z; rw [r] at mu; exact mu
  have ntup : ∀ c xs, H c = some (.tup xs) → c ≠ x := fun c xs r z => by subst z; rw [r] at mu; exact mu
  by_cases hb : b = x
  · subst hb; rw [upd_same] at q; cases q; exact new
  · rw [upd_ne hb] at q
    by_cases hbe : b = e
    · have q' : H b = some (.own x) := by
        rcases he with z | z
        · exact absurd (hbe.trans z) hb
        · rw [hbe]; exact z
      rw [q] at q'; cases q'
      obtain ⟨v, hv⟩ := heo
      exact ⟨v, by rw [hbe]; exact hv⟩
    · refine (ok b u q).stay (fun c v hc r => k c v ?_ r) (fun c r => by rw [upd_ne (nown c b r)]; exact r) fun c xs r => by rw [upd_ne (ntup c xs r)]; exact r
      rcases hc with rfl | hc
      · exact hbe
      · rintro rfl
        rcases he with z | z
        · exact nown c b hc z
        · rw [hc] at z; cases z; exact hb rfl
end
structure Un (fs ex : List Addr) (H H' : Hp) (h h' : Heap) : Prop where
  keep : ∀ b o, h.get? b = some o → H b = none → b ∉ fs → b ∉ ex → h'.get? b = some o
  slot : ∀ b o, h.get? b = some o → H b = none → b ∈ fs → b ∉ ex → ∃ sl, h'.get? b = some { o with slots := sl }
  free : ∀ b o, h.get? b = some o → H b = none → b ∉ ex → H' b = none
  there : ∀ b o, h.get? b = some o → b ∉ ex → ∃ o', h'.get? b = some o'
  tups : ∀ b xs, H b = some (.tup xs) → H' b = some (.tup xs)
  frzs : ∀ b o u, H b = some (.frz o u) → H' b = some (.frz o u)
  tbls : ∀ b ps, H b = some (.tbl ps) → ∃ more, H' b = some (.tbl (ps ++ more))
section
variable {fs fs' ex ex' : List Addr} {H H1 H2 : Hp} {h h1 h2 h' : Heap} {a x e : Addr} {o : HO}
theorem Un.any (u : Un fs ex H H1 h h1) {b : Addr} {ob : Obj} (q : h.get? b = some ob) (n : H b = none) (hx : b ∉ ex) : ∃ sl, h1.get? b = some { ob with slots := sl } := by
  by_cases hb : b ∈ fs
  · exact u.slot b ob q n hb hx
  · exact ⟨ob.slots, u.keep b ob q n hb hx⟩
theorem Un.trans (a : Un fs ex H H1 h h1) (b : Un fs ex H1 H2 h1 h2) : Un fs ex H H2 h h2 where
  keep := fun c ob q n hc hx => b.keep c ob (a.keep c ob q n hc hx) (a.free c ob q n hx) hc hx
  slot := fun c ob q n hc hx => by
    obtain ⟨sl, e1⟩ := a.slot c ob q n hc hx
    obtain ⟨sl', e2⟩ := b.slot c _ e1 (a.free c ob q n hx) hc hx
    exact ⟨sl', e2⟩
  free := fun c ob q n hx => by
    obtain ⟨o', e1⟩ := a.there c ob q hx
    exact b.free c o' e1 (a.free c ob q n hx) hx
  there := fun c ob q hx => by
    obtain ⟨o', e1⟩ := a.there c ob q hx
    exact b.there c o' e1 hx
  tups := fun c xs q => b.tups c xs (a.tups c xs q)
  frzs := fun c ob xs q => b.frzs c ob xs (a.frzs c ob xs q)
  tbls := fun c ps q => by
    obtain ⟨m1, e1⟩ := a.tbls c ps q
    obtain ⟨m2, e2⟩ := b.tbls c _ e1
    exact ⟨m1 ++ m2, by rw [e2, Array.append_assoc]⟩
theorem Un.kept (k : ∀ b u, h.get? b = some u → h'.get? b = some u) : Un fs ex H H h h' :=
  ⟨fun b ob q _ _ _ => k b ob q, fun b ob q _ _ _ => ⟨ob.slots, k b ob q⟩, fun _ _ _ n _ => n, fun b ob q _ => ⟨ob, k b ob q⟩, fun _ _ q => q, fun _ _ _ q => q, fun _ ps q => ⟨#[], by rw [q]; simp⟩⟩
theorem Un.refl : Un fs ex H H h h := Un.kept fun _ _ q => q
theorem Un.laid (k : ∀ b u, h.get? b = some u → h'.get? b = some u) (hp : h.objs.size ≤ a) (hn : H a = none) : Un fs ex H (upd H a o) h h' where
  keep := fun b u q _ _ _ => k b u q
  slot := fun b u q _ _ _ => ⟨u.slots, k b u q⟩
  free := fun b u q n _ => by rw [upd_ne (Nat.ne_of_lt (Nat.lt_of_lt_of_le (Heap.lt_size q) hp))]; exact n
  there := fun b u q _ => ⟨u, k b u q⟩
  tups := fun b xs q => by rw [upd_ne (ne_of_none q hn)]; exact q
  frzs := fun b u xs q => by rw [upd_ne (ne_of_none q hn)]; exact q
  tbls := fun b ps q => ⟨#[], by rw [upd_ne (ne_of_none q hn), q]; simp⟩
theorem Un.write (mu : Mut (H x)) (he : e = x ∨ H e = some (.own x)) (k : ∀ b u, b ≠ e → h.get? b = some u → h'.get? b = some u) (heo : ∃ u, h'.get? e = some u) : Un fs ex H (upd H x o) h h' := by
  have hx : ∀ b, H b = none → b ≠ x := fun b n z => by subst z; rw [n] at mu; exact mu
  have hb : ∀ b, H b = none → b ≠ e := fun b n z => by
    subst z
    rcases he with r | r
    · exact hx b n r
    · rw [n] at r; cases r
  have hm : ∀ b u, H b = some u → ¬ Mut (some u) → b ≠ x := fun b u q nm z => by subst z; rw [q] at mu; exact nm mu
  refine ⟨fun b u q n _ _ => k b u (hb b n) q, fun b u q n _ _ => ⟨u.slots, k b u (hb b n) q⟩, fun b u q n _ => by rw [upd_ne (hx b n)]; exact n, fun b u q _ => ?_,
    fun b xs q => by rw [upd_ne (hm b _ q fun z => z)]; exact q, fun b u xs q => by rw [upd_ne (hm b _ q fun z => z)]; exact q, fun b ps q => ⟨#[], by rw [upd_ne (hm b _ q fun z => z), q]; simp⟩⟩
  by_cases hbe : b = e
  · subst hbe; exact heo
  · exact ⟨u, k b u hbe q⟩
theorem Un.mono (u : Un fs ex H H1 h h1) (hs : ∀ b ∈ fs, b ∈ fs') (hx : ∀ b ∈ ex, b ∈ ex') : Un fs' ex' H H1 h h1 :=
  ⟨fun b ob q n hb he => u.keep b ob q n (fun z => hb (hs b z)) fun z => he (hx b z), fun _ _ q n _ he => u.any q n fun z => he (hx _ z), fun b ob q n he => u.free b ob q n fun z => he (hx b z), fun b ob q he => u.there b ob q fun z => he (hx b z), u.tups, u.frzs, u.tbls⟩
end
def trk (h : Heap) (H : Hp) : List Addr := (List.range h.objs.size).filter fun a => (H a).isSome
def hidT (h : Heap) (H : Hp) : Heap := PySem.W.hideAll h (trk h H)
theorem hidT_size (h : Heap) (H : Hp) : (hidT h H).objs.size = h.objs.size := PySem.W.hideAll_size _ _
theorem hidT_get {h : Heap} {H : Hp} {b : Addr} {o : Obj} (e : h.get? b = some o) (n : H b = none) : (hidT h H).get? b = some o :=
  PySem.W.hideAll_get _ e fun hm => by
    have q : (H b).isSome = true := (List.mem_filter.mp hm).2
    rw [n] at q; simp at q
theorem of_hidT {h : Heap} {H : Hp} {b : Addr} {o : Obj} (e : (hidT h H).get? b = some o) : h.get? b = some o ∧ H b = none := by
  have e' : h.get? b = some o := PySem.W.of_hideAll (trk h H) e
  refine ⟨e', ?_⟩
  cases q : H b with
  | none => rfl
  | some x =>
    have hm : b ∈ trk h H := List.mem_filter.mpr ⟨List.mem_range.mpr (Heap.lt_size e'), by simp [q]⟩
    have z : (hidT h H).get? b = none := PySem.W.hideAll_none (trk h H) hm
    rw [z] at e; cases e
def allNews (g h : Heap) (L : Addr) : List (Addr × Obj) := (List.range h.objs.size).filterMap fun a => if a = L ∨ (g.get? a).isSome = true then none else (h.get? a).map fun o => (a, o)
def rest (g h : Heap) (L d : Addr) : List (Addr × Obj) := (allNews g h L).filter fun p => decide (p.1 ≠ d)
end L2
namespace L2
open PySem PySem.Spec PyProof.Rows
structure Mod (K : PySem.W.Frag) (mg : Str → Option Value) (base : Heap) : Prop where
  kin : K.In base
  glob : base.Ns mainGlobals mg
  blt : ∃ mb, base.Ns builtinsNs mb ∧ ∀ x : Str, x ≠ "__name__" → mb x = bootBuiltins x
  nolimit : base.NoLimit
structure Cx where
  prog : Program
  w : World
  K : PySem.W.Frag
  mg : Str → Option Value
  base : Heap
  A : Around
  N : List Str
  s₀ : Shared
  H₀ : Hp
  env : Env
  outer : List Env
  stack : List Env
  ex : List Addr
  fn : Str → Bool
  calm : Bool
  pn : List (Addr × Obj)
  xe : Value → Shared → Prop
def frs (l : List Env) : List Addr := l.filterMap (·.frame)
abbrev Cx.fs (X : Cx) : List Addr := frs X.outer
def Vis (sc : Scope) (x : Str) : Prop := sc.names.lookup x = some .local ∨ sc.names.lookup x = some .cell ∨ sc.names.lookup x = some .free
def Loc (sc : Scope) (x : Str) : Prop := sc.names.lookup x = some .local ∨ sc.names.lookup x = some .cell
def Look (env : Env) (h : Heap) (m : Str → Option Value) (x : Str) (u : Value) : Prop :=
  (env.kindOf x = some .local ∧ m x = some u) ∨ ((env.kindOf x = some .cell ∨ env.kindOf x = some .free) ∧ ∃ c, env.cells.lookup x = some c ∧ h.IsCell c (some u))
structure Cx.Ok (X : Cx) : Prop where
  mod : Mod X.K X.mg X.base
  kind : X.env.scope.kind = .function
  glob : X.env.globals = mainGlobals
  blt : X.env.builtins = builtinsNs
  above : X.s₀.heap.objs.size ≤ X.env.locals
  inj : ∀ x y c, X.env.cells.lookup x = some c → X.env.cells.lookup y = some c → x = y
  has : ∀ x, (X.env.kindOf x = some .cell ∨ X.env.kindOf x = some .free) → ∃ c, X.env.cells.lookup x = some c
  cab : ∀ x c, X.fn x = true → X.env.cells.lookup x = some c → X.s₀.heap.objs.size ≤ c
  hd : X.calm = true → X.A.handled = none
  frames : X.A.frames = some X.stack
  stk : X.stack = X.outer ∨ (X.stack = X.env :: X.outer ∧ X.env.frame = some X.env.locals)
  exf : ∀ b ∈ X.ex, b ≠ X.env.locals ∧ ∀ x c, X.env.cells.lookup x = some c → c ≠ b
  bs : ∀ b o, X.base.get? b = some o → X.s₀.heap.get? b = some o ∧ X.H₀ b = none
  bsz : X.base.objs.size ≤ X.s₀.heap.objs.size
  noex : ∀ b o, X.base.get? b = some o → b ∉ X.ex
  exfs : ∀ b ∈ X.ex, b ∉ X.fs
  funs : X.s₀.heap.FunFrames X.base X.outer
  frf : ∀ b ∈ X.fs, X.H₀ b = none
structure Inv (X : Cx) (pins : List (Addr × Obj)) (σ : List (Option V)) (H : Hp) (s : Shared) : Prop where
  ok : X.Ok
  os : s.os = X.s₀.os
  bare : AllBare s.gens
  base : Un X.fs X.ex X.H₀ H X.s₀.heap s.heap
  loc : ∃ m, s.heap.Ns X.env.locals m ∧ ∀ (i : Nat) (x : Str) (v : V), X.N[i]? = some x → σ[i]? = some (some v) → Vis X.env.scope x → ∃ u, RelV v u ∧ Look X.env s.heap m x u
  cell : ∀ x c, X.env.cells.lookup x = some c → ∃ v, s.heap.IsCell c v
  free : H X.env.locals = none
  freeC : ∀ x c, X.env.cells.lookup x = some c → H c = none
  pin : ∀ p ∈ X.pn ++ pins, s.heap.get? p.1 = some p.2 ∧ H p.1 = none ∧ p.1 ≠ X.env.locals ∧ p.1 ∉ X.fs ∧ ∀ v, p.2.data ≠ .cell v
  hok : HOk X.prog X.w H s.heap
  len : σ.length = X.N.length
section
variable {X : Cx} {pins : List (Addr × Obj)} {σ : List (Option V)} {H H' : Hp} {s : Shared} {h' : Heap}
theorem Cx.Ok.nofr (ok : X.Ok) {b : Addr} {o : Obj} (e : X.base.get? b = some o) : b ∉ X.fs := fun hb => by
  have := (ok.funs.mem hb).1
  rw [e] at this; cases this
theorem Inv.bs (I : Inv X pins σ H s) : ∀ b o, X.base.get? b = some o → s.heap.get? b = some o ∧ H b = none := fun b o e =>
  ⟨I.base.keep b o (I.ok.bs b o e).1 (I.ok.bs b o e).2 (I.ok.nofr e) (I.ok.noex b o e), I.base.free b o (I.ok.bs b o e).1 (I.ok.bs b o e).2 (I.ok.noex b o e)⟩
theorem Inv.bk (I : Inv X pins σ H s) : ∀ b o, X.base.get? b = some o → s.heap.get? b = some o := fun b o e => (I.bs b o e).1
theorem Inv.mod (I : Inv X pins σ H s) : Mod X.K X.mg X.base := I.ok.mod
theorem Inv.kIn (I : Inv X pins σ H s) : X.K.In s.heap := I.ok.mod.kin.keeps I.bk
theorem Inv.nolimit (I : Inv X pins σ H s) : s.heap.NoLimit := I.ok.mod.nolimit.keeps I.bk
theorem Inv.fr (I : Inv X pins σ H s) : ∃ m, Fr X.base X.env.locals s.heap m :=
  let ⟨m, hn, _⟩ := I.loc
  ⟨m, hn, I.bk, Nat.le_trans I.ok.bsz I.ok.above⟩
theorem Inv.lt (I : Inv X pins σ H s) : X.env.locals < s.heap.objs.size := let ⟨_, hn, _⟩ := I.loc; hn.lt
theorem Inv.sz (I : Inv X pins σ H s) : X.s₀.heap.objs.size ≤ s.heap.objs.size := Nat.le_trans I.ok.above (Nat.le_of_lt I.lt)
theorem Inv.nofs (I : Inv X pins σ H s) {a : Addr} (h : s.heap.objs.size ≤ a) : a ∉ X.fs := fun hb => by
  obtain ⟨_, o, ho, _⟩ := I.ok.funs.mem hb
  exact absurd (Nat.lt_of_lt_of_le (Heap.lt_size ho) (Nat.le_trans I.sz h)) (Nat.lt_irrefl _)
theorem Inv.cne (I : Inv X pins σ H s) : ∀ x c, X.env.cells.lookup x = some c → c ≠ X.env.locals := fun x c e z => by
  obtain ⟨v, o, ho, hd⟩ := I.cell x c e
  obtain ⟨m, ⟨o', es, ep, ho', hd', _⟩, _⟩ := I.loc
  rw [z, ho'] at ho; cases ho; rw [hd'] at hd; cases hd
theorem Inv.funs (I : Inv X pins σ H s) : s.heap.FunFrames X.base X.outer := by
  have all : ∀ (l : List Env), (∀ b ∈ frs l, b ∈ X.fs) → X.s₀.heap.FunFrames X.base l → s.heap.FunFrames X.base l := by
    intro l
    induction l with
    | nil => intro _ _; trivial
    | cons env r ih =>
      intro hs hl
      obtain ⟨hk, ⟨L, o, hf, hn, ho, hd⟩, hr⟩ := hl
      have hL : L ∈ X.fs := hs L (by unfold frs; rw [List.filterMap_cons, hf]; exact List.mem_cons_self)
      obtain ⟨sl, e⟩ := I.base.slot L o ho (I.ok.frf L hL) hL fun z => I.ok.exfs L z hL
      exact ⟨hk, ⟨L, _, hf, hn, e, hd⟩, ih (fun b hb => hs b (by unfold frs; rw [List.filterMap_cons, hf]; exact List.mem_cons_of_mem _ hb)) hr⟩
  exact all X.outer (fun _ hb => hb) I.ok.funs
theorem Inv.stack (I : Inv X pins σ H s) : s.heap.FunFrames X.base X.stack := by
  rcases I.ok.stk with e | ⟨e, hf⟩
  · rw [e]; exact I.funs
  · rw [e]
    obtain ⟨m, hn, _⟩ := I.loc
    refine .cons (by rw [I.ok.kind]; decide) hf hn ?_ I.funs
    exact Heap.get?_none_of_le (Nat.le_trans I.ok.bsz I.ok.above)
theorem Inv.stkSub (I : Inv X pins σ H s) : ∀ b ∈ frs X.stack, b ∈ X.env.locals :: X.fs := fun b hb => by
  rcases I.ok.stk with e | ⟨e, hf⟩
  · rw [e] at hb; exact List.mem_cons_of_mem _ hb
  · rw [e] at hb
    unfold frs at hb
    rw [List.filterMap_cons, hf] at hb
    exact hb
theorem Inv.stkFree (I : Inv X pins σ H s) : ∀ b ∈ frs X.stack, H b = none := fun b hb => by
  rcases List.mem_cons.mp (I.stkSub b hb) with e | hb
  · rw [e]; exact I.free
  · obtain ⟨_, o, ho, _⟩ := I.ok.funs.mem hb
    exact I.base.free b o ho (I.ok.frf b hb) fun z => I.ok.exfs b z hb
theorem Inv.step {g' : Array GenState} {t' : Nat} {d' : Drawn} {ch : List Addr} (I : Inv X pins σ H s)
    (hch : ∀ b ∈ ch, (b ∈ X.ex ∨ X.s₀.heap.objs.size ≤ b) ∧ b ≠ X.env.locals ∧ (∀ x c, X.env.cells.lookup x = some c → c ≠ b) ∧ ∀ p ∈ X.pn ++ pins, p.1 ≠ b)
    (keep : ∀ b o, b ≠ X.env.locals → b ∉ X.fs → b ∉ ch → s.heap.get? b = some o → H b = none → h'.get? b = some o)
    (slot : ∀ b o, b ≠ X.env.locals → b ∈ X.fs → b ∉ ch → s.heap.get? b = some o → H b = none → ∃ sl, h'.get? b = some { o with slots := sl }) (free : ∀ b o, b ∉ ch → s.heap.get? b = some o → H b = none → H' b = none)
    (there : ∀ b o, b ∉ ch → s.heap.get? b = some o → ∃ o', h'.get? b = some o')
    (tups : ∀ b xs, H b = some (.tup xs) → H' b = some (.tup xs)) (frzs : ∀ b o u, H b = some (.frz o u) → H' b = some (.frz o u)) (tbls : ∀ b ps, H b = some (.tbl ps) → ∃ more, H' b = some (.tbl (ps ++ more)))
    (ns : ∀ m, s.heap.Ns X.env.locals m → h'.Ns X.env.locals m) (hok : HOk X.prog X.w H' h') (hg : AllBare g') :
    Inv X pins σ H' { s with heap := h', gens := g', drawn := d', toks := t' } := by
  have neL : ∀ b o, X.s₀.heap.get? b = some o → b ≠ X.env.locals := fun b o e => Nat.ne_of_lt (Nat.lt_of_lt_of_le (Heap.lt_size e) I.ok.above)
  have neC : ∀ b o, X.s₀.heap.get? b = some o → b ∉ X.ex → b ∉ ch := fun b o e hx hb => by
    rcases (hch b hb).1 with z | z
    · exact hx z
    · exact absurd (Nat.lt_of_lt_of_le (Heap.lt_size e) z) (Nat.lt_irrefl _)
  have cellK : ∀ x c, X.env.cells.lookup x = some c → ∀ v, s.heap.IsCell c v → h'.IsCell c v := fun x c e v ⟨o, ho, hd⟩ => by
    have nch : c ∉ ch := fun z => (hch c z).2.2.1 x c e rfl
    by_cases hc : c ∈ X.fs
    · obtain ⟨sl, q⟩ := slot c o (I.cne x c e) hc nch ho (I.freeC x c e)
      exact ⟨_, q, hd⟩
    · exact ⟨o, keep c o (I.cne x c e) hc nch ho (I.freeC x c e), hd⟩
  refine ⟨I.ok, I.os, hg, ⟨fun b o e n hb hx => ?_, fun b o e n hb hx => ?_, fun b o e n hx => ?_, fun b o e hx => ?_, fun b xs e => tups b xs (I.base.tups b xs e), fun b o xs e => frzs b o xs (I.base.frzs b o xs e), fun b ps e => ?_⟩, ?_, fun x c e => ?_, ?_, fun x c e => ?_, fun p hp => ?_, hok, I.len⟩
  · exact keep b o (neL b o e) hb (neC b o e hx) (I.base.keep b o e n hb hx) (I.base.free b o e n hx)
  · obtain ⟨sl, e1⟩ := I.base.slot b o e n hb hx
    obtain ⟨sl', e2⟩ := slot b _ (neL b o e) hb (neC b o e hx) e1 (I.base.free b o e n hx)
    exact ⟨sl', e2⟩
  · obtain ⟨o', e1⟩ := I.base.there b o e hx
    exact free b o' (neC b o e hx) e1 (I.base.free b o e n hx)
  · obtain ⟨o', e1⟩ := I.base.there b o e hx
    exact there b o' (neC b o e hx) e1
  · obtain ⟨m1, e1⟩ := I.base.tbls b ps e
    obtain ⟨m2, e2⟩ := tbls b _ e1
    exact ⟨m1 ++ m2, by rw [e2, Array.append_assoc]⟩
  · obtain ⟨m, hn, hl⟩ := I.loc
    refine ⟨m, ns m hn, fun i x v e1 e2 e3 => ?_⟩
    obtain ⟨u, r, l⟩ := hl i x v e1 e2 e3
    refine ⟨u, r, ?_⟩
    rcases l with l | ⟨k, c, e, z⟩
    · exact .inl l
    · exact .inr ⟨k, c, e, cellK x c e _ z⟩
  · obtain ⟨v, z⟩ := I.cell x c e
    exact ⟨v, cellK x c e v z⟩
  · obtain ⟨m, ⟨o, _, _, ho, _⟩, _⟩ := I.loc
    exact free _ o (fun z => (hch _ z).2.1 rfl) ho I.free
  · obtain ⟨v, o, ho, hd⟩ := I.cell x c e
    exact free c o (fun z => (hch c z).2.2.1 x c e rfl) ho (I.freeC x c e)
  · obtain ⟨e, n, ne, nf, d⟩ := I.pin p hp
    have nch : p.1 ∉ ch := fun z => (hch p.1 z).2.2.2 p hp rfl
    exact ⟨keep p.1 p.2 ne nf nch e n, free p.1 p.2 nch e n, ne, nf, d⟩
theorem Inv.un {t' : Nat} (I : Inv X pins σ H s) (u : Un X.fs [] H H' s.heap h') (hok : HOk X.prog X.w H' h') : Inv X pins σ H' { s with heap := h', toks := t' } := by
  obtain ⟨m, ⟨o, es, ep, ho, r⟩, _⟩ := id I.loc
  obtain ⟨sl, hL⟩ := u.any ho I.free (by simp)
  exact I.step (g' := s.gens) (d' := s.drawn) (ch := []) (fun _ z => nomatch z) (fun b o _ hb _ e n => u.keep b o e n hb (by simp)) (fun b o _ hb _ e n => u.slot b o e n hb (by simp)) (fun b o _ e n => u.free b o e n (by simp)) (fun b o _ e => u.there b o e (by simp)) u.tups u.frzs u.tbls (fun m' hm => by
    obtain ⟨o', es', ep', ho', r'⟩ := hm
    rw [ho] at ho'; cases ho'
    exact ⟨_, es', ep', hL, r'⟩) hok I.bare
theorem Inv.call {g' : Array GenState} {t' : Nat} {d' : Drawn} {ch : List Addr} (I : Inv X pins σ H s) (u : Un (frs X.stack) ch H H' s.heap h') (hok : HOk X.prog X.w H' h') (hg : AllBare g')
    (hch : ∀ b ∈ ch, (b ∈ X.ex ∨ X.s₀.heap.objs.size ≤ b) ∧ b ≠ X.env.locals ∧ (∀ x c, X.env.cells.lookup x = some c → c ≠ b) ∧ ∀ p ∈ X.pn ++ pins, p.1 ≠ b) :
    Inv X pins σ H' { s with heap := h', gens := g', drawn := d', toks := t' } := by
  obtain ⟨m, ⟨o, es, ep, ho, r⟩, _⟩ := id I.loc
  obtain ⟨sl, hL⟩ := u.any ho I.free fun z => (hch _ z).2.1 rfl
  exact I.step (ch := ch) hch (fun b o hL hb hc e n => u.keep b o e n (fun z => (List.mem_cons.mp (I.stkSub b z)).elim hL hb) hc) (fun b o _ _ hc e n => u.any e n hc) (fun b o hc e n => u.free b o e n hc) (fun b o hc e => u.there b o e hc) u.tups u.frzs u.tbls (fun m' hm => by
    obtain ⟨o', es', ep', ho', r'⟩ := hm
    rw [ho] at ho'; cases ho'
    exact ⟨_, es', ep', hL, r'⟩) hok hg
theorem Inv.turned {t' : Nat} {it : Addr} (I : Inv X pins σ H s) (k : ∀ b o, b ≠ it → s.heap.get? b = some o → h'.get? b = some o) (hn : H it = none) (hL : it ≠ X.env.locals)
    (h1 : it ∈ X.ex ∨ X.s₀.heap.objs.size ≤ it) (h2 : ∀ x c, X.env.cells.lookup x = some c → c ≠ it) (h3 : ∀ p ∈ X.pn ++ pins, p.1 ≠ it) : Inv X pins σ H { s with heap := h', toks := t' } := by
  have nit : ∀ b u, H b = some u → b ≠ it := fun b u e z => by rw [z, hn] at e; cases e
  refine I.step (g' := s.gens) (d' := s.drawn) (ch := [it]) (fun b hb => ?_) (fun b o _ _ hc e _ => k b o (fun z => hc (by simp [z])) e) (fun b o _ _ hc e _ => ⟨o.slots, k b o (fun z => hc (by simp [z])) e⟩) (fun _ _ _ _ n => n)
    (fun b o hc e => ⟨o, k b o (fun z => hc (by simp [z])) e⟩) (fun _ _ e => e) (fun _ _ _ e => e) (fun b ps e => ⟨#[], by rw [e]; simp⟩) (fun m hm => ?_) (fun b u e => ?_) I.bare
  · have e : b = it := by simpa using hb
    subst e
    exact ⟨h1, hL, h2, h3⟩
  · obtain ⟨o, es, ep, ho, r⟩ := hm
    exact ⟨o, es, ep, k _ o (Ne.symm hL) ho, r⟩
  · refine (I.hok b u e).stay (fun c v hc q => k c v ?_ q) (fun _ q => q) fun _ _ q => q
    rcases hc with z | z
    · rw [z]; exact nit b u e
    · exact nit c _ z
theorem Inv.tok (I : Inv X pins σ H s) (t : Nat) : Inv X pins σ H { s with toks := t } := I.un (h' := s.heap) (t' := t) Un.refl I.hok
theorem Inv.kept {t' : Nat} (I : Inv X pins σ H s) (k : ∀ b u, s.heap.get? b = some u → h'.get? b = some u) : Inv X pins σ H { s with heap := h', toks := t' } := I.un (Un.kept k) (I.hok.kept k)
theorem Inv.laid {a : Addr} {o : HO} {t' : Nat} (I : Inv X pins σ H s) (k : ∀ b u, s.heap.get? b = some u → h'.get? b = some u) (hp : s.heap.objs.size ≤ a) (new : ObjOk X.prog X.w (upd H a o) h' a o) :
    Inv X pins σ (upd H a o) { s with heap := h', toks := t' } := I.un (Un.laid k hp (I.hok.fresh hp)) (I.hok.laid k hp new)
theorem Inv.write {x e : Addr} {o : HO} {t' : Nat} (I : Inv X pins σ H s) (mu : Mut (H x)) (he : e = x ∨ H e = some (.own x)) (k : ∀ b u, b ≠ e → s.heap.get? b = some u → h'.get? b = some u) (heo : ∃ u, h'.get? e = some u)
    (new : ObjOk X.prog X.w (upd H x o) h' x o) : Inv X pins σ (upd H x o) { s with heap := h', toks := t' } := I.un (Un.write mu he k heo) (I.hok.write mu he k heo new)
theorem Inv.weak {σ' : List (Option V)} (I : Inv X pins σ H s) (hl : σ'.length = σ.length) (w : ∀ (i : Nat) v, σ'[i]? = some (some v) → σ[i]? = some (some v)) : Inv X pins σ' H s :=
  ⟨I.ok, I.os, I.bare, I.base, let ⟨m, hn, hl'⟩ := I.loc; ⟨m, hn, fun i x v e1 e2 e3 => hl' i x v e1 (w i v e2) e3⟩, I.cell, I.free, I.freeC, I.pin, I.hok, hl.trans I.len⟩
theorem Inv.pins_of {pins' : List (Addr × Obj)} (I : Inv X pins σ H s) (h : ∀ p ∈ pins', s.heap.get? p.1 = some p.2 ∧ H p.1 = none ∧ p.1 ≠ X.env.locals ∧ p.1 ∉ X.fs ∧ ∀ v, p.2.data ≠ .cell v) : Inv X pins' σ H s :=
  ⟨I.ok, I.os, I.bare, I.base, I.loc, I.cell, I.free, I.freeC, fun p hp => (List.mem_append.mp hp).elim (fun z => I.pin p (List.mem_append_left _ z)) (h p), I.hok, I.len⟩
theorem nodup_ix {N : List Str} (hN : N.Nodup) {i j : Nat} {x : Str} (a : N[i]? = some x) (b : N[j]? = some x) : i = j := by
  obtain ⟨h1, e1⟩ := List.getElem?_eq_some_iff.mp a
  obtain ⟨h2, e2⟩ := List.getElem?_eq_some_iff.mp b
  exact (List.getElem_inj hN).mp (e1.trans e2.symm)
theorem store_ok2 {M : Model} {A : Around} {E : Value → Shared → Prop} {i : Nat} {x : Str} {v : V} {u : Value} {Q : Unit → Shared → Prop} (I : Inv X pins σ H s) (hN : X.N.Nodup) (hi : X.N[i]? = some x) (hx : Loc X.env.scope x) (r : RelV v u)
    (h : ∀ s', Inv X pins (σ.set i (some v)) H s' → (∃ a, Heap.SameBut a s.heap s'.heap ∧ (a = X.env.locals ∨ X.env.cells.lookup x = some a)) → Q () s') (hf : X.fn x = true ∨ X.env.scope.names.lookup x = some .local := by first | exact .inl rfl | exact .inr rfl | assumption) : wpAny M A (storeName X.env x u) Q E s := by
  obtain ⟨m, hn, hl⟩ := id I.loc
  have hcls : (X.env.scope.kind == .class || (X.env.scope.kind == .module && X.env.locals != X.env.globals)) = false := by rw [I.ok.kind]; rfl
  have hiσ : i < σ.length := by rw [I.len]; exact (List.getElem?_eq_some_iff.mp hi).1
  have cne := I.cne
  have tracked : ∀ {a : Addr} {h' : Heap}, (∃ o, s.heap.get? a = some o ∧ H a = none) → Heap.SameBut a s.heap h' → HOk X.prog X.w H h' := fun {a h'} ha hs b ob e => by
    obtain ⟨_, _, hfree⟩ := ha
    refine (I.hok b ob e).stay (fun c w' hc q => (hs.2 c ?_).trans q) (fun _ q => q) fun _ _ q => q
    rintro rfl
    rcases hc with rfl | hc
    · rw [hfree] at e; cases e
    · rw [hfree] at hc; cases hc
  rcases hx with hk | hk
  · refine wpAny_storeName_local hk hn (fun h' hn' hs => ?_) hcls
    obtain ⟨oL, _, _, hoL, _⟩ := id hn
    refine h _ ⟨I.ok, I.os, I.bare, ⟨fun b o e n hb hx => ?_, fun b o e n hb hx => ?_, I.base.free, fun b o e hx => ?_, I.base.tups, I.base.frzs, I.base.tbls⟩, ⟨_, hn', fun j y v' e1 e2 e3 => ?_⟩, fun y c e => ?_, I.free, I.freeC, fun p hp => ?_, tracked ⟨oL, hoL, I.free⟩ hs, by simpa using I.len⟩ ⟨_, hs, .inl rfl⟩
    · exact (hs.2 b (Nat.ne_of_lt (Nat.lt_of_lt_of_le (Heap.lt_size e) I.ok.above))).trans (I.base.keep b o e n hb hx)
    · obtain ⟨sl, e1⟩ := I.base.slot b o e n hb hx
      exact ⟨sl, (hs.2 b (Nat.ne_of_lt (Nat.lt_of_lt_of_le (Heap.lt_size e) I.ok.above))).trans e1⟩
    · obtain ⟨o', e1⟩ := I.base.there b o e hx
      exact ⟨o', (hs.2 b (Nat.ne_of_lt (Nat.lt_of_lt_of_le (Heap.lt_size e) I.ok.above))).trans e1⟩
    · by_cases hj : j = i
      · subst hj
        rw [hi] at e1; cases e1
        rw [List.getElem?_set_self hiσ] at e2
        cases e2
        exact ⟨u, r, .inl ⟨hk, by simp⟩⟩
      · rw [List.getElem?_set_ne (Ne.symm hj)] at e2
        obtain ⟨u', r', q⟩ := hl j y v' e1 e2 e3
        refine ⟨u', r', ?_⟩
        rcases q with ⟨k, e⟩ | ⟨k, c, e, z⟩
        · refine .inl ⟨k, ?_⟩
          have : y ≠ x := fun e => hj (nodup_ix hN e1 (e ▸ hi))
          simp [this, e]
        · exact .inr ⟨k, c, e, z.sameBut hs (cne y c e)⟩
    · obtain ⟨w', z⟩ := I.cell y c e
      exact ⟨w', z.sameBut hs (cne y c e)⟩
    · obtain ⟨e, n, ne, nf, d⟩ := I.pin p hp
      exact ⟨(hs.2 p.1 ne).trans e, n, ne, nf, d⟩
  · have hfn : X.fn x = true := by
      rcases hf with z | z
      · exact z
      · rw [z] at hk; cases hk
    obtain ⟨c, hc⟩ := I.ok.has x (.inl hk)
    obtain ⟨w', z⟩ := I.cell x c hc
    refine wpAny_storeName_cell I.ok.kind hk hc z (fun h' hc' hs => ?_)
    obtain ⟨oc, hoc, hocd⟩ := id z
    refine h { s with heap := h' } ⟨I.ok, I.os, I.bare, ⟨fun b o e n hb hx => ?_, fun b o e n hb hx => ?_, I.base.free, fun b o e hx => ?_, I.base.tups, I.base.frzs, I.base.tbls⟩, ⟨m, hn.sameBut hs (Ne.symm (cne x c hc)), fun j y v' e1 e2 e3 => ?_⟩, fun y c' e => ?_, I.free, I.freeC, fun p hp => ?_, tracked ⟨oc, hoc, I.freeC x c hc⟩ hs, by simpa using I.len⟩ ⟨c, hs, .inr hc⟩
    · exact (hs.2 b (Nat.ne_of_lt (Nat.lt_of_lt_of_le (Heap.lt_size e) (I.ok.cab x c hfn hc)))).trans (I.base.keep b o e n hb hx)
    · obtain ⟨sl, e1⟩ := I.base.slot b o e n hb hx
      exact ⟨sl, (hs.2 b (Nat.ne_of_lt (Nat.lt_of_lt_of_le (Heap.lt_size e) (I.ok.cab x c hfn hc)))).trans e1⟩
    · obtain ⟨o', e1⟩ := I.base.there b o e hx
      exact ⟨o', (hs.2 b (Nat.ne_of_lt (Nat.lt_of_lt_of_le (Heap.lt_size e) (I.ok.cab x c hfn hc)))).trans e1⟩
    · by_cases hj : j = i
      · subst hj
        rw [hi] at e1; cases e1
        rw [List.getElem?_set_self hiσ] at e2
        cases e2
        exact ⟨u, r, .inr ⟨.inl hk, c, hc, hc'⟩⟩
      · rw [List.getElem?_set_ne (Ne.symm hj)] at e2
        obtain ⟨u', r', q⟩ := hl j y v' e1 e2 e3
        refine ⟨u', r', ?_⟩
        rcases q with q | ⟨k, c', e, z'⟩
        · exact .inl q
        · refine .inr ⟨k, c', e, z'.sameBut hs ?_⟩
          rintro rfl
          exact hj (nodup_ix hN e1 (I.ok.inj _ _ _ e hc ▸ hi))
    · by_cases hcc : c' = c
      · subst hcc; exact ⟨_, hc'⟩
      · obtain ⟨w2, z2⟩ := I.cell y c' e
        exact ⟨w2, z2.sameBut hs hcc⟩
    · obtain ⟨e, n, ne, nf, d⟩ := I.pin p hp
      refine ⟨(hs.2 p.1 ?_).trans e, n, ne, nf, d⟩
      intro q
      rw [q, hoc] at e
      have q' : oc = p.2 := Option.some.inj e
      exact d w' (by rw [← q']; exact hocd)
theorem store_ok {M : Model} {A : Around} {E : Value → Shared → Prop} {i : Nat} {x : Str} {v : V} {u : Value} {Q : Unit → Shared → Prop} (I : Inv X pins σ H s) (hN : X.N.Nodup) (hi : X.N[i]? = some x) (hx : Loc X.env.scope x) (r : RelV v u)
    (h : ∀ s', Inv X pins (σ.set i (some v)) H s' → Q () s') (hf : X.fn x = true ∨ X.env.scope.names.lookup x = some .local := by first | exact .inl rfl | exact .inr rfl | assumption) : wpAny M A (storeName X.env x u) Q E s :=
  store_ok2 I hN hi hx r (fun s' I' _ => h s' I') hf
theorem Inv.call' {s' : Shared} {ch : List Addr} (I : Inv X pins σ H s) (ho : s'.os = s.os) (u : Un (frs X.stack) ch H H' s.heap s'.heap) (hok : HOk X.prog X.w H' s'.heap) (hg : AllBare s'.gens)
    (hch : ∀ b ∈ ch, (b ∈ X.ex ∨ X.s₀.heap.objs.size ≤ b) ∧ b ≠ X.env.locals ∧ (∀ x c, X.env.cells.lookup x = some c → c ≠ b) ∧ ∀ p ∈ X.pn ++ pins, p.1 ≠ b) : Inv X pins σ H' s' := by
  obtain ⟨h', g', d', t', o'⟩ := s'
  have e : o' = s.os := ho
  subst e
  exact I.call (g' := g') (t' := t') (d' := d') u hok hg hch
end
abbrev XK := Value → Option Addr → Hp → Prop
abbrev St := List (Option V)
abbrev VK := V → Hp → Prop
abbrev TE := St → Hp → VK → Prop
abbrev TT := St → Hp → (Bool → Hp → Prop) → Prop
abbrev TA := St → Hp → (List V → Hp → Prop) → Prop
structure Ends where
  nx : St → Hp → Prop
  rt : VK
  bk : St → Hp → Prop := fun _ _ => False
  ct : St → Hp → Prop := fun _ _ => False
abbrev TS := Ends → St → Hp → Prop
def EP (X : Cx) (pins : List (Addr × Obj)) (σ : St) (Q : VK) (u : Value) (s' : Shared) : Prop := ∃ v H', Inv X pins σ H' s' ∧ RelV v u ∧ Q v H'
def TP (X : Cx) (pins : List (Addr × Obj)) (σ : St) (Q : Bool → Hp → Prop) (b : Bool) (s' : Shared) : Prop := ∃ H', Inv X pins σ H' s' ∧ Q b H'
def AP (X : Cx) (pins : List (Addr × Obj)) (σ : St) (Q : List V → Hp → Prop) (us : List Value) (s' : Shared) : Prop := ∃ vs H', Inv X pins σ H' s' ∧ Vals vs us ∧ Q vs H'
def SP (X : Cx) (pins : List (Addr × Obj)) (D : Ends) (f : Flow) (s' : Shared) : Prop :=
  match f with
  | .next => ∃ σ' H', Inv X pins σ' H' s' ∧ D.nx σ' H'
  | .brk => ∃ σ' H', Inv X pins σ' H' s' ∧ D.bk σ' H'
  | .cont => ∃ σ' H', Inv X pins σ' H' s' ∧ D.ct σ' H'
  | .ret u => ∃ v σ' H', Inv X pins σ' H' s' ∧ RelV v u ∧ D.rt v H'
def PE (X : Cx) (e : Expr) (t : TE) : Prop :=
  ∀ (pins : List (Addr × Obj)) (s : Shared) (σ : St) (H : Hp) (Q : VK), Inv X pins σ H s → t σ H Q → wpAny (model X.prog X.w) X.A (eval e X.env) (EP X pins σ Q) X.xe s
def PT (X : Cx) (e : Expr) (t : TT) : Prop :=
  ∀ (pins : List (Addr × Obj)) (s : Shared) (σ : St) (H : Hp) (Q : Bool → Hp → Prop), Inv X pins σ H s → t σ H Q → wpAny (model X.prog X.w) X.A (isTrue e X.env (eval e X.env)) (TP X pins σ Q) X.xe s
def PW (X : Cx) (e : Expr) (t : TT) : Prop :=
  ∀ (whole : Sem Value) (pins : List (Addr × Obj)) (s : Shared) (σ : St) (H : Hp) (Q : Bool → Hp → Prop), Inv X pins σ H s → t σ H Q → wpAny (model X.prog X.w) X.A (isTrue e X.env whole) (TP X pins σ Q) X.xe s
theorem PW.pt {X : Cx} {e : Expr} {t : TT} (h : PW X e t) : PT X e t := h _
def PA (X : Cx) (es : List Expr) (t : TA) : Prop :=
  ∀ (pos : Pos) (pins : List (Addr × Obj)) (s : Shared) (σ : St) (H : Hp) (Q : List V → Hp → Prop), Inv X pins σ H s → t σ H Q → wpAny (model X.prog X.w) X.A (spliced (backTo pos (starEach es X.env))) (AP X pins σ Q) X.xe s
def PS (X : Cx) (st : Stmt) (t : TS) : Prop :=
  ∀ (pins : List (Addr × Obj)) (s : Shared) (σ : St) (H : Hp) (D : Ends), Inv X pins σ H s → t D σ H → wpAny (model X.prog X.w) X.A (exec st X.env) (SP X pins D) X.xe s
def PSs (X : Cx) (st : List Stmt) (t : TS) : Prop :=
  ∀ (pins : List (Addr × Obj)) (s : Shared) (σ : St) (H : Hp) (D : Ends), Inv X pins σ H s → t D σ H → wpAny (model X.prog X.w) X.A (execs st X.env) (SP X pins D) X.xe s
theorem thn {α : Type} {t : Sem α} {Q Q' : α → Shared → Prop} {M : Model} {A : Around} {E : Value → Shared → Prop} {s : Shared} (h : wpAny M A t Q E s) (hQ : ∀ a s, Q a s → Q' a s) : wpAny M A t Q' E s := wpAny_mono h hQ fun _ _ x => x
end L2
namespace L2
open PySem PySem.Spec PyProof.Rows
section
variable {X : Cx}
def tVar (i : Nat) : TE := fun σ H Q => ∃ v, σ[i]? = some (some v) ∧ Q v H
def tC (v : V) : TE := fun _ H Q => Q v H
theorem pe_var {i : Nat} {x : Str} {pos : Pos} (hN : X.N[i]? = some x) (hv : Vis X.env.scope x) (hd : (x == ("__debug__" : Str)) = false := by decide) (hcd : (x == ("__classdict__" : Str)) = false := by decide) : PE X (.Name x pos) (tVar i) := by
  intro pins s σ H Q I h
  obtain ⟨v, e, h⟩ := h
  obtain ⟨m, hn, hl⟩ := I.loc
  obtain ⟨u, r, l⟩ := hl i x v hN e hv
  have fin : EP X pins σ Q u s := ⟨v, H, I, r, h⟩
  rcases l with ⟨hk, hm⟩ | ⟨hk, c, hc, hcell⟩
  · exact wpAny_Name (wpAny_loadName_local I.ok.kind hk hn hm fin) hd
  · rcases hk with hk | hk
    · exact wpAny_Name (wpAny_loadName_cell I.ok.kind hk hc hcell fin) hd
    · exact wpAny_Name (wpAny_loadName_free I.ok.kind hk hc hcell fin hcd) hd
theorem pe_int {i j pos} : PE X (.Constant (.int i) j pos) (tC (.int i)) := fun _ _ _ H _ I h => wpAny_Constant_int ⟨.int i, H, I.tok _, ⟨_, rfl⟩, h⟩
theorem pe_bl {b j pos} : PE X (.Constant (.bool b) j pos) (tC (.bl b)) := fun _ _ _ H _ I h => Constant_bool ⟨.bl b, H, I, rfl, h⟩
theorem pe_non {j pos} : PE X (.Constant .none j pos) (tC .non) := fun _ _ _ H _ I h => Constant_none ⟨.non, H, I, rfl, h⟩
theorem pe_str {x j pos} : PE X (.Constant (.str x) j pos) (tC (.str x)) := fun _ _ _ H _ I h => Calls.Constant_str ⟨.str x, H, I.tok _, ⟨_, rfl⟩, h⟩
def Gl (X : Cx) (x : Str) : Prop := X.env.kindOf x = some .globalImplicit
theorem ld_glob {E : Value → Shared → Prop} {pins : List (Addr × Obj)} {s : Shared} {σ : St} {H : Hp} {x : Str} {u : Value} {pos : Pos} {Q : Value → Shared → Prop} (I : Inv X pins σ H s) (hg : Gl X x) (hm : X.mg x = some u) (h : Q u s)
    (hd : (x == ("__debug__" : Str)) = false := by decide) : wpAny (model X.prog X.w) X.A (eval (.Name x pos) X.env) Q E s :=
  Calls.Name_function_global I.ok.kind hg (Calls.loadGlobal_global (by rw [I.ok.glob]; exact I.mod.glob.keeps I.bk) hm h) hd
theorem ld_blt {E : Value → Shared → Prop} {pins : List (Addr × Obj)} {s : Shared} {σ : St} {H : Hp} {x : Str} {u : Value} {pos : Pos} {Q : Value → Shared → Prop} (I : Inv X pins σ H s) (hg : Gl X x) (hm : X.mg x = none) (hv : bootBuiltins x = some u) (h : Q u s)
    (hn : x ≠ "__name__" := by decide) (hd : (x == ("__debug__" : Str)) = false := by decide) : wpAny (model X.prog X.w) X.A (eval (.Name x pos) X.env) Q E s := by
  obtain ⟨mb, h1, h2⟩ := I.mod.blt
  exact Calls.Name_function_global I.ok.kind hg (Calls.loadGlobal_builtin (by rw [I.ok.glob]; exact I.mod.glob.keeps I.bk) hm (by rw [I.ok.blt]; exact h1.keeps I.bk) ((h2 x hn).trans hv) h) hd
theorem pe_glob {x : Str} {v : V} {u : Value} {pos : Pos} (hg : Gl X x) (hm : X.mg x = some u) (r : RelV v u) (hd : (x == ("__debug__" : Str)) = false := by decide) : PE X (.Name x pos) (tC v) :=
  fun _ _ _ H _ I h => ld_glob I hg hm ⟨v, H, I, r, h⟩ hd
theorem pe_bltn {x : Str} {v : V} {u : Value} {pos : Pos} (hg : Gl X x) (hm : X.mg x = none) (hv : bootBuiltins x = some u) (r : RelV v u) (hn : x ≠ "__name__" := by decide) (hd : (x == ("__debug__" : Str)) = false := by decide) : PE X (.Name x pos) (tC v) :=
  fun _ _ _ H _ I h => ld_blt I hg hm hv ⟨v, H, I, r, h⟩ hn hd
variable {a b : Expr} {ta tb : TE} {pos : Pos}
def tB (t : TE) : TT := fun σ H Q => t σ H fun x H1 => ∃ c, x = .bl c ∧ Q c H1
theorem pt_val {e : Expr} {t : TE} (h : PE X e t) (he : ∀ whole, isTrue e X.env whole = (do let v ← whole; standAt e.pos; holding [v] (truthy v)) := by intro _; rfl) : PT X e (tB t) := by
  intro pins s σ H Q I hw
  refine isTrue_plain (thn (h pins s σ H _ I hw) fun v s1 ⟨x, H1, I1, r1, q1⟩ => ?_) (he _)
  obtain ⟨d, rfl, q⟩ := q1
  cases r1
  exact wpAny_truthy_bool ⟨H1, I1, q⟩
variable {tA tB' : TT} {rest : List Expr}
def tAnd (t u : TT) : TT := fun σ H Q => t σ H fun c H1 => if c = true then u σ H1 Q else Q false H1
def tOr (t u : TT) : TT := fun σ H Q => t σ H fun c H1 => if c = true then Q true H1 else u σ H1 Q
def tNot (t : TT) : TT := fun σ H Q => t σ H fun c H1 => Q (!c) H1
theorem pw_and1 (ha : PT X a tA) : PW X (.BoolOp .And [a] pos) tA := by
  intro wh pins s σ H Q I h
  refine isTrue_and (thn (ha pins s σ H Q I h) fun c s1 e => ?_)
  cases c with
  | true => exact isTrue_and_nil e
  | false => exact e
theorem pw_or1 (ha : PT X a tA) : PW X (.BoolOp .Or [a] pos) tA := by
  intro wh pins s σ H Q I h
  refine isTrue_or (thn (ha pins s σ H Q I h) fun c s1 e => ?_)
  cases c with
  | false => exact isTrue_or_nil e
  | true => exact e
theorem pw_and (ha : PT X a tA) (hb : PW X (.BoolOp .And (b :: rest) pos) tB') : PW X (.BoolOp .And (a :: b :: rest) pos) (tAnd tA tB') := by
  intro wh pins s σ H Q I h
  refine isTrue_and (thn (ha pins s σ H _ I h) fun c s1 ⟨H1, I1, q1⟩ => ?_)
  cases c with
  | true => exact hb wh pins s1 σ H1 Q I1 q1
  | false => exact ⟨H1, I1, q1⟩
theorem pw_or (ha : PT X a tA) (hb : PW X (.BoolOp .Or (b :: rest) pos) tB') : PW X (.BoolOp .Or (a :: b :: rest) pos) (tOr tA tB') := by
  intro wh pins s σ H Q I h
  refine isTrue_or (thn (ha pins s σ H _ I h) fun c s1 ⟨H1, I1, q1⟩ => ?_)
  cases c with
  | true => exact ⟨H1, I1, q1⟩
  | false => exact hb wh pins s1 σ H1 Q I1 q1
theorem pt_not (ha : PT X a tA) : PT X (.UnaryOp .Not a pos) (tNot tA) := by
  intro pins s σ H Q I h
  exact isTrue_not (ha pins s σ H (fun c H1 => Q (!c) H1) I h)
def tAndV (ta tb : TE) : TE := fun σ H Q => ta σ H fun x H1 => ∃ c, x = .bl c ∧ if c = true then tb σ H1 Q else Q (.bl false) H1
def tNotV (ta : TE) : TE := fun σ H Q => ta σ H fun x H1 => ∃ c, x = .bl c ∧ Q (.bl (!c)) H1
theorem pe_one {op} {t : TE} (h : PE X a t) : PE X (.BoolOp op [a] pos) t := fun pins s σ H Q I hw => BoolOp_one (h pins s σ H Q I hw)
theorem pe_and (ha : PE X a ta) (hb : PE X (.BoolOp .And (b :: rest) pos) tb) : PE X (.BoolOp .And (a :: b :: rest) pos) (tAndV ta tb) := by
  intro pins s σ H Q I h
  refine BoolOp_and (thn (ha pins s σ H _ I h) fun v s1 ⟨x, H1, I1, r1, q1⟩ => ?_)
  obtain ⟨c, rfl, q1⟩ := q1
  cases r1
  refine wpAny_truthy_bool ?_
  cases c with
  | true => exact hb pins s1 σ H1 Q I1 q1
  | false => exact ⟨.bl false, H1, I1, rfl, q1⟩
theorem pe_not (ha : PE X a ta) : PE X (.UnaryOp .Not a pos) (tNotV ta) := by
  intro pins s σ H Q I h
  refine UnaryOp_ (thn (ha pins s σ H _ I h) fun v s1 ⟨x, H1, I1, r1, q1⟩ => ?_)
  obtain ⟨c, rfl, q1⟩ := q1
  cases r1
  exact not_of (wpAny_truthy_bool ⟨.bl (!c), H1, I1, rfl, q1⟩)
end
end L2
namespace L2
open PySem PySem.Spec PyProof.Rows
def SqL (K : PySem.W.Frag) (H : Hp) (a : Addr) (xs : List V) : Prop :=
  Rd H a (.lst xs) ∨
    ∃ (o : Obj) (its : Array Value) (n : Nat), K.lookup a = some o ∧ o.cls = .type "list" ∧ o.dict = none ∧ o.data = .seq its n ∧ its.size ≤ sizeLine ∧ Vals xs its.toList
def SqT (K : PySem.W.Frag) (H : Hp) (a : Addr) (xs : List V) : Prop :=
  Rd H a (.tup xs) ∨
    ∃ (o : Obj) (its : Array Value) (n : Nat), K.lookup a = some o ∧ o.cls = .type "tuple" ∧ o.data = .seq its n ∧ its.size ≤ sizeLine ∧ Vals xs its.toList
def absV : Value → Option V
  | .none => some .non
  | .bool b => some (.bl b)
  | .int i _ => some (.int i)
  | .str x _ => some (.str x)
  | .bytes b _ => some (.byt b)
  | .float b _ => some (.flt b)
  | .ref a => some (.ref a)
  | .type n => some (.ty n)
  | _ => none
theorem RelV.abs {x : V} {u : Value} (r : RelV x u) : absV u = some x := by
  cases x with
  | non => cases r; rfl
  | bl _ => cases r; rfl
  | int _ => obtain ⟨t, rfl⟩ := r; rfl
  | str _ => obtain ⟨t, rfl⟩ := r; rfl
  | byt _ => obtain ⟨t, rfl⟩ := r; rfl
  | flt _ => obtain ⟨t, rfl⟩ := r; rfl
  | ref _ => cases r; rfl
  | ty _ => cases r; rfl
theorem RelV.inj {x y : V} {u : Value} (r : RelV x u) (q : RelV y u) : x = y := Option.some.inj (r.abs.symm.trans q.abs)
theorem Vals.inj : ∀ {xs ys : List V} {us : List Value}, Vals xs us → Vals ys us → xs = ys
  | _, _, _, .nil, .nil => rfl
  | _, _, _, .cons r t, .cons r' t' => by rw [r.inj r', Vals.inj t t']
section
variable {X : Cx} {pins : List (Addr × Obj)} {σ : St} {H : Hp} {s : Shared} {a : Addr} {xs ys : List V}
theorem SqL.of {K : PySem.W.Frag} (h : H a = some (.lst xs)) : SqL K H a xs := .inl (.inl h)
theorem SqT.of {K : PySem.W.Frag} (h : H a = some (.tup xs)) : SqT K H a xs := .inl (.inl h)
theorem Inv.list (I : Inv X pins σ H s) (h : SqL X.K H a xs) : ∃ its : List Value, Vals xs its ∧ PlainL s.heap a its.toArray ∧ xs.length ≤ sizeLine := by
  rcases h with h | ⟨o, its, n, hk, hc, hd, hs, hz, r⟩
  · obtain ⟨z, its, n, r, e⟩ := h.ok I.hok
    exact ⟨its, r, ⟨_, n, e, rfl, rfl, rfl⟩, z⟩
  · refine ⟨its.toList, r, ⟨o, n, I.kIn a o hk, hc, hd, by simpa using hs⟩, ?_⟩
    have e := r.length
    simp only [Array.length_toList] at e
    omega
theorem Inv.tuple (I : Inv X pins σ H s) (h : SqT X.K H a xs) : ∃ its : List Value, Vals xs its ∧ IsTup s.heap a its.toArray ∧ xs.length ≤ sizeLine := by
  rcases h with h | ⟨o, its, n, hk, hc, hs, hz, r⟩
  · obtain ⟨z, its, r, p⟩ := h.ok I.hok
    exact ⟨its, r, p, z⟩
  · refine ⟨its.toList, r, ⟨o, I.kIn a o hk, hc, n, by simpa using hs⟩, ?_⟩
    have e := r.length
    simp only [Array.length_toList] at e
    omega
theorem Inv.list_inj (I : Inv X pins σ H s) (h : SqL X.K H a xs) (h' : SqL X.K H a ys) : xs = ys := by
  obtain ⟨its, r, ⟨o, n, e, _, _, d⟩, _⟩ := I.list h
  obtain ⟨its', r', ⟨o', n', e', _, _, d'⟩, _⟩ := I.list h'
  rw [e] at e'; cases e'
  rw [d] at d'
  injection d' with d1 _
  have : its = its' := by simpa using congrArg Array.toList d1
  subst this
  exact r.inj r'
theorem Inv.tuple_inj (I : Inv X pins σ H s) (h : SqT X.K H a xs) (h' : SqT X.K H a ys) : xs = ys := by
  obtain ⟨its, r, ⟨o, e, _, n, d⟩, _⟩ := I.tuple h
  obtain ⟨its', r', ⟨o', e', _, n', d'⟩, _⟩ := I.tuple h'
  rw [e] at e'; cases e'
  rw [d] at d'
  injection d' with d1 _
  have : its = its' := by simpa using congrArg Array.toList d1
  subst this
  exact r.inj r'
end
abbrev Cx.wish (X : Cx) (E : Value → Shared → Prop) : Cx := { X with xe := E }
abbrev Cx.nox (X : Cx) : Cx := X.wish fun _ _ => False
theorem Cx.Ok.wish {X : Cx} (ok : X.Ok) (E : Value → Shared → Prop) : (X.wish E).Ok :=
  ⟨ok.mod, ok.kind, ok.glob, ok.blt, ok.above, ok.inj, ok.has, ok.cab, ok.hd, ok.frames, ok.stk, ok.exf, ok.bs, ok.bsz, ok.noex, ok.exfs, ok.funs, ok.frf⟩
theorem Cx.Ok.unwish {X : Cx} {E : Value → Shared → Prop} (ok : (X.wish E).Ok) : X.Ok :=
  ⟨ok.mod, ok.kind, ok.glob, ok.blt, ok.above, ok.inj, ok.has, ok.cab, ok.hd, ok.frames, ok.stk, ok.exf, ok.bs, ok.bsz, ok.noex, ok.exfs, ok.funs, ok.frf⟩
section
variable {X : Cx} {pins : List (Addr × Obj)} {σ : St} {H : Hp} {s : Shared} {E : Value → Shared → Prop}
theorem Inv.wish (I : Inv X pins σ H s) (E : Value → Shared → Prop) : Inv (X.wish E) pins σ H s := ⟨I.ok.wish E, I.os, I.bare, I.base, I.loc, I.cell, I.free, I.freeC, I.pin, I.hok, I.len⟩
theorem Inv.unwish (I : Inv (X.wish E) pins σ H s) : Inv X pins σ H s := ⟨I.ok.unwish, I.os, I.bare, I.base, I.loc, I.cell, I.free, I.freeC, I.pin, I.hok, I.len⟩
theorem SP.unwish {D : Ends} {f : Flow} {s' : Shared} (h : SP (X.wish E) pins D f s') : SP X pins D f s' := by
  cases f with
  | next => obtain ⟨σ', H', I, q⟩ := h; exact ⟨σ', H', I.unwish, q⟩
  | brk => obtain ⟨σ', H', I, q⟩ := h; exact ⟨σ', H', I.unwish, q⟩
  | cont => obtain ⟨σ', H', I, q⟩ := h; exact ⟨σ', H', I.unwish, q⟩
  | ret u => obtain ⟨v, σ', H', I, r, q⟩ := h; exact ⟨v, σ', H', I.unwish, r, q⟩
theorem PE.nox {e : Expr} {t : TE} (h : PE X.nox e t) : PE X e t := fun pins s σ H Q I hw =>
  wpAny_mono (h pins s σ H Q (I.wish _) hw) (fun _ _ ⟨v, H', I', r, q⟩ => ⟨v, H', I'.unwish, r, q⟩) fun _ _ z => False.elim z
theorem PT.nox {e : Expr} {t : TT} (h : PT X.nox e t) : PT X e t := fun pins s σ H Q I hw =>
  wpAny_mono (h pins s σ H Q (I.wish _) hw) (fun _ _ ⟨H', I', q⟩ => ⟨H', I'.unwish, q⟩) fun _ _ z => False.elim z
theorem PSs.nox {st : List Stmt} {t : TS} (h : PSs X.nox st t) : PSs X st t := fun pins s σ H D I hw =>
  wpAny_mono (h pins s σ H D (I.wish _) hw) (fun _ _ q => q.unwish) fun _ _ z => False.elim z
end
section
variable {X : Cx} {st : Stmt} {rest : List Stmt} {t u : TS} {e : Expr} {te : TE} {pos : Pos}
def tNext : TS := fun D σ H => D.nx σ H
def tSeq (t u : TS) : TS := fun D σ H => t { D with nx := u D } σ H
theorem pss_nil : PSs X [] tNext := fun _ _ σ H _ I h => wpAny_execs_nil ⟨σ, H, I, h⟩
theorem pss_cons (h1 : PS X st t) (h2 : PSs X rest u) : PSs X (st :: rest) (tSeq t u) := by
  intro pins s σ H D I h
  refine wpAny_execs_cons (thn (h1 pins s σ H { D with nx := u D } I h) fun f s1 q => ?_)
  cases f with
  | next =>
    obtain ⟨σ', H', I', q⟩ := q
    exact h2 pins s1 σ' H' D I' q
  | ret v => exact q
  | brk => exact q
  | cont => exact q
theorem pss_one (h1 : PS X st t) : PSs X [st] t := by
  intro pins s σ H D I h
  refine wpAny_execs_cons (thn (h1 pins s σ H D I h) fun f s1 q => ?_)
  cases f with
  | next => exact wpAny_execs_nil q
  | ret v => exact q
  | brk => exact q
  | cont => exact q
theorem Inv.quiet {pins : List (Addr × Obj)} {σ : St} {H : Hp} {s : Shared} (I : Inv X pins σ H s) : interactive X.env = false := by simp [interactive, I.ok.kind]
def tDrop (te : TE) : TS := fun D σ H => te σ H fun _ H1 => D.nx σ H1
theorem ps_expr (he : PE X e te) (hs : swapsWith e none pos.line X.env = pure false := by rfl) : PS X (.Expr e pos) (tDrop te) := by
  intro pins s σ H D I h
  exact wpAny_Expr_any (thn (he pins s σ H _ I h) fun v s1 ⟨x, H1, I1, r1, q1⟩ => ⟨σ, H1, I1, q1⟩) I.quiet hs
def tRet (te : TE) : TS := fun D σ H => te σ H D.rt
theorem ps_ret (he : PE X e te) : PS X (.Return (some e) pos) (tRet te) := by
  intro pins s σ H D I h
  exact wpAny_Return_some (thn (he pins s σ H _ I h) fun v s1 ⟨x, H1, I1, r1, q1⟩ => ⟨x, σ, H1, I1, r1, q1⟩)
def tIfS (c : TT) (t u : TS) : TS := fun D σ H => c σ H fun b H1 => if b = true then t D σ H1 else u D σ H1
theorem ps_if {c : Expr} {a b : List Stmt} {tc : TT} (hc : PT X c tc) (ha : PSs X a t) (hb : PSs X b u) : PS X (.If c a b pos) (tIfS tc t u) := by
  intro pins s σ H D I h
  refine wpAny_If (thn (hc pins s σ H _ I h) fun d s1 ⟨H1, I1, q1⟩ => ?_)
  cases d with
  | true => exact ha pins s1 σ H1 D I1 q1
  | false => exact hb pins s1 σ H1 D I1 q1
end
abbrev TG := V → St → Hp → (St → Hp → Prop) → Prop
abbrev TGs := List V → St → Hp → (St → Hp → Prop) → Prop
def PG (X : Cx) (target : Expr) (t : TG) : Prop :=
  ∀ (pins : List (Addr × Obj)) (s : Shared) (σ : St) (H : Hp) (v : V) (u : Value) (Q : St → Hp → Prop), Inv X pins σ H s → RelV v u → t v σ H Q →
    wpAny (model X.prog X.w) X.A (assign target X.env u) (fun _ s' => ∃ σ' H', Inv X pins σ' H' s' ∧ Q σ' H') X.xe s
def PGs (X : Cx) (ts : List Expr) (t : TGs) : Prop :=
  ∀ (pins : List (Addr × Obj)) (s : Shared) (σ : St) (H : Hp) (vs : List V) (us : List Value) (Q : St → Hp → Prop), Inv X pins σ H s → Vals vs us → t vs σ H Q →
    wpAny (model X.prog X.w) X.A (assignInOrder ((assignEach ts X.env).map (·.2)) us) (fun _ s' => ∃ σ' H', Inv X pins σ' H' s' ∧ Q σ' H') X.xe s
abbrev TSet := V → V → V → Hp → (Hp → Prop) → Prop
def PSet (X : Cx) (t : TSet) : Prop :=
  ∀ (pins : List (Addr × Obj)) (s : Shared) (σ : St) (H : Hp) (o i v : V) (ov iv u : Value) (Q : Hp → Prop), Inv X pins σ H s → RelV o ov → RelV i iv → RelV v u → t o i v H Q →
    wpAny (model X.prog X.w) X.A (setItem ov iv u) (fun _ s' => ∃ H', Inv X pins σ H' s' ∧ Q H') X.xe s
section
variable {X : Cx} {pos : Pos}
def gName (i : Nat) : TG := fun v σ H Q => Q (σ.set i (some v)) H
theorem pg_name {i : Nat} {x : Str} (hN : X.N.Nodup) (hi : X.N[i]? = some x) (hx : Loc X.env.scope x) (hf : X.fn x = true ∨ X.env.scope.names.lookup x = some .local := by first | exact .inl rfl | exact .inr rfl | assumption) : PG X (.Name x pos) (gName i) := by
  intro pins s σ H v u Q I r h
  exact wpAny_assign_Name (store_ok I hN hi hx r (fun s' I' => ⟨_, H, I', h⟩) hf)
def gNil : TGs := fun vs σ H Q => vs = [] ∧ Q σ H
def gCons (t : TG) (u : TGs) : TGs := fun vs σ H Q => ∃ v r, vs = v :: r ∧ t v σ H fun σ' H' => u r σ' H' Q
theorem pgs_nil : PGs X [] gNil := by
  intro pins s σ H vs us Q I r h
  obtain ⟨e, h⟩ := h
  subst e
  cases r
  exact assignInOrder_nil ⟨σ, H, I, h⟩
theorem pgs_cons {e : Expr} {es : List Expr} {t : TG} {u : TGs} (h1 : PG X e t) (h2 : PGs X es u)
    (hs : (assignEach (e :: es) X.env).map (·.2) = assign e X.env :: (assignEach es X.env).map (·.2) := by rfl) : PGs X (e :: es) (gCons t u) := by
  intro pins s σ H vs us Q I r h
  obtain ⟨v, vr, e1, h⟩ := h
  subst e1
  cases r with
  | cons r rr =>
    rw [hs]
    refine assignInOrder_cons (thn (h1 pins s σ H _ _ _ I r h) fun _ s1 ⟨σ1, H1, I1, q1⟩ => ?_)
    exact h2 pins s1 σ1 H1 _ _ Q I1 rr q1
def gTup (K : PySem.W.Frag) (n : Nat) (t : TGs) : TG := fun v σ H Q => ∃ a xs, v = .ref a ∧ SqT K H a xs ∧ xs.length = n ∧ t xs σ H Q
theorem pg_tup {es : List Expr} {k : Nat} {t : TGs} {n : Nat} (hc : X.calm = true) (h : PGs X es t)
    (hn : (assignEach es X.env).length = n := by rfl) (hst : (assignEach es X.env).findIdx? (·.1) = none := by rfl) : PG X (.Tuple es k pos) (gTup X.K n t) := by
  intro pins s σ H v u Q I r hw
  obtain ⟨a, xs, e1, hq, hl, hw⟩ := hw
  subst e1
  cases r
  obtain ⟨its, rv, ht, hz⟩ := I.tuple hq
  refine assign_Tuple_tuple (I.ok.hd hc) ht (by simp [hn, ← hl, rv.length]) hst fun h' hx => ?_
  have I1 : Inv X pins σ H { s with heap := h' } := I.kept (t' := s.toks) fun b o e => hx b o (Nat.ne_of_lt (Heap.lt_size e)) e
  exact h pins _ σ H xs _ Q I1 (by simpa using rv) hw
def gSub (to ti : TE) (t : TSet) : TG := fun v σ H Q => to σ H fun o H1 => ti σ H1 fun i H2 => t o i v H2 fun H3 => Q σ H3
theorem pg_sub {o i : Expr} {to ti : TE} {t : TSet} (ho : PE X o to) (hi : PE X i ti) (hs : PSet X t)
    (ha : ∀ v, assign (.Subscript o i pos) X.env v = (do
      let ov ← holding [v] (eval o X.env)
      let iv ← holding [v, ov] (eval i X.env)
      standAt pos
      holding [v, ov, iv] (setItem ov iv v)
      release [v, ov, iv] []) := by intro _; rfl) : PG X (.Subscript o i pos) (gSub to ti t) := by
  intro pins s σ H v u Q I r h
  rw [ha]
  refine wpAny_bind (wpAny_holding (thn (ho pins s σ H _ I h) fun ov s1 ⟨x, H1, I1, r1, q1⟩ => ?_))
  refine wpAny_bind (wpAny_holding (thn (hi pins s1 σ H1 _ I1 q1) fun iv s2 ⟨y, H2, I2, r2, q2⟩ => ?_))
  refine wpAny_bind (wpAny_standAt (wpAny_bind (wpAny_holding (thn (hs pins s2 σ H2 x y v ov iv u _ I2 r1 r2 r q2) fun _ s3 ⟨H3, I3, q3⟩ => ?_))))
  exact wpAny_release ⟨σ, H3, I3, q3⟩
def tAsg (te : TE) (g : TG) : TS := fun D σ H => te σ H fun x H1 => g x σ H1 D.nx
theorem ps_asg {tg e : Expr} {te : TE} {g : TG} (he : PE X e te) (hg : PG X tg g) (hs : swapsWithSole [tg] e pos.line X.env = pure false := by rfl) (hw : swappedStores [tg] e X.env = pure none := by rfl)
    (h1 : (assignEach [tg] X.env).map (·.2) = [assign tg X.env] := by rfl) : PS X (.Assign [tg] e pos) (tAsg te g) := by
  intro pins s σ H D I h
  refine wpAny_Assign_stores (thn (he pins s σ H _ I h) fun v s1 ⟨x, H1, I1, r1, q1⟩ => ?_) hs hw
  rw [h1]
  exact thn (hg pins s1 σ H1 x v _ I1 r1 q1) fun _ s2 q => q
theorem ps_set {i : Nat} {x : Str} {e : Expr} {te : TE} {pos' : Pos} (hN : X.N.Nodup) (hi : X.N[i]? = some x) (hx : Loc X.env.scope x) (he : PE X e te) (hs : swapsWith e (some (.Name x pos')) pos.line X.env = pure false := by rfl) (hf : X.fn x = true ∨ X.env.scope.names.lookup x = some .local := by first | exact .inl rfl | exact .inr rfl | assumption) :
    PS X (.Assign [.Name x pos'] e pos) (tAsg te (gName i)) := by
  intro pins s σ H D I h
  refine wpAny_Assign_Name (thn (he pins s σ H _ I h) fun v s1 ⟨y, H1, I1, r1, q1⟩ => ?_) hs
  exact store_ok I1 hN hi hx r1 (fun s2 I2 => ⟨_, H1, I2, q1⟩) hf
end
section
variable {X : Cx} {pos : Pos}
def tWhile (c : TT) (tb : TS) : TS := fun D σ H => ∃ W : Nat → St → Hp → Prop, (∃ m, W m σ H) ∧ ∀ m σ H, W m σ H →
  c σ H fun b H1 => if b = true then ∃ N : St → Hp → Prop, (∀ σ' H', N σ' H' → ∃ m', m' < m ∧ W m' σ' H') ∧ tb { D with nx := N, ct := N, bk := D.nx } σ H1 else D.nx σ H1
theorem ps_while {c : Expr} {body : List Stmt} {tc : TT} {tb : TS} (hp : PassesOwn (model X.prog X.w) X.A X.env X.xe) (hc : PT X c tc) (hb : PSs X body tb) : PS X (.While c body [] pos) (tWhile tc tb) := by
  intro pins s σ H D I h
  obtain ⟨W, ⟨m0, w0⟩, turn⟩ := h
  refine wpAny_While (codeAny_whileLoop (fun n s' => ∃ σ' H', Inv X pins σ' H' s' ∧ W n σ' H') ?_ m0 ⟨σ, H, I, w0⟩)
  rintro n s1 ⟨σ1, H1, I1, w1⟩
  refine wpAny_passesOwn hp (thn (hc pins s1 σ1 H1 _ I1 (turn n σ1 H1 w1)) fun b s2 ⟨H2, I2, q2⟩ => ?_)
  cases b with
  | true =>
    obtain ⟨N, hN, q2⟩ := q2
    rw [if_pos rfl]
    refine wpAny_passesOwn hp (thn (hb pins s2 σ1 H2 _ I2 q2) fun f s3 q3 => ?_)
    cases f with
    | next =>
      obtain ⟨σ3, H3, I3, n3⟩ := q3
      obtain ⟨m', hm, w3⟩ := hN σ3 H3 n3
      exact ⟨m', hm, σ3, H3, I3, w3⟩
    | cont =>
      obtain ⟨σ3, H3, I3, n3⟩ := q3
      obtain ⟨m', hm, w3⟩ := hN σ3 H3 n3
      exact ⟨m', hm, σ3, H3, I3, w3⟩
    | brk => exact q3
    | ret v => exact q3
  | false =>
    rw [if_neg Bool.false_ne_true]
    exact wpAny_execs_nil ⟨σ1, H2, I2, q2⟩
end
structure It where
  go : Nat → Hp → Prop
  yld : Nat → Hp → V → Hp → Prop
  stop : Nat → Hp → Prop
def FpOk (X : Cx) (pins : List (Addr × Obj)) (H : Hp) (b : Addr) : Prop :=
  H b = none ∧ b ≠ X.env.locals ∧ b ∉ X.fs ∧ (b ∈ X.ex ∨ X.s₀.heap.objs.size ≤ b) ∧ (∀ x c, X.env.cells.lookup x = some c → c ≠ b) ∧ ∀ p ∈ X.pn ++ pins, p.1 ≠ b
theorem Inv.fpOk {X : Cx} {pins : List (Addr × Obj)} {σ : St} {H H' : Hp} {s : Shared} {b : Addr} (I : Inv X pins σ H s) (hb : s.heap.objs.size ≤ b) (hn : H' b = none) : FpOk X pins H' b := by
  refine ⟨hn, Nat.ne_of_gt (Nat.lt_of_lt_of_le I.lt hb), I.nofs hb, .inr (Nat.le_trans I.sz hb), fun x c e z => ?_, fun p hp z => ?_⟩
  · obtain ⟨v, q⟩ := I.cell x c e
    exact absurd (Nat.lt_of_lt_of_le q.lt (by rw [z]; exact hb)) (Nat.lt_irrefl _)
  · exact absurd (Nat.lt_of_lt_of_le (Heap.lt_size (I.pin p hp).1) (by rw [z]; exact hb)) (Nat.lt_irrefl _)
structure Turn (P : Program) (w : World) (K : PySem.W.Frag) (tg : Expr) (J : It) (fp : List Addr) (it : Addr) (tn : Nat → Heap → Prop) : Prop where
  mem : it ∈ fp
  obj : ∀ i h, tn i h → ∀ b ∈ fp, ∃ o, h.get? b = some o ∧ ∀ v, o.data ≠ .cell v
  keep : ∀ i h h', tn i h → (∀ b ∈ fp, ∀ o, h.get? b = some o → h'.get? b = some o) → tn i h'
  item : ∀ (X : Cx), X.prog = P → X.w = w → X.K = K → X.calm = true → ∀ (i : Nat) (pins : List (Addr × Obj)) (s : Shared) (σ : St) (H : Hp) (E : Value → Shared → Prop), Inv X pins σ H s → (∀ b ∈ fp, FpOk X pins H b) → tn i s.heap → J.go i H →
    wpAny (model P w) X.A (pyNext (.ref it)) (fun r s1 => ∃ u, r = some u ∧
      wpAny (model P w) X.A (letOwnedTupleGo tg (.ref it) u) (fun _ s2 => ∃ x H', Inv X pins σ H' s2 ∧ RelV x u ∧ J.yld i H x H' ∧ tn (i + 1) s2.heap ∧ ∀ b ∈ fp, H' b = none) E s1) E s
  done : ∀ (X : Cx), X.prog = P → X.w = w → X.K = K → X.calm = true → ∀ (i : Nat) (pins : List (Addr × Obj)) (s : Shared) (σ : St) (H : Hp) (E : Value → Shared → Prop), Inv X pins σ H s → (∀ b ∈ fp, FpOk X pins H b) → tn i s.heap → J.stop i H →
    wpAny (model P w) X.A (pyNext (.ref it)) (fun r s1 => r = none ∧ Inv X pins σ H s1) E s
  self : ∀ (A : Around) (i : Nat) (s : Shared) (Q : Value → Shared → Prop) (E : Value → Shared → Prop), tn i s.heap → Q (.ref it) s → wpAny (model P w) A (pyIter (.ref it)) Q E s
abbrev TI := St → Hp → (It → Hp → Prop) → Prop
def PIE (X : Cx) (pins : List (Addr × Obj)) (σ : St) (tg : Expr) (R : It → Hp → Prop) (itv : Value) (s2 : Shared) : Prop :=
  ∃ (it : Addr) (fp : List Addr) (tn : Nat → Heap → Prop) (J : It) (H' : Hp), itv = .ref it ∧ Inv X pins σ H' s2 ∧ Turn X.prog X.w X.K tg J fp it tn ∧ tn 0 s2.heap ∧ (∀ b ∈ fp, FpOk X pins H' b) ∧ R J H'
def PI (X : Cx) (tg iter : Expr) (wi : TI) : Prop :=
  ∀ (pins : List (Addr × Obj)) (s : Shared) (σ : St) (H : Hp) (R : It → Hp → Prop), Inv X pins σ H s → wi σ H R →
    wpAny (model X.prog X.w) X.A (eval iter X.env) (fun v s1 => wpAny (model X.prog X.w) X.A (pyIter v) (PIE X pins σ tg R) X.xe s1) X.xe s
theorem go_of {M : Model} {A : Around} {E : Value → Shared → Prop} {s : Shared} {tg : Expr} {it : Addr} {u : Value} {o : Obj} {n : String} {vs : Array Value} {Q : Unit → Shared → Prop} (ho : s.heap.get? it = some o) (hc : o.cls = .type n) (hd : o.data = .fields vs)
    (hn : ["enumerate", "zip", "dict_itemiterator", "dict_reverseitemiterator", "odict_iterator", "itertools.zip_longest", "itertools.pairwise"].contains n = false) (hQ : Q () s) : wpAny M A (letOwnedTupleGo tg (.ref it) u) Q E s := by
  unfold letOwnedTupleGo
  cases tg <;> first
    | exact wpAny_pure hQ
    | (cases u <;> first
        | exact wpAny_pure hQ
        | (refine wpAny_bind (wpAny_load ho ?_)
           rw [hc, hd]
           show wpAny M A (if (["enumerate", "zip", "dict_itemiterator", "dict_reverseitemiterator", "odict_iterator", "itertools.zip_longest", "itertools.pairwise"].contains n && vs[0]? == some (rawInt _)) = true then _ else _) Q E s
           rw [if_neg (by intro h; rw [hn, Bool.false_and] at h; cases h)]
           exact wpAny_pure hQ))
def Itl (K : PySem.W.Frag) (a : Addr) : It :=
  ⟨fun i H => ∃ xs x, SqL K H a xs ∧ xs[i]? = some x, fun i H x H' => H' = H ∧ ∀ xs, SqL K H a xs → xs[i]? = some x, fun i H => ∃ xs, SqL K H a xs ∧ xs.length ≤ i⟩
def Itr (lo : Int) (n : Nat) : It := ⟨fun i _ => i < n, fun i H x H' => H' = H ∧ x = .int (lo + i), fun i _ => n ≤ i⟩
theorem turn_list {P : Program} {w : World} {K : PySem.W.Frag} {tg : Expr} (a it : Addr) : Turn P w K tg (Itl K a) [it] it (fun i h => h.IsListIter it a i) where
  mem := by simp
  obj := fun i h st b hb => by
    have e : b = it := by simpa using hb
    subst e
    obtain ⟨o, e, c, d⟩ := st
    exact ⟨o, e, fun v z => by rw [d] at z; cases z⟩
  keep := fun i h h' st k => st.at fun o e => k it (by simp) o e
  item := by
    intro X hP hw hK hc i pins s σ H E I hf st hg
    subst hP hw hK
    obtain ⟨xs, x, hq, hx⟩ := hg
    obtain ⟨its, rv, p, hz⟩ := I.list hq
    obtain ⟨u, hu, ru⟩ := rv.get hx
    obtain ⟨f0, f1, f2, f3, f4, f5⟩ := hf it (by simp)
    refine wpAny_pyNext_list_item st p.isList (x := u) (by simpa using hu) fun h' st' sb => ?_
    have I1 : Inv X pins σ H { s with heap := h' } := I.turned (t' := s.toks) (fun b o hb e => (sb.2 b hb).trans e) f0 f1 f3 f4 f5
    obtain ⟨o, e, c, d⟩ := id st'
    exact ⟨u, rfl, go_of (s := { s with heap := h' }) e c d (by decide) ⟨x, H, I1, ru, ⟨rfl, fun ys hy => by rw [I.list_inj hy hq]; exact hx⟩, st', fun b hb => (hf b hb).1⟩⟩
  done := by
    intro X hP hw hK hc i pins s σ H E I hf st hg
    subst hP hw hK
    obtain ⟨xs, hq, hx⟩ := hg
    obtain ⟨its, rv, p, hz⟩ := I.list hq
    obtain ⟨f0, f1, f2, f3, f4, f5⟩ := hf it (by simp)
    have hl := rv.length
    exact wpAny_pyNext_list_end (I.ok.hd hc) st p.isList (by simp; omega) fun h' eb => ⟨rfl, I.turned (t' := s.toks) (fun b o hb e => eb b o hb e) f0 f1 f3 f4 f5⟩
  self := fun _ _ _ _ _ st h => wpAny_pyIter_listiter st h
theorem turn_range {P : Program} {w : World} {K : PySem.W.Frag} {tg : Expr} (it : Addr) (lo : Int) (n : Nat) : Turn P w K tg (Itr lo n) [it] it (fun i h => IsRangeIter h it (lo + (i : Nat) * 1) ((n : Int) - (i : Nat)) 1) where
  mem := by simp
  obj := fun i h st b hb => by
    have e : b = it := by simpa using hb
    subst e
    exact ⟨_, st, fun v z => by
      have z' : Data.fields _ = Data.cell v := z
      cases z'⟩
  keep := fun i h h' st k => k it (by simp) _ st
  item := by
    intro X hP hw hK hc i pins s σ H E I hf st hg
    subst hP hw hK
    obtain ⟨f0, f1, f2, f3, f4, f5⟩ := hf it (by simp)
    have W := Walks.range (prog := X.prog) (w := X.w) (I.ok.hd hc) it lo 1 n
    refine W.item i s _ _ hg st fun v h' tk hv st' kk => ?_
    obtain ⟨t, rfl⟩ := hv
    have I1 : Inv X pins σ H { s with heap := h', toks := tk } := I.turned (fun b o hb e => kk b o (by simpa using hb) e) f0 f1 f3 f4 f5
    refine ⟨_, rfl, go_of (s := { s with heap := h', toks := tk }) (n := "range_iterator") st' rfl rfl (by decide) ⟨.int (lo + i), H, I1, ⟨t, ?_⟩, ⟨rfl, rfl⟩, st', fun b hb => (hf b hb).1⟩⟩
    rw [Int.mul_one]
  done := by
    intro X hP hw hK hc i pins s σ H E I hf st hg
    subst hP hw hK
    obtain ⟨f0, f1, f2, f3, f4, f5⟩ := hf it (by simp)
    exact wpAny_pyNext_range_end (I.ok.hd hc) st (by have : n ≤ i := hg; omega) fun h' eb => ⟨rfl, I.turned (t' := s.toks) (fun b o hb e => eb b o hb e) f0 f1 f3 f4 f5⟩
  self := fun _ _ _ _ _ st h => wpAny_pyIter_rangeiter st h
end L2
namespace L2
open PySem PySem.Spec PyProof.Rows
section
variable {X : Cx} {tg : Expr}
def iList (K : PySem.W.Frag) (tl : TE) : TI := fun σ H R => tl σ H fun x H1 => ∃ a, x = .ref a ∧ (∃ xs, SqL K H1 a xs) ∧ R (Itl K a) H1
theorem pi_list {l : Expr} {tl : TE} (hl : PE X l tl) : PI X tg l (iList X.K tl) := by
  intro pins s σ H R I h
  refine thn (hl pins s σ H _ I h) fun v s1 ⟨x, H1, I1, r1, q1⟩ => ?_
  obtain ⟨a, e, ⟨xs, hq⟩, q⟩ := q1
  subst e
  cases r1
  obtain ⟨its, rv, p, hz⟩ := I1.list hq
  refine wpAny_pyIter_list p.isList ?_
  refine ⟨s1.heap.objs.size, [s1.heap.objs.size], _, _, H1, rfl, I1.kept (t' := s1.toks) fun b o e => Heap.get?_push_of_some _ e, turn_list a _, ⟨_, Heap.get?_push_size _ rfl, rfl, rfl⟩, fun b hb => ?_, q⟩
  have e : b = s1.heap.objs.size := by simpa using hb
  subst e
  exact I1.fpOk (Nat.le_refl _) (I1.hok.fresh (Nat.le_refl _))
theorem range_it {pins : List (Addr × Obj)} {σ : St} {H : Hp} {s : Shared} {R : It → Hp → Prop} {E : Value → Shared → Prop} {lo hi : Int} {t u v : Tok} {tk : Nat} (I : Inv X pins σ H s) (h1 : -(2 ^ 62) ≤ lo) (h2 : lo < 2 ^ 62) (h3 : -(2 ^ 62) ≤ hi) (h4 : hi < 2 ^ 62)
    (q : R (Itr lo (hi - lo).toNat) H) : wpAny (model X.prog X.w) X.A (pyIter (.ref s.heap.objs.size)) (PIE X pins σ tg R) E { s with heap := s.heap.push { cls := .type "range", data := .fields #[.int lo t, .int hi u, .int 1 v] }, toks := tk } := by
  refine wpAny_pyIter_range (IsRange.new ..) (small_one h1 h2 h3 h4) ?_
  have I1 : Inv X pins σ H { s with heap := s.heap.push { cls := .type "range", data := .fields #[.int lo t, .int hi u, .int 1 v] }, toks := tk } := I.kept fun b o e => Heap.get?_push_of_some _ e
  refine ⟨(s.heap.push { cls := .type "range", data := .fields #[.int lo t, .int hi u, .int 1 v] }).objs.size, [(s.heap.push { cls := .type "range", data := .fields #[.int lo t, .int hi u, .int 1 v] }).objs.size], _, _, H, rfl,
    I1.kept (t' := tk) fun b o e => Heap.get?_push_of_some _ e, turn_range _ lo (hi - lo).toNat, ?_, fun b hb => ?_, q⟩
  · have e1 : lo + ((0 : Nat) : Int) * 1 = lo := by simp
    have e2 : (((hi - lo).toNat : Nat) : Int) - ((0 : Nat) : Int) = Builtin.Range.rangeSize lo hi 1 := by rw [rangeSize_one]; split <;> omega
    show IsRangeIter _ _ (lo + ((0 : Nat) : Int) * 1) ((((hi - lo).toNat : Nat) : Int) - ((0 : Nat) : Int)) 1
    rw [e1, e2]
    exact Heap.get?_push_size _ rfl
  · have e : b = (s.heap.push { cls := .type "range", data := .fields #[.int lo t, .int hi u, .int 1 v] }).objs.size := by simpa using hb
    subst e
    exact I1.fpOk (Nat.le_refl _) (I1.hok.fresh (Nat.le_refl _))
def iRng1 (ta : TA) : TI := fun σ H R => ta σ H fun vs H1 => ∃ j : Int, vs = [.int j] ∧ -(2 ^ 62) ≤ j ∧ j < 2 ^ 62 ∧ R (Itr 0 j.toNat) H1
theorem pi_range1 {a : Expr} {ta : TA} {p pos : Pos} (hg : Gl X "range") (hm : X.mg "range" = none) (ha : PA X [a] ta) (hs : starEach [a] X.env = [(false, eval a X.env)] := by rfl) : PI X tg (.Call (.Name "range" p) [a] [] pos) (iRng1 ta) := by
  intro pins s σ H R I h
  refine Call_ (ld_blt I hg hm boot_range (PyProof.Rows.callWith_type1 (thn (ha pos pins s σ H _ I h) fun us s1 ⟨vs, H1, I1, r1, q1⟩ => ?_) hs rfl))
  obtain ⟨j, e, q1, q2, q⟩ := q1
  subst e
  cases r1 with
  | cons r rr =>
    cases rr
    obtain ⟨t, rfl⟩ := r
    exact call_range_1 (range_it I1 (by omega) (by omega) q1 q2 (by simpa using q))
def tFor (wi : TI) (g : TG) (tb : TS) : TS := fun D σ H => wi σ H fun J H1 => ∃ W : Nat → Nat → St → Hp → Prop, (∃ m, W 0 m σ H1) ∧ ∀ i m σ H, W i m σ H →
  (J.stop i H ∧ D.nx σ H) ∨ (J.go i H ∧ ∃ N : St → Hp → Prop, (∀ σ' H', N σ' H' → ∃ m', m' < m ∧ W (i + 1) m' σ' H') ∧ ∀ x H', J.yld i H x H' → g x σ H' fun σ2 H2 => tb { D with nx := N, ct := N, bk := D.nx } σ2 H2)
def pinsAt (fp : List Addr) (h : Heap) : List (Addr × Obj) := fp.filterMap fun b => (h.get? b).map fun o => (b, o)
theorem mem_pinsAt {fp : List Addr} {h : Heap} {b : Addr} {o : Obj} (hb : b ∈ fp) (e : h.get? b = some o) : (b, o) ∈ pinsAt fp h := List.mem_filterMap.mpr ⟨b, hb, by rw [e]; rfl⟩
theorem of_pinsAt {fp : List Addr} {h : Heap} {p : Addr × Obj} (hp : p ∈ pinsAt fp h) : p.1 ∈ fp ∧ h.get? p.1 = some p.2 := by
  obtain ⟨b, hb, e⟩ := List.mem_filterMap.mp hp
  cases q : h.get? b with
  | none => rw [q] at e; cases e
  | some o =>
    rw [q] at e
    have e' : (b, o) = p := Option.some.inj e
    subst e'
    exact ⟨hb, q⟩
theorem Inv.pinned {pins : List (Addr × Obj)} {σ : St} {H : Hp} {s : Shared} {fp : List Addr} (I : Inv X pins σ H s) (hf : ∀ b ∈ fp, FpOk X pins H b) (ho : ∀ b ∈ fp, ∃ o, s.heap.get? b = some o ∧ ∀ v, o.data ≠ .cell v) : Inv X (pins ++ pinsAt fp s.heap) σ H s :=
  I.pins_of fun p hp => (List.mem_append.mp hp).elim (fun z => I.pin p (List.mem_append_right _ z)) fun z => by
    obtain ⟨hb, e⟩ := of_pinsAt z
    obtain ⟨f0, f1, f2, _⟩ := hf p.1 hb
    obtain ⟨o, e', d⟩ := ho p.1 hb
    rw [e] at e'; cases e'
    exact ⟨e, f0, f1, f2, d⟩
theorem Inv.unpinned {pins pl : List (Addr × Obj)} {σ : St} {H : Hp} {s : Shared} (I : Inv X (pins ++ pl) σ H s) : Inv X pins σ H s := I.pins_of fun p hp => I.pin p (List.mem_append_right _ (List.mem_append_left _ hp))
theorem ps_for {iter : Expr} {body : List Stmt} {wi : TI} {g : TG} {tb : TS} {pos : Pos} (hp : PassesOwn (model X.prog X.w) X.A X.env X.xe) (hc : X.calm = true) (hi : PI X tg iter wi) (hg : PG X tg g) (hb : PSs X body tb)
    (hs : ∀ x, foldedSetIterable iter X.env x = pure x := by intro _; rfl) : PS X (.For tg iter body [] pos) (tFor wi g tb) := by
  intro pins s σ H D I h
  refine wpAny_For (thn (hi pins s σ H _ I h) fun v s1 h1 => thn h1 fun itv s2 h2 => ?_) hs
  obtain ⟨it, fp, tn, J, H2, e, I2, T, st2, f2, W, ⟨m0, w0⟩, turn⟩ := h2
  subst e
  have stat : ∀ {H' : Hp}, (∀ b ∈ fp, H' b = none) → ∀ b ∈ fp, FpOk X pins H' b := fun hn b hb => ⟨hn b hb, (f2 b hb).2⟩
  refine codeAny_forLoop_any (fun n s' => ∃ i σ' H', Inv X pins σ' H' s' ∧ tn i s'.heap ∧ (∀ b ∈ fp, H' b = none) ∧ W i n σ' H') ?_ m0 ⟨0, σ, H2, I2, st2, fun b hb => (f2 b hb).1, w0⟩
  rintro n s3 ⟨i, σ3, H3, I3, st3, fr3, w3⟩
  rcases turn i n σ3 H3 w3 with ⟨stop, qn⟩ | ⟨go, N, hN, step⟩
  · refine wpAny_passesOwn hp (thn (T.done X rfl rfl rfl hc i pins s3 σ3 H3 X.xe I3 (stat fr3) st3 stop) fun r s4 ⟨hr, I4⟩ => ?_)
    subst hr
    exact wpAny_execs_nil ⟨σ3, H3, I4, qn⟩
  · refine wpAny_passesOwn hp (thn (T.item X rfl rfl rfl hc i pins s3 σ3 H3 X.xe I3 (stat fr3) st3 go) fun r s4 ⟨u, hr, h4⟩ => ?_)
    subst hr
    refine wpAny_passesOwn hp (thn h4 fun _ s5 ⟨x, H5, I5, r5, y5, st5, fr5⟩ => ?_)
    have I5' := I5.pinned (stat fr5) (T.obj _ _ st5)
    refine wpAny_passesOwn hp (thn (hg _ s5 σ3 H5 x u _ I5' r5 (step x H5 y5)) fun _ s6 ⟨σ6, H6, I6, q6⟩ => ?_)
    refine wpAny_passesOwn hp (thn (hb _ s6 σ6 H6 _ I6 q6) fun f s7 q7 => ?_)
    have again : ∀ {σ7 : St} {H7 : Hp}, Inv X (pins ++ pinsAt fp s5.heap) σ7 H7 s7 → N σ7 H7 → ∃ m, m < n ∧ ∃ i σ' H', Inv X pins σ' H' s7 ∧ tn i s7.heap ∧ (∀ b ∈ fp, H' b = none) ∧ W i m σ' H' := fun {σ7 H7} I7 n7 => by
      obtain ⟨m', hm, w7⟩ := hN σ7 H7 n7
      refine ⟨m', hm, i + 1, σ7, H7, I7.unpinned, T.keep _ _ _ st5 fun b hb o e => (I7.pin (b, o) (List.mem_append_right _ (List.mem_append_right _ (mem_pinsAt hb e)))).1, fun b hb => ?_, w7⟩
      obtain ⟨o, e, d⟩ := T.obj _ _ st5 b hb
      exact (I7.pin (b, o) (List.mem_append_right _ (List.mem_append_right _ (mem_pinsAt hb e)))).2.1
    cases f with
    | next => obtain ⟨σ7, H7, I7, n7⟩ := q7; exact again I7 n7
    | cont => obtain ⟨σ7, H7, I7, n7⟩ := q7; exact again I7 n7
    | brk => obtain ⟨σ7, H7, I7, q7⟩ := q7; exact ⟨σ7, H7, I7.unpinned, q7⟩
    | ret v => obtain ⟨x7, σ7, H7, I7, r7, q7⟩ := q7; exact ⟨x7, σ7, H7, I7.unpinned, r7, q7⟩
end
theorem for_list {K : PySem.W.Frag} {a : Addr} {xs : List V} {g : TG} {tb : TS} {D : Ends} {σ : St} {H : Hp} (Pv : Nat → St → Hp → Prop) (h0 : Pv 0 σ H) (hl : ∀ i σ H, i ≤ xs.length → Pv i σ H → SqL K H a xs)
    (hs : ∀ i x σ H, xs[i]? = some x → Pv i σ H → g x σ H fun σ2 H2 => tb { D with nx := Pv (i + 1), ct := Pv (i + 1), bk := D.nx } σ2 H2) (hd : ∀ σ H, Pv xs.length σ H → D.nx σ H) :
    ∃ W : Nat → Nat → St → Hp → Prop, (∃ m, W 0 m σ H) ∧ ∀ i m σ H, W i m σ H →
      ((Itl K a).stop i H ∧ D.nx σ H) ∨ ((Itl K a).go i H ∧ ∃ N : St → Hp → Prop, (∀ σ' H', N σ' H' → ∃ m', m' < m ∧ W (i + 1) m' σ' H') ∧ ∀ x H', (Itl K a).yld i H x H' → g x σ H' fun σ2 H2 => tb { D with nx := N, ct := N, bk := D.nx } σ2 H2) := by
  refine ⟨fun i m σ H => m = xs.length - i ∧ i ≤ xs.length ∧ Pv i σ H, ⟨xs.length, by simp, Nat.zero_le _, h0⟩, ?_⟩
  rintro i m σ H ⟨rfl, hi, p⟩
  have q := hl i σ H hi p
  by_cases hlt : i < xs.length
  · refine .inr ⟨⟨xs, xs[i], q, by simp [hlt]⟩, Pv (i + 1), fun σ' H' p' => ⟨xs.length - (i + 1), by omega, rfl, hlt, p'⟩, fun x H' y => ?_⟩
    obtain ⟨e, y⟩ := y
    subst e
    exact hs i x σ _ (y xs q) p
  · have e : i = xs.length := by omega
    subst e
    exact .inl ⟨⟨xs, q, Nat.le_refl _⟩, hd σ H p⟩
theorem for_range {lo : Int} {n : Nat} {g : TG} {tb : TS} {D : Ends} {σ : St} {H : Hp} (Pv : Nat → St → Hp → Prop) (h0 : Pv 0 σ H)
    (hs : ∀ i σ H, i < n → Pv i σ H → g (.int (lo + i)) σ H fun σ2 H2 => tb { D with nx := Pv (i + 1), ct := Pv (i + 1), bk := D.nx } σ2 H2) (hd : ∀ σ H, Pv n σ H → D.nx σ H) :
    ∃ W : Nat → Nat → St → Hp → Prop, (∃ m, W 0 m σ H) ∧ ∀ i m σ H, W i m σ H →
      ((Itr lo n).stop i H ∧ D.nx σ H) ∨ ((Itr lo n).go i H ∧ ∃ N : St → Hp → Prop, (∀ σ' H', N σ' H' → ∃ m', m' < m ∧ W (i + 1) m' σ' H') ∧ ∀ x H', (Itr lo n).yld i H x H' → g x σ H' fun σ2 H2 => tb { D with nx := N, ct := N, bk := D.nx } σ2 H2) := by
  refine ⟨fun i m σ H => m = n - i ∧ i ≤ n ∧ Pv i σ H, ⟨n, by simp, Nat.zero_le _, h0⟩, ?_⟩
  rintro i m σ H ⟨rfl, hi, p⟩
  by_cases hlt : i < n
  · refine .inr ⟨hlt, Pv (i + 1), fun σ' H' p' => ⟨n - (i + 1), by omega, rfl, hlt, p'⟩, fun x H' y => ?_⟩
    obtain ⟨e, y⟩ := y
    subst e y
    exact hs i σ _ hlt p
  · have e : i = n := by omega
    subst e
    exact .inl ⟨Nat.le_refl _, hd σ H p⟩
theorem while_by {c : TT} {tb : TS} {D : Ends} {σ : St} {H : Hp} (Pv : St → Hp → Prop) (μ : St → Hp → Nat) (h0 : Pv σ H)
    (hs : ∀ σ H, Pv σ H → c σ H fun b H1 => if b = true then tb { D with nx := fun σ' H' => Pv σ' H' ∧ μ σ' H' < μ σ H, ct := fun σ' H' => Pv σ' H' ∧ μ σ' H' < μ σ H, bk := D.nx } σ H1 else D.nx σ H1)
    (mono : ∀ σ H Q Q', (∀ b H1, Q b H1 → Q' b H1) → c σ H Q → c σ H Q') : tWhile c tb D σ H := by
  refine ⟨fun m σ H => m = μ σ H ∧ Pv σ H, ⟨_, rfl, h0⟩, ?_⟩
  rintro m σ H ⟨rfl, p⟩
  refine mono σ H _ _ (fun b H1 q => ?_) (hs σ H p)
  cases b with
  | true => exact ⟨_, fun σ' H' ⟨p', l⟩ => ⟨_, l, rfl, p'⟩, q⟩
  | false => exact q
end L2
namespace L2
open PySem PySem.Spec PyProof.Rows
abbrev R2 := V → V → Hp → VK → Prop
def OpR (X : Cx) (f : Value → Value → Sem Value) (r : R2) : Prop :=
  ∀ (pins : List (Addr × Obj)) (s : Shared) (σ : St) (H : Hp) (x y : V) (v u : Value) (Q : VK), Inv X pins σ H s → RelV x v → RelV y u → r x y H Q →
    wpAny (model X.prog X.w) X.A (f v u) (EP X pins σ Q) X.xe s
def UnR (X : Cx) (f : Value → Sem Value) (r : V → Hp → VK → Prop) : Prop :=
  ∀ (pins : List (Addr × Obj)) (s : Shared) (σ : St) (H : Hp) (x : V) (v : Value) (Q : VK), Inv X pins σ H s → RelV x v → r x H Q →
    wpAny (model X.prog X.w) X.A (f v) (EP X pins σ Q) X.xe s
def CallR (X : Cx) (f : Value) (r : List V → Hp → VK → Prop) : Prop :=
  ∀ (pins : List (Addr × Obj)) (s : Shared) (σ : St) (H : Hp) (xs : List V) (us : List Value) (Q : VK), Inv X pins σ H s → Vals xs us → r xs H Q →
    wpAny (model X.prog X.w) X.A (call f us) (EP X pins σ Q) X.xe s
def tOp (r : R2) (ta tb : TE) : TE := fun σ H Q => ta σ H fun x H1 => tb σ H1 fun y H2 => r x y H2 Q
def tUn (r : V → Hp → VK → Prop) (ta : TE) : TE := fun σ H Q => ta σ H fun x H1 => r x H1 Q
def rI (C : Int → Int → Prop) (g : Int → Int → V) : R2 := fun x y H Q => ∃ i j, x = .int i ∧ y = .int j ∧ C i j ∧ Q (g i j) H
def rI0 (g : Int → Int → V) : R2 := fun x y H Q => ∃ i j, x = .int i ∧ y = .int j ∧ Q (g i j) H
def rU (g : Int → V) : V → Hp → VK → Prop := fun x H Q => ∃ i, x = .int i ∧ Q (g i) H
section
variable {X : Cx} {a b c : Expr} {ta tb tc : TE} {pos : Pos}
theorem binT (ha : PE X a ta) (hb : PE X b tb) {pins : List (Addr × Obj)} {s : Shared} {σ : St} {H : Hp} {R : V → V → Hp → Prop} (I : Inv X pins σ H s)
    (h : ta σ H fun x H1 => tb σ H1 fun y H2 => R x y H2) {Q : Value → Shared → Prop} {f : Value → Value → Sem Value}
    (hf : ∀ v u s2 x y H2, Inv X pins σ H2 s2 → RelV x v → RelV y u → R x y H2 → wpAny (model X.prog X.w) X.A (f v u) Q X.xe s2) :
    wpAny (model X.prog X.w) X.A (eval a X.env) (fun v s₁ => wpAny (model X.prog X.w) X.A (eval b X.env) (fun u s₂ => wpAny (model X.prog X.w) X.A (f v u) Q X.xe s₂) X.xe s₁) X.xe s := by
  refine thn (ha pins s σ H _ I h) fun v s1 ⟨x, H1, I1, r1, q1⟩ => ?_
  refine thn (hb pins s1 σ H1 _ I1 q1) fun u s2 ⟨y, H2, I2, r2, q2⟩ => ?_
  exact hf v u s2 x y H2 I2 r1 r2 q2
theorem pe_op {op : Operator} {r : R2} (ho : OpR X (binaryOp op) r) (ha : PE X a ta) (hb : PE X b tb) : PE X (.BinOp a op b pos) (tOp r ta tb) := by
  intro pins s σ H Q I h
  exact wpAny_BinOp (binT ha hb I h fun v u s2 x y H2 I2 rx ry q => ho pins s2 σ H2 x y v u Q I2 rx ry q)
theorem pe_un {op : UnaryOp} {r : V → Hp → VK → Prop} (ho : UnR X (unaryOp op) r) (ha : PE X a ta) : PE X (.UnaryOp op a pos) (tUn r ta) := by
  intro pins s σ H Q I h
  exact UnaryOp_ (thn (ha pins s σ H _ I h) fun v s1 ⟨x, H1, I1, r1, q1⟩ => ho pins s1 σ H1 x v Q I1 r1 q1)
theorem opI {f : Value → Value → Sem Value} {C : Int → Int → Prop} {g : Int → Int → Int}
    (rule : ∀ (i j : Int) (t u : Tok) (s : Shared) (Q : Value → Shared → Prop) (E : Value → Shared → Prop), C i j → Q (.int (g i j) s.toks) { s with toks := s.toks + 1 } → wpAny (model X.prog X.w) X.A (f (.int i t) (.int j u)) Q E s) :
    OpR X f (rI C fun i j => .int (g i j)) := by
  intro pins s σ H x y v u Q I rx ry h
  obtain ⟨i, j, rfl, rfl, hc, q⟩ := h
  obtain ⟨t, rfl⟩ := rx
  obtain ⟨t', rfl⟩ := ry
  exact rule i j t t' s _ _ hc ⟨.int (g i j), H, I.tok _, ⟨_, rfl⟩, q⟩
theorem opI0 {f : Value → Value → Sem Value} {g : Int → Int → Int}
    (rule : ∀ (i j : Int) (t u : Tok) (s : Shared) (Q : Value → Shared → Prop) (E : Value → Shared → Prop), Q (.int (g i j) s.toks) { s with toks := s.toks + 1 } → wpAny (model X.prog X.w) X.A (f (.int i t) (.int j u)) Q E s) :
    OpR X f (rI0 fun i j => .int (g i j)) := by
  intro pins s σ H x y v u Q I rx ry h
  obtain ⟨i, j, rfl, rfl, q⟩ := h
  obtain ⟨t, rfl⟩ := rx
  obtain ⟨t', rfl⟩ := ry
  exact rule i j t t' s _ _ ⟨.int (g i j), H, I.tok _, ⟨_, rfl⟩, q⟩
theorem opB0 {f : Value → Value → Sem Value} {g : Int → Int → Bool}
    (rule : ∀ (i j : Int) (t u : Tok) (s : Shared) (Q : Value → Shared → Prop) (E : Value → Shared → Prop), Q (.bool (g i j)) s → wpAny (model X.prog X.w) X.A (f (.int i t) (.int j u)) Q E s) :
    OpR X f (rI0 fun i j => .bl (g i j)) := by
  intro pins s σ H x y v u Q I rx ry h
  obtain ⟨i, j, rfl, rfl, q⟩ := h
  obtain ⟨t, rfl⟩ := rx
  obtain ⟨t', rfl⟩ := ry
  exact rule i j t t' s _ _ ⟨.bl (g i j), H, I, rfl, q⟩
def CPow (i j : Int) : Prop := 0 ≤ j ∧ j ≤ 1000000 ∧ i.natAbs < 2 ^ 64
def CMul (i j : Int) : Prop := (-(2 ^ 64) < i ∧ i < 2 ^ 64) ∨ (-(2 ^ 64) < j ∧ j < 2 ^ 64)
theorem CMul.ok {i j : Int} (h : CMul i j) : IntMulOk i j := by
  rcases h with ⟨h1, h2⟩ | ⟨h1, h2⟩
  · exact .of_left (intBits_le_64 h1 h2)
  · exact .of_right (intBits_le_64 h1 h2)
theorem op_add : OpR X (binaryOp .Add) (rI0 fun i j => .int (i + j)) := opI0 fun _ _ _ _ _ _ _ q => add_int q
theorem op_sub : OpR X (binaryOp .Sub) (rI0 fun i j => .int (i - j)) := opI0 fun _ _ _ _ _ _ _ q => sub_int q
theorem op_mul : OpR X (binaryOp .Mult) (rI CMul fun i j => .int (i * j)) := opI fun _ _ _ _ _ _ _ hc q => mul_int q hc.ok
theorem op_mod : OpR X (binaryOp .Mod) (rI (fun _ j => 0 < j) fun i j => .int (i % j)) := opI fun i j _ _ _ _ _ hc q => by
  have h1 : (0 : Int) < j := hc
  exact mod_int' (by omega) (by rw [Int.fmod_eq_emod_of_nonneg i (by omega)]; exact q)
theorem op_pow : OpR X (binaryOp .Pow) (rI CPow fun i j => .int (i ^ j.toNat)) := opI fun _ _ _ _ _ _ _ hc q => pow_int_small hc.1 hc.2.1 hc.2.2 q
theorem unI {f : Value → Sem Value} {g : Int → Int}
    (rule : ∀ (i : Int) (t : Tok) (s : Shared) (Q : Value → Shared → Prop) (E : Value → Shared → Prop), Q (.int (g i) s.toks) { s with toks := s.toks + 1 } → wpAny (model X.prog X.w) X.A (f (.int i t)) Q E s) :
    UnR X f (rU fun i => .int (g i)) := by
  intro pins s σ H x v Q I rx h
  obtain ⟨i, rfl, q⟩ := h
  obtain ⟨t, rfl⟩ := rx
  exact rule i t s _ _ ⟨.int (g i), H, I.tok _, ⟨_, rfl⟩, q⟩
theorem un_neg : UnR X (unaryOp .USub) (rU fun i => .int (-i)) := unI fun _ _ _ _ _ q => neg_int q
end
def scal : V → V → Bool
  | .non, .non => true | .non, .int _ => true | .int _, .non => true | .non, .bl _ => true | .bl _, .non => true | .non, .str _ => true | .str _, .non => true
  | .int _, .int _ => true | .bl _, .bl _ => true | .str _, .str _ => true | .byt _, .byt _ => true
  | .int _, .str _ => true | .str _, .int _ => true | .bl _, .str _ => true | .str _, .bl _ => true
  | _, _ => false
def rEq : R2 := fun x y H Q => scal x y = true ∧ Q (.bl (decide (x = y))) H
def rNe : R2 := fun x y H Q => scal x y = true ∧ Q (.bl (!decide (x = y))) H
theorem dec_int {i j : Int} : decide (V.int i = V.int j) = (i == j) := by
  rw [Bool.eq_iff_iff]
  simp
theorem dec_bl {i j : Bool} : decide (V.bl i = V.bl j) = (i == j) := by
  rw [Bool.eq_iff_iff]
  simp
theorem dec_str {i j : Str} : decide (V.str i = V.str j) = (i == j) := by
  rw [Bool.eq_iff_iff]
  simp
theorem dec_byt {i j : Array UInt8} : decide (V.byt i = V.byt j) = (i.toList == j.toList) := by
  rw [Bool.eq_iff_iff]
  cases i
  cases j
  simp
section
variable {X : Cx} {a b c : Expr} {ta tb tc : TE} {pos : Pos}
theorem fin_bl {pins : List (Addr × Obj)} {σ : St} {H : Hp} {s : Shared} {Q : VK} {k k' : Bool} (I : Inv X pins σ H s) (q : Q (.bl k) H) (e : k = k') : EP X pins σ Q (.bool k') s := by
  subst e
  exact ⟨.bl k, H, I, rfl, q⟩
theorem op_eq : OpR X (compareOp .Eq) rEq := by
  intro pins s σ H x y v u Q I rx ry h
  obtain ⟨hs, q⟩ := h
  cases x with
  | non =>
    cases rx
    cases y with
    | non => cases ry; exact PySem.EqNone.eq_none_none (fin_bl I q (by simp))
    | bl j => cases ry; exact PySem.EqNone.eq_none_bool (fin_bl I q (by simp))
    | int j => obtain ⟨t', rfl⟩ := ry; exact PySem.EqNone.eq_none_int (fin_bl I q (by simp))
    | str j => obtain ⟨t', rfl⟩ := ry; exact PySem.EqNone.eq_none_str (fin_bl I q (by simp))
    | _ => exact absurd (show false = true from hs) Bool.false_ne_true
  | bl i =>
    cases rx
    cases y with
    | non => cases ry; exact PySem.EqNone.eq_bool_none (fin_bl I q (by simp))
    | bl j => cases ry; exact eq_bool (fin_bl I q dec_bl)
    | str j => obtain ⟨t', rfl⟩ := ry; exact PySem.EqMixed.eq_bool_str (fin_bl I q (by simp))
    | _ => exact absurd (show false = true from hs) Bool.false_ne_true
  | int i =>
    obtain ⟨t, rfl⟩ := rx
    cases y with
    | non => cases ry; exact PySem.EqNone.eq_int_none (fin_bl I q (by simp))
    | int j => obtain ⟨t', rfl⟩ := ry; exact eq_int (fin_bl I q dec_int)
    | str j => obtain ⟨t', rfl⟩ := ry; exact PySem.EqMixed.eq_int_str (fin_bl I q (by simp))
    | _ => exact absurd (show false = true from hs) Bool.false_ne_true
  | str i =>
    obtain ⟨t, rfl⟩ := rx
    cases y with
    | non => cases ry; exact PySem.EqNone.eq_str_none (fin_bl I q (by simp))
    | bl j => cases ry; exact PySem.EqMixed.eq_str_bool (fin_bl I q (by simp))
    | int j => obtain ⟨t', rfl⟩ := ry; exact PySem.EqMixed.eq_str_int (fin_bl I q (by simp))
    | str j => obtain ⟨t', rfl⟩ := ry; exact eq_str (fin_bl I q dec_str)
    | _ => exact absurd (show false = true from hs) Bool.false_ne_true
  | byt i =>
    obtain ⟨t, rfl⟩ := rx
    cases y with
    | byt j => obtain ⟨t', rfl⟩ := ry; exact PySem.W.eq_bytes (fin_bl I q dec_byt)
    | _ => exact absurd (show false = true from hs) Bool.false_ne_true
  | _ => cases y <;> exact absurd (show false = true from hs) Bool.false_ne_true
theorem op_ne : OpR X (compareOp .NotEq) rNe := by
  intro pins s σ H x y v u Q I rx ry h
  obtain ⟨hs, q⟩ := h
  cases x with
  | non =>
    cases rx
    cases y with
    | non => cases ry; exact PySem.EqNone.ne_none_none (fin_bl I q (by simp))
    | bl j => cases ry; exact PySem.EqNone.ne_none_bool (fin_bl I q (by simp))
    | int j => obtain ⟨t', rfl⟩ := ry; exact PySem.EqNone.ne_none_int (fin_bl I q (by simp))
    | str j => obtain ⟨t', rfl⟩ := ry; exact PySem.EqNone.ne_none_str (fin_bl I q (by simp))
    | _ => exact absurd (show false = true from hs) Bool.false_ne_true
  | bl i =>
    cases rx
    cases y with
    | non => cases ry; exact PySem.EqNone.ne_bool_none (fin_bl I q (by simp))
    | bl j => cases ry; exact ne_bool (fin_bl I q (congrArg not dec_bl))
    | str j => obtain ⟨t', rfl⟩ := ry; exact PySem.EqMixed.ne_bool_str (fin_bl I q (by simp))
    | _ => exact absurd (show false = true from hs) Bool.false_ne_true
  | int i =>
    obtain ⟨t, rfl⟩ := rx
    cases y with
    | non => cases ry; exact PySem.EqNone.ne_int_none (fin_bl I q (by simp))
    | int j => obtain ⟨t', rfl⟩ := ry; exact ne_int (fin_bl I q (congrArg not dec_int))
    | str j => obtain ⟨t', rfl⟩ := ry; exact PySem.EqMixed.ne_int_str (fin_bl I q (by simp))
    | _ => exact absurd (show false = true from hs) Bool.false_ne_true
  | str i =>
    obtain ⟨t, rfl⟩ := rx
    cases y with
    | non => cases ry; exact PySem.EqNone.ne_str_none (fin_bl I q (by simp))
    | bl j => cases ry; exact PySem.EqMixed.ne_str_bool (fin_bl I q (by simp))
    | int j => obtain ⟨t', rfl⟩ := ry; exact PySem.EqMixed.ne_str_int (fin_bl I q (by simp))
    | str j => obtain ⟨t', rfl⟩ := ry; exact ne_str (fin_bl I q (congrArg not dec_str))
    | _ => exact absurd (show false = true from hs) Bool.false_ne_true
  | byt i =>
    obtain ⟨t, rfl⟩ := rx
    cases y with
    | byt j => obtain ⟨t', rfl⟩ := ry; exact PySem.W.ne_bytes (fin_bl I q (congrArg not dec_byt))
    | _ => exact absurd (show false = true from hs) Bool.false_ne_true
  | _ => cases y <;> exact absurd (show false = true from hs) Bool.false_ne_true
theorem op_lt : OpR X (compareOp .Lt) (rI0 fun i j => .bl (decide (i < j))) := opB0 fun _ _ _ _ _ _ _ q => lt_int q
theorem op_le : OpR X (compareOp .LtE) (rI0 fun i j => .bl (decide (i ≤ j))) := opB0 fun _ _ _ _ _ _ _ q => le_int q
theorem op_gt : OpR X (compareOp .Gt) (rI0 fun i j => .bl (decide (j < i))) := opB0 fun _ _ _ _ _ _ _ q => gt_int q
theorem op_ge : OpR X (compareOp .GtE) (rI0 fun i j => .bl (decide (j ≤ i))) := opB0 fun _ _ _ _ _ _ _ q => ge_int q
theorem op_isN : OpR X (compareOp .Is) (fun x y H Q => y = .non ∧ Q (.bl (decide (x = .non))) H) := by
  intro pins s σ H x y v u Q I rx ry h
  obtain ⟨rfl, q⟩ := h
  cases ry
  refine is_none_gen (fin_bl I q ?_)
  cases x <;> first
    | (cases rx; rfl)
    | (obtain ⟨t, rfl⟩ := rx; rfl)
theorem nomark (b : Expr) {op : CmpOp} (h : op ≠ .In := by decide) (h2 : op ≠ .NotIn := by decide) : behindInMarks op b = false := by
  have e1 : (op == CmpOp.In) = false := by cases op <;> first | rfl | exact absurd rfl h
  have e2 : (op == CmpOp.NotIn) = false := by cases op <;> first | rfl | exact absurd rfl h2
  cases b <;> simp [behindInMarks, e1, e2]
theorem pe_cmpR {op : CmpOp} {r : R2} (ho : OpR X (compareOp op) r) (ha : PE X a ta) (hb : PE X b tb) (hm : behindInMarks op b = false) : PE X (.Compare a [op] [b] pos) (tOp r ta tb) := by
  intro pins s σ H Q I h
  exact wpAny_Compare1 (binT ha hb I h fun v u s2 x y H2 I2 rx ry q => ho pins s2 σ H2 x y v u Q I2 rx ry q) hm
def tTest (t : TE) : TT := fun σ H Q => t σ H fun x H' => ∃ k, x = .bl k ∧ Q k H'
theorem pt_cmpR {op : CmpOp} {r : R2} (ho : OpR X (compareOp op) r) (ha : PE X a ta) (hb : PE X b tb) (hm : behindInMarks op b = false) : PT X (.Compare a [op] [b] pos) (tTest (tOp r ta tb)) := by
  intro pins s σ H Q I h
  refine wpAny_isTrue_Compare1 (thn (ha pins s σ H _ I h) fun v s1 ⟨x, H1, I1, r1, q1⟩ => thn (hb pins s1 σ H1 _ I1 q1) fun u s2 ⟨y, H2, I2, r2, q2⟩ =>
    thn (ho pins s2 σ H2 x y v u _ I2 r1 r2 q2) fun c s3 ⟨z, H3, I3, r3, k, e, q3⟩ => ?_) hm
  subst e
  cases r3
  exact wpAny_truthy_bool ⟨H3, I3, q3⟩
def tChain (r r' : R2) (ta tb tc : TE) : TE := fun σ H Q => ta σ H fun x H1 => tb σ H1 fun y H2 => r x y H2 fun z H3 => ∃ k, z = .bl k ∧
  (if k = true then tc σ H3 fun w' H4 => r' y w' H4 Q else Q (.bl false) H3)
theorem pe_chain {op op' : CmpOp} {r r' : R2} (ho : OpR X (compareOp op) r) (ho' : OpR X (compareOp op') r') (ha : PE X a ta) (hb : PE X b tb) (hc : PE X c tc)
    (hm : lastMarks [op, op'] [b, c] = false := by with_unfolding_all rfl) : PE X (.Compare a [op, op'] [b, c] pos) (tChain r r' ta tb tc) := by
  intro pins s σ H Q I h
  refine Compare_chain (thn (ha pins s σ H _ I h) fun v s1 ⟨x, H1, I1, r1, q1⟩ => chain_link (thn (hb pins s1 σ H1 _ I1 q1) fun u s2 ⟨y, H2, I2, r2, q2⟩ =>
    thn (ho pins s2 σ H2 x y v u _ I2 r1 r2 q2) fun d s3 ⟨z, H3, I3, r3, k, e, q3⟩ => ?_)) hm
  subst e
  cases r3
  refine wpAny_truthy_bool ?_
  cases k with
  | false => exact ite_ff ⟨.bl false, H3, I3, rfl, q3⟩
  | true => exact ite_tt (chain_last (thn (hc pins s3 σ H3 _ I3 q3) fun w' s4 ⟨z', H4, I4, r4, q4⟩ => ho' pins s4 σ H4 y z' u w' Q I4 r2 r4 q4))
theorem pt_chain {op op' : CmpOp} {r r' : R2} (ho : OpR X (compareOp op) r) (ho' : OpR X (compareOp op') r') (ha : PE X a ta) (hb : PE X b tb) (hc : PE X c tc)
    (hm : lastMarks [op, op'] [b, c] = false := by with_unfolding_all rfl) : PT X (.Compare a [op, op'] [b, c] pos) (tTest (tChain r r' ta tb tc)) := by
  intro pins s σ H Q I h
  refine isTrue_chain (thn (ha pins s σ H _ I h) fun v s1 ⟨x, H1, I1, r1, q1⟩ => test_link (thn (hb pins s1 σ H1 _ I1 q1) fun u s2 ⟨y, H2, I2, r2, q2⟩ =>
    thn (ho pins s2 σ H2 x y v u _ I2 r1 r2 q2) fun d s3 ⟨z, H3, I3, r3, k, e, q3⟩ => ?_)) hm
  subst e
  cases r3
  refine wpAny_truthy_bool ?_
  cases k with
  | false =>
    obtain ⟨k', e', q'⟩ := q3
    cases e'
    exact ite_ff ⟨H3, I3, q'⟩
  | true =>
    refine ite_tt (test_last (thn (hc pins s3 σ H3 _ I3 q3) fun w' s4 ⟨z', H4, I4, r4, q4⟩ => thn (ho' pins s4 σ H4 y z' u w' _ I4 r2 r4 q4) fun d' s5 ⟨z2, H5, I5, r5, k2, e2, q5⟩ => ?_))
    subst e2
    cases r5
    exact wpAny_truthy_bool ⟨H5, I5, q5⟩
theorem line63 : (sizeLine : Nat) < 2 ^ 63 := by rw [sizeLine_eq]; decide
theorem vals1 {x : V} {us : List Value} (r : Vals [x] us) : ∃ u, us = [u] ∧ RelV x u := by
  cases r with
  | cons r1 r2 => cases r2; exact ⟨_, rfl, r1⟩
theorem vals2 {x y : V} {us : List Value} (r : Vals [x, y] us) : ∃ u w', us = [u, w'] ∧ RelV x u ∧ RelV y w' := by
  cases r with
  | cons r1 r2 =>
    cases r2 with
    | cons r3 r4 => cases r4; exact ⟨_, _, rfl, r1, r3⟩
theorem call_max2 (hc : X.calm = true) : CallR X (.builtin "max") (fun xs H Q => ∃ i j, xs = [.int i, .int j] ∧ Q (.int (if j > i then j else i)) H) := by
  intro pins s σ H xs us Q I r h
  obtain ⟨i, j, rfl, q⟩ := h
  obtain ⟨u, w', rfl, ⟨t, rfl⟩, ⟨t', rfl⟩⟩ := vals2 r
  refine max_two_ints (I.ok.hd hc) fun h' tk k => ⟨_, H, I.kept k, ?_, q⟩
  by_cases hj : j > i
  · rw [if_pos hj, if_pos hj]; exact ⟨_, rfl⟩
  · rw [if_neg hj, if_neg hj]; exact ⟨_, rfl⟩
theorem call_min2 (hc : X.calm = true) : CallR X (.builtin "min") (fun xs H Q => ∃ i j, xs = [.int i, .int j] ∧ Q (.int (if j < i then j else i)) H) := by
  intro pins s σ H xs us Q I r h
  obtain ⟨i, j, rfl, q⟩ := h
  obtain ⟨u, w', rfl, ⟨t, rfl⟩, ⟨t', rfl⟩⟩ := vals2 r
  refine min_two_ints (I.ok.hd hc) fun h' tk k => ⟨_, H, I.kept k, ?_, q⟩
  by_cases hj : j < i
  · rw [if_pos hj, if_pos hj]; exact ⟨_, rfl⟩
  · rw [if_neg hj, if_neg hj]; exact ⟨_, rfl⟩
end
end L2
namespace L2
open PySem PySem.Spec PyProof.Rows
structure ObjM (h : Heap) (x dx C : Addr) (mA : Str → Option Value) : Prop where
  obj : h.get? x = some (PySem.W.instObj C dx)
  ns : h.Ns1 dx mA
  ne : dx ≠ x
theorem lookIn_ns {h : Heap} {dx : Addr} {mA : Str → Option Value} (n : h.Ns1 dx mA) : ∃ od, h.get? dx = some od ∧ ∀ name, PySem.W.lookIn name od = some (mA name) := by
  obtain ⟨o, es, ep, ho, hd, hk, _, hm⟩ := n
  refine ⟨o, ho, fun name => ?_⟩
  have e := hm name
  unfold nsFind findBy at e
  rw [← Array.find?_toList] at e
  unfold PySem.W.lookIn
  rw [hd]
  dsimp only
  split
  · rename_i y q
    rw [q] at e
    exact congrArg some e
  · rename_i q
    rw [q] at e
    have a : es.toList.any (·.refKey) = false := by
      rw [List.any_eq_false]
      intro y hy
      obtain ⟨z, t, hkey⟩ := hk y (Array.mem_toList_iff.mp hy)
      simp [DictEntry.refKey, hkey]
    have a' : ¬ es.toList.any (·.refKey) = true := by rw [a]; exact Bool.false_ne_true
    rw [if_neg a']
    exact congrArg some e
theorem ObjM.look {h : Heap} {x dx C : Addr} {mA : Str → Option Value} (I : ObjM h x dx C mA) : ∃ od, PySem.W.InstAt h x (PySem.W.instObj C dx) C (some od) ∧ ∀ name, PySem.W.lookIn name od = some (mA name) :=
  let ⟨od, ho, hl⟩ := lookIn_ns I.ns
  ⟨od, ⟨I.obj, rfl, rfl, ho⟩, hl⟩
section
variable {prog : Program} {w : World} {A : Around} {E : Value → Shared → Prop} {s : Shared} {K : PySem.W.Frag} {x dx C f : Addr} {mA : Str → Option Value} {name : Str} {v : Value}
end
section
variable {P : Program} {w : World} {H H' : Hp} {h h' : Heap} {a C dx : Addr} {fs fs' : List (Str × V)}
theorem ins_get (hok : HOk P w H h) (e : H a = some (.ins C dx fs)) : ∃ mA, ObjM h a dx C mA ∧ (∀ f, RelO (fs.lookup f) (mA f)) ∧ PySem.Within mA (fs.map (·.1)) ∧ fs.length ≤ 1000 ∧ H dx = some (.own a) := by
  obtain ⟨d, z, ne, ob, mA, n, r, q⟩ := (show ObjOk P w H h a (.ins C dx fs) from hok a _ e)
  exact ⟨mA, ⟨ob, n, ne⟩, r, q, z, d⟩
end
structure Cls (K : PySem.W.Frag) (C : Addr) : Prop where
  pg : PySem.W.plainGet K C Str.empty = true
  hd : PySem.W.hasDictIn K C = true
  po : PySem.W.plainOver K C = true
  sa : PySem.W.findIn K (.ref C) "__setattr__" = some (some (.builtin "object.__setattr__"))
theorem Cls.get {K : PySem.W.Frag} {C : Addr} (c : Cls K C) (f : Str) : PySem.W.plainGet K C f = true := c.pg
structure Con (K : PySem.W.Frag) (C : Addr) (f : Str) (v : V) (u : Value) : Prop where
  at_ : PySem.W.findIn K (.ref C) f = some (some u)
  rel : RelV v u
  get : PySem.W.specialIn K u "__get__" = some none
  cp : PySem.W.copiedNames.contains f = false
structure Meth (K : PySem.W.Frag) (C : Addr) (m : Str) (f : Addr) : Prop where
  at_ : PySem.W.findIn K (.ref C) m = some (some (.ref f))
  fn : PySem.W.isFn K (.ref f) = true
  kp : PySem.W.keepIn K (.ref f) = true
section
variable {X : Cx} {pins : List (Addr × Obj)} {σ : St} {H : Hp} {s : Shared} {a C dx : Addr} {fs : List (Str × V)} {f : Str} {v : V} {A : Around} {E : Value → Shared → Prop}
end
section
variable {X : Cx} {o e value : Expr} {f : Str} {pos pos' tpos : Pos} {ta tv : TE}
end
section
variable {X : Cx} {pins : List (Addr × Obj)} {σ : St} {H : Hp} {s : Shared} {A : Around} {E : Value → Shared → Prop} {Q : Value → Shared → Prop} {c : Value} {b : Bool}
inductive TyOf (K : PySem.W.Frag) (H : Hp) : V → Value → Prop where
  | non : TyOf K H .non (.type "NoneType")
  | bl (x : Bool) : TyOf K H (.bl x) (.type "bool")
  | int (i : Int) : TyOf K H (.int i) (.type "int")
  | str (x : Str) : TyOf K H (.str x) (.type "str")
  | flt (x : UInt64) : TyOf K H (.flt x) (.type "float")
  | lst {a : Addr} {xs : List V} (e : H a = some (.lst xs)) : TyOf K H (.ref a) (.type "list")
  | frz {a : Addr} {o : Obj} {xs : List V} (e : H a = some (.frz o (.lst xs))) : TyOf K H (.ref a) (.type "list")
  | tup {a : Addr} {xs : List V} (e : H a = some (.tup xs)) : TyOf K H (.ref a) (.type "tuple")
  | dK {a : Addr} {kvs : List (Key × V)} (e : H a = some (.dK kvs)) : TyOf K H (.ref a) (.type "dict")
  | dT {a : Addr} {kvs : List (List Key × V)} (e : H a = some (.dT kvs)) : TyOf K H (.ref a) (.type "dict")
  | ins {a C dx : Addr} {fs : List (Str × V)} (e : H a = some (.ins C dx fs)) (cl : Cls K C) (ha : PySem.W.findIn K (.ref C) "__class__" = some (some (.builtin "object.__class__")))
      (hn : PySem.W.specialIn K (.builtin "object.__class__") "__get__" = some (some (.builtin "getset_descriptor.__get__"))) (htk : PySem.W.takesIn K (.builtin "object.__class__") = some true)
      (hm : PySem.W.mroIn K C (.type "object") = some true) : TyOf K H (.ref a) (.ref C)
theorem isinst_ok {x : V} {u t : Value} (I : Inv X pins σ H s) (rx : RelV x u) (ty : TyOf X.K H x t) (e : PySem.W.kitOne X.K t c = some b) (h : ∀ tk, Q (.bool b) { s with toks := tk }) :
    wpAny (model X.prog X.w) A (call (.builtin "isinstance") [u, c]) Q E s := by
  cases ty with
  | non => cases (show u = Value.none from rx); exact PySem.W.kia_one PySem.W.kitx_none I.kIn True.intro e (fun z => nomatch z) h
  | bl y => cases (show u = Value.bool y from rx); exact PySem.W.kia_one PySem.W.kitx_bool I.kIn True.intro e (fun z => nomatch z) h
  | int i => obtain ⟨t, q⟩ := (show ∃ t, u = Value.int i t from rx); cases q; exact PySem.W.kia_one PySem.W.kitx_int I.kIn True.intro e (fun z => nomatch z) h
  | str y => obtain ⟨t, q⟩ := (show ∃ t, u = Value.str y t from rx); cases q; exact PySem.W.kia_one PySem.W.kitx_str I.kIn True.intro e (fun z => nomatch z) h
  | flt y => obtain ⟨t, q⟩ := (show ∃ t, u = Value.float y t from rx); cases q; exact PySem.W.kia_one PySem.W.kitx_float I.kIn True.intro e (fun z => nomatch z) h
  | @lst a xs ea =>
    cases (show u = Value.ref a from rx)
    obtain ⟨_, _, n, _, h1⟩ := (show ObjOk X.prog X.w H s.heap a (.lst xs) from I.hok a _ ea)
    exact PySem.W.kia_one PySem.W.kitx_list I.kIn ⟨_, h1, rfl⟩ e (fun z => nomatch z) h
  | @frz a ob xs ea =>
    cases (show u = Value.ref a from rx)
    obtain ⟨_, _, _, n, _, h1⟩ := (show ObjOk X.prog X.w H s.heap a (.frz ob (.lst xs)) from I.hok a _ ea)
    exact PySem.W.kia_one PySem.W.kitx_list I.kIn ⟨_, h1, rfl⟩ e (fun z => nomatch z) h
  | @tup a xs ea =>
    cases (show u = Value.ref a from rx)
    obtain ⟨_, _, _, p⟩ := (show ObjOk X.prog X.w H s.heap a (.tup xs) from I.hok a _ ea)
    obtain ⟨o, h1, h2, _⟩ := p
    exact PySem.W.kia_one PySem.W.kitx_tuple I.kIn ⟨o, h1, h2⟩ e (fun z => nomatch z) h
  | @dK a kvs ea =>
    cases (show u = Value.ref a from rx)
    obtain ⟨_, _, vs, _, p⟩ := (show ObjOk X.prog X.w H s.heap a (.dK kvs) from I.hok a _ ea)
    obtain ⟨o, es, ep, h1, h2, _⟩ := p
    exact PySem.W.kia_one PySem.W.kitx_dict I.kIn ⟨o, h1, h2.1⟩ e (fun z => nomatch z) h
  | @dT a kvs ea =>
    cases (show u = Value.ref a from rx)
    obtain ⟨_, _, xs, _, o, es, ep, h1, h2, _⟩ := (show ObjOk X.prog X.w H s.heap a (.dT kvs) from I.hok a _ ea)
    exact PySem.W.kia_one PySem.W.kitx_dict I.kIn ⟨o, h1, h2.1⟩ e (fun z => nomatch z) h
  | @ins a C dx fs ea cl ha hn htk hm =>
    cases (show u = Value.ref a from rx)
    obtain ⟨mA, O, _⟩ := ins_get I.hok ea
    obtain ⟨od, J, _⟩ := O.look
    exact PySem.W.kia_one (PySem.W.kitx_own (cl.get _) cl.hd ha hn htk hm) I.kIn J e (fun z => nomatch z) h
end
end L2
namespace L2
open PySem PySem.Spec PyProof.Rows
structure Room (k : Nat) (A : Around) : Prop where
  hd : A.handled = none
  dp : A.depth + k + 5 < recursionLimit
  un : A.units + 16 * k + 200 < cLine
  gd : A.guards = some []
theorem Room.mono {j k : Nat} {A : Around} (r : Room k A) (h : j ≤ k) : Room j A := ⟨r.hd, by have := r.dp; omega, by have := r.un; omega, r.gd⟩
theorem Room.deeper {k : Nat} {A : Around} (r : Room (k + 1) A) (env : Env) : Room k (A.deeper env) :=
  ⟨r.hd, by have := r.dp; show A.depth + 1 + k + 5 < _; omega, by have := r.un; show A.units + 3 + 16 * k + 200 < _; omega, r.gd⟩
theorem Room.in1 {k : Nat} {A : Around} (r : Room (k + 1) A) : Room k A.in1 :=
  ⟨r.hd, by have := r.dp; show A.depth + k + 5 < _; omega, by have := r.un; show A.units + 1 + 16 * k + 200 < _; omega, r.gd⟩
theorem Room.depth {k : Nat} {A : Around} (r : Room k A) : A.depth < recursionLimit := by have := r.dp; omega
theorem Room.units {k : Nat} {A : Around} (r : Room k A) : A.units + 64 < cLine := by have := r.un; omega
def tNil : TA := fun _ H Q => Q [] H
def tCons (ta : TE) (tr : TA) : TA := fun σ H Q => ta σ H fun x H1 => tr σ H1 fun xs H2 => Q (x :: xs) H2
section
variable {X : Cx} {e : Expr} {es : List Expr} {te : TE} {t : TA} {pos : Pos}
theorem pa_nil : PA X [] tNil := fun _ _ _ _ H Q I h => Calls.spliced_nil ⟨[], H, I, .nil, h⟩
theorem pa_cons (ha : PE X e te) (hr : PA X es t) (hs : starEach (e :: es) X.env = (false, eval e X.env) :: starEach es X.env := by rfl) : PA X (e :: es) (tCons te t) := by
  intro pos pins s σ H Q I h
  rw [hs]
  show wpAny _ _ (spliced ((false, eval e X.env) :: backTo pos (starEach es X.env))) _ _ s
  refine Calls.spliced_cons (thn (ha pins s σ H _ I h) fun u s1 ⟨x, H1, I1, r1, q1⟩ => ?_)
  exact thn (hr pos pins s1 σ H1 _ I1 q1) fun us s2 ⟨xs, H2, I2, r2, q2⟩ => ⟨x :: xs, H2, I2, .cons r1 r2, q2⟩
def tTup (t : TA) : TE := fun σ H Q => t σ H fun xs H1 => xs.length ≤ sizeLine ∧ ∀ p, H1 p = none → Q (.ref p) (upd H1 p (.tup xs))
def tLst (t : TA) : TE := fun σ H Q => t σ H fun xs H1 => xs.length ≤ sizeLine ∧ ∀ p, H1 p = none → Q (.ref p) (upd H1 p (.lst xs))
theorem pe_tup {x1} (h : PA X es t) : PE X (.Tuple es x1 pos) (tTup t) := by
  intro pins s σ H Q I hq
  refine wpAny_Tuple_spliced (thn (h pos pins s σ H _ I hq) fun us s1 ⟨xs, H1, I1, r, z, q⟩ => ⟨by rw [← r.length]; exact z, ?_⟩)
  have hf : H1 s1.heap.objs.size = none := I1.hok.fresh (Nat.le_refl _)
  refine ⟨.ref s1.heap.objs.size, upd H1 s1.heap.objs.size (.tup xs), I1.laid (t' := s1.toks) (fun b u e => Heap.get?_push_of_some _ e) (Nat.le_refl _) ?_, rfl, q _ hf⟩
  exact ⟨z, us, r, ⟨_, Heap.get?_push_size _ rfl, rfl, _, rfl⟩⟩
theorem pe_lst (h : PA X es t) : PE X (.List es pos) (tLst t) := by
  intro pins s σ H Q I hq
  refine wpAny_List_spliced (thn (h pos pins s σ H _ I hq) fun us s1 ⟨xs, H1, I1, r, z, q⟩ => ⟨by rw [← r.length]; exact z, ?_⟩)
  have hf : H1 s1.heap.objs.size = none := I1.hok.fresh (Nat.le_refl _)
  refine ⟨.ref s1.heap.objs.size, upd H1 s1.heap.objs.size (.lst xs), I1.laid (t' := s1.toks) (fun b u e => Heap.get?_push_of_some _ e) (Nat.le_refl _) ?_, rfl, q _ hf⟩
  exact ⟨z, us, 0, r, Heap.get?_push_size _ rfl⟩
end
abbrev Sp := List V → Hp → VK → XK → Prop
abbrev CXT := List Env → Hp → Shared → XK → Value → Shared → Prop
structure Env0 (P : Program) (w : World) (K : PySem.W.Frag) (mg : Str → Option Value) (base : Heap) (A : Around) (outer : List Env) (s : Shared) (H : Hp) : Prop where
  frames : A.frames = some outer
  mod : Mod K mg base
  bs : ∀ b o, base.get? b = some o → s.heap.get? b = some o ∧ H b = none
  bsz : base.objs.size ≤ s.heap.objs.size
  funs : s.heap.FunFrames base outer
  frf : ∀ b ∈ frs outer, H b = none
  hok : HOk P w H s.heap
  bare : AllBare s.gens
def CE (outer : List Env) (P : Program) (w : World) (H : Hp) (s : Shared) (Q : VK) (u : Value) (s' : Shared) : Prop :=
  ∃ v H', s'.os = s.os ∧ AllBare s'.gens ∧ Un (frs outer) [] H H' s.heap s'.heap ∧ HOk P w H' s'.heap ∧ RelV v u ∧ Q v H'
def CR (CX : CXT) (outer : List Env) (P : Program) (w : World) (H : Hp) (s : Shared) (Q : VK) (E : XK) (r : Result) (s' : Shared) : Prop :=
  match r with
  | .ok (.ret u) => CE outer P w H s Q u s'
  | .ok _ => False
  | .error e => CX outer H s E e s'
structure FnOk (P : Program) (w : World) (K : PySem.W.Frag) (mg : Str → Option Value) (base : Heap) (CX : CXT) (k : Nat) (f : Addr) (fd : FuncData) (ps : List Str) (sp : Sp) : Prop where
  len : ∀ vs H Q E, sp vs H Q E → vs.length = ps.length
  run : ∀ (A : Around) (outer : List Env) (s : Shared) (H : Hp) (args : Args) (us : List Value) (vs : List V) (Q : VK) (E : XK), Room k A → Env0 P w K mg base A outer s H → BindsTo s fd args (ps.zip us) → Vals vs us → sp vs H Q E →
    codeAny (model P w) A (.call (.ref f) args) (CR CX outer P w H s Q E) s
theorem FnOk.mono {P : Program} {w : World} {K : PySem.W.Frag} {mg : Str → Option Value} {base : Heap} {CX : CXT} {j k : Nat} {f : Addr} {fd : FuncData} {ps : List Str} {sp : Sp} (F : FnOk P w K mg base CX j f fd ps sp) (h : j ≤ k) :
    FnOk P w K mg base CX k f fd ps sp := ⟨F.len, fun A outer s H args us vs Q E hr => F.run A outer s H args us vs Q E (hr.mono h)⟩
theorem FnOk.imp {P : Program} {w : World} {K : PySem.W.Frag} {mg : Str → Option Value} {base : Heap} {CX : CXT} {k : Nat} {f : Addr} {fd : FuncData} {ps : List Str} {sp sp' : Sp} (F : FnOk P w K mg base CX k f fd ps sp)
    (h : ∀ vs H Q E, sp' vs H Q E → sp vs H Q E) : FnOk P w K mg base CX k f fd ps sp' :=
  ⟨fun vs H Q E q => F.len vs H Q E (h _ _ _ _ q), fun A outer s H args us vs Q E hr he hb hv hs => F.run A outer s H args us vs Q E hr he hb hv (h _ _ _ _ hs)⟩
theorem Env0.in1 {P : Program} {w : World} {K : PySem.W.Frag} {mg : Str → Option Value} {base : Heap} {A : Around} {outer : List Env} {s : Shared} {H : Hp} (e : Env0 P w K mg base A outer s H) :
    Env0 P w K mg base A.in1 outer s H := ⟨e.frames, e.mod, e.bs, e.bsz, e.funs, e.frf, e.hok, e.bare⟩
section
variable {X : Cx} {pins : List (Addr × Obj)} {σ : St} {H : Hp} {s s' : Shared}
theorem Inv.env0 (I : Inv X pins σ H s) : Env0 X.prog X.w X.K X.mg X.base X.A X.stack s H :=
  ⟨I.ok.frames, I.ok.mod, I.bs, Nat.le_trans I.ok.bsz I.sz, I.stack, I.stkFree, I.hok, I.bare⟩
theorem Inv.after {Q : VK} {u : Value} (I : Inv X pins σ H s) (h : CE X.stack X.prog X.w H s Q u s') : EP X pins σ Q u s' := by
  obtain ⟨v, H', os, bare, un, hok, r, q⟩ := h
  obtain ⟨hh, g, d, t, os'⟩ := s'
  obtain rfl : os' = s.os := os
  exact ⟨v, H', I.call (h' := hh) (g' := g) (d' := d) (t' := t) (ch := []) un hok bare (fun b z => absurd z (by simp)), r, q⟩
end
def tCall (sp : Sp) (dvs : List V) (E : XK) (t : TA) : TE := fun σ H Q => t σ H fun vs H1 => sp (vs ++ dvs) H1 Q E
def Binds (K : PySem.W.Frag) (fd : FuncData) (ps : List Str) (ds : List Value) : Prop :=
  ∀ (s : Shared) (us : List Value), K.In s.heap → (us ++ ds).length = ps.length → BindsTo s fd ⟨us, []⟩ (ps.zip (us ++ ds))
theorem Binds.all {K : PySem.W.Frag} {fd : FuncData} {ps : List Str} (h : ∀ us : List Value, us.length = ps.length → bindArgs fd ⟨us, []⟩ = pure (ps.zip us)) : Binds K fd ps [] := fun s us _ hl => by
  rw [List.append_nil] at hl ⊢
  exact .of_eq (h us hl)
def Passes (CX : CXT) (X : Cx) (E : XK) : Prop := ∀ (pins : List (Addr × Obj)) (σ : St) (H : Hp) (s : Shared) (e : Value) (s' : Shared), Inv X pins σ H s → CX X.stack H s E e s' → X.xe e s'
section
variable {X : Cx} {CX : CXT} {k : Nat} {f C : Addr} {fd : FuncData} {ps : List Str} {sp : Sp} {dvs : List V} {ds : List Value} {E : XK} {x m : Str} {p pos apos : Pos} {e o : Expr} {es : List Expr} {ta : TE} {t : TA}
theorem run_fn {pins : List (Addr × Obj)} {σ : St} {H : Hp} {s : Shared} {Q : VK} {us : List Value} {vs : List V} (F : FnOk X.prog X.w X.K X.mg X.base CX k f fd ps sp) (hr : Room k X.A) (hb : Binds X.K fd ps ds) (hd : Vals dvs ds) (hx : Passes CX X E)
    (I : Inv X pins σ H s) (r : Vals vs us) (h : sp (vs ++ dvs) H Q E) : wpAny (model X.prog X.w) X.A (call (.ref f) us) (EP X pins σ Q) X.xe s := by
  have r2 : Vals (vs ++ dvs) (us ++ ds) := r.append hd
  have hl : (us ++ ds).length = ps.length := by rw [← r2.length]; exact F.len _ _ _ _ h
  refine wpAny_call (codeAny_mono (F.run X.A X.stack s H ⟨us, []⟩ (us ++ ds) (vs ++ dvs) Q E hr I.env0 (hb s us I.kIn hl) r2 h) fun r s' hq => ?_)
  cases r with
  | error e => exact hx pins σ H s e s' I hq
  | ok fl =>
    cases fl with
    | ret u => exact I.after hq
    | next => exact False.elim hq
    | brk => exact False.elim hq
    | cont => exact False.elim hq
theorem pe_call (F : FnOk X.prog X.w X.K X.mg X.base CX k f fd ps sp) (hr : Room k X.A) (hg : Gl X x) (hm : X.mg x = some (.ref f)) (hk : PySem.W.keepIn X.K (.ref f) = true) (hb : Binds X.K fd ps ds) (hd : Vals dvs ds) (hx : Passes CX X E)
    (ha : PA X (e :: es) t) (hdb : (x == ("__debug__" : Str)) = false := by decide) (he : starEach (e :: es) X.env = (false, eval e X.env) :: starEach es X.env := by rfl) (hpl : (backTo pos (starEach es X.env)).any (·.1) = false := by rfl) :
    PE X (.Call (.Name x p) (e :: es) [] pos) (tCall sp dvs E t) := by
  intro pins s σ H Q I h
  refine wpAny_Call_Name_kw (ld_glob I hg hm ?_ hdb)
  refine PySem.W.callWith_K (h₀ := X.base) I.ok.mod.kin hk (thn (ha pos pins s σ H _ I h) fun us s1 ⟨vs, H1, I1, r, q⟩ => ⟨I1.kIn, ?_⟩) he hpl
  exact run_fn F hr hb hd hx I1 r q
structure Mk (K : PySem.W.Frag) (C f : Addr) : Prop where
  makes : PySem.W.makesIn K C = true
  init : PySem.W.findIn K (.ref C) "__init__" = some (some (.ref f))
  fn : PySem.W.isFn K (.ref f) = true
  kp : PySem.W.keepIn K (.ref C) = true
end
section
variable {X : Cx} {CX : CXT} {k : Nat} {f C : Addr} {fd : FuncData} {ps ks : List Str} {sp : Sp} {E : XK} {x m : Str} {p pos apos kpos : Pos} {e o : Expr} {es : List Expr} {kws : List Keyword} {te ta : TE} {t tk : TA} {nm : Option Str}
structure KBinds (K : PySem.W.Frag) (fd : FuncData) (ps ks : List Str) (g : List Value → List Value → List Value) (gV : List V → List V → List V) : Prop where
  to : ∀ (s : Shared) (us ws : List Value), K.In s.heap → (g us ws).length = ps.length → BindsTo s fd ⟨us, ks.zip ws⟩ (ps.zip (g us ws))
  rel : ∀ {vs : List V} {us : List Value} {zs : List V} {ws : List Value}, Vals vs us → Vals zs ws → Vals (gV vs zs) (g us ws)
variable {g : List Value → List Value → List Value} {gV : List V → List V → List V}
end
structure FnScope (N P : List Str) (sc : Scope) : Prop where
  kind : sc.kind = .function
  co : sc.isCoroutine = false
  gen : sc.isGenerator = false
  nd : N.Nodup
  pre : N.take P.length = P
  par : ∀ x ∈ P, sc.names.lookup x = some .local ∨ sc.names.lookup x = some .cell
  nofree : ∀ y ∈ sc.names, y.2 ≠ .free
theorem bindL_out {kindOf : Str → Option NameKind} {x : Str} : ∀ {binds : List (Str × Value)} {m : Str → Option Value}, (∀ v, (x, v) ∉ binds) → bindL kindOf binds m x = m x
  | [], _, _ => rfl
  | (n, v) :: r, m, h => by
    unfold bindL
    rw [bindL_out fun w hw => h w (List.mem_cons_of_mem _ hw)]
    split
    · have : x ≠ n := by rintro rfl; exact h v List.mem_cons_self
      simp [this]
    · rfl
theorem bindC_out {kindOf : Str → Option NameKind} {x : Str} : ∀ {binds : List (Str × Value)} {m : Str → Option Value}, (∀ v, (x, v) ∉ binds) → bindC kindOf binds m x = m x
  | [], _, _ => rfl
  | (n, v) :: r, m, h => by
    unfold bindC
    rw [bindC_out fun w hw => h w (List.mem_cons_of_mem _ hw)]
    split
    · rfl
    · have : x ≠ n := by rintro rfl; exact h v List.mem_cons_self
      simp [this]
theorem bindL_get {kindOf : Str → Option NameKind} {x : Str} {v : Value} : ∀ {P : List Str} {vs : List Value} {i : Nat} {m : Str → Option Value}, P.Nodup → P[i]? = some x → vs[i]? = some v → kindOf x = some .local →
    bindL kindOf (P.zip vs) m x = some v
  | [], _, _, _, _, h, _, _ => by simp at h
  | _ :: _, [], _, _, _, _, h, _ => by simp at h
  | p :: P, w :: vs, 0, m, nd, h1, h2, hk => by
    simp at h1 h2; subst h1; subst h2
    show bindL kindOf ((p, w) :: P.zip vs) m p = _
    unfold bindL
    rw [bindL_out fun v hv => (List.nodup_cons.mp nd).1 (List.of_mem_zip hv).1, if_pos hk]
    simp
  | p :: P, w :: vs, i + 1, m, nd, h1, h2, hk => by
    show bindL kindOf ((p, w) :: P.zip vs) m x = _
    unfold bindL
    exact bindL_get (i := i) (List.nodup_cons.mp nd).2 (by simpa using h1) (by simpa using h2) hk
theorem bindC_get {kindOf : Str → Option NameKind} {x : Str} {v : Value} : ∀ {P : List Str} {vs : List Value} {i : Nat} {m : Str → Option Value}, P.Nodup → P[i]? = some x → vs[i]? = some v → kindOf x ≠ some .local →
    bindC kindOf (P.zip vs) m x = some v
  | [], _, _, _, _, h, _, _ => by simp at h
  | _ :: _, [], _, _, _, _, h, _ => by simp at h
  | p :: P, w :: vs, 0, m, nd, h1, h2, hk => by
    simp at h1 h2; subst h1; subst h2
    show bindC kindOf ((p, w) :: P.zip vs) m p = _
    unfold bindC
    rw [bindC_out fun v hv => (List.nodup_cons.mp nd).1 (List.of_mem_zip hv).1, if_neg hk]
    simp
  | p :: P, w :: vs, i + 1, m, nd, h1, h2, hk => by
    show bindC kindOf ((p, w) :: P.zip vs) m x = _
    unfold bindC
    exact bindC_get (i := i) (List.nodup_cons.mp nd).2 (by simpa using h1) (by simpa using h2) hk
def start (N : List Str) (vs : List V) : St := vs.map some ++ List.replicate (N.length - vs.length) none
def cxOf (CX : CXT) (P : Program) (w : World) (K : PySem.W.Frag) (mg : Str → Option Value) (base : Heap) (N : List Str) (qual : Str) (scope : Scope) (f : Addr) (cd : Value) (A : Around) (outer : List Env) (s : Shared) (H : Hp) (E : XK) : Cx where
  prog := P
  w := w
  K := K
  mg := mg
  base := base
  A := A.deeper (envOfC qual scope s.heap.objs.size f cd)
  N := N
  s₀ := s
  H₀ := H
  env := envOfC qual scope s.heap.objs.size f cd
  outer := outer
  stack := envOfC qual scope s.heap.objs.size f cd :: outer
  ex := []
  calm := true
  fn := fun _ => true
  pn := []
  xe := fun e s' => wpAny (model P w) (A.deeper (envOfC qual scope s.heap.objs.size f cd)) (leaving (envOfC qual scope s.heap.objs.size f cd) e) (fun _ s'' => CX outer H s E e s'') (fun e' s'' => CX outer H s E e' s'') s'
theorem cell_has {sc : Scope} {n : Nat} {x : Str} (h : sc.names.lookup x = some .cell) : ∃ c, (cellsFrom n sc.names []).lookup x = some c := by
  have q := PySem.W.cellsFrom_some sc.names n [] (.inl h)
  exact Option.isSome_iff_exists.mp q
theorem inv_start {CX : CXT} {P : Program} {w : World} {K : PySem.W.Frag} {mg : Str → Option Value} {base : Heap} {N ps : List Str} {qual : Str} {scope : Scope} {f : Addr} {cd : Value} {A : Around} {outer : List Env} {s s1 : Shared} {H : Hp} {E : XK} {us : List Value} {vs : List V}
    (S : FnScope N ps scope) (hd : A.handled = none) (e0 : Env0 P w K mg base A outer s H) (hl : vs.length = ps.length) (r : Vals vs us)
    (x : InCallC s s.heap.objs.size (bindL (envOfC qual scope s.heap.objs.size f cd).kindOf (ps.zip us) fun _ => none) (cellsFrom (s.heap.objs.size + 1) scope.names []) (bindC (envOfC qual scope s.heap.objs.size f cd).kindOf (ps.zip us) fun _ => none) s1) :
    Inv (cxOf CX P w K mg base N qual scope f cd A outer s H E) [] (start N vs) H s1 := by
  have hpl : ps.length ≤ N.length := by have := congrArg List.length S.pre; rw [List.length_take] at this; omega
  obtain ⟨h1, tk, rfl, hk⟩ := x.done
  have noA : ∀ b : Addr, b ∉ (cxOf CX P w K mg base N qual scope f cd A outer s H E).ex := fun b z => absurd (show b ∈ ([] : List Addr) from z) (by simp)
  refine ⟨⟨e0.mod, S.kind, rfl, rfl, Nat.le_refl _, fun y z c h1 h2 => ?_, fun y hy => ?_, fun y c _ h => ?_, fun _ => hd, Around.frames_deeper e0.frames, .inr ⟨rfl, rfl⟩, fun b z => absurd z (noA b), e0.bs, e0.bsz, fun b _ _ => noA b, fun b z => absurd z (noA b), e0.funs, e0.frf⟩,
    rfl, e0.bare, Un.kept hk, ⟨_, x.toInCall.ns, fun i y v h1 h2 h3 => ?_⟩, fun y c h => ⟨_, x.cell y c h⟩, e0.hok.fresh (Nat.le_refl _), fun y c h => ?_, fun p hp => absurd (show p ∈ ([] : List (Addr × Obj)) from hp) (by simp), e0.hok.kept hk, ?_⟩
  · exact name_of_addr x.apart (PySem.mem_of_lookup h1) (PySem.mem_of_lookup h2)
  · have hy : scope.names.lookup y = some .cell ∨ scope.names.lookup y = some .free := hy
    rcases hy with hy | hy
    · exact cell_has hy
    · exact absurd rfl (S.nofree _ (PySem.mem_of_lookup hy))
  · exact Nat.le_of_lt (x.above y c (PySem.mem_of_lookup h))
  · have hi : i < vs.length := by
      unfold start at h2
      by_cases hi : i < vs.length
      · exact hi
      · rw [List.getElem?_append_right (by simpa using hi)] at h2
        rw [List.getElem?_replicate] at h2
        split at h2 <;> cases h2
    have ha : vs[i]? = some v := by
      unfold start at h2
      rw [List.getElem?_append_left (by simpa using hi), List.getElem?_map] at h2
      cases e : vs[i]? with
      | none => rw [e] at h2; cases h2
      | some a => rw [e] at h2; cases h2; rfl
    obtain ⟨u, hu, rv⟩ := r.get ha
    have hp : ps[i]? = some y := by
      rw [← S.pre, List.getElem?_take_of_lt (by omega)]; exact h1
    have ndP : ps.Nodup := by rw [← S.pre]; exact S.nd.sublist (List.take_sublist _ _)
    refine ⟨u, rv, ?_⟩
    rcases S.par y (List.mem_of_getElem? hp) with k | k
    · exact .inl ⟨k, bindL_get ndP hp hu k⟩
    · obtain ⟨c, e⟩ := cell_has (n := s.heap.objs.size + 1) k
      refine .inr ⟨.inl k, c, e, ?_⟩
      have q := x.cell y c e
      rw [bindC_get ndP hp hu (by show scope.names.lookup y ≠ _; rw [k]; decide)] at q
      exact q
  · exact e0.hok.fresh (Nat.le_of_lt (x.above y c (PySem.mem_of_lookup h)))
  · unfold start
    show _ = N.length
    rw [List.length_append, List.length_map, List.length_replicate]
    omega
theorem fn_of {CX : CXT} {P : Program} {w : World} {K : PySem.W.Frag} {mg : Str → Option Value} {base : Heap} {k : Nat} {f : Addr} {name qual : Str} {params : Arguments} {body : List Stmt} {scope : Scope} {dV kV doc pm cdv ct oc : Value} {an od : Option Addr}
    {osl : Array (Option Value)} {N ps : List Str} {sp : Sp} (lk : K.lookup f = some ⟨oc, od, .func (PySem.W.fnOf name qual params body scope dV kV doc pm an cdv ct), osl⟩) (hcd : PySem.W.codeIn K cdv qual = true) (S : FnScope N ps scope)
    (len : ∀ vs H Q E, sp vs H Q E → vs.length = ps.length)
    (hbody : ∀ (A : Around) (outer : List Env) (s : Shared) (H : Hp) (vs : List V) (Q : VK) (E : XK), Room k (A.deeper (envOfC qual scope s.heap.objs.size f cdv)) → sp vs H Q E →
      ∃ t, PSs (cxOf CX P w K mg base N qual scope f cdv A outer s H E) body t ∧ t { nx := fun _ H' => Q .non H', rt := Q } (start N vs) H) :
    FnOk P w K mg base CX (k + 1) f (PySem.W.fnOf name qual params body scope dV kV doc pm an cdv ct) ps sp := by
  refine ⟨len, fun A outer s H args us vs Q E hr e0 hb r hsp => ?_⟩
  have hl := len _ _ _ _ hsp
  have KX : K.In s.heap := e0.mod.kin.keeps fun b o e => (e0.bs b o e).1
  have lim : s.heap.NoLimit := e0.mod.nolimit.keeps fun b o e => (e0.bs b o e).1
  have hkind : ∀ y ∈ ps.zip us, scope.names.lookup y.1 = some .local ∨ (scope.names.lookup y.1 = some .cell ∧ ((cellsFrom (s.heap.objs.size + 1) scope.names []).lookup y.1).isSome = true) := fun ⟨n, v⟩ hy => by
    rcases S.par n (List.of_mem_zip hy).1 with q | q
    · exact .inl q
    · exact .inr ⟨q, PySem.W.cellsFrom_some _ _ _ (.inl q)⟩
  refine codeAny_call_function hr.depth (KX _ _ lk) rfl S.co S.gen rfl (PySem.W.codeRec_of KX hcd) (hb _ _ _ _ ?_)
  refine wpAny_newFunctionEnv_cells S.kind hkind fun env he s1 x => ?_
  subst he
  refine ⟨lim.keeps x.toInCall.keep, codeAny_func ?_⟩
  obtain ⟨t, ht, hq⟩ := hbody A outer s H vs Q E (hr.deeper _) hsp
  have I : Inv (cxOf CX P w K mg base N qual scope f cdv A outer s H E) [] (start N vs) H s1 := inv_start S hr.hd e0 hl r x
  refine wpAny_mono (ht [] s1 (start N vs) H _ I hq) (fun fl s' hs => ?_) fun e s' hs => hs
  have fin : ∀ {σ' : St} {H' : Hp} {v : V} {u : Value}, Inv (cxOf CX P w K mg base N qual scope f cdv A outer s H E) [] σ' H' s' → RelV v u → Q v H' → CE outer P w H s Q u s' :=
    fun {σ' H' v u} J rv q => ⟨v, H', J.os, J.bare, J.base, J.hok, rv, q⟩
  cases fl with
  | ret u =>
    obtain ⟨v, σ', H', J, rv, q⟩ := hs
    exact fin J rv q
  | next =>
    obtain ⟨σ', H', J, q⟩ := hs
    exact fin (v := V.non) (u := Value.none) J rfl q
  | brk =>
    obtain ⟨_, _, _, q⟩ := hs
    exact False.elim q
  | cont =>
    obtain ⟨_, _, _, q⟩ := hs
    exact False.elim q
end L2
namespace L2
open PySem PySem.Spec PyProof.Rows
section
variable {X : Cx} {x : Str} {p pos : Pos} {e : Expr} {es : List Expr} {t : TA} {id T : String} {r : List V → Hp → VK → Prop}
def tCB (r : List V → Hp → VK → Prop) (t : TA) : TE := fun σ H Q => t σ H fun vs H1 => r vs H1 Q
theorem pe_callB (hc : CallR X (.builtin id) r) (hg : Gl X x) (hm : X.mg x = none) (hv : bootBuiltins x = some (.builtin id)) (ha : PA X (e :: es) t) (hn : x ≠ "__name__" := by decide) (hdb : (x == ("__debug__" : Str)) = false := by decide)
    (he : starEach (e :: es) X.env = (false, eval e X.env) :: starEach es X.env := by rfl) (hpl : (backTo pos (starEach es X.env)).any (·.1) = false := by rfl) : PE X (.Call (.Name x p) (e :: es) [] pos) (tCB r t) := by
  intro pins s σ H Q I h
  refine wpAny_Call_Name_kw (ld_blt I hg hm hv ?_ hn hdb)
  exact PyProof.Rows.callWith_builtin1 (thn (ha pos pins s σ H _ I h) fun us s1 ⟨vs, H1, I1, r1, q1⟩ => hc pins s1 σ H1 vs us Q I1 r1 q1) he hpl
theorem pe_callTy (hc : CallR X (.type T) r) (hg : Gl X x) (hm : X.mg x = none) (hv : bootBuiltins x = some (.type T)) (ha : PA X (e :: es) t) (hn : x ≠ "__name__" := by decide) (hdb : (x == ("__debug__" : Str)) = false := by decide)
    (he : starEach (e :: es) X.env = (false, eval e X.env) :: starEach es X.env := by rfl) (hpl : (backTo pos (starEach es X.env)).any (·.1) = false := by rfl) : PE X (.Call (.Name x p) (e :: es) [] pos) (tCB r t) := by
  intro pins s σ H Q I h
  refine wpAny_Call_Name_kw (ld_blt I hg hm hv ?_ hn hdb)
  exact PyProof.Rows.callWith_type1 (thn (ha pos pins s σ H _ I h) fun us s1 ⟨vs, H1, I1, r1, q1⟩ => hc pins s1 σ H1 vs us Q I1 r1 q1) he hpl
end
end L2
namespace HT
open PySem PyProof.Rows
def lexLt : List Int → List Int → Bool
  | [], [] => false
  | [], _ :: _ => true
  | _ :: _, [] => false
  | x :: xs, y :: ys => if x = y then lexLt xs ys else decide (x < y)
theorem lexLt_cons (x y : Int) (xs ys : List Int) : lexLt (x :: xs) (y :: ys) = if x = y then lexLt xs ys else decide (x < y) := rfl
theorem lexLt_nil_nil : lexLt [] [] = false := rfl
theorem lexLt_nil_cons (y : Int) (ys : List Int) : lexLt [] (y :: ys) = true := rfl
theorem lexLt_cons_nil (x : Int) (xs : List Int) : lexLt (x :: xs) [] = false := rfl
theorem eqAt_int (A : Around) (s : Shared) (a : Int) (t : Tok) (c : Int) (u : Tok) : ∃ e, SeqAt.EqAt A s (.int a t) (.int c u) e ∧ (e = true ↔ a = c) :=
  ⟨(a == c), SeqAt.EqAt.int_int a t c u, by simp⟩
theorem rcLt_int (A : Around) (s : Shared) (a : Int) (t : Tok) (c : Int) (u : Tok) (prog : Program) (w : World) (E : Value → Shared → Prop) (Q : Value → Shared → Prop) (h : Q (.bool (decide (a < c))) s) :
    wpAny (model prog w) A (richCompare .Lt (.int a t) (.int c u)) Q E s :=
  (PyProof.Rows.lt_int h : wpAny (model prog w) A (compareOp .Lt (.int a t) (.int c u)) Q E s)
section
open PySem.SeqAt
open PySem.AutoSeq1 (wpAny_loadPart')
open PySem.MeetsSeq PySem.MeetsSeq2 PySem.MeetsSeq3
end
section
variable {prog : Program} {w : World} {A : Around} {E : Value → Shared → Prop} {s : Shared}
def sIx (n d : Nat) : Option Int → Nat
  | none => d
  | some v => if v < 0 then (v + (n : Int)).toNat else min v.toNat n
theorem sIx_none (n d : Nat) : sIx n d none = d := rfl
theorem sIx_nat (n d k : Nat) : sIx n d (some (k : Int)) = min k n := by
  show (if (k : Int) < 0 then ((k : Int) + (n : Int)).toNat else min (k : Int).toNat n) = min k n
  rw [if_neg (by omega), Int.toNat_natCast]
end
end HT
namespace L2
open PySem PySem.Spec PyProof.Rows
abbrev TO := St → Hp → (Option Int → Hp → Prop) → Prop
def PO (X : Cx) (e : Option Expr) (t : TO) : Prop :=
  ∀ (pins : List (Addr × Obj)) (s : Shared) (σ : St) (H : Hp) (Q : Option Int → Hp → Prop), Inv X pins σ H s → t σ H Q →
    wpAny (model X.prog X.w) X.A (evalPart e X.env) (fun u s' => ∃ o H', Inv X pins σ H' s' ∧ IsPart u o ∧ Q o H') X.xe s
def tNoPart : TO := fun _ H Q => Q none H
def tPart (t : TE) : TO := fun σ H Q => t σ H fun x H1 => ∃ i, x = .int i ∧ Q (some i) H1
theorem intsAre_of {ns : List Int} : ∀ {us : List Value}, Vals (ns.map V.int) us → IntsAre us ns := by
  induction ns with
  | nil => intro us r; rw [List.map_nil] at r; cases r; exact .nil
  | cons n ns ih =>
    intro us r
    rw [List.map_cons] at r
    cases r with
    | cons r1 r2 =>
      obtain ⟨t, e⟩ := r1
      subst e
      exact .cons n t (ih r2)
section
variable {X : Cx} {e : Expr} {te : TE} {lo hi : Option Expr} {tl th : TO} {pos p2 : Pos}
theorem po_none : PO X none tNoPart := by
  intro pins s σ H Q I h
  rw [evalPart_none]
  exact wpAny_pure ⟨none, H, I, .none, h⟩
theorem po_some (h : PE X e te) : PO X (some e) (tPart te) := by
  intro pins s σ H Q I hw
  rw [evalPart_some]
  refine thn (h pins s σ H _ I hw) fun u s1 ⟨x, H1, I1, r1, q1⟩ => ?_
  obtain ⟨i, rfl, q⟩ := q1
  obtain ⟨t, rfl⟩ := r1
  exact ⟨some i, H1, I1, .int i t, q⟩
def SlR (X : Cx) (r : V → Option Int → Option Int → Hp → VK → Prop) : Prop :=
  ∀ (pins : List (Addr × Obj)) (s : Shared) (σ : St) (H : Hp) (x : V) (v vl vu : Value) (lo hi : Option Int) (sl : Addr) (Q : VK), Inv X pins σ H s → RelV x v → s.heap.IsSliceOf sl vl vu .none → IsPart vl lo → IsPart vu hi → r x lo hi H Q →
    ∃ T id, typeLookup (.type T) "__getitem__" = pure (some (.builtin id)) ∧ s.TypeIs v T ∧ wpAny (model X.prog X.w) X.A (getItem v (.ref sl)) (EP X pins σ Q) X.xe s
def tSl (r : V → Option Int → Option Int → Hp → VK → Prop) (te : TE) (tl th : TO) : TE := fun σ H Q => te σ H fun x H1 => tl σ H1 fun l H2 => th σ H2 fun u H3 => r x l u H3 Q
theorem pe_slice {r : V → Option Int → Option Int → Hp → VK → Prop} (hr : SlR X r) (he : PE X e te) (hl : PO X lo tl) (hu : PO X hi th) : PE X (.Subscript e (.Slice lo hi none p2) pos) (tSl r te tl th) := by
  intro pins s σ H Q I h
  refine Subscript_ (thn (he pins s σ H _ I h) fun v s1 ⟨x, H1, I1, r1, q1⟩ => ?_)
  refine wpAny_Slice (thn (hl pins s1 σ H1 _ I1 q1) fun vl s2 ⟨l, H2, I2, pl, q2⟩ => thn (hu pins s2 σ H2 _ I2 q2) fun vu s3 ⟨u, H3, I3, pu, q3⟩ => ?_)
  rw [evalPart_none]
  refine wpAny_pure ?_
  have I4 : Inv X pins σ H3 { s3 with heap := s3.heap.push { cls := .type "slice", data := .fields #[vl, vu, .none] } } := I3.kept (t' := s3.toks) fun b ob q => Heap.get?_push_of_some _ q
  obtain ⟨T, id, hT, ht, hg⟩ := hr pins { s3 with heap := s3.heap.push { cls := .type "slice", data := .fields #[vl, vu, .none] } } σ H3 x v vl vu l u s3.heap.objs.size Q I4 r1 (Heap.IsSliceOf.new ..) pl pu q3
  show wpAny (model X.prog X.w) X.A (subscriptTail e (.Slice lo hi none p2) v (.ref s3.heap.objs.size)) (EP X pins σ Q) X.xe { s3 with heap := s3.heap.push { cls := .type "slice", data := .fields #[vl, vu, .none] } }
  exact tail_any (ops := [.ref s3.heap.objs.size, v]) ht hT hg (by with_unfolding_all rfl)
def cutV (xs : List V) (lo hi : Option Int) : List V := (xs.drop (HT.sIx xs.length 0 lo)).take (HT.sIx xs.length xs.length hi - HT.sIx xs.length 0 lo)
theorem cutV_length (xs : List V) (lo hi : Option Int) : (cutV xs lo hi).length ≤ xs.length := by
  unfold cutV
  rw [List.length_take, List.length_drop]
  omega
end
end L2
namespace L2
open PySem PySem.Spec PyProof.Rows
def ixN (n : Nat) (i : Int) : Option Nat := if 0 ≤ i then (if i < n then some i.toNat else none) else if -(n : Int) ≤ i then some (i + n).toNat else none
def atI {α : Type} (xs : List α) (i : Int) : Option α := (ixN xs.length i).bind fun j => xs[j]?
theorem ixN_seq {n : Nat} {i : Int} {j : Nat} (h : ixN n i = some j) : seqIndex? i n = some j ∧ j < n ∧ -(n : Int) ≤ i ∧ i < n := by
  unfold ixN at h
  by_cases h0 : 0 ≤ i
  · rw [if_pos h0] at h
    by_cases h1 : i < n
    · rw [if_pos h1] at h
      have e : i.toNat = j := Option.some.inj h
      exact ⟨by rw [seqIndex_of h0 h1, e], by omega, by omega, h1⟩
    · rw [if_neg h1] at h; cases h
  · rw [if_neg h0] at h
    by_cases h1 : -(n : Int) ≤ i
    · rw [if_pos h1] at h
      have e : (i + n).toNat = j := Option.some.inj h
      exact ⟨by rw [seqIndex_neg (by omega) h1, e], by omega, h1, by omega⟩
    · rw [if_neg h1] at h; cases h
theorem atI_get {α : Type} {xs : List α} {i : Int} {v : α} (h : atI xs i = some v) : ∃ j, seqIndex? i xs.length = some j ∧ xs[j]? = some v ∧ j < xs.length ∧ -(xs.length : Int) ≤ i ∧ i < xs.length := by
  unfold atI at h
  cases e : ixN xs.length i with
  | none => rw [e] at h; cases h
  | some j =>
    rw [e] at h
    obtain ⟨h1, h2, h3, h4⟩ := ixN_seq e
    exact ⟨j, h1, h, h2, h3, h4⟩
theorem atI_nat {α : Type} {xs : List α} {j : Nat} {v : α} (h : xs[j]? = some v) : atI xs (j : Int) = some v := by
  have hj : j < xs.length := (List.getElem?_eq_some_iff.mp h).1
  have e : ixN xs.length (j : Int) = some j := by
    unfold ixN
    rw [if_pos (by omega), if_pos (by omega)]; simp
  unfold atI; rw [e]; exact h
def PlainIx (b : Expr) : Prop := ∀ o i, subscripted b false o i = operate [o, i] (getItem o i)
def IxR (X : Cx) (r : R2) : Prop :=
  ∀ (value slice : Expr) (pins : List (Addr × Obj)) (s : Shared) (σ : St) (H : Hp) (x y : V) (v u : Value) (Q : VK), Inv X pins σ H s → RelV x v → RelV y u → r x y H Q →
    subscripted slice false v u = operate [v, u] (getItem v u) → wpAny (model X.prog X.w) X.A (subscriptTail value slice v u) (EP X pins σ Q) X.xe s
def MtR (X : Cx) (id : String) (r : V → List V → Hp → VK → Prop) : Prop :=
  ∀ (pins : List (Addr × Obj)) (s : Shared) (σ : St) (H : Hp) (x : V) (xs : List V) (v : Value) (us : List Value) (Q : VK), Inv X pins σ H s → RelV x v → Vals xs us → r x xs H Q →
    wpAny (model X.prog X.w) X.A (call (.builtin id) (v :: us)) (EP X pins σ Q) X.xe s
section
variable {X : Cx} {a b : Expr} {ta tb : TE} {pos : Pos}
theorem pe_ix {r : R2} (hr : IxR X r) (ha : PE X a ta) (hb : PE X b tb) (hs : PlainIx b) : PE X (.Subscript a b pos) (tOp r ta tb) := by
  intro pins s σ H Q I h
  exact Subscript_ (binT ha hb I h fun v u s2 x y H2 I2 rx ry q => hr a b pins s2 σ H2 x y v u Q I2 rx ry q (hs _ _))
def rIxL (K : PySem.W.Frag) : R2 := fun x y H Q => ∃ p xs i v, x = .ref p ∧ y = .int i ∧ SqL K H p xs ∧ atI xs i = some v ∧ Q v H
def rIxT (K : PySem.W.Frag) : R2 := fun x y H Q => ∃ p xs i v, x = .ref p ∧ y = .int i ∧ SqT K H p xs ∧ atI xs i = some v ∧ Q v H
theorem ix_list : IxR X (rIxL X.K) := by
  intro value slice pins s σ H x y v u Q I rx ry h hs
  obtain ⟨p, xs, i, z, rfl, rfl, hq, he, q⟩ := h
  cases rx
  obtain ⟨t, rfl⟩ := ry
  obtain ⟨its, r, pl, hz⟩ := I.list hq
  obtain ⟨j, h1, h2, h3, h4, h5⟩ := atI_get he
  obtain ⟨w, ew, rw'⟩ := r.get h2
  have hl := r.length
  have hn := line63
  have fin : EP X pins σ Q w s := ⟨z, H, I, rw', q⟩
  by_cases h0 : 0 ≤ i
  · have hj : i.toNat = j := by
      rw [seqIndex_of h0 h5] at h1
      exact Option.some.inj h1
    exact item_listR pl.isList h0 (by omega) (by rw [hj]; simpa using ew) fin hs
  · have hj : (i + (its.toArray.size : Int)).toNat = j := by
      rw [seqIndex_neg (by omega) h4] at h1
      rw [List.size_toArray, ← hl]
      exact Option.some.inj h1
    exact subscriptTail_builtinR (x := w) pl.isList.typeIs slot_list_getitem.lookup
      (wpAny_getItem_list_neg (Q := fun r s' => r = w ∧ EP X pins σ Q r s') pl.isList (by omega) (by rw [List.size_toArray] <;> omega) (by omega) (by rw [hj]; simpa using ew) ⟨rfl, fin⟩) hs
theorem ix_tup : IxR X (rIxT X.K) := by
  intro value slice pins s σ H x y v u Q I rx ry h hs
  obtain ⟨p, xs, i, z, rfl, rfl, hq, he, q⟩ := h
  cases rx
  obtain ⟨t, rfl⟩ := ry
  obtain ⟨its, r, pl, hz⟩ := I.tuple hq
  obtain ⟨j, h1, h2, h3, h4, h5⟩ := atI_get he
  obtain ⟨w, ew, rw'⟩ := r.get h2
  have hl := r.length
  have hn := line63
  have fin : EP X pins σ Q w s := ⟨z, H, I, rw', q⟩
  exact subscriptTail_builtinR (x := w) pl.typeIs slot_tuple_getitem.lookup
    (getItem_tuple (j := j) (Q := fun r s' => r = w ∧ EP X pins σ Q r s') pl (by omega) (by omega) (by rw [List.size_toArray, ← hl]; exact h1) (by simpa using ew) ⟨rfl, fin⟩) hs
theorem mapSeq_set (its : List Value) (n j : Nat) (u : Value) : Obj.mapSeq (·.setIfInBounds j u) { cls := .type "list", data := .seq its.toArray n } = { cls := .type "list", data := .seq (its.set j u).toArray n } := by
  simp [Obj.mapSeq]
theorem Inv.lst {pins : List (Addr × Obj)} {σ : St} {H : Hp} {s : Shared} {p : Addr} {xs : List V} (I : Inv X pins σ H s) (h : H p = some (.lst xs)) :
    ∃ (its : List Value) (n : Nat), Vals xs its ∧ s.heap.get? p = some { cls := .type "list", data := .seq its.toArray n } ∧ xs.length ≤ sizeLine := by
  obtain ⟨z, its, n, r, e⟩ := I.hok p _ h
  exact ⟨its, n, r, e, z⟩
theorem Inv.lstUpd {pins : List (Addr × Obj)} {σ : St} {H : Hp} {s : Shared} {p : Addr} {xs ys : List V} {its its' : List Value} {n n' : Nat} {f : Obj → Obj} (I : Inv X pins σ H s) (h : H p = some (.lst xs))
    (ho : s.heap.get? p = some { cls := .type "list", data := .seq its.toArray n }) (hf : f { cls := .type "list", data := .seq its.toArray n } = { cls := .type "list", data := .seq its'.toArray n' }) (r : Vals ys its') (hz : ys.length ≤ sizeLine) (t : Nat) :
    Inv X pins σ (upd H p (.lst ys)) { s with heap := s.heap.update p f, toks := t } := by
  have e : (s.heap.update p f).get? p = some { cls := .type "list", data := .seq its'.toArray n' } := by
    rw [Heap.get?_update_self f ho (by rw [hf] <;> rfl), hf]
  refine I.write (x := p) (e := p) (by rw [h]; trivial) (.inl rfl) (fun b u hb q => (Heap.get?_update_other _ _ (Ne.symm hb)).trans q) ⟨_, e⟩ ?_
  exact ⟨hz, its', n', r, e⟩
def rSetL : V → V → V → Hp → (Hp → Prop) → Prop := fun o i v H Q => ∃ p xs k j, o = .ref p ∧ i = .int k ∧ H p = some (.lst xs) ∧ ixN xs.length k = some j ∧ Q (upd H p (.lst (xs.set j v)))
theorem set_list : PSet X rSetL := by
  intro pins s σ H o i v ov iv u Q I ro ri rv h
  obtain ⟨p, xs, k, j, rfl, rfl, hp, hj, q⟩ := h
  cases ro
  obtain ⟨t, rfl⟩ := ri
  obtain ⟨its, n, r, ho, hz⟩ := I.lst hp
  obtain ⟨h1, h2, h3, h4⟩ := ixN_seq hj
  have hl := r.length
  have hn := line63
  have I' : Inv X pins σ (upd H p (.lst (xs.set j v))) { s with heap := s.heap.update p (Obj.mapSeq (·.setIfInBounds j u)) } :=
    I.lstUpd hp ho (mapSeq_set its n j u) (r.set rv j) (by rw [List.length_set]; exact hz) s.toks
  by_cases h0 : 0 ≤ k
  · have hk : k.toNat = j := by
      rw [seqIndex_of h0 h4] at h1
      exact Option.some.inj h1
    exact PySem.W.ki_setAt ho h0 (by omega) (by rw [List.size_toArray, ← hl]; exact h4) (by rw [hk]; exact ⟨_, I', q⟩)
  · have hk : (k + (its.toArray.size : Int)).toNat = j := by
      rw [seqIndex_neg (by omega) h3] at h1
      rw [List.size_toArray, ← hl]
      exact Option.some.inj h1
    exact PySem.W.ki_setBack ho (by omega) (by rw [List.size_toArray, ← hl]; exact h3) (by omega) (by rw [hk]; exact ⟨_, I', q⟩)
theorem slice_bounds (lo hi : Option Int) (n : Nat) : (sliceBounds lo hi none n).1 = ((HT.sIx n 0 lo : Nat) : Int) ∧ (sliceBounds lo hi none n).2.1 = ((HT.sIx n n hi : Nat) : Int) ∧ (sliceBounds lo hi none n).2.2 = 1 := by
  refine ⟨?_, ?_, rfl⟩
  · cases lo with
    | none => simp [sliceBounds, HT.sIx]
    | some i =>
      simp only [sliceBounds, HT.sIx, Option.getD_none, show (1 : Int) > 0 by decide, if_true]
      by_cases h : i < 0
      · simp only [h, if_true] <;> omega
      · simp only [h, if_false] <;> omega
  · cases hi with
    | none => simp [sliceBounds, HT.sIx]
    | some i =>
      simp only [sliceBounds, HT.sIx, Option.getD_none, show (1 : Int) > 0 by decide, if_true]
      by_cases h : i < 0
      · simp only [h, if_true] <;> omega
      · simp only [h, if_false] <;> omega
theorem slicePick_cut (its : List Value) (lo hi : Option Int) : slicePick its.toArray lo hi none = ((its.drop (HT.sIx its.length 0 lo)).take (HT.sIx its.length its.length hi - HT.sIx its.length 0 lo)).toArray := by
  obtain ⟨h1, h2, h3⟩ := slice_bounds lo hi its.toArray.size
  unfold slicePick
  rw [h1, h2, h3]
  simp only [sliceRange_one, pick_run, List.size_toArray] <;> rfl
def rSlL (K : PySem.W.Frag) : V → Option Int → Option Int → Hp → VK → Prop := fun x lo hi H Q => ∃ a xs, x = .ref a ∧ SqL K H a xs ∧ ∀ p, H p = none → Q (.ref p) (upd H p (.lst (cutV xs lo hi)))
theorem sl_list : SlR X (rSlL X.K) := by
  intro pins s σ H x v vl vu lo hi sl Q I rx hs pl pu h
  obtain ⟨a, xs, rfl, hx, q⟩ := h
  cases rx
  obtain ⟨its, r, ht, hz⟩ := I.list hx
  have hlen := r.length
  refine ⟨"list", _, slot_list_getitem.lookup, ht.isList.typeIs, ?_⟩
  refine wpAny_getItem_list_slice ht.isList hs pl pu .none (by simp) ?_ (by rw [List.size_toArray] <;> omega)
  rw [slicePick_cut, ← hlen]
  refine ⟨.ref s.heap.objs.size, _, I.laid (t' := s.toks) (o := .lst (cutV xs lo hi)) (fun b ob q => Heap.get?_push_of_some _ q) (Nat.le_refl _) ?_, rfl, q _ (I.hok.fresh (Nat.le_refl _))⟩
  exact ⟨Nat.le_trans (cutV_length xs lo hi) hz, _, 0, (r.drop (HT.sIx xs.length 0 lo)).take (HT.sIx xs.length xs.length hi - HT.sIx xs.length 0 lo), Heap.get?_push_size _ rfl⟩
theorem call_len_seq : CallR X (.builtin "len") (fun xs H Q => ∃ p ys, xs = [.ref p] ∧ (SqL X.K H p ys ∨ SqT X.K H p ys) ∧ Q (.int ys.length) H) := by
  intro pins s σ H xs us Q I r h
  obtain ⟨p, ys, rfl, hq, q⟩ := h
  obtain ⟨u, rfl, rx⟩ := vals1 r
  cases rx
  have hn := line63
  rcases hq with hq | hq
  · obtain ⟨its, r', pl, hz⟩ := I.list hq
    have hlen := r'.length
    exact Calls.call_len_list pl.isList (by simp only [List.size_toArray] <;> omega) ⟨.int ys.length, H, I.tok _, ⟨s.toks + 1, by rw [List.size_toArray, hlen]⟩, q⟩
  · obtain ⟨its, r', pl, hz⟩ := I.tuple hq
    have hlen := r'.length
    exact len_tuple pl (by simp only [List.size_toArray] <;> omega) ⟨.int ys.length, H, I.tok _, ⟨s.toks + 1, by rw [List.size_toArray, hlen]⟩, q⟩
theorem call_list_of : CallR X (.type "list") (fun xs H Q => ∃ p ys, xs = [.ref p] ∧ (SqL X.K H p ys ∨ SqT X.K H p ys) ∧ ∀ l, H l = none → Q (.ref l) (upd H l (.lst ys))) := by
  intro pins s σ H xs us Q I r h
  obtain ⟨p, ys, rfl, hq, q⟩ := h
  obtain ⟨u, rfl, rx⟩ := vals1 r
  cases rx
  have fin : ∀ (its : List Value), Vals ys its → ys.length ≤ sizeLine → ∀ (h' : Heap) (c' : Nat), (∀ b o', s.heap.get? b = some o' → h'.get? b = some o') →
      h'.get? s.heap.objs.size = some { cls := .type "list", dict := none, data := .seq its.toArray c', slots := #[] } → EP X pins σ Q (.ref s.heap.objs.size) { s with heap := h' } := fun its r' hz h' c' kp e =>
    ⟨.ref s.heap.objs.size, _, I.laid (t' := s.toks) kp (Nat.le_refl _) (show ObjOk X.prog X.w _ h' _ (.lst ys) from ⟨hz, its, c', r', e⟩), rfl, q _ (I.hok.fresh (Nat.le_refl _))⟩
  rcases hq with hq | hq
  · obtain ⟨its, r', pl, hz⟩ := I.list hq
    have hlen := r'.length
    obtain ⟨o, ho, hc, n, hd⟩ := pl.isList
    exact call_list_seq p (.inl rfl) ho hc hd (fun h' c' kp e => fin its r' hz h' c' kp e) (by simp only [List.size_toArray] <;> omega)
  · obtain ⟨its, r', pl, hz⟩ := I.tuple hq
    have hlen := r'.length
    obtain ⟨o, ho, hc, n, hd⟩ := pl
    exact call_list_seq p (.inr rfl) ho hc hd (fun h' c' kp e => fin its r' hz h' c' kp e) (by simp only [List.size_toArray] <;> omega)
theorem call_tuple_of : CallR X (.type "tuple") (fun xs H Q => ∃ p ys, xs = [.ref p] ∧ ((SqL X.K H p ys ∧ ∀ l, H l = none → Q (.ref l) (upd H l (.tup ys))) ∨ (SqT X.K H p ys ∧ Q (.ref p) H))) := by
  intro pins s σ H xs us Q I r h
  obtain ⟨p, ys, rfl, h⟩ := h
  obtain ⟨u, rfl, rx⟩ := vals1 r
  cases rx
  rcases h with ⟨hq, q⟩ | ⟨hq, q⟩
  · obtain ⟨its, r', pl, hz⟩ := I.list hq
    have hlen := r'.length
    refine call_tuple_list pl.isList (fun h' kp => ?_) (by simp only [List.size_toArray] <;> omega)
    have I1 : Inv X pins σ H { s with heap := h' } := I.kept (t' := s.toks) kp
    have I2 : Inv X pins σ (upd H h'.objs.size (.tup ys)) { s with heap := h'.push { cls := .type "tuple", data := .seq its.toArray } } :=
      I1.laid (t' := s.toks) (fun b o e => Heap.get?_push_of_some _ e) (Nat.le_refl _) (show ObjOk X.prog X.w _ _ _ (.tup ys) from ⟨hz, its, r', IsTup.new _ _⟩)
    exact ⟨.ref h'.objs.size, _, I2, rfl, q _ (I1.hok.fresh (Nat.le_refl _))⟩
  · obtain ⟨its, r', pl, hz⟩ := I.tuple hq
    exact call_tuple_same pl ⟨.ref p, H, I, rfl, q⟩
def tyV (K : PySem.W.Frag) (T : String) (x : V) (H : Hp) : Prop := match x with
  | .str _ => T = "str"
  | .int _ => T = "int"
  | .ref p => (T = "list" ∧ ∃ xs, SqL K H p xs) ∨ (T = "tuple" ∧ ∃ o, K.lookup p = some o ∧ o.cls = .type "tuple" ∧ o.dict = none) ∨
      (T = "dict" ∧ ((∃ kvs, H p = some (.dK kvs)) ∨ ∃ kvs, H p = some (.dT kvs))) ∨ (T = "set" ∧ ∃ S n, H p = some (.set S n))
  | _ => False
theorem tyV_is {pins : List (Addr × Obj)} {σ : St} {H : Hp} {s : Shared} {T : String} {x : V} {v : Value} (I : Inv X pins σ H s) (r : RelV x v) (ty : tyV X.K T x H) :
    s.TypeIs v T ∧ ∀ a, v = .ref a → ∃ ob, s.heap.get? a = some ob ∧ ob.dict = none := by
  cases x with
  | str z =>
    obtain ⟨t, rfl⟩ := r
    cases (show T = "str" from ty)
    exact ⟨typeIs_str s z t, fun _ e => nomatch e⟩
  | int i =>
    obtain ⟨t, rfl⟩ := r
    cases (show T = "int" from ty)
    exact ⟨typeIs_int s i t, fun _ e => nomatch e⟩
  | ref p =>
    cases r
    rcases ty with ⟨rfl, xs, hq⟩ | ⟨rfl, o, hk, hc, hd⟩ | ⟨rfl, hk⟩ | ⟨rfl, S, n, hk⟩
    · obtain ⟨its, _, pl, _⟩ := I.list hq
      refine ⟨pl.isList.typeIs, fun a e => ?_⟩
      cases e
      obtain ⟨o, n, e, c, hd, _⟩ := pl
      exact ⟨o, e, hd⟩
    · refine ⟨⟨o, I.kIn p o hk, hc⟩, fun a e => ?_⟩
      cases e
      exact ⟨o, I.kIn _ o hk, hd⟩
    · have z : ∃ o, s.heap.get? p = some o ∧ o.ExactDict := by
        rcases hk with ⟨kvs, hk⟩ | ⟨kvs, hk⟩
        · obtain ⟨_, _, _, _, o, _, _, e, ex, _⟩ := I.hok p _ hk
          exact ⟨o, e, ex⟩
        · obtain ⟨_, _, _, _, o, _, _, e, ex, _⟩ := I.hok p _ hk
          exact ⟨o, e, ex⟩
      obtain ⟨o, e, ex⟩ := z
      refine ⟨⟨o, e, ex.1⟩, fun a e2 => ?_⟩
      cases e2
      exact ⟨o, e, ex.2.1⟩
    · obtain ⟨o, _, _, _, e, ex, _⟩ := I.hok p _ hk
      refine ⟨⟨o, e, ex.1⟩, fun a e2 => ?_⟩
      cases e2
      exact ⟨o, e, ex.2.1⟩
  | _ => exact False.elim ty
def tBM (K : PySem.W.Frag) (T : String) (r : V → List V → Hp → VK → Prop) (to : TE) (t : TA) : TE := fun σ H Q => to σ H fun x H1 => tyV K T x H1 ∧ t σ H1 fun xs H2 => r x xs H2 Q
variable {o e : Expr} {es : List Expr} {to : TE} {t : TA} {name : Str} {apos cpos : Pos} {T id : String} {r : V → List V → Hp → VK → Prop}
theorem pe_bm (pa : PlainAttrs T) (slot : Slot T name id) (hty : typeOf (.builtin id) = pure (.type "method_descriptor")) (hm : MtR X id r) (ho : PE X o to) (ha : PA X (e :: es) t)
    (hbase : attributeBase o name X.env (eval o X.env) = eval o X.env := by rfl)
    (hfew : ((backTo cpos (starEach (e :: es) X.env)).all (fun x => !x.1) && (backToKw cpos (keywordEach [] X.env)).all (fun x => x.1.isSome)
      && decide ((e :: es).length + ([] : List Keyword).length + (if ([] : List Keyword).isEmpty then 0 else 1) < 30)) = true := by rfl)
    (hline : (apos.endLine == cpos.line) = true := by rfl) (hs : starEach (e :: es) X.env = (false, eval e X.env) :: starEach es X.env := by rfl) (hplain : (backTo cpos (starEach es X.env)).any (·.1) = false := by rfl) :
    PE X (.Call (.Attribute o name apos) (e :: es) [] cpos) (tBM X.K T r to t) := by
  intro pins s σ H Q I h
  refine wpAny_Call_method_late hbase hfew hline rfl (thn (ho pins s σ H _ I h) fun v s1 ⟨x, H1, I1, r1, ty, q1⟩ => ?_)
  obtain ⟨h1, h2⟩ := tyV_is I1 r1 ty
  refine ⟨T, id, pa, slot, hty, h1, h2, ?_⟩
  have hA := ha cpos pins s1 σ H1 _ I1 q1
  rw [hs] at hA ⊢
  refine Calls.callWith_builtin (by show (false || (backTo cpos (starEach es X.env)).any (·.1)) = false; rw [hplain] <;> rfl) (Calls.evalArgs_plain ?_)
  exact thn hA fun us s2 ⟨vs, H2, I2, r2, q2⟩ => hm pins s2 σ H2 x vs v us Q I2 r1 r2 q2
end
end L2
namespace L2
open PySem PySem.Spec PyProof.Rows
def MtM (X : Cx) (id : String) (r : V → List V → Hp → VK → Prop) : Prop :=
  ∀ (pins : List (Addr × Obj)) (s : Shared) (σ : St) (H : Hp) (x : V) (xs : List V) (v : Value) (us : List Value) (Q : VK), Inv X pins σ H s → RelV x v → Vals xs us → r x xs H Q →
    wpAny (model X.prog X.w) X.A (call (.builtin id) (v :: us)) (EP X pins σ Q) X.xe s
theorem Vals.one : ∀ {x : V} {us : List Value}, Vals [x] us → ∃ u, us = [u] ∧ RelV x u
  | _, _, .cons r .nil => ⟨_, rfl, r⟩
theorem Vals.two : ∀ {x y : V} {us : List Value}, Vals [x, y] us → ∃ u v, us = [u, v] ∧ RelV x u ∧ RelV y v
  | _, _, _, .cons r (.cons q .nil) => ⟨_, _, rfl, r, q⟩
theorem Vals.zero : ∀ {us : List Value}, Vals [] us → us = []
  | _, .nil => rfl
theorem Vals.reverse {xs : List V} {us : List Value} (h : Vals xs us) : Vals xs.reverse us.reverse := by
  induction h with
  | nil => exact .nil
  | cons r t ih => rw [List.reverse_cons, List.reverse_cons]; exact Vals.append ih (.cons r .nil)
theorem Vals.rep {xs : List V} {us : List Value} (h : Vals xs us) : ∀ k : Nat, Vals (List.replicate k xs).flatten (List.replicate k us).flatten
  | 0 => .nil
  | k + 1 => by
    rw [List.replicate_succ, List.replicate_succ, List.flatten_cons, List.flatten_cons]
    exact Vals.append h (Vals.rep h k)
theorem foldl_rep (its : List Value) : ∀ (k : Nat) (acc : List Value),
    List.foldl (fun x1 x2 => x1 ++ x2) acc.toArray (List.replicate k its.toArray) = (acc ++ (List.replicate k its).flatten).toArray
  | 0, acc => by simp
  | k + 1, acc => by
    have e : acc.toArray ++ its.toArray = (acc ++ its).toArray := by simp
    have e2 : (acc ++ its) ++ (List.replicate k its).flatten = acc ++ (List.replicate (k + 1) its).flatten := by
      rw [List.replicate_succ, List.flatten_cons, List.append_assoc]
    rw [← e2, ← foldl_rep its k (acc ++ its), ← e, List.replicate_succ, List.foldl_cons]
section
variable {X : Cx} {pins : List (Addr × Obj)} {σ : St} {H : Hp} {s : Shared} {l b : Addr} {xs ys zs : List V}
theorem Inv.lset {its its' : List Value} {n : Nat} {f : Array Value → Array Value} {t' : Nat} (I : Inv X pins σ H s) (hH : H l = some (.lst xs))
    (e : s.heap.get? l = some { cls := .type "list", data := .seq its.toArray n }) (hf : f its.toArray = its'.toArray) (hv : Vals ys its') (hz : ys.length ≤ sizeLine) :
    Inv X pins σ (upd H l (.lst ys)) { s with heap := s.heap.update l (Obj.mapSeq f), toks := t' } := by
  have q := PySem.IsL.update e f
  rw [hf] at q
  refine I.write (x := l) (e := l) (by rw [hH]; exact trivial) (.inl rfl) (fun b' u hb hu => (Heap.get?_update_other s.heap (Obj.mapSeq f) (Ne.symm hb)).trans hu) ⟨_, q⟩ ?_
  exact ⟨hz, its', _, hv, q⟩
theorem Inv.lnew {its : List Value} {t' : Nat} (I : Inv X pins σ H s) (hv : Vals ys its) (hz : ys.length ≤ sizeLine) :
    Inv X pins σ (upd H s.heap.objs.size (.lst ys)) { s with heap := s.heap.push { cls := .type "list", data := .seq its.toArray }, toks := t' } :=
  I.laid (fun _ _ q => Heap.get?_push_of_some _ q) (Nat.le_refl _) ⟨hz, its, 0, hv, Heap.get?_push_size _ rfl⟩
theorem Inv.fresh (I : Inv X pins σ H s) : H s.heap.objs.size = none := I.hok.fresh (Nat.le_refl _)
theorem Inv.lstM (I : Inv X pins σ H s) (hH : H l = some (.lst xs)) : xs.length ≤ sizeLine ∧ ∃ (its : List Value) (n : Nat), Vals xs its ∧ xs.length = its.length ∧ s.heap.get? l = some { cls := .type "list", data := .seq its.toArray n } := by
  obtain ⟨z, its, n, r, e⟩ := I.hok l _ hH
  exact ⟨z, its, n, r, r.length, e⟩
theorem notLongL {n : Nat} (h : n ≤ sizeLine) : Builtin.List.listTooLong n = false := by
  unfold Builtin.List.listTooLong
  exact decide_eq_false (by omega)
end
section
variable {X : Cx}
def rAppend : V → List V → Hp → VK → Prop := fun x vs H Q => ∃ l xs y, x = .ref l ∧ vs = [y] ∧ H l = some (.lst xs) ∧ xs.length < sizeLine ∧ Q .non (upd H l (.lst (xs ++ [y])))
theorem mt_append : MtM X "list.append" rAppend := by
  intro pins s σ H x vs v us Q I rx rv h
  obtain ⟨l, xs, y, rfl, rfl, hH, hz, q⟩ := h
  cases rx
  obtain ⟨u, rfl, ru⟩ := rv.one
  obtain ⟨z, its, n, r, hl, e⟩ := I.lstM hH
  refine call_meets F.slot_list_append ⟨_, e, rfl⟩ F.entry_list_append (F.args_list_append_2 _ _) (PySem.list_append l its.toArray n u (by rw [List.size_toArray]; omega)) ⟨e, ?_⟩
  refine ⟨.non, _, I.lset (its' := its ++ [u]) hH e (by simp) (r.append (.cons ru .nil)) ?_, rfl, q⟩
  rw [List.length_append, List.length_singleton]
  omega
def rCat : R2 := fun x y H Q => ∃ l b xs zs, x = .ref l ∧ y = .ref b ∧ H l = some (.lst xs) ∧ H b = some (.lst zs) ∧ xs.length + zs.length ≤ sizeLine ∧ ∀ p, H p = none → Q (.ref p) (upd H p (.lst (xs ++ zs)))
theorem op_cat : OpR X (binaryOp .Add) rCat := by
  intro pins s σ H x y v u Q I rx ry h
  obtain ⟨l, b, xs, zs, rfl, rfl, hH, hB, hz, q⟩ := h
  cases rx
  cases ry
  obtain ⟨z, its, n, r, hl, e⟩ := I.lstM hH
  obtain ⟨z2, its2, n2, r2, hl2, e2⟩ := I.lstM hB
  refine PySem.P.add_list e e2 ?_ (by rw [List.size_toArray, List.size_toArray]; omega)
  have ea : its.toArray ++ its2.toArray = (its ++ its2).toArray := by simp
  rw [ea]
  exact ⟨.ref _, _, I.lnew (t' := s.toks) (r.append r2) (by rw [List.length_append]; omega), rfl, q _ I.fresh⟩
def rRep : R2 := fun x y H Q => ∃ l k xs, x = .ref l ∧ y = .int k ∧ H l = some (.lst xs) ∧ -(2 ^ 63) ≤ k ∧ k < 2 ^ 63 ∧ xs.length * k.toNat ≤ sizeLine ∧
  ∀ p, H p = none → Q (.ref p) (upd H p (.lst (List.replicate k.toNat xs).flatten))
theorem len_rep {α : Type} (xs : List α) (k : Nat) : (List.replicate k xs).flatten.length = k * xs.length := by
  induction k with
  | zero => simp
  | succ k ih => rw [List.replicate_succ, List.flatten_cons, List.length_append, ih, Nat.succ_mul, Nat.add_comm]
theorem op_rep : OpR X (binaryOp .Mult) rRep := by
  intro pins s σ H x y v u Q I rx ry h
  obtain ⟨l, k, xs, rfl, rfl, hH, h1, h2, hz, q⟩ := h
  cases rx
  obtain ⟨t, rfl⟩ := ry
  obtain ⟨z, its, n, r, hl, e⟩ := I.lstM hH
  have hlen : its.toArray.size * k.toNat ≤ sizeLine := by rw [List.size_toArray, ← hl]; exact hz
  have hcap : ¬ its.toArray.size * k.toNat > (2 ^ 63 - 1) / 8 := by
    have : (sizeLine : Nat) ≤ (2 ^ 63 - 1) / 8 := by decide
    omega
  have hfit : ¬ (!Builtin.List.listFitsIndex k) = true := by
    rw [fitsIndex_both h1 h2]
    exact Bool.false_ne_true
  have hlong : ¬ Builtin.List.listTooLong (its.toArray.size * k.toNat) = true := by
    rw [notLongL hlen]
    exact Bool.false_ne_true
  have hnew : List.foldl (fun x1 x2 => x1 ++ x2) #[] (List.replicate (if its.toArray.isEmpty = true then 0 else k.toNat) its.toArray) = (List.replicate k.toNat its).flatten.toArray := by
    have f0 : ∀ m : Nat, List.foldl (fun x1 x2 => x1 ++ x2) #[] (List.replicate m its.toArray) = (List.replicate m its).flatten.toArray := fun m => by
      have := foldl_rep its m []
      rw [List.nil_append] at this
      exact this
    rw [f0]
    cases its with
    | nil => simp
    | cons a r' => rw [if_neg (by simp)]
  refine wpAny_binaryOp_repeat_ref (T := "list") (U := "int") (by decide) ⟨_, e, rfl⟩ (fun s' => typeIs_int s' k t) noFill_list_mul F.fills_int_mul F.slot_int_rmul repeat_list F.slot_int_index.lookup
    (call_meets F.slot_int_rmul (typeIs_int s k t) F.entry_int_rmul (F.args_int_rmul_2 _ _) (int___rmul___int_list k t l its.toArray n)
      ⟨e, rfl, ⟨_, e, rfl⟩, call_meets F.slot_list_mul ⟨_, e, rfl⟩ F.entry_list_mul (F.args_list_mul_2 _ _) (AutoListH.list___mul___list_int_3 l its.toArray n k t hfit hcap hlong) ⟨e, ?_⟩⟩)
  rw [hnew]
  exact ⟨.ref _, _, I.lnew (t' := s.toks) (r.rep k.toNat) (by rw [len_rep, Nat.mul_comm]; exact hz), rfl, q _ I.fresh⟩
end
section
variable {prog : Program} {w : World} {A : Around} {E : Value → Shared → Prop} {s : Shared}
end
section
variable {X : Cx}
end
end L2
namespace Att
open PySem PySem.W PySem.Calls PyProof.Rows
theorem ints_of_wellAll {P : Params} {h : Heap} : ∀ (ns : List Int) (vs : List Value), WellAll P h vs (ns.map WData.int) → IntsAre vs ns := by
  intro ns
  induction ns with
  | nil =>
    intro vs w
    rw [List.map_nil] at w
    cases w
    exact .nil
  | cons n ns ih =>
    intro vs w
    rw [List.map_cons] at w
    cases w with
    | cons a b =>
      cases a
      exact .cons _ _ (ih _ b)
theorem script_of {l : OpenLaw} {n : Nat} (hn : l.most = some n) {P : Params} {h : Heap} {args : List WData} {vals : List Value}
    (hpre : l.row.toRowW.claim.pre args = true) (hwl : WellAll P h vals args) :
    ∃ a vs ns, vals = [Value.ref a] ∧ args = [WData.list (ns.map WData.int)] ∧ h.get? a = some { cls := .type "list", data := .seq vs.toArray } ∧ IntsAre vs ns ∧ ns.length ≤ n := by
  have hsh : WShape.hasAll [] args [.list .int] = true := (pre_splitW hpre).1
  have hc : l.pre.holds [] { args := args } = true := (pre_splitW hpre).2
  obtain ⟨d, r, rfl, h1, h2⟩ := hasAllW_cons hsh
  obtain rfl := hasAllW_nil h2
  obtain ⟨xs, rfl, h3⟩ := hasW_list h1
  obtain ⟨ns, rfl⟩ := items_int h3
  have hlen : ns.length ≤ n := by
    unfold OpenLaw.pre at hc
    have h4 : (WTm.not (.lt (.lit (.int (n : Int))) (.len (.arg 0)))).holds [] { args := [.list (ns.map .int)] } = true := by
      have h4 := (holds_andW hc).1
      rw [hn] at h4
      exact h4
    have h5 := condW_of h4 (w_not (w_lt w_lit (w_len_list (w_arg rfl))))
    rw [List.length_map] at h5
    refine Nat.le_of_not_lt fun q => ?_
    have q' : (n : Int) < ((ns.length : Nat) : Int) := by omega
    first
      | (rw [decide_eq_true q'] at h5; exact absurd h5 (by decide))
      | (simp at h5; omega)
  cases hwl with
  | cons w1 w2 =>
    cases w2
    cases w1 with
    | list ho hall => exact ⟨_, _, ns, rfl, rfl, ho, ints_of_wellAll ns _ hall, hlen⟩
theorem post_true (l : OpenLaw) (args : List WData) : l.row.toRowW.claim.post args (.bool true) args = true :=
  postW_of (r := l.row.toRowW) (X := (true == true))
    (show WShape.has [] (.bool true) .bool = true by first | rfl | decide | simp [WShape.has, WShape.arms, WShape.armsAll])
    (show (WTm.eq .res (.lit (.bool true))).value [] { args := args, res := some (.bool true), after := args } = some (.bool (true == true)) from w_eq_bool (w_res rfl) w_lit) rfl
theorem attach_call {l : OpenLaw} {n : Nat} {q : Program} {loose : List Str} {XP : (Str → Option Value) → Heap → Prop} {YP : World → Heap → Prop} {d : DefRec}
    (hn : l.most = some n) (hdf : d.params.defaults = [])
    (call : ∀ (w : World) (s₀ s₁ : Shared) (mg mb : Str → Option Value) (fa : Addr) (o : Obj) (pm cd doc : Value) (a : Addr) (vs : List Value) (ns : List Int),
      Ground q loose [] XP w s₀ mg mb s₁.heap → YP w s₁.heap →
      s₁.heap.get? fa = some o → o.data = .func (docDef d.name d.params d.body d.scope pm cd doc) → s₁.heap.CodeRec cd d.name → mg d.name = some (.ref fa) →
      s₁.heap.get? a = some { cls := .type "list", data := .seq vs.toArray } → IntsAre vs ns → ns.length ≤ n → s₁.gens = #[] →
      codeAny (model l.prog w) callerA (.call (.ref fa) ⟨[.ref a], []⟩) (fun r s' => r = .ok (.ret (.bool true)) ∧ OldK s₁.heap s'.heap ∧ s'.os = s₁.os ∧ AllBare s'.gens) s₁) :
    WalkO q loose XP YP l.row.toRowW d [] (fun f vs => PySem.call f vs) := by
  intro w s₀ s₁ mg mb G Y fa o pm cd doc dV kV ho hd hcd hD hmg hg args vals as hpre hlay hrd hwl hlo
  obtain rfl : dV = .none := Dflts.none hD hdf
  obtain rfl : kV = .none := Dflts.noKw hD
  obtain ⟨a, vs, ns, rfl, rfl, hobj, hints, hlen⟩ := script_of hn hpre hwl
  refine enter_call (codeAny_mono (call w s₀ s₁ mg mb fa o pm cd doc a vs ns G Y ho (fd_plain hd) hcd hmg hobj hints hlen hg) fun r s' hq => ?_)
  obtain ⟨rfl, h2, h3, h4⟩ := hq
  exact ⟨.inl ⟨.bool true, .bool true, [], rfl, fun _ => rfl, .bool true, post_true l _, fun _ => ⟨List.Pairwise.nil, fun _ hm => (nomatch hm)⟩⟩, h2, h3, h4⟩
section
variable {prog : Program} {w : World} {A : Around} {E : Value → Shared → Prop} {s : Shared} {K : Frag}
end
end Att
namespace L2
open PySem PySem.Spec PyProof.Rows
theorem vals_ints : ∀ {vs : List Value} {ns : List Int}, IntsAre vs ns → Vals (ns.map V.int) vs
  | _, _, .nil => .nil
  | _, _, .cons n t h => .cons ⟨t, rfl⟩ (vals_ints h)
def Only (H : Hp) : Prop := ∀ b, H b = none ∨ ∃ o xs, H b = some (.frz o (.lst xs))
theorem law_call {P : Program} {w : World} {K : PySem.W.Frag} {mg mb : Str → Option Value} {CX : CXT} {k : Nat} {fa a : Addr} {fd : FuncData} {x : Str} {sp : Sp} {s₁ : Shared} {vs : List Value} {ns : List Int}
    (KX : K.In s₁.heap) (hns : s₁.heap.Ns mainGlobals mg) (hb : s₁.heap.Ns builtinsNs mb) (hbb : ∀ x : Str, x ≠ "__name__" → mb x = bootBuiltins x) (hlim : s₁.heap.NoLimit) (hg : s₁.gens = #[])
    (ha : s₁.heap.get? a = some { cls := .type "list", data := .seq vs.toArray }) (hi : IntsAre vs ns) (hl : ns.length ≤ sizeLine) (hr : Room k callerA)
    (F : ∀ base : Heap, K.In base → base.Ns mainGlobals mg → FnOk P w K mg base CX k fa fd [x] sp) (hbind : ∀ (s : Shared) (u : Value), BindsTo s fd ⟨[u], []⟩ [(x, u)])
    (hsp : ∀ H : Hp, Only H → SqL K H a (ns.map V.int) → sp [.ref a] H (fun v _ => v = .bl true) fun _ _ _ => False)
    (hCX : ∀ H e s', CX [] H s₁ (fun _ _ _ => False) e s' → False) :
    codeAny (model P w) callerA (.call (.ref fa) ⟨[.ref a], []⟩) (fun r s' => r = .ok (.ret (.bool true)) ∧ OldK s₁.heap s'.heap ∧ s'.os = s₁.os ∧ AllBare s'.gens) s₁ := by
  have rv := vals_ints hi
  have lenV := hi.length
  have core : ∀ H : Hp, Only H → SqL K H a (ns.map V.int) → HOk P w H s₁.heap → (∀ b, H b ≠ none → b = a) → (H a ≠ none → K.lookup a = none) →
      codeAny (model P w) callerA (.call (.ref fa) ⟨[.ref a], []⟩) (fun r s' => r = .ok (.ret (.bool true)) ∧ OldK s₁.heap s'.heap ∧ s'.os = s₁.os ∧ AllBare s'.gens) s₁ := by
    intro H hO hS hok hA hK
    have base_of : ∀ {b : Addr} {o : Obj}, s₁.heap.get? b = some o → H b = none → (hidT s₁.heap H).get? b = some o := fun e n => hidT_get e n
    have noA : ∀ {b : Addr} {o : Obj} {es : Array DictEntry} {ep : Nat}, s₁.heap.get? b = some o → o.data = .dict es ep → H b = none := fun {b o es ep} e d => by
      cases q : H b with
      | none => rfl
      | some u =>
        have e' : b = a := hA b (by rw [q]; simp)
        subst e'
        rw [ha] at e; cases e
        have d' : Data.seq vs.toArray _ = Data.dict es ep := d
        cases d'
    have nsK : ∀ {b : Addr} {m : Str → Option Value}, s₁.heap.Ns b m → (hidT s₁.heap H).Ns b m := fun {b m} ⟨o, es, ep, e, d, r⟩ => ⟨o, es, ep, base_of e (noA e d), d, r⟩
    have hKb : K.In (hidT s₁.heap H) := fun b o e => base_of (KX b o e) (by
      cases q : H b with
      | none => rfl
      | some u =>
        have e' : b = a := hA b (by rw [q]; simp)
        subst e'
        rw [hK (by rw [q]; simp)] at e; cases e)
    have hM : Mod K mg (hidT s₁.heap H) := ⟨hKb, nsK hns, ⟨mb, nsK hb, hbb⟩, let ⟨mc, h1, h2⟩ := hlim; ⟨mc, nsK h1, h2⟩⟩
    have e0 : Env0 P w K mg (hidT s₁.heap H) callerA [] s₁ H := ⟨rfl, hM, fun b o e => of_hidT e, Nat.le_of_eq (hidT_size _ _), trivial, fun b hb => absurd (show b ∈ ([] : List Addr) from hb) (by simp), hok, .of_eq hg⟩
    refine codeAny_mono ((F _ hKb (nsK hns)).run callerA [] s₁ H ⟨[.ref a], []⟩ [.ref a] [.ref a] _ _ hr e0 (hbind s₁ (.ref a)) (.cons rfl .nil) (hsp H hO hS)) fun r s' h => ?_
    cases r with
    | error e => exact (hCX H e s' h).elim
    | ok fl =>
      cases fl with
      | next => exact False.elim h
      | brk => exact False.elim h
      | cont => exact False.elim h
      | ret u =>
        obtain ⟨v, H', os, bare, un, hok', r', q⟩ := h
        have q' : v = .bl true := q
        subst q'
        obtain rfl : u = Value.bool true := r'
        refine ⟨rfl, OldK.of_keep fun b o e => ?_, os, bare⟩
        cases q : H b with
        | none => exact un.keep b o e q (by intro z; exact absurd (show b ∈ ([] : List Addr) from z) (by simp)) (by simp)
        | some u =>
          rcases hO b with z | ⟨ob, xs, z⟩
          · rw [q] at z; cases z
          · have z2 := un.frzs b ob _ z
            obtain ⟨e1, _⟩ := hok b _ z
            obtain ⟨e2, _⟩ := hok' b _ z2
            rw [e] at e1; cases e1
            exact e2
  cases hk : K.lookup a with
  | some o =>
    have e := KX a o hk
    rw [ha] at e
    cases e
    refine core (fun _ => none) (fun _ => .inl rfl) (.inr ⟨_, vs.toArray, _, hk, rfl, rfl, rfl, by rw [List.size_toArray, lenV]; exact hl, by simpa using rv⟩) (fun b u z => by have z' : (none : Option HO) = some u := z; cases z') (fun b z => absurd rfl z) fun z => absurd rfl z
  | none =>
    refine core (fun b => if b = a then some (.frz { cls := .type "list", data := .seq vs.toArray } (.lst (ns.map V.int))) else none) (fun b => ?_) (.inl (.inr ⟨{ cls := .type "list", data := .seq vs.toArray }, if_pos rfl⟩)) (fun b u z => ?_) (fun b z => ?_) fun _ => hk
    · by_cases hb : b = a
      · exact .inr ⟨_, _, if_pos hb⟩
      · exact .inl (if_neg hb)
    · by_cases hb : b = a
      · have z' := (if_pos hb).symm.trans z
        cases z'
        subst hb
        exact ⟨ha, by rw [List.length_map]; exact hl, vs, _, rv, ha⟩
      · have z' := (if_neg hb).symm.trans z
        cases z'
    · by_cases hb : b = a
      · exact hb
      · exact absurd (if_neg hb) z
end L2
namespace L2
open PySem PySem.Spec PyProof.Rows
theorem walk_of {l : PySem.W.OpenLaw} {n k : Nat} {q : Program} {loose : List Str} {XP : (Str → Option Value) → Heap → Prop} {YP : World → Heap → Prop} {d : DefRec} {K : Params → PySem.W.Frag} {CX : World → CXT} {sp : World → Sp} {x : Str}
    (hn : l.most = some n) (hn2 : n ≤ sizeLine) (hdf : d.params.defaults = []) (hr : Room k callerA)
    (hY : ∀ (w : World) (h : Heap), YP w h → (K w.params).In h)
    (F : ∀ (w : World) (mg : Str → Option Value) (fa : Addr) (h : Heap), (K w.params).In h → h.Ns mainGlobals mg → mg d.name = some (.ref fa) →
      ∃ fd : FuncData, (∀ (s : Shared) (u : Value), BindsTo s fd ⟨[u], []⟩ [(x, u)]) ∧
        ∀ base : Heap, (K w.params).In base → base.Ns mainGlobals mg → FnOk l.prog w (K w.params) mg base (CX w) k fa fd [x] (sp w))
    (hsp : ∀ (w : World) (H : Hp) (a : Addr) (ns : List Int), ns.length ≤ n → Only H → SqL (K w.params) H a (ns.map V.int) → sp w [.ref a] H (fun v _ => v = .bl true) fun _ _ _ => False)
    (hCX : ∀ (w : World) (H : Hp) (s : Shared) (e : Value) (s' : Shared), CX w [] H s (fun _ _ _ => False) e s' → False) :
    PySem.W.WalkO q loose XP YP l.row.toRowW d [] (fun f vs => PySem.call f vs) := by
  refine Att.attach_call hn hdf fun w s₀ s₁ mg mb fa o pm cd doc a vs ns G Y ho hd hcd hmg hobj hints hlen hg => ?_
  have KX := hY w _ Y
  obtain ⟨fd, hb, hF⟩ := F w mg fa _ KX G.T.g hmg
  exact law_call KX G.T.g G.T.b G.T.builtins G.T.nolimit hg hobj hints (Nat.le_trans hlen hn2) hr hF hb (fun H hO hS => hsp w H a ns hlen hO hS) fun H e s' => hCX w H s₁ e s'
end L2
namespace L2
open PySem PySem.Spec PyProof.Rows
def defArgs (s : Stmt) : Arguments := match s with
  | .FunctionDef _ a _ _ _ _ _ _ _ _ => a
  | _ => { posonlyargs := [], args := [], vararg := none, kwonlyargs := [], kw_defaults := [], kwarg := none, defaults := [] }
def defBody (s : Stmt) : List Stmt := match s with
  | .FunctionDef _ _ b _ _ _ _ _ _ _ => b
  | _ => []
def defScope (s : Stmt) : Scope := match s with
  | .FunctionDef _ _ _ _ _ _ sc _ _ _ => sc
  | _ => { kind := .function, names := [], isGenerator := false, isCoroutine := false }
abbrev CX0 : CXT := fun _ _ _ _ _ _ => False
abbrev E0 : XK := fun _ _ _ => False
theorem pass0 {X : Cx} : Passes CX0 X E0 := fun _ _ _ _ _ _ _ h => h.elim
structure Fun (K : PySem.W.Frag) (x qual : Str) (st : Stmt) (f : Addr) (fd : FuncData) : Prop where
  ex : ∃ (oc : Value) (od : Option Addr) (kV doc pm : Value) (an : Option Addr) (cdv ct : Value) (osl : Array (Option Value)),
    fd = PySem.W.fnOf x qual (defArgs st) (defBody st) (defScope st) .none kV doc pm an cdv ct ∧ K.lookup f = some ⟨oc, od, .func fd, osl⟩ ∧ PySem.W.codeIn K cdv qual = true
  kp : PySem.W.keepIn K (.ref f) = true
section
variable {P : Program} {w : World} {K : PySem.W.Frag} {mg : Str → Option Value} {base : Heap}
theorem Fun.ok {x qual : Str} {st : Stmt} {f : Addr} {fd : FuncData} {N ps : List Str} {k : Nat} {sp : Sp} (F : Fun K x qual st f fd) (S : FnScope N ps (defScope st)) (len : ∀ vs H Q E, sp vs H Q E → vs.length = ps.length)
    (hbody : ∀ (cdv : Value) (A : Around) (outer : List Env) (s : Shared) (H : Hp) (vs : List V) (Q : VK) (E : XK), Room k (A.deeper (envOfC qual (defScope st) s.heap.objs.size f cdv)) → sp vs H Q E →
      ∃ t, PSs (cxOf CX0 P w K mg base N qual (defScope st) f cdv A outer s H E).nox (defBody st) t ∧ t { nx := fun _ H' => Q .non H', rt := Q } (start N vs) H) : FnOk P w K mg base CX0 (k + 1) f fd ps sp := by
  obtain ⟨oc, od, kV, doc, pm, an, cdv, ct, osl, rfl, lk, hcd⟩ := F.ex
  refine fn_of lk hcd S len fun A outer s H vs Q E hr hsp => ?_
  obtain ⟨t, h, q⟩ := hbody cdv A outer s H vs Q E hr hsp
  exact ⟨t, h.nox, q⟩
theorem Fun.binds {x qual : Str} {st : Stmt} {f : Addr} {fd : FuncData} {ps : List Str} (F : Fun K x qual st f fd)
    (h : ∀ (kV doc pm : Value) (an : Option Addr) (cdv ct : Value) (us : List Value), us.length = ps.length → bindArgs (PySem.W.fnOf x qual (defArgs st) (defBody st) (defScope st) .none kV doc pm an cdv ct) ⟨us, []⟩ = pure (ps.zip us)) : Binds K fd ps [] := by
  obtain ⟨oc, od, kV, doc, pm, an, cdv, ct, osl, rfl, lk, hcd⟩ := F.ex
  exact .all (h kV doc pm an cdv ct)
theorem fun_mk {x qual : Str} {st : Stmt} {f : Addr} {oc : Value} {od an : Option Addr} {osl : Array (Option Value)} {kV doc pm cdv ct : Value} (l : K.lookup f = some ⟨oc, od, .func (PySem.W.fnOf x qual (defArgs st) (defBody st) (defScope st) .none kV doc pm an cdv ct), osl⟩)
    (c : PySem.W.codeIn K cdv qual = true) (k : PySem.W.keepIn K (.ref f) = true) : Fun K x qual st f (PySem.W.fnOf x qual (defArgs st) (defBody st) (defScope st) .none kV doc pm an cdv ct) := ⟨⟨oc, od, kV, doc, pm, an, cdv, ct, osl, rfl, l, c⟩, k⟩
end
theorem hu_of {A : Around} {k : Nat} (hr : Room k A) : A.units + 1 < cLine := Nat.lt_of_le_of_lt (Nat.add_le_add_left (by decide : 1 ≤ 64) _) hr.units
section
variable {X : Cx}
theorem pv (i : Nat) {x : Str} {pos : Pos} (hN : X.N[i]? = some x := by rfl) (hv : Vis X.env.scope x := by first | exact Or.inl rfl | exact Or.inr (Or.inl rfl) | exact Or.inr (Or.inr rfl)) (hd : (x == ("__debug__" : Str)) = false := by decide)
    (hcd : (x == ("__classdict__" : Str)) = false := by decide) : PE X (.Name x pos) (tVar i) := pe_var hN hv hd hcd
end
theorem iteF {A B : Prop} (h : B) : if false = true then A else B := by
  rw [if_neg Bool.false_ne_true]
  exact h
theorem iteT {A B : Prop} (h : A) : if true = true then A else B := by
  rw [if_pos rfl]
  exact h
theorem ite2 {c A B : Prop} [Decidable c] (h1 : c → A) (h2 : ¬ c → B) : if c then A else B := by
  by_cases h : c
  · rw [if_pos h]
    exact h1 h
  · rw [if_neg h]
    exact h2 h
def Same (H H' : Hp) : Prop := ∀ b o, H b = some o → H' b = some o
theorem Same.refl (H : Hp) : Same H H := fun _ _ h => h
theorem Same.trans {H H1 H2 : Hp} (a : Same H H1) (b : Same H1 H2) : Same H H2 := fun c o h => b c o (a c o h)
theorem Same.free {H H' : Hp} (e : Same H H') {l : Addr} (h : H' l = Option.none) : H l = Option.none := by
  cases q : H l with
  | none => rfl
  | some o =>
    rw [e l o q] at h
    cases h
theorem Same.seq {K : PySem.W.Frag} {H H' : Hp} {a : Addr} {xs : List V} (e : Same H H') (h : SqL K H a xs) : SqL K H' a xs := by
  rcases h with (h | ⟨o, h⟩) | h
  · exact .inl (.inl (e _ _ h))
  · exact .inl (.inr ⟨o, e _ _ h⟩)
  · exact .inr h
end L2
set_option Elab.async false
set_option linter.all false
set_option maxRecDepth 100000
namespace L2
open PySem PySem.Spec PyProof.Rows
def closOf (cells : List (Str × Addr)) : List (Str × NameKind) → List (Str × Addr) → List (Str × Addr)
  | [], cs => cs
  | (n, k) :: r, cs => closOf cells r (if k = .free then (match cells.lookup n with | some c => (n, c) :: cs | none => cs) else cs)
theorem closureFor_loop {env : Env} : ∀ (names : List (Str × NameKind)) (cs : List (Str × Addr)), (∀ x ∈ names, x.2 = .free → ∃ c, env.cells.lookup x.1 = some c) →
    (forIn names cs fun (x : Str × NameKind) (r : List (Str × Addr)) => if (x.2 == .free) = true then (do let c ← cellOf env x.1; pure (ForInStep.yield ((x.1, c) :: r)) : Sem _) else pure (ForInStep.yield r)) = pure (closOf env.cells names cs)
  | [], cs, _ => rfl
  | (n, k) :: r, cs, h => by
    have ih := fun cs' => closureFor_loop (env := env) r cs' fun x hx => h x (List.mem_cons_of_mem _ hx)
    rw [List.forIn_cons]
    by_cases hk : k = .free
    · subst hk
      obtain ⟨c, hc⟩ := h (n, .free) List.mem_cons_self rfl
      have e : cellOf env n = pure c := by unfold cellOf; rw [hc]
      simp only [beq_self_eq_true, if_true, e, pure_bind, closOf, hc]
      exact ih _
    · have hb : (k == NameKind.free) = false := by simpa using hk
      simp only [hb, Bool.false_eq_true, if_false, pure_bind, closOf, hk]
      exact ih _
theorem closureFor_eq {scope : Scope} {env : Env} (h : ∀ x ∈ scope.names, x.2 = .free → ∃ c, env.cells.lookup x.1 = some c) : closureFor scope env = pure (closOf env.cells scope.names []) := by
  have e := closureFor_loop scope.names [] h
  unfold closureFor
  first
    | (simp only [bind_pure]; exact e)
    | (show (forIn scope.names [] _ >>= fun r => pure r) = _
       rw [show (forIn scope.names ([] : List (Str × Addr)) _ : Sem _) = _ from e]
       rfl)
theorem closOf_sub {cells : List (Str × Addr)} {y : Str} {c : Addr} : ∀ {names : List (Str × NameKind)} {cs : List (Str × Addr)}, (∀ y c, cs.lookup y = some c → cells.lookup y = some c) → (closOf cells names cs).lookup y = some c → cells.lookup y = some c
  | [], cs, h, e => h y c e
  | (n, k) :: r, cs, h, e => by
    refine closOf_sub (names := r) ?_ e
    intro y' c' e'
    by_cases hk : k = .free
    · rw [if_pos hk] at e'
      cases q : cells.lookup n with
      | none => rw [q] at e'; exact h _ _ e'
      | some d =>
        rw [q] at e'
        simp only [List.lookup_cons] at e'
        cases hb : y' == n with
        | true =>
          rw [hb] at e'
          cases e'
          have : y' = n := by simpa using hb
          rw [this]; exact q
        | false => rw [hb] at e'; exact h _ _ e'
    · rw [if_neg hk] at e'; exact h _ _ e'
theorem closOf_has {cells : List (Str × Addr)} {y : Str} : ∀ {names : List (Str × NameKind)} {cs : List (Str × Addr)}, ((∃ c, cs.lookup y = some c) ∨ ((y, NameKind.free) ∈ names ∧ ∃ c, cells.lookup y = some c)) → ∃ c, (closOf cells names cs).lookup y = some c
  | [], cs, h => by
    rcases h with h | ⟨h, _⟩
    · exact h
    · cases h
  | (n, k) :: r, cs, h => by
    refine closOf_has (names := r) ?_
    rcases h with ⟨c, h⟩ | ⟨h, c, hc⟩
    · left
      by_cases hk : k = .free
      · rw [if_pos hk]
        cases q : cells.lookup n with
        | none => exact ⟨c, h⟩
        | some d =>
          simp only [List.lookup_cons]
          cases hb : y == n with
          | true => exact ⟨d, rfl⟩
          | false => exact ⟨c, h⟩
      · rw [if_neg hk]; exact ⟨c, h⟩
    · rcases List.mem_cons.mp h with e | h
      · cases e
        left
        rw [if_pos rfl, hc]
        exact ⟨c, by simp⟩
      · exact .inr ⟨h, c, hc⟩
theorem lookup_relabel {env : Env} : ∀ {names : List (Str × NameKind)} {x : Str} {k : NameKind},
    (names.map fun (n, k) => if (k == NameKind.free && env.scope.kind == .function && env.kindOf n == some .cell) then (n, NameKind.cell) else (n, k)).lookup x = some k → names.lookup x = some k ∨ (k = .cell ∧ names.lookup x = some .free)
  | [], _, _, h => by simp at h
  | (n, k0) :: r, x, k, h => by
    have ih := @lookup_relabel env r x k
    rw [List.map_cons] at h
    by_cases hc : (k0 == NameKind.free && env.scope.kind == .function && env.kindOf n == some .cell) = true
    · simp only [hc, if_true, List.lookup_cons] at h
      have hk0 : k0 = .free := by
        simp only [Bool.and_eq_true] at hc
        simpa using hc.1.1
      cases hx : x == n with
      | true => rw [hx] at h; cases h; right; simp [List.lookup_cons, hx, hk0]
      | false => rw [hx] at h; simp only [List.lookup_cons, hx]; exact ih h
    · have hc' : (k0 == NameKind.free && env.scope.kind == .function && env.kindOf n == some .cell) = false := by simpa using hc
      simp only [hc', Bool.false_eq_true, if_false, List.lookup_cons] at h
      cases hx : x == n with
      | true => rw [hx] at h; cases h; left; simp [List.lookup_cons, hx]
      | false => rw [hx] at h; simp only [List.lookup_cons, hx]; exact ih h
def cxC (X : Cx) (N : List Str) (scope : Scope) (C : Addr) (s₀ : Shared) (H₀ : Hp) (ex : List Addr) : Cx where
  prog := X.prog
  w := X.w
  K := X.K
  mg := X.mg
  base := X.base
  A := X.A
  N := N
  s₀ := s₀
  H₀ := H₀
  env := compEnvC scope (closOf X.env.cells scope.names []) C X.env
  outer := X.stack
  stack := X.stack
  ex := ex
  fn := fun _ => false
  calm := X.calm
  pn := []
  xe := fun _ _ => False
def capt (js : List Nat) (σ : St) : St := js.map fun j => (σ[j]?).join
theorem capt_get {js : List Nat} {σ : St} {i : Nat} {v : V} (h : (capt js σ)[i]? = some (some v)) : ∃ j, js[i]? = some j ∧ σ[j]? = some (some v) := by
  unfold capt at h
  rw [List.getElem?_map] at h
  cases e : js[i]? with
  | none => rw [e] at h; cases h
  | some j =>
    rw [e] at h
    have h' : (σ[j]?).join = some v := Option.some.inj h
    refine ⟨j, rfl, ?_⟩
    cases q : σ[j]? with
    | none => rw [q] at h'; cases h'
    | some z => rw [q] at h'; exact congrArg some h'
structure CScope (sc : Scope) (scope : Scope) (x : Str) (M : List Str) (ys : List Str) (js : List Nat) : Prop where
  kind : scope.kind = .function
  cell : ∀ y ∈ scope.names, y.2 ≠ .cell
  loc : ∀ y ∈ scope.names, y.2 = .local → scope.names.lookup y.1 = some .local
  var : scope.names.lookup x = some .local
  free : ∀ y ∈ scope.names, y.2 = .free → sc.names.lookup y.1 = some .cell ∨ sc.names.lookup y.1 = some .free
  caps : js.map (M[·]?) = ys.map some
  fr : ∀ y ∈ ys, scope.names.lookup y = some .free
  nd : (x :: ys).Nodup
section
variable {X : Cx} {pins : List (Addr × Obj)} {σ : St} {H : Hp} {s : Shared}
theorem inv_comp {scope : Scope} {x : Str} {ys : List Str} {js : List Nat} {fp : List Addr} {h₁ : Heap} {tk : Nat} {C : Addr} (I : Inv X pins σ H s) (S : CScope X.env.scope scope x X.N ys js) (hf : ∀ b ∈ fp, FpOk X pins H b) (ho : ∀ b ∈ fp, ∃ o, s.heap.get? b = some o)
    (hC : s.heap.objs.size ≤ C) (hk : ∀ b o, s.heap.get? b = some o → h₁.get? b = some o) (hn : h₁.Ns C fun _ => none) :
    Inv (cxC X (x :: ys) scope C s H fp) [] (none :: capt js σ) H { s with heap := h₁, toks := tk } := by
  have sub : ∀ y c, (closOf X.env.cells scope.names []).lookup y = some c → X.env.cells.lookup y = some c := fun y c e => closOf_sub (fun _ _ z => by simp at z) e
  have has : ∀ y, scope.names.lookup y = some .free → ∃ c, (closOf X.env.cells scope.names []).lookup y = some c := fun y e => by
    have m : (y, NameKind.free) ∈ scope.names := PySem.mem_of_lookup e
    exact closOf_has (.inr ⟨m, I.ok.has y (S.free _ m rfl)⟩)
  have lt : ∀ b ∈ fp, b < s.heap.objs.size := fun b hb => by obtain ⟨o, e⟩ := ho b hb; exact Heap.lt_size e
  have ok : (cxC X (x :: ys) scope C s H fp).Ok := by
    refine ⟨I.ok.mod, S.kind, I.ok.glob, I.ok.blt, hC, fun y z c e1 e2 => I.ok.inj y z c (sub _ _ e1) (sub _ _ e2), fun y hy => ?_, fun y c z => ?_, I.ok.hd, I.ok.frames, .inl rfl, fun b hb => ?_, I.bs, Nat.le_trans I.ok.bsz I.sz, fun b o e hb => ?_, fun b hb z => ?_, I.stack, I.stkFree⟩
    · have hy' : (relabel scope X.env).names.lookup y = some .cell ∨ (relabel scope X.env).names.lookup y = some .free := hy
      have nocell : scope.names.lookup y ≠ some .cell := fun z => S.cell _ (PySem.mem_of_lookup z) rfl
      rcases hy' with e | e
      · rcases lookup_relabel e with z | ⟨_, z⟩
        · exact absurd z nocell
        · exact has y z
      · rcases lookup_relabel e with z | ⟨z, _⟩
        · exact has y z
        · cases z
    · exact absurd (show false = true from z) Bool.false_ne_true
    · refine ⟨Nat.ne_of_lt (Nat.lt_of_lt_of_le (lt b hb) hC), fun y c e => (hf b hb).2.2.2.2.1 y c (sub y c e)⟩
    · rcases (hf b hb).2.2.2.1 with z | z
      · exact I.ok.noex b o e z
      · exact absurd (Nat.lt_of_lt_of_le (Heap.lt_size e) (Nat.le_trans I.ok.bsz z)) (Nat.lt_irrefl _)
    · rcases List.mem_cons.mp (I.stkSub b z) with e | e
      · exact (hf b hb).2.1 e
      · exact (hf b hb).2.2.1 e
  refine ⟨ok, rfl, I.bare, Un.kept hk, ⟨_, hn, fun i y v e1 e2 e3 => ?_⟩, fun y c e => ?_, I.hok.fresh hC, fun y c e => I.freeC y c (sub y c e), fun p hp => absurd (show p ∈ ([] : List (Addr × Obj)) from hp) (by simp), I.hok.kept hk, ?_⟩
  · cases i with
    | zero => simp at e2
    | succ i =>
      have e1' : ys[i]? = some y := by simpa [cxC] using e1
      have e2' : (capt js σ)[i]? = some (some v) := by simpa using e2
      obtain ⟨j, hj, hσ⟩ := capt_get e2'
      have hN : X.N[j]? = some y := by
        have z := congrArg (fun l => l[i]?) S.caps
        simp only [List.getElem?_map, hj, e1', Option.map_some] at z
        exact Option.some.inj z
      have hfr := S.fr y (List.mem_of_getElem? e1')
      have m : (y, NameKind.free) ∈ scope.names := PySem.mem_of_lookup hfr
      have hkind := S.free _ m rfl
      obtain ⟨m', hns, hl⟩ := I.loc
      obtain ⟨u, r, lk⟩ := hl j y v hN hσ (by rcases hkind with z | z; exact .inr (.inl z); exact .inr (.inr z))
      refine ⟨u, r, .inr ⟨?_, ?_⟩⟩
      · have e3' : (relabel scope X.env).names.lookup y = some .local ∨ (relabel scope X.env).names.lookup y = some .cell ∨ (relabel scope X.env).names.lookup y = some .free := e3
        rcases e3' with z | z | z
        · rcases lookup_relabel z with q | ⟨q, _⟩
          · rw [hfr] at q; cases q
          · cases q
        · exact .inl z
        · exact .inr z
      · obtain ⟨c, hc⟩ := has y hfr
        refine ⟨c, hc, ?_⟩
        rcases lk with ⟨z, _⟩ | ⟨_, c', hc', cell⟩
        · rcases hkind with q | q
          · have q' : X.env.kindOf y = some .cell := q
            rw [show X.env.kindOf y = some .local from z] at q'; cases q'
          · have q' : X.env.kindOf y = some .free := q
            rw [show X.env.kindOf y = some .local from z] at q'; cases q'
        · rw [sub y c hc] at hc'
          cases hc'
          obtain ⟨o, e, d⟩ := cell
          exact ⟨o, hk _ _ e, d⟩
  · obtain ⟨v, o, e', d⟩ := I.cell y c (sub y c e)
    exact ⟨v, o, hk _ _ e', d⟩
  · have z := congrArg List.length S.caps
    simp only [List.length_map] at z
    show (none :: capt js σ).length = (x :: ys).length
    simp [capt, z]
end
end L2
set_option Elab.async false
set_option linter.all false
set_option maxRecDepth 100000
namespace L2
open PySem PySem.Spec PyProof.Rows
theorem from_pure {α β : Type} {M : Model} {A : Around} {a : α} {Q : α → Shared → Prop} {E E' : Value → Shared → Prop} {s : Shared} {t : Sem β} {Q' : β → Shared → Prop} (h : wpAny M A (pure a) Q E s) (k : Q a s → wpAny M A t Q' E' s) : wpAny M A t Q' E' s :=
  fun Γ p hΓ => k (h Γ p hΓ) Γ p hΓ
def PTs (X : Cx) (ifs : List Expr) (t : TT) : Prop :=
  ∀ (pins : List (Addr × Obj)) (s : Shared) (σ : St) (H : Hp) (Q : Bool → Hp → Prop), Inv X pins σ H s → t σ H Q →
    wpAny (model X.prog X.w) X.A (forIn ifs true fun c r => if r = true then do let ok ← isTrue c X.env (eval c X.env); pure (ForInStep.yield ok) else pure (ForInStep.yield r)) (TP X pins σ Q) X.xe s
def tYes : TT := fun _ H Q => Q true H
theorem pts_nil {X : Cx} : PTs X [] tYes := fun pins s σ H Q I h => wpAny_tests_nil ⟨H, I, h⟩
theorem pts_one {X : Cx} {c : Expr} {t : TT} (h : PT X c t) : PTs X [c] t := fun pins s σ H Q I hw => wpAny_tests_one (h pins s σ H Q I hw)
def CompLoop (J : It) (js : List Nat) (tt : TT) (te : TE) (σ : St) (Q : VK) (H : Hp) : Prop := ∃ W : Nat → Nat → List V → Hp → Prop, (∃ m, W 0 m [] H) ∧ ∀ i m ys H, W i m ys H →
  (J.stop i H ∧ ∀ D, H D = none → Q (.ref D) (upd H D (.lst ys))) ∨
  (J.go i H ∧ ys.length < sizeLine ∧ ∃ N : List V → Hp → Prop, (∀ ys' H', N ys' H' → ∃ m', m' < m ∧ W (i + 1) m' ys' H') ∧ ∀ x H', J.yld i H x H' → tt (some x :: capt js σ) H' fun b H2 => if b = true then te (some x :: capt js σ) H2 fun v H3 => N (ys ++ [v]) H3 else N ys H2)
def tComp (wi : TI) (js : List Nat) (tt : TT) (te : TE) : TE := fun σ H Q => wi σ H fun J H1 => CompLoop J js tt te σ Q H1
theorem HOk.track {P : Program} {w : World} {H : Hp} {h : Heap} {a : Addr} {o : HO} (x : HOk P w H h) (hn : H a = none) (new : ObjOk P w (upd H a o) h a o) : HOk P w (upd H a o) h := fun b u e => by
  by_cases hb : b = a
  · subst hb; rw [upd_same] at e; cases e; exact new
  · rw [upd_ne hb] at e
    exact (x b u e).stay (fun _ _ _ q => q) (fun c q => by rw [upd_ne (ne_of_none q hn)]; exact q) fun c xs q => by rw [upd_ne (ne_of_none q hn)]; exact q
section
variable {X : Cx} {elt iter : Expr} {ifs : List Expr} {x : Str} {px pos : Pos} {scope : Scope} {ys : List Str} {js : List Nat} {wi : TI} {tt : TT} {te : TE}
theorem comp_block {pins : List (Addr × Obj)} {σ : St} {H : Hp} {s : Shared} {J : It} {fp : List Addr} {it : Addr} {tn : Nat → Heap → Prop} {Q : VK} {E : Value → Shared → Prop} {R : Value → Addr → Result → Shared → Prop}
    (S : CScope X.env.scope scope x X.N ys js) (hc : X.calm = true) (ht : ∀ C s₀ H₀ ex, PTs (cxC X (x :: ys) scope C s₀ H₀ ex) ifs tt) (he : ∀ C s₀ H₀ ex, PE (cxC X (x :: ys) scope C s₀ H₀ ex) elt te)
    (I : Inv X pins σ H s) (T : Turn X.prog X.w X.K (.Name x px) J fp it tn) (st : tn 0 s.heap) (hf : ∀ b ∈ fp, FpOk X pins H b)
    (hw : ∃ W : Nat → Nat → List V → Hp → Prop, (∃ m, W 0 m [] H) ∧ ∀ i m zs H, W i m zs H →
      (J.stop i H ∧ ∀ D, H D = none → Q (.ref D) (upd H D (.lst zs))) ∨
      (J.go i H ∧ zs.length < sizeLine ∧ ∃ N : List V → Hp → Prop, (∀ ys' H', N ys' H' → ∃ m', m' < m ∧ W (i + 1) m' ys' H') ∧ ∀ x H', J.yld i H x H' → tt (some x :: capt js σ) H' fun b H2 => if b = true then te (some x :: capt js σ) H2 fun v H3 => N (zs ++ [v]) H3 else N zs H2))
    (hR : ∀ D C s' H' m', Inv X pins σ H' s' → Q (.ref D) H' → s.heap.objs.size ≤ C → H' C = none → s'.heap.Ns C m' → R (.ref D) C (.ok .next) s') :
    wpAny (model X.prog X.w) X.A (newList []) (fun acc s₃ => wpAny (model X.prog X.w) X.A (newFunctionEnv scope X.env.globals (closOf X.env.cells scope.names []) [] X.env.qual none .none (some X.env)) (fun cenv s₄ =>
      codeAny (model X.prog X.w) X.A (.compStart (.ListComp elt [⟨.Name x px, iter, ifs, 0⟩] scope pos) 0 (.ref it) acc { cenv with scope := relabel scope X.env }) (R acc cenv.locals) s₄) E s₃) E s := by
  obtain ⟨W, ⟨m0, w0⟩, turn⟩ := hw
  refine wpAny_newObj_type (wpAny_newFunctionEnv S.cell (by intro y hy; simp at hy) (fun h₁ hns₁ hsb₁ => ?_) S.kind)
  dsimp only at hns₁ hsb₁ ⊢
  generalize hH2 : s.heap.push { cls := .type "list", dict := none, data := .seq ([] : List Value).toArray } = G at hns₁ hsb₁ ⊢
  generalize hD : s.heap.objs.size = D at *
  generalize hCe : G.objs.size = C at *
  have hC : C = D + 1 := by rw [← hCe, ← hH2, Heap.size_push, hD]
  have hDlt : D < C := by rw [hC]; exact Nat.lt_succ_self D
  have hDC : D ≠ C := Nat.ne_of_lt hDlt
  have old : ∀ b o, s.heap.get? b = some o → h₁.get? b = some o := fun b o e => by
    have hb : b < D := hD ▸ Heap.lt_size e
    exact (hsb₁.2 b (Nat.ne_of_lt (Nat.lt_trans hb hDlt))).trans (Heap.get?_push_of_some _ (hH2 ▸ Heap.get?_push_of_some _ e))
  have hacc : h₁.get? D = some { cls := .type "list", data := .seq ([] : List Value).toArray 0 } := by
    refine (hsb₁.2 D hDC).trans (Heap.get?_push_of_some _ ?_)
    rw [← hH2, ← hD]
    exact Heap.get?_push_size _ rfl
  have obj0 := T.obj 0 _ st
  have fplt : ∀ b ∈ fp, b < D := fun b hb => by obtain ⟨o, e, _⟩ := obj0 b hb; exact hD ▸ Heap.lt_size e
  generalize hX : cxC X (x :: ys) scope C s H fp = X'
  have I1 : Inv X' [] (none :: capt js σ) H { s with heap := h₁, toks := s.toks + ([] : List (Str × Value)).length } := by
    subst hX
    exact inv_comp I S hf (fun b hb => by obtain ⟨o, e, _⟩ := obj0 b hb; exact ⟨o, e⟩) (by omega) old (by simpa using hns₁)
  have eP : X'.prog = X.prog := by subst hX; rfl
  have eW : X'.w = X.w := by subst hX; rfl
  have eK : X'.K = X.K := by subst hX; rfl
  have eA : X'.A = X.A := by subst hX; rfl
  have eC : X'.calm = true := by subst hX; exact hc
  have eL : X'.env.locals = C := by subst hX; rfl
  have eS : X'.s₀ = s := by subst hX; rfl
  have eN : X'.N = x :: ys := by subst hX; rfl
  have eE : X'.env = compEnvC scope (closOf X.env.cells scope.names []) C X.env := by subst hX; rfl
  have eXe : X'.xe = fun _ _ => False := by subst hX; rfl
  have eX : X'.ex = fp := by subst hX; rfl
  have ePn : X'.pn = [] := by subst hX; rfl
  have efs : ∀ b, b ∈ X'.fs → b ∈ frs X.stack := fun b z => by subst hX; exact z
  have cellLt : ∀ y c, X'.env.cells.lookup y = some c → c < D := fun y c e => by
    have e' : (closOf X.env.cells scope.names []).lookup y = some c := by rw [eE] at e; exact e
    obtain ⟨v, o, e2, _⟩ := I.cell y c (closOf_sub (fun _ _ z => by simp at z) e')
    exact hD ▸ Heap.lt_size e2
  have frLt : ∀ b, b ∈ X'.fs → b < D := fun b z => by
    rcases List.mem_cons.mp (I.stkSub b (efs b z)) with e | e
    · rw [e]; exact hD ▸ I.lt
    · exact Nat.lt_of_not_le fun h => I.nofs (hD ▸ h) e
  have fpOk : ∀ (p : List (Addr × Obj)) (H' : Hp), (∀ b ∈ fp, H' b = none) → (∀ q ∈ p, q.1 = D) → ∀ b ∈ fp, FpOk X' p H' b := fun p H' hn hp b hb => by
    refine ⟨hn b hb, ?_, fun z => ?_, .inl (eX ▸ hb), fun y c e => ?_, fun q hq => ?_⟩
    · rw [eL]; exact Nat.ne_of_lt (Nat.lt_trans (fplt b hb) hDlt)
    · rcases List.mem_cons.mp (I.stkSub b (efs b z)) with e | e
      · exact (hf b hb).2.1 e
      · exact (hf b hb).2.2.1 e
    · have e' : (closOf X.env.cells scope.names []).lookup y = some c := by rw [eE] at e; exact e
      exact (hf b hb).2.2.2.2.1 y c (closOf_sub (fun _ _ z => by simp at z) e')
    · rw [ePn, List.nil_append] at hq
      rw [hp q hq]; exact Nat.ne_of_gt (fplt b hb)
  have noCell : ∀ (its : List Value) (k : Nat) v, ({ cls := .type "list", data := .seq its.toArray k } : Obj).data ≠ .cell v := fun its k v z => by cases z
  have done : ∀ {zs : List V} {its : List Value} {k : Nat} {H' : Hp} {s' : Shared}, Inv X' [] (none :: capt js σ) H' s' → s'.heap.get? D = some { cls := .type "list", data := .seq its.toArray k } → Vals zs its → H' D = none → zs.length ≤ sizeLine →
      (∀ D, H' D = none → Q (.ref D) (upd H' D (.lst zs))) → R (.ref D) C (.ok .next) s' := fun {zs its k H' s'} I' hd hv hn hz q => by
    have un := I'.base
    obtain ⟨m', hns, _⟩ := I'.loc
    rw [eL] at hns
    have hCn : H' C = none := by have := I'.free; rw [eL] at this; exact this
    have hH0 : X'.H₀ = H := by subst hX; rfl
    rw [hH0, eS, eX] at un
    have un2 : Un (frs X.stack) fp H (upd H' D (.lst zs)) s.heap s'.heap := by
      have ne : ∀ b o, s.heap.get? b = some o → b ≠ D := fun b o e => Nat.ne_of_lt (hD ▸ Heap.lt_size e)
      have un' : Un (frs X.stack) fp H H' s.heap s'.heap := by subst hX; exact un
      exact ⟨un'.keep, un'.slot, fun b o e n hx => by rw [upd_ne (ne b o e)]; exact un'.free b o e n hx, un'.there, fun b xs e => by rw [upd_ne (ne_of_none (un'.tups b xs e) hn)]; exact un'.tups b xs e,
        fun b o u e => by rw [upd_ne (ne_of_none (un'.frzs b o u e) hn)]; exact un'.frzs b o u e, fun b ps e => by
          obtain ⟨more, z⟩ := un'.tbls b ps e
          exact ⟨more, by rw [upd_ne (ne_of_none z hn)]; exact z⟩⟩
    have hok : HOk X.prog X.w (upd H' D (.lst zs)) s'.heap := by
      have h0 := I'.hok
      rw [eP, eW] at h0
      exact h0.track hn ⟨hz, its, k, hv, hd⟩
    have I2 : Inv X pins σ (upd H' D (.lst zs)) s' := I.call' (by have := I'.os; rw [eS] at this; exact this) un2 hok I'.bare fun b hb => ⟨(hf b hb).2.2.2.1, (hf b hb).2.1, (hf b hb).2.2.2.2.1, (hf b hb).2.2.2.2.2⟩
    exact hR D C s' _ m' I2 (q D hn) (by omega) (by rw [upd_ne (Ne.symm hDC)]; exact hCn) hns
  have loop : codeAny (model X.prog X.w) X.A (.compLoop (.ListComp elt [⟨.Name x px, iter, ifs, 0⟩] scope pos) 0 (.ref it) (.ref D) X'.env) (R (.ref D) C) { s with heap := h₁, toks := s.toks + ([] : List (Str × Value)).length } := by
    refine codeAny_compLoop_tests (fun n s' => ∃ i zs its k H', Inv X' [] (none :: capt js σ) H' s' ∧ tn i s'.heap ∧ (∀ b ∈ fp, H' b = none) ∧ s'.heap.get? D = some { cls := .type "list", data := .seq its.toArray k } ∧ Vals zs its ∧ H' D = none ∧ zs.length ≤ sizeLine ∧ W i n zs H')
      ?_ m0 ⟨0, [], [], 0, H, I1, T.keep _ _ _ st (fun b hb o e => old b o e), fun b hb => (hf b hb).1, hacc, .nil, I.hok.fresh (by omega), Nat.zero_le _, w0⟩ (fun _ => rfl)
    rintro n s3 ⟨i, zs, its, k, H3, I3, st3, fr3, d3, v3, n3, z3, w3⟩
    have pinD : Inv X' [(D, { cls := .type "list", data := .seq its.toArray k })] (none :: capt js σ) H3 s3 := I3.pins_of fun p hp => by
      have e : p = (D, { cls := .type "list", data := .seq its.toArray k }) := by simpa using hp
      subst e
      exact ⟨d3, n3, by rw [eL]; exact hDC, fun z => Nat.lt_irrefl _ (frLt D z), noCell its k⟩
    have hpD : ∀ q ∈ [(D, ({ cls := .type "list", data := .seq its.toArray k } : Obj))], q.1 = D := fun q hq => by
      have e : q = (D, { cls := .type "list", data := .seq its.toArray k }) := by simpa using hq
      rw [e]
    rcases turn i n zs H3 w3 with ⟨stop, qn⟩ | ⟨go, hzl, NN, hNN, step⟩
    · refine thn (eA ▸ T.done X' eP eW eK eC i _ s3 _ H3 _ pinD (fpOk _ _ fr3 hpD) st3 stop) fun r s4 ⟨hr, I4⟩ => ?_
      subst hr
      exact done (I4.pins_of fun p hp => absurd hp (by simp)) (I4.pin (D, { cls := .type "list", data := .seq its.toArray k }) (List.mem_append_right _ (by simp))).1 v3 n3 z3 qn
    · refine thn (eA ▸ T.item X' eP eW eK eC i _ s3 _ H3 _ pinD (fpOk _ _ fr3 hpD) st3 go) fun r s4 ⟨u, hr, h4⟩ => ?_
      subst hr
      refine from_pure (a := ()) h4 fun ⟨v, H5, I5, r5, y5, st5, fr5⟩ => ?_
      have I5' := I5.pinned (fpOk _ _ fr5 hpD) (T.obj _ _ st5)
      have ev : ∀ {α : Type} {t : Sem α} {Q' : α → Shared → Prop} {E' : Value → Shared → Prop} {s' : Shared}, wpAny (model X'.prog X'.w) X'.A t Q' X'.xe s' → wpAny (model X.prog X.w) X.A t Q' E' s' := fun {α t Q' E' s'} hh => by
        rw [eP, eW, eA, eXe] at hh
        exact wpAny_mono hh (fun _ _ q => q) fun _ _ z => z.elim
      refine ev (thn (pg_name (X := X') (i := 0) (by rw [eN]; exact S.nd) (by rw [eN]; rfl) (.inl (by rw [eE]; exact lookup_relabel_local S.var)) (.inr (by rw [eE]; exact lookup_relabel_local S.var)) _ s4 _ H5 v u (fun σ' H' => σ' = some v :: capt js σ ∧ H' = H5) I5' r5 ⟨rfl, rfl⟩) fun _ s6 ⟨σ6, H6, I6, e6, e6'⟩ => ?_)
      subst e6 e6'
      have back : ∀ {σ' : St} {H7 : Hp} {s7 : Shared}, Inv X' ([(D, { cls := .type "list", data := .seq its.toArray k })] ++ pinsAt fp s4.heap) (some v :: capt js σ) H7 s7 → Inv X' [] (none :: capt js σ) H7 s7 := fun {_ H7 s7} I7 => by
        refine (I7.pins_of fun p hp => absurd hp (by simp)).weak rfl fun i v' e => ?_
        cases i with
        | zero => simp at e
        | succ i => simpa using e
      have fps : ∀ {σ' : St} {H7 : Hp} {s7 : Shared}, Inv X' ([(D, { cls := .type "list", data := .seq its.toArray k })] ++ pinsAt fp s4.heap) σ' H7 s7 → (∀ b ∈ fp, H7 b = none) ∧ (∀ b ∈ fp, ∀ o, s4.heap.get? b = some o → s7.heap.get? b = some o) ∧ s7.heap.get? D = some { cls := .type "list", data := .seq its.toArray k } ∧ H7 D = none := fun {σ' H7 s7} I7 => by
        have g : ∀ b ∈ fp, ∀ o, s4.heap.get? b = some o → s7.heap.get? b = some o ∧ H7 b = none := fun b hb o e => by
          have z := I7.pin (b, o) (List.mem_append_right _ (List.mem_append_right _ (mem_pinsAt hb e)))
          exact ⟨z.1, z.2.1⟩
        refine ⟨fun b hb => ?_, fun b hb o e => (g b hb o e).1, (I7.pin (D, { cls := .type "list", data := .seq its.toArray k }) (List.mem_append_right _ (by simp))).1, (I7.pin (D, { cls := .type "list", data := .seq its.toArray k }) (List.mem_append_right _ (by simp))).2.1⟩
        obtain ⟨o, e, _⟩ := T.obj _ _ st5 b hb
        exact (g b hb o e).2
      have hte : PTs X' ifs tt := hX ▸ ht C s H fp
      have hee : PE X' elt te := hX ▸ he C s H fp
      refine ev (thn (hte _ s6 _ H6 _ I6 (step v H6 y5)) fun b s7 ⟨H7, I7, q7⟩ => ?_)
      cases b with
      | false =>
        rw [if_neg Bool.false_ne_true]
        rw [if_neg Bool.false_ne_true] at q7
        obtain ⟨m', hm, w7⟩ := hNN _ _ q7
        obtain ⟨g1, g2, g3, g4⟩ := fps I7
        exact ⟨m', hm, i + 1, zs, its, k, H7, back (σ' := []) I7, T.keep _ _ _ st5 g2, g1, g3, v3, g4, z3, w7⟩
      | true =>
        rw [if_pos rfl]
        rw [if_pos rfl] at q7
        refine ev (thn (hee _ s7 _ H7 _ I7 q7) fun u8 s8 ⟨v8, H8, I8, r8, q8⟩ => ?_)
        obtain ⟨m', hm, w8⟩ := hNN _ _ q8
        obtain ⟨g1, g2, g3, g4⟩ := fps I8
        have hil := v3.length
        refine call_meets F.slot_list_append ⟨_, g3, rfl⟩ F.entry_list_append (F.args_list_append_2 _ _) (PySem.list_append D its.toArray k u8 (by rw [List.size_toArray]; omega)) ⟨g3, ?_⟩
        have q := PySem.IsL.update g3 (fun a => a.push u8)
        have ea : its.toArray.push u8 = (its ++ [u8]).toArray := by simp
        rw [ea] at q
        have kk : ∀ b o, b ≠ D → s8.heap.get? b = some o → (s8.heap.update D (Obj.mapSeq fun a => a.push u8)).get? b = some o := fun b o hb e => (Heap.get?_update_other _ _ (Ne.symm hb)).trans e
        have I9 : Inv X' [] (none :: capt js σ) H8 { s8 with heap := s8.heap.update D (Obj.mapSeq fun a => a.push u8), toks := s8.toks } := by
          refine (back (σ' := []) I8).turned kk g4 (by rw [eL]; exact hDC) (.inr (by rw [eS]; omega)) (fun y c e => Nat.ne_of_lt (cellLt y c e)) fun p hp => ?_
          rw [ePn] at hp
          exact absurd hp (by simp)
        refine ⟨m', hm, i + 1, zs ++ [v8], its ++ [u8], _, H8, I9, T.keep _ _ _ st5 (fun b hb o e => kk b o (Nat.ne_of_lt (fplt b hb)) (g2 b hb o e)), g1, q, v3.append (.cons r8 .nil), g4, ?_, w8⟩
        rw [List.length_append, List.length_singleton]
        omega
  rw [eE] at loop
  exact codeAny_compStart_list loop (T.self _ 0 _ _ _ (T.keep _ _ _ st (fun b hb o e => old b o e)) loop)
theorem pe_comp (S : CScope X.env.scope scope x X.N ys js) (hc : X.calm = true) (hi : PI X (.Name x px) iter wi) (ht : ∀ C s₀ H₀ ex, PTs (cxC X (x :: ys) scope C s₀ H₀ ex) ifs tt) (he : ∀ C s₀ H₀ ex, PE (cxC X (x :: ys) scope C s₀ H₀ ex) elt te)
    (hs : ∀ x, foldedSetIterable iter X.env x = pure x := by intro _; rfl) : PE X (.ListComp elt [⟨.Name x px, iter, ifs, 0⟩] scope pos) (tComp wi js tt te) := by
  intro pins s σ H Q I h
  rw [eval_ListComp]
  refine wpAny_comprehension_free (use := none) rfl hs (closureFor_eq fun y hy e => I.ok.has _ (S.free y hy e)) S.kind S.loc (thn (hi pins s σ H _ I h) fun v s1 h1 => thn h1 fun itv s2 h2 => ?_)
  obtain ⟨it, fp, tn, J, H2, e, I2, T, st2, f2, hw⟩ := h2
  subst e
  refine comp_block (Q := Q) (R := fun acc C => compPost (model X.prog X.w) X.A X.xe none (EP X pins σ Q) acc C) S hc ht he I2 T st2 f2 hw ?_
  intro D C s' H' m' I' q hC hn hns
  refine ⟨m', hns, fun h' hs' => ⟨.ref D, H', ?_, rfl, q⟩⟩
  have e := I2.fpOk hC hn
  exact I'.turned (t' := s'.toks) (fun b o hb e => (hs'.2 b hb).trans e) hn e.2.1 e.2.2.2.1 e.2.2.2.2.1 e.2.2.2.2.2
theorem ps_setComp {i : Nat} {y : Str} {py spos : Pos} (S : CScope X.env.scope scope x X.N ys js) (hc : X.calm = true) (hN : X.N.Nodup) (hy : X.N[i]? = some y) (hl : Loc X.env.scope y) (hi : PI X (.Name x px) iter wi) (ht : ∀ C s₀ H₀ ex, PTs (cxC X (x :: ys) scope C s₀ H₀ ex) ifs tt) (he : ∀ C s₀ H₀ ex, PE (cxC X (x :: ys) scope C s₀ H₀ ex) elt te)
    (hf : X.fn y = true ∨ X.env.scope.names.lookup y = some .local := by first | exact .inl rfl | exact .inr rfl | assumption)
    (hsw : swapsWith (.ListComp elt [⟨.Name x px, iter, ifs, 0⟩] scope pos) (some (.Name y py)) spos.line X.env = pure true := by rfl)
    (hs : ∀ x, foldedSetIterable iter X.env x = pure x := by intro _; rfl) : PS X (.Assign [.Name y py] (.ListComp elt [⟨.Name x px, iter, ifs, 0⟩] scope pos) spos) (tAsg (tComp wi js tt te) (gName i)) := by
  intro pins s σ H D I h
  rw [exec_Assign_Name_used _ _ _ _ hsw]
  refine wpAny_bind (wpAny_standAt (wpAny_bind ?_))
  show wpAny _ X.A (do let _ ← comprehension (.ListComp elt [⟨.Name x px, iter, ifs, 0⟩] scope pos) scope X.env _ (newList []) false (eval iter X.env) (some (assign (.Name y py) X.env))) _ _ s
  refine wpAny_bind (wpAny_mono (wpAny_comprehension_free (use := some (assign (.Name y py) X.env)) (Q := fun _ s' => SP X pins D .next s') rfl hs (closureFor_eq fun y hy e => I.ok.has _ (S.free y hy e)) S.kind S.loc
    (thn (hi pins s σ H _ I h) fun v s1 h1 => thn h1 fun itv s2 h2 => ?_)) (fun _ s' hq => wpAny_pure (wpAny_pure hq)) fun _ _ e => e)
  obtain ⟨it, fp, tn, J, H2, e, I2, T, st2, f2, hw⟩ := h2
  subst e
  refine comp_block (Q := fun v H' => gName i v σ H' D.nx) (R := fun acc C => compPost (model X.prog X.w) X.A X.xe (some (assign (.Name y py) X.env)) (fun _ s' => SP X pins D .next s') acc C) S hc ht he I2 T st2 f2 hw ?_
  intro Da C s' H' m' I' q hC hn hns
  have e := I2.fpOk hC hn
  show wpAny _ X.A (assign (.Name y py) X.env (.ref Da)) _ _ _
  refine wpAny_assign_Name (store_ok2 I' hN hy hl (show RelV (.ref Da) (.ref Da) from rfl) (fun s2' I3 ⟨a, sb, ha⟩ => ?_) hf)
  have hCa : C ≠ a := by
    rcases ha with z | z
    · rw [z]; exact e.2.1
    · intro w; exact e.2.2.2.2.1 _ _ z w.symm
  refine ⟨m', hns.sameBut sb hCa, fun h' hs' => ⟨_, H', ?_, q⟩⟩
  exact I3.turned (t' := s2'.toks) (fun b o hb e => (hs'.2 b hb).trans e) hn e.2.1 e.2.2.2.1 e.2.2.2.2.1 e.2.2.2.2.2
end
theorem comp_list {K : PySem.W.Frag} {a : Addr} {xs : List V} {js : List Nat} {tt : TT} {te : TE} {σ : St} {H : Hp} {Q : VK} (Pv : Nat → List V → Hp → Prop) (h0 : Pv 0 [] H) (hl : ∀ i ys H, i ≤ xs.length → Pv i ys H → SqL K H a xs)
    (hs : ∀ i x ys H, xs[i]? = some x → Pv i ys H → ys.length < sizeLine ∧ tt (some x :: capt js σ) H fun b H2 => if b = true then te (some x :: capt js σ) H2 fun v H3 => Pv (i + 1) (ys ++ [v]) H3 else Pv (i + 1) ys H2)
    (hd : ∀ ys H, Pv xs.length ys H → ∀ D, H D = none → Q (.ref D) (upd H D (.lst ys))) :
    CompLoop (Itl K a) js tt te σ Q H := by
  refine ⟨fun i m ys H => m = xs.length - i ∧ i ≤ xs.length ∧ Pv i ys H, ⟨xs.length, by simp, Nat.zero_le _, h0⟩, ?_⟩
  rintro i m ys H ⟨rfl, hi, p⟩
  have q := hl i ys H hi p
  by_cases hlt : i < xs.length
  · have hx : xs[i]? = some xs[i] := List.getElem?_eq_getElem hlt
    obtain ⟨hz, hst⟩ := hs i xs[i] ys H hx p
    refine .inr ⟨⟨xs, xs[i], q, hx⟩, hz, Pv (i + 1), fun ys' H' p' => ⟨xs.length - (i + 1), by omega, rfl, hlt, p'⟩, fun x H' y => ?_⟩
    obtain ⟨e, y⟩ := y
    subst e
    have e2 := y xs q
    rw [hx] at e2
    cases e2
    exact hst
  · have e : i = xs.length := by omega
    subst e
    exact .inl ⟨⟨xs, q, Nat.le_refl _⟩, hd ys H p⟩
theorem comp_range {lo : Int} {n : Nat} {js : List Nat} {tt : TT} {te : TE} {σ : St} {H : Hp} {Q : VK} (Pv : Nat → List V → Hp → Prop) (h0 : Pv 0 [] H)
    (hs : ∀ i ys H, i < n → Pv i ys H → ys.length < sizeLine ∧ tt (some (.int (lo + i)) :: capt js σ) H fun b H2 => if b = true then te (some (.int (lo + i)) :: capt js σ) H2 fun v H3 => Pv (i + 1) (ys ++ [v]) H3 else Pv (i + 1) ys H2)
    (hd : ∀ ys H, Pv n ys H → ∀ D, H D = none → Q (.ref D) (upd H D (.lst ys))) :
    CompLoop (Itr lo n) js tt te σ Q H := by
  refine ⟨fun i m ys H => m = n - i ∧ i ≤ n ∧ Pv i ys H, ⟨n, by simp, Nat.zero_le _, h0⟩, ?_⟩
  rintro i m ys H ⟨rfl, hi, p⟩
  by_cases hlt : i < n
  · obtain ⟨hz, hst⟩ := hs i ys H hlt p
    refine .inr ⟨hlt, hz, Pv (i + 1), fun ys' H' p' => ⟨n - (i + 1), by omega, rfl, hlt, p'⟩, fun x H' y => ?_⟩
    obtain ⟨e, y⟩ := y
    subst e y
    exact hst
  · have e : i = n := by omega
    subst e
    exact .inl ⟨Nat.le_refl _, hd ys H p⟩
end L2
set_option Elab.async false
set_option linter.all false
set_option maxRecDepth 100000
namespace L2
open PySem PySem.Spec PyProof.Rows PySem.SeqAt
inductive Tr where
  | non | bl (b : Bool) | int (i : Int) | str (x : Str) | lst (ts : List Tr) | tup (ts : List Tr)
mutual
def TrAt (K : PySem.W.Frag) (H : Hp) : Tr → V → Prop
  | .non, v => v = .non
  | .bl b, v => v = .bl b
  | .int i, v => v = .int i
  | .str x, v => v = .str x
  | .lst ts, v => ∃ a xs, v = .ref a ∧ SqL K H a xs ∧ TrsAt K H ts xs
  | .tup ts, v => ∃ a xs, v = .ref a ∧ SqT K H a xs ∧ TrsAt K H ts xs
def TrsAt (K : PySem.W.Frag) (H : Hp) : List Tr → List V → Prop
  | [], xs => xs = []
  | t :: ts, xs => ∃ y ys, xs = y :: ys ∧ TrAt K H t y ∧ TrsAt K H ts ys
end
mutual
def teq : Tr → Tr → Bool
  | .non, .non => true
  | .bl a, .bl b => a == b
  | .bl a, .int b => (if a then 1 else 0) == b
  | .int a, .bl b => a == (if b then 1 else 0)
  | .int a, .int b => a == b
  | .str a, .str b => a == b
  | .lst a, .lst b => teqs a b
  | .tup a, .tup b => teqs a b
  | _, _ => false
def teqs : List Tr → List Tr → Bool
  | [], [] => true
  | t :: ts, u :: us => teq t u && teqs ts us
  | _, _ => false
end
mutual
def tdep : Tr → Nat
  | .lst ts => tdeps ts + 1
  | .tup ts => tdeps ts + 1
  | _ => 0
def tdeps : List Tr → Nat
  | [] => 0
  | t :: ts => max (tdep t) (tdeps ts)
end
theorem tdep_mem {t : Tr} : ∀ {ts : List Tr}, t ∈ ts → tdep t ≤ tdeps ts
  | u :: ts, h => by
    rw [tdeps]
    rcases List.mem_cons.mp h with e | h
    · rw [e]; exact Nat.le_max_left _ _
    · exact Nat.le_trans (tdep_mem h) (Nat.le_max_right _ _)
section
variable {K : PySem.W.Frag} {H : Hp}
theorem TrsAt.length : ∀ {ts : List Tr} {xs : List V}, TrsAt K H ts xs → ts.length = xs.length
  | [], xs, h => by rw [TrsAt] at h; subst h; rfl
  | t :: ts, xs, h => by
    rw [TrsAt] at h
    obtain ⟨y, ys, rfl, _, h⟩ := h
    rw [List.length_cons, List.length_cons, TrsAt.length h]
theorem TrsAt.get : ∀ {ts : List Tr} {xs : List V} {j : Nat} {t : Tr}, TrsAt K H ts xs → ts[j]? = some t → ∃ x, xs[j]? = some x ∧ TrAt K H t x
  | [], xs, j, t, h, e => by simp at e
  | u :: ts, xs, 0, t, h, e => by
    rw [TrsAt] at h
    obtain ⟨y, ys, rfl, hy, h⟩ := h
    simp at e
    subst e
    exact ⟨y, rfl, hy⟩
  | u :: ts, xs, j + 1, t, h, e => by
    rw [TrsAt] at h
    obtain ⟨y, ys, rfl, hy, h⟩ := h
    obtain ⟨x, e1, e2⟩ := TrsAt.get (j := j) h (by simpa using e)
    exact ⟨x, by simpa using e1, e2⟩
theorem TrsAt.mk : ∀ {ts : List Tr} {xs : List V}, ts.length = xs.length → (∀ (j : Nat) (t : Tr) (x : V), ts[j]? = some t → xs[j]? = some x → TrAt K H t x) → TrsAt K H ts xs
  | [], [], _, _ => by rw [TrsAt]
  | [], _ :: _, h, _ => by simp at h
  | _ :: _, [], h, _ => by simp at h
  | t :: ts, x :: xs, h, f => by
    rw [TrsAt]
    exact ⟨x, xs, rfl, f 0 t x rfl rfl, TrsAt.mk (by simpa using h) fun j t x e1 e2 => f (j + 1) t x (by simpa using e1) (by simpa using e2)⟩
theorem TrsAt.ints : ∀ {ns : List Int}, TrsAt K H (ns.map Tr.int) (ns.map V.int)
  | [] => by rw [List.map_nil, TrsAt]; rfl
  | n :: ns => by rw [List.map_cons, TrsAt]; exact ⟨_, _, rfl, by rw [TrAt], TrsAt.ints⟩
def tInts (ns : List Int) : Tr := .lst (ns.map Tr.int)
theorem TrAt.ints {a : Addr} {ns : List Int} (h : SqL K H a (ns.map V.int)) : TrAt K H (tInts ns) (.ref a) := by
  unfold tInts; rw [TrAt]; exact ⟨a, _, rfl, h, TrsAt.ints⟩
end
mutual
theorem teq_refl : ∀ t : Tr, teq t t = true
  | .non => by rw [teq]
  | .bl b => by rw [teq]; simp
  | .int i => by rw [teq]; simp
  | .str x => by rw [teq]; simp
  | .lst ts => by rw [teq]; exact teqs_refl ts
  | .tup ts => by rw [teq]; exact teqs_refl ts
theorem teqs_refl : ∀ ts : List Tr, teqs ts ts = true
  | [] => by rw [teqs]
  | t :: ts => by rw [teqs, teq_refl t, teqs_refl ts]; rfl
end
theorem teqs_map {α : Type} [DecidableEq α] {f : α → Tr} (h : ∀ a b, teq (f a) (f b) = decide (a = b)) : ∀ (xs ys : List α), teqs (xs.map f) (ys.map f) = decide (xs = ys)
  | [], [] => by simp [teqs]
  | [], _ :: _ => by simp [teqs]
  | _ :: _, [] => by simp [teqs]
  | x :: xs, y :: ys => by
    rw [List.map_cons, List.map_cons, teqs, h, teqs_map h xs ys, Bool.eq_iff_iff]
    simp
theorem teq_int (a b : Int) : teq (.int a) (.int b) = decide (a = b) := by rw [teq, Bool.eq_iff_iff]; simp
theorem teq_ints (a b : List Int) : teq (tInts a) (tInts b) = decide (a = b) := by unfold tInts; rw [teq]; exact teqs_map teq_int a b
theorem tdeps_ints : ∀ ns : List Int, tdeps (ns.map Tr.int) = 0
  | [] => by simp [tdeps]
  | n :: ns => by rw [List.map_cons, tdeps, tdeps_ints ns, tdep] <;> simp
theorem tdep_tInts (ns : List Int) : tdep (tInts ns) = 1 := by unfold tInts; rw [tdep, tdeps_ints]
theorem teqs_length : ∀ {ts us : List Tr}, ts.length ≠ us.length → teqs ts us = false
  | [], [], h => absurd rfl h
  | [], _ :: _, _ => by simp [teqs]
  | _ :: _, [], _ => by simp [teqs]
  | t :: ts, u :: us, h => by rw [teqs, teqs_length (by simpa using h), Bool.and_false]
def eAt (ts us : List Tr) (j : Nat) : Bool := match ts[j]?, us[j]? with
  | some t, some u => teq t u
  | _, _ => true
theorem all_eAt : ∀ {ts us : List Tr}, ts.length = us.length → (List.range ts.length).all (eAt ts us) = teqs ts us
  | [], [], _ => by simp [teqs]
  | [], _ :: _, h => by simp at h
  | _ :: _, [], h => by simp at h
  | t :: ts, u :: us, h => by
    rw [List.length_cons, List.range_succ_eq_map, List.all_cons, List.all_map, teqs, ← all_eAt (ts := ts) (us := us) (by simpa using h)]
    rfl
section
variable {X : Cx} {pins : List (Addr × Obj)} {σ : St} {H : Hp} {s : Shared}
theorem tr_inj (I : Inv X pins σ H s) : ∀ (n : Nat) {t u : Tr} {v : V}, tdep t ≤ n → TrAt X.K H t v → TrAt X.K H u v → t = u := by
  intro n
  induction n with
  | zero =>
    intro t u v hd ht hu
    cases t with
    | lst ts => rw [tdep] at hd; omega
    | tup ts => rw [tdep] at hd; omega
    | _ => (rw [TrAt] at ht; subst ht; cases u <;> (rw [TrAt] at hu) <;> first | rfl | (obtain ⟨_, _, z, _⟩ := hu; cases z) | (cases hu; rfl) | cases hu)
  | succ n ih =>
    intro t u v hd ht hu
    have lists : ∀ {ts us : List Tr} {xs : List V}, tdeps ts ≤ n → TrsAt X.K H ts xs → TrsAt X.K H us xs → ts = us := by
      intro ts us xs hd h1 h2
      apply List.ext_getElem?
      intro j
      have l1 := h1.length
      have l2 := h2.length
      by_cases hj : j < ts.length
      · obtain ⟨t, e⟩ : ∃ t, ts[j]? = some t := ⟨_, List.getElem?_eq_getElem hj⟩
        obtain ⟨u, e'⟩ : ∃ u, us[j]? = some u := ⟨_, List.getElem?_eq_getElem (by omega)⟩
        obtain ⟨x, ex, hx⟩ := h1.get e
        obtain ⟨y, ey, hy⟩ := h2.get e'
        rw [ex] at ey
        cases ey
        rw [e, e', ih (Nat.le_trans (tdep_mem (List.mem_of_getElem? e)) hd) hx hy]
      · rw [List.getElem?_eq_none (by omega), List.getElem?_eq_none (by omega)]
    cases t with
    | lst ts =>
      rw [TrAt] at ht
      obtain ⟨a, xs, rfl, q, h1⟩ := ht
      cases u with
      | lst us =>
        rw [TrAt] at hu
        obtain ⟨b, ys, e, q', h2⟩ := hu
        cases e
        rw [I.list_inj q' q] at h2
        rw [lists (by rw [tdep] at hd; omega) h1 h2]
      | tup us =>
        rw [TrAt] at hu
        obtain ⟨b, ys, e, q', h2⟩ := hu
        cases e
        obtain ⟨_, _, pl, _⟩ := I.list q
        obtain ⟨_, _, pt, _⟩ := I.tuple q'
        exact absurd rfl (ne_of_list_tuple pl.isList pt)
      | _ => rw [TrAt] at hu; cases hu
    | tup ts =>
      rw [TrAt] at ht
      obtain ⟨a, xs, rfl, q, h1⟩ := ht
      cases u with
      | tup us =>
        rw [TrAt] at hu
        obtain ⟨b, ys, e, q', h2⟩ := hu
        cases e
        rw [I.tuple_inj q' q] at h2
        rw [lists (by rw [tdep] at hd; omega) h1 h2]
      | lst us =>
        rw [TrAt] at hu
        obtain ⟨b, ys, e, q', h2⟩ := hu
        cases e
        obtain ⟨_, _, pl, _⟩ := I.list q'
        obtain ⟨_, _, pt, _⟩ := I.tuple q
        exact absurd rfl (ne_of_list_tuple pl.isList pt)
      | _ => rw [TrAt] at hu; cases hu
    | _ => (rw [TrAt] at ht; subst ht; cases u <;> (rw [TrAt] at hu) <;> first | rfl | (obtain ⟨_, _, z, _⟩ := hu; cases z) | (cases hu; rfl) | cases hu)
structure Cmps (A : Around) (s : Shared) (a b : Value) (r : Bool) : Prop where
  rc : RcAt A s a b r
  ne : RcNeAt A s a b (!r)
  eq : EqAt A s a b r
theorem units_in1 (A : Around) : A.in1.units = A.units + 1 := rfl
theorem tr_cmps (I : Inv X pins σ H s) : ∀ (n : Nat) {t u : Tr} {v w : V} {a b : Value} {A : Around}, tdep t ≤ n → TrAt X.K H t v → TrAt X.K H u w → RelV v a → RelV w b → A.units + n < cLine → Cmps A s a b (teq t u) := by
  intro n
  induction n with
  | zero =>
    intro t u v w a b A hd ht hu ra rb hA
    have hA' : A.units < cLine := by omega
    cases t with
    | lst ts => rw [tdep] at hd; omega
    | tup ts => rw [tdep] at hd; omega
    | non =>
      rw [TrAt] at ht; subst ht; cases ra
      cases u with
      | non => rw [TrAt] at hu; subst hu; cases rb; rw [teq]; exact ⟨.none_none, .none_none, .same _⟩
      | bl b => rw [TrAt] at hu; subst hu; cases rb; simp only [teq]; exact ⟨.none_bool _, .none_bool _, .none_bool _⟩
      | int b => rw [TrAt] at hu; subst hu; obtain ⟨_, rfl⟩ := rb; simp only [teq]; exact ⟨.none_int _ _, .none_int _ _, .none_int _ _⟩
      | str b => rw [TrAt] at hu; subst hu; obtain ⟨_, rfl⟩ := rb; simp only [teq]; exact ⟨.none_str _ _, .none_str _ _, .none_str _ _⟩
      | lst us => rw [TrAt] at hu; obtain ⟨p, ys, rfl, q, _⟩ := hu; cases rb; obtain ⟨_, _, pl, _⟩ := I.list q; simp only [teq]; exact ⟨.none_list pl.isList hA', .none_list pl.isList hA', .none_list pl.isList hA'⟩
      | tup us => rw [TrAt] at hu; obtain ⟨p, ys, rfl, q, _⟩ := hu; cases rb; obtain ⟨_, _, pl, _⟩ := I.tuple q; simp only [teq]; exact ⟨.none_tuple pl hA', .none_tuple pl hA', .none_tuple pl hA'⟩
    | bl c =>
      rw [TrAt] at ht; subst ht; cases ra
      cases u with
      | non => rw [TrAt] at hu; subst hu; cases rb; simp only [teq]; exact ⟨.bool_none _, .bool_none _, .bool_none _⟩
      | bl b => rw [TrAt] at hu; subst hu; cases rb; rw [teq]; exact ⟨.bool_bool _ _, .bool_bool _ _, .bool_bool _ _⟩
      | int b => rw [TrAt] at hu; subst hu; obtain ⟨_, rfl⟩ := rb; rw [teq]; exact ⟨.bool_int _ _ _, .bool_int _ _ _, .bool_int _ _ _⟩
      | str b => rw [TrAt] at hu; subst hu; obtain ⟨_, rfl⟩ := rb; simp only [teq]; exact ⟨.bool_str _ _ _, .bool_str _ _ _, .bool_str _ _ _⟩
      | lst us => rw [TrAt] at hu; obtain ⟨p, ys, rfl, q, _⟩ := hu; cases rb; obtain ⟨_, _, pl, _⟩ := I.list q; simp only [teq]; exact ⟨.bool_list _ pl.isList hA', .bool_list _ pl.isList hA', .bool_list _ pl.isList hA'⟩
      | tup us => rw [TrAt] at hu; obtain ⟨p, ys, rfl, q, _⟩ := hu; cases rb; obtain ⟨_, _, pl, _⟩ := I.tuple q; simp only [teq]; exact ⟨.bool_tuple _ pl hA', .bool_tuple _ pl hA', .bool_tuple _ pl hA'⟩
    | int c =>
      rw [TrAt] at ht; subst ht; obtain ⟨_, rfl⟩ := ra
      cases u with
      | non => rw [TrAt] at hu; subst hu; cases rb; simp only [teq]; exact ⟨.int_none _ _, .int_none _ _, .int_none _ _⟩
      | bl b => rw [TrAt] at hu; subst hu; cases rb; rw [teq]; exact ⟨.int_bool _ _ _, .int_bool _ _ _, .int_bool _ _ _⟩
      | int b => rw [TrAt] at hu; subst hu; obtain ⟨_, rfl⟩ := rb; rw [teq]; exact ⟨.int_int _ _ _ _, .int_int _ _ _ _, .int_int _ _ _ _⟩
      | str b => rw [TrAt] at hu; subst hu; obtain ⟨_, rfl⟩ := rb; simp only [teq]; exact ⟨.int_str _ _ _ _, .int_str _ _ _ _, .int_str _ _ _ _⟩
      | lst us => rw [TrAt] at hu; obtain ⟨p, ys, rfl, q, _⟩ := hu; cases rb; obtain ⟨_, _, pl, _⟩ := I.list q; simp only [teq]; exact ⟨.int_list _ _ pl.isList hA', .int_list _ _ pl.isList hA', .int_list _ _ pl.isList hA'⟩
      | tup us => rw [TrAt] at hu; obtain ⟨p, ys, rfl, q, _⟩ := hu; cases rb; obtain ⟨_, _, pl, _⟩ := I.tuple q; simp only [teq]; exact ⟨.int_tuple _ _ pl hA', .int_tuple _ _ pl hA', .int_tuple _ _ pl hA'⟩
    | str c =>
      rw [TrAt] at ht; subst ht; obtain ⟨_, rfl⟩ := ra
      cases u with
      | non => rw [TrAt] at hu; subst hu; cases rb; simp only [teq]; exact ⟨.str_none _ _, .str_none _ _, .str_none _ _⟩
      | bl b => rw [TrAt] at hu; subst hu; cases rb; simp only [teq]; exact ⟨.str_bool _ _ _, .str_bool _ _ _, .str_bool _ _ _⟩
      | int b => rw [TrAt] at hu; subst hu; obtain ⟨_, rfl⟩ := rb; simp only [teq]; exact ⟨.str_int _ _ _ _, .str_int _ _ _ _, .str_int _ _ _ _⟩
      | str b => rw [TrAt] at hu; subst hu; obtain ⟨_, rfl⟩ := rb; rw [teq]; exact ⟨.str_str _ _ _ _, .str_str _ _ _ _, .str_str _ _ _ _⟩
      | lst us => rw [TrAt] at hu; obtain ⟨p, ys, rfl, q, _⟩ := hu; cases rb; obtain ⟨_, _, pl, _⟩ := I.list q; simp only [teq]; exact ⟨.str_list _ _ pl.isList hA', .str_list _ _ pl.isList hA', .str_list _ _ pl.isList hA'⟩
      | tup us => rw [TrAt] at hu; obtain ⟨p, ys, rfl, q, _⟩ := hu; cases rb; obtain ⟨_, _, pl, _⟩ := I.tuple q; simp only [teq]; exact ⟨.str_tuple _ _ pl hA', .str_tuple _ _ pl hA', .str_tuple _ _ pl hA'⟩
  | succ n ih =>
    intro t u v w a b A hd ht hu ra rb hA
    have hA' : A.units < cLine := by omega
    have items : ∀ {ts us : List Tr} {xs ys : List V} {its its2 : List Value}, tdeps ts ≤ n → TrsAt X.K H ts xs → TrsAt X.K H us ys → Vals xs its → Vals ys its2 →
        ∀ j (h1 : j < its.toArray.size) (h2 : j < its2.toArray.size), EqAt A.in1 s its.toArray[j] its2.toArray[j] (eAt ts us j) := by
      intro ts us xs ys its its2 hdn h1 h2 r1 r2 j hj1 hj2
      have l1 := h1.length
      have l2 := h2.length
      have m1 := r1.length
      have m2 := r2.length
      rw [List.size_toArray] at hj1 hj2
      obtain ⟨t, e⟩ : ∃ t, ts[j]? = some t := ⟨_, List.getElem?_eq_getElem (by omega)⟩
      obtain ⟨u, e'⟩ : ∃ u, us[j]? = some u := ⟨_, List.getElem?_eq_getElem (by omega)⟩
      obtain ⟨x, ex, hx⟩ := h1.get e
      obtain ⟨y, ey, hy⟩ := h2.get e'
      obtain ⟨vx, fx, rx⟩ := r1.get ex
      obtain ⟨vy, fy, ry⟩ := r2.get ey
      have g1 : its.toArray[j]'(by simpa using hj1) = vx := by
        have z : its[j] = vx := Option.some.inj ((List.getElem?_eq_getElem hj1).symm.trans fx)
        simpa using z
      have g2 : its2.toArray[j]'(by simpa using hj2) = vy := by
        have z : its2[j] = vy := Option.some.inj ((List.getElem?_eq_getElem hj2).symm.trans fy)
        simpa using z
      rw [g1, g2]
      have q := (ih (A := A.in1) (Nat.le_trans (tdep_mem (List.mem_of_getElem? e)) hdn) hx hy rx ry (by rw [units_in1]; omega)).eq
      unfold eAt
      rw [e, e']
      exact q
    by_cases hz : tdep t ≤ n
    · exact ih hz ht hu ra rb (by omega)
    cases t with
    | lst ts =>
      rw [TrAt] at ht; obtain ⟨p, xs, rfl, q, h1⟩ := ht; cases ra
      obtain ⟨its, r1, pl, _⟩ := I.list q
      cases u with
      | non => rw [TrAt] at hu; subst hu; cases rb; simp only [teq]; exact ⟨.list_none pl.isList hA', .list_none pl.isList hA', .list_none pl.isList hA'⟩
      | bl b => rw [TrAt] at hu; subst hu; cases rb; simp only [teq]; exact ⟨.list_bool _ pl.isList hA', .list_bool _ pl.isList hA', .list_bool _ pl.isList hA'⟩
      | int b => rw [TrAt] at hu; subst hu; obtain ⟨_, rfl⟩ := rb; simp only [teq]; exact ⟨.list_int _ _ pl.isList hA', .list_int _ _ pl.isList hA', .list_int _ _ pl.isList hA'⟩
      | str b => rw [TrAt] at hu; subst hu; obtain ⟨_, rfl⟩ := rb; simp only [teq]; exact ⟨.list_str _ _ pl.isList hA', .list_str _ _ pl.isList hA', .list_str _ _ pl.isList hA'⟩
      | tup us => rw [TrAt] at hu; obtain ⟨p', ys, rfl, q', _⟩ := hu; cases rb; obtain ⟨_, _, pl', _⟩ := I.tuple q'; simp only [teq]; exact ⟨.list_tuple pl.isList pl' hA', .list_tuple pl.isList pl' hA', .list_tuple pl.isList pl' hA'⟩
      | lst us =>
        have hu0 := hu
        rw [TrAt] at hu; obtain ⟨p', ys, rfl, q', h2⟩ := hu; cases rb
        obtain ⟨its2, r2, pl', _⟩ := I.list q'
        have l1 := h1.length
        have l2 := h2.length
        have m1 := r1.length
        have m2 := r2.length
        have hdn : tdeps ts ≤ n := by rw [tdep] at hd; omega
        have both : RcAt A s (.ref p) (.ref p') (teqs ts us) ∧ RcNeAt A s (.ref p) (.ref p') (!teqs ts us) := by
          by_cases hsz : ts.length = us.length
          · have hs : its.toArray.size = its2.toArray.size := by rw [List.size_toArray, List.size_toArray]; omega
            have it := items hdn h1 h2 r1 r2
            have e1 : (List.range its.toArray.size).all (eAt ts us) = teqs ts us := by
              rw [List.size_toArray, ← m1, ← l1]; exact all_eAt hsz
            have a1 := RcAt.lists pl.isList pl'.isList hs hA' it
            have a2 := RcNeAt.lists pl.isList pl'.isList hs hA' it
            rw [e1] at a1 a2
            exact ⟨a1, a2⟩
          · have hs : (its.toArray.size != its2.toArray.size) = true := by
              rw [List.size_toArray, List.size_toArray, bne_iff_ne]; omega
            rw [teqs_length hsz]
            exact ⟨.lists_lengths pl.isList pl'.isList hs hA', .lists_lengths pl.isList pl'.isList hs hA'⟩
        rw [teq]
        refine ⟨both.1, both.2, ?_⟩
        by_cases hpp : p = p'
        · subst hpp
          have e : Tr.lst ts = Tr.lst us := tr_inj I (n + 1) hd (show TrAt X.K H (.lst ts) (.ref p) by rw [TrAt]; exact ⟨p, xs, rfl, q, h1⟩) hu0
          cases e
          rw [teqs_refl]
          exact .same _
        · exact .of_refs hpp both.1
    | tup ts =>
      rw [TrAt] at ht; obtain ⟨p, xs, rfl, q, h1⟩ := ht; cases ra
      obtain ⟨its, r1, pl, _⟩ := I.tuple q
      cases u with
      | non => rw [TrAt] at hu; subst hu; cases rb; simp only [teq]; exact ⟨.tuple_none pl hA', .tuple_none pl hA', .tuple_none pl hA'⟩
      | bl b => rw [TrAt] at hu; subst hu; cases rb; simp only [teq]; exact ⟨.tuple_bool _ pl hA', .tuple_bool _ pl hA', .tuple_bool _ pl hA'⟩
      | int b => rw [TrAt] at hu; subst hu; obtain ⟨_, rfl⟩ := rb; simp only [teq]; exact ⟨.tuple_int _ _ pl hA', .tuple_int _ _ pl hA', .tuple_int _ _ pl hA'⟩
      | str b => rw [TrAt] at hu; subst hu; obtain ⟨_, rfl⟩ := rb; simp only [teq]; exact ⟨.tuple_str _ _ pl hA', .tuple_str _ _ pl hA', .tuple_str _ _ pl hA'⟩
      | lst us => rw [TrAt] at hu; obtain ⟨p', ys, rfl, q', _⟩ := hu; cases rb; obtain ⟨_, _, pl', _⟩ := I.list q'; simp only [teq]; exact ⟨.tuple_list pl pl'.isList hA', .tuple_list pl pl'.isList hA', .tuple_list pl pl'.isList hA'⟩
      | tup us =>
        have hu0 := hu
        rw [TrAt] at hu; obtain ⟨p', ys, rfl, q', h2⟩ := hu; cases rb
        obtain ⟨its2, r2, pl', _⟩ := I.tuple q'
        have l1 := h1.length
        have l2 := h2.length
        have m1 := r1.length
        have m2 := r2.length
        have hdn : tdeps ts ≤ n := by rw [tdep] at hd; omega
        have e1 : ((List.range (min its.toArray.size its2.toArray.size)).all (eAt ts us) && its.toArray.size == its2.toArray.size) = teqs ts us := by
          rw [List.size_toArray, List.size_toArray, ← m1, ← l1, ← m2, ← l2]
          by_cases hsz : ts.length = us.length
          · rw [← hsz, Nat.min_self, beq_self_eq_true, Bool.and_true]; exact all_eAt hsz
          · rw [teqs_length hsz, beq_eq_false_iff_ne.mpr hsz, Bool.and_false]
        have it := items hdn h1 h2 r1 r2
        have a1 := RcAt.tuples pl pl' hA' it
        have a2 := RcNeAt.tuples pl pl' hA' it
        rw [e1] at a1 a2
        rw [teq]
        refine ⟨a1, a2, ?_⟩
        by_cases hpp : p = p'
        · subst hpp
          have e : Tr.tup ts = Tr.tup us := tr_inj I (n + 1) hd (show TrAt X.K H (.tup ts) (.ref p) by rw [TrAt]; exact ⟨p, xs, rfl, q, h1⟩) hu0
          cases e
          rw [teqs_refl]
          exact .same _
        · exact .of_refs hpp a1
    | non => exact absurd (Nat.zero_le _) hz
    | bl b => exact absurd (Nat.zero_le _) hz
    | int b => exact absurd (Nat.zero_le _) hz
    | str b => exact absurd (Nat.zero_le _) hz
end
section
variable {X : Cx}
def rEqT (K : PySem.W.Frag) (neg : Bool) : R2 := fun x y H Q => ∃ t u, TrAt K H t x ∧ TrAt K H u y ∧ tdep t ≤ 8 ∧ Q (.bl (if neg then !teq t u else teq t u)) H
theorem op_eqT (hu : X.A.units + 64 < cLine) : OpR X (compareOp .Eq) (rEqT X.K false) := by
  intro pins s σ H x y v u Q I rx ry h
  obtain ⟨t, t', h1, h2, hd, q⟩ := h
  exact (tr_cmps I 8 hd h1 h2 rx ry (by omega)).rc _ _ _ _ ⟨.bl _, H, I, rfl, q⟩
theorem op_neT (hu : X.A.units + 64 < cLine) : OpR X (compareOp .NotEq) (rEqT X.K true) := by
  intro pins s σ H x y v u Q I rx ry h
  obtain ⟨t, t', h1, h2, hd, q⟩ := h
  exact (tr_cmps I 8 hd h1 h2 rx ry (by omega)).ne _ _ _ _ ⟨.bl _, H, I, rfl, q⟩
open Classical in
def rInT (K : PySem.W.Frag) (neg : Bool) : R2 := fun x y H Q => ∃ p xs ts u, y = .ref p ∧ SqL K H p xs ∧ TrsAt K H ts xs ∧ TrAt K H u x ∧ tdeps ts ≤ 8 ∧ Q (.bl (if neg then !(ts.any fun t => teq t u) else ts.any fun t => teq t u)) H
open Classical in
theorem in_any {pins : List (Addr × Obj)} {σ : St} {H : Hp} {s : Shared} (I : Inv X pins σ H s) {u : Tr} : ∀ {ts : List Tr} {xs : List V} {its : List Value}, tdeps ts ≤ 8 → TrsAt X.K H ts xs → Vals xs its →
    its.any (fun y => decide (∃ t x, RelV x y ∧ TrAt X.K H t x ∧ teq t u = true)) = ts.any fun t => teq t u
  | [], xs, its, _, h, r => by rw [TrsAt] at h; subst h; cases r; rfl
  | t :: ts, xs, its, hd, h, r => by
    rw [TrsAt] at h
    obtain ⟨y, ys, rfl, hy, h⟩ := h
    cases r with
    | cons r1 r2 =>
      rw [tdeps] at hd
      rw [List.any_cons, List.any_cons, in_any I (by omega) h r2]
      congr 1
      rw [Bool.eq_iff_iff, decide_eq_true_iff]
      constructor
      · rintro ⟨t', x', r', h', e⟩
        rw [r1.inj r'] at hy
        rw [tr_inj I 8 (by omega) hy h']; exact e
      · intro e
        exact ⟨t, y, r1, hy, e⟩
open Classical in
theorem in_core {pins : List (Addr × Obj)} {σ : St} {H : Hp} {s : Shared} (I : Inv X pins σ H s) (hu : X.A.units + 64 < cLine) {u : Tr} {x : V} {v : Value} (hx : TrAt X.K H u x) (rx : RelV x v) {ts : List Tr} {xs : List V} {its : List Value} (hd : tdeps ts ≤ 8) (h : TrsAt X.K H ts xs) (r : Vals xs its) :
    ∀ y, y ∈ its.toArray → SeqAt.EqAt X.A.in1 s y v (decide (∃ t x, RelV x y ∧ TrAt X.K H t x ∧ teq t u = true)) := by
  intro y hy
  have hy' : y ∈ its := by simpa using hy
  obtain ⟨j, hj, e⟩ := List.getElem_of_mem hy'
  have l1 := h.length
  have m1 := r.length
  obtain ⟨t, et⟩ : ∃ t, ts[j]? = some t := ⟨_, List.getElem?_eq_getElem (by omega)⟩
  obtain ⟨z, ez, hz⟩ := h.get et
  obtain ⟨w, ew, rw'⟩ := r.get ez
  have e' : y = w := by
    rw [List.getElem?_eq_getElem hj] at ew
    exact e.symm.trans (Option.some.inj ew)
  subst e'
  have hd' : tdep t ≤ 8 := Nat.le_trans (tdep_mem (List.mem_of_getElem? et)) hd
  have q := (tr_cmps I 8 (A := X.A.in1) hd' hz hx rw' rx (by rw [units_in1]; omega)).eq
  have e2 : decide (∃ t x, RelV x y ∧ TrAt X.K H t x ∧ teq t u = true) = teq t u := by
    rw [Bool.eq_iff_iff, decide_eq_true_iff]
    constructor
    · rintro ⟨t', x', r', h', e3⟩
      rw [rw'.inj r'] at hz
      rw [tr_inj I 8 hd' hz h']; exact e3
    · intro e3
      exact ⟨t, z, rw', hz, e3⟩
  rw [e2]
  exact q
open Classical in
theorem op_notInT (hu : X.A.units + 64 < cLine) : OpR X (compareOp .NotIn) (rInT X.K true) := by
  intro pins s σ H x y v u Q I rx ry h
  obtain ⟨p, xs, ts, t, rfl, hq, hts, ht, hd, q⟩ := h
  cases ry
  obtain ⟨its, r, pl, hz⟩ := I.list hq
  refine SeqAt.notIn_listAt _ pl.isList (in_core I hu ht rx hd hts r) ⟨.bl _, H, I, rfl, ?_⟩
  simp only [List.any_toArray]
  rw [in_any I hd hts r]
  exact q
end
end L2
set_option Elab.async false
set_option linter.all false
set_option maxRecDepth 100000
namespace L2
open PySem PySem.Spec PyProof.Rows
theorem kit_ty {K : PySem.W.Frag} {T U : String} {b : Bool} (h1 : PySem.W.kitMeta U = true) (h2 : (fastBuiltinMro T).map (·.contains (Value.type U)) = some b) (hb : T = U → b = true) : PySem.W.kitOne K (.type T) (.type U) = some b := by
  unfold PySem.W.kitOne
  by_cases e : T = U
  · subst e
    rw [if_pos (by simp), hb rfl]
  · rw [if_neg (by simpa using e)]
    show (if PySem.W.kitMeta U = true then PySem.W.subIn K (.type T) (.type U) else none) = some b
    rw [if_pos h1]
    exact h2
section
variable {K : PySem.W.Frag}
end
section
variable {X : Cx}
def rIsi (K : PySem.W.Frag) : List V → Hp → VK → Prop := fun xs H Q => ∃ x T t b, xs = [x, .ty T] ∧ TyOf K H x t ∧ PySem.W.kitOne K t (.type T) = some b ∧ Q (.bl b) H
theorem call_isi : CallR X (.builtin "isinstance") (rIsi X.K) := by
  intro pins s σ H xs us Q I r h
  obtain ⟨x, T, t, b, rfl, ty, e, q⟩ := h
  obtain ⟨u, v, rfl, rx, rt⟩ := vals2 r
  cases rt
  exact isinst_ok I rx ty e fun tk => ⟨.bl b, H, I.tok tk, rfl, q⟩
def CDivB (i j : Int) : Prop := 0 < j ∧ j < 2 ^ 200
theorem op_fdivB : OpR X (binaryOp .FloorDiv) (rI CDivB fun i j => .int (i / j)) := opI fun i j _ _ _ _ _ hc q => by
  have h1 : (0 : Int) < j := hc.1
  have h2 : j < 2 ^ 200 := hc.2
  refine floordiv_int (by omega) (by rw [Int.fdiv_eq_ediv_of_nonneg i (by omega)]; exact q) (.inl (PyProof.noPylong_of_log2 ?_))
  have h3 : j.natAbs < 2 ^ 200 := by omega
  have h4 : j.natAbs.log2 < 200 := (Nat.log2_lt (by omega)).mpr h3
  omega
theorem truth_bools {P : Program} {w : World} {A : Around} {its : List Value} {bs : List Bool} (r : Vals (bs.map V.bl) its) : TruthOf P w A (fun i v => its.toArray[i]? = some v) (fun i => bs.getD i false) := by
  intro i v s Q E hP hQ
  have hl := r.length
  rw [List.length_map] at hl
  have e : its[i]? = some v := by simpa using hP
  have hi : i < its.length := (List.getElem?_eq_some_iff.mp e).1
  have e2 : (bs.map V.bl)[i]? = some (.bl (bs[i]'(by omega))) := by rw [List.getElem?_map, List.getElem?_eq_getElem (by omega)]; rfl
  obtain ⟨u, e3, r3⟩ := r.get e2
  rw [e] at e3
  cases e3
  cases r3
  have e4 : bs.getD i false = bs[i] := by rw [List.getD_eq_getElem?_getD, List.getElem?_eq_getElem (by omega)]; rfl
  exact wpAny_truthy_bool (e4 ▸ hQ)
theorem all_getD : ∀ bs : List Bool, (List.range bs.length).all (fun i => bs.getD i false) = bs.all id
  | [] => rfl
  | b :: bs => by
    rw [List.length_cons, List.range_succ_eq_map, List.all_cons, List.all_map, List.all_cons, ← all_getD bs]
    rfl
theorem any_getD : ∀ bs : List Bool, (List.range bs.length).any (fun i => bs.getD i false) = bs.any id
  | [] => rfl
  | b :: bs => by
    rw [List.length_cons, List.range_succ_eq_map, List.any_cons, List.any_map, List.any_cons, ← any_getD bs]
    rfl
def rAll (K : PySem.W.Frag) : List V → Hp → VK → Prop := fun xs H Q => ∃ (a : Addr) (bs : List Bool), xs = [.ref a] ∧ SqL K H a (bs.map V.bl) ∧ Q (.bl (bs.all id)) H
def rAny (K : PySem.W.Frag) : List V → Hp → VK → Prop := fun xs H Q => ∃ (a : Addr) (bs : List Bool), xs = [.ref a] ∧ SqL K H a (bs.map V.bl) ∧ Q (.bl (bs.any id)) H
theorem call_all (hc : X.calm = true) : CallR X (.builtin "all") (rAll X.K) := by
  intro pins s σ H xs us Q I r h
  obtain ⟨a, bs, rfl, hq, q⟩ := h
  obtain ⟨u, rfl, rx⟩ := vals1 r
  cases rx
  obtain ⟨its, rv, pl, hz⟩ := I.list hq
  have hl := rv.length
  rw [List.length_map] at hl
  obtain ⟨o, n, eo, _⟩ := id pl
  have hne : a ≠ s.heap.objs.size := Nat.ne_of_lt (Heap.lt_size eo)
  refine call_all_walk (wpAny_pyIter_list pl.isList ?_)
  refine ⟨_, _, _, _, _, _, _, rfl, Walks.list (A := X.A.in1) (show X.A.in1.handled = none from I.ok.hd hc) s.heap.objs.size a hne its.toArray, ⟨⟨_, Heap.get?_push_size _ rfl, rfl, rfl⟩, pl.isList.at fun o e => Heap.get?_push_of_some _ e⟩, truth_bools rv, fun h' tk hk => ?_⟩
  have I1 : Inv X pins σ H { s with heap := h', toks := tk } := I.kept fun b o e => hk b o (by have := Heap.lt_size e; simp; exact Nat.ne_of_lt this) (Heap.get?_push_of_some _ e)
  refine ⟨.bl _, H, I1, rfl, ?_⟩
  rw [List.size_toArray, ← hl, all_getD]
  exact q
theorem call_any (hc : X.calm = true) : CallR X (.builtin "any") (rAny X.K) := by
  intro pins s σ H xs us Q I r h
  obtain ⟨a, bs, rfl, hq, q⟩ := h
  obtain ⟨u, rfl, rx⟩ := vals1 r
  cases rx
  obtain ⟨its, rv, pl, hz⟩ := I.list hq
  have hl := rv.length
  rw [List.length_map] at hl
  obtain ⟨o, n, eo, _⟩ := id pl
  have hne : a ≠ s.heap.objs.size := Nat.ne_of_lt (Heap.lt_size eo)
  refine call_any_walk (wpAny_pyIter_list pl.isList ?_)
  refine ⟨_, _, _, _, _, _, _, rfl, Walks.list (A := X.A.in1) (show X.A.in1.handled = none from I.ok.hd hc) s.heap.objs.size a hne its.toArray, ⟨⟨_, Heap.get?_push_size _ rfl, rfl, rfl⟩, pl.isList.at fun o e => Heap.get?_push_of_some _ e⟩, truth_bools rv, fun h' tk hk => ?_⟩
  have I1 : Inv X pins σ H { s with heap := h', toks := tk } := I.kept fun b o e => hk b o (by have := Heap.lt_size e; simp; exact Nat.ne_of_lt this) (Heap.get?_push_of_some _ e)
  refine ⟨.bl _, H, I1, rfl, ?_⟩
  rw [List.size_toArray, ← hl, any_getD]
  exact q
def rRevS (K : PySem.W.Frag) (te : TE) : TE := fun σ H Q => te σ H fun x H1 => ∃ a xs, x = .ref a ∧ SqL K H1 a xs ∧ ∀ p, H1 p = none → Q (.ref p) (upd H1 p (.lst xs.reverse))
theorem nolen_ri : typeLookup (.type "list_reverseiterator") "__len__" = pure none := by rw [typeLookup_type, builtinLookup_eq_fast]; kernel_rfl
theorem hint_ri : typeLookup (.type "list_reverseiterator") "__length_hint__" = pure (some (.builtin "list_reverseiterator.__length_hint__")) := by rw [typeLookup_type, builtinLookup_eq_fast]; kernel_rfl
section
variable {prog : Program} {w : World} {A : Around} {E : Value → Shared → Prop} {s : Shared}
theorem extend_rev {R : Result → Shared → Prop} (hh : A.handled = none) {I l : Addr} {items : Array Value} (hit : s.heap.IsRevIter I l ((items.size : Int) - 1)) (hL : s.heap.IsList l items) (S : Addr) (res : Value) (c₀ : Nat) (hS : s.heap.get? S = some { cls := .type "list", data := .seq #[] c₀ })
    (hSl : S ≠ l) (hR : ∀ s' acc' c', Moved [S, I] (fun a b => b = a) s s' → s'.heap.get? S = some { cls := .type "list", dict := none, data := .seq acc' c', slots := #[] } →
      ItemsOf (fun i v => items[items.size - 1 - i]? = some v) acc' items.size → R (.ok (.ret res)) s') (hn : items.size ≤ sizeLine) :
    wpAny (model prog w) A.in1 (Builtin.List.listExtendWith (.ref S) (.ref I) res)
      (fun fin s' => match fin with | .done f => R (.ok f) s' | .again c' => c'.quiet = true ∧ codeAny (model prog w) A c' R s') (fun e s' => R (.error e) s') s := by
  obtain ⟨oi, hoi, hci, hdi⟩ := id hit
  obtain ⟨ol, hol, hcl, nl, hdl⟩ := id hL
  have hSI : S ≠ I := by
    rintro rfl
    rw [hS] at hoi; cases hoi; exact absurd (show Value.type "list" = Value.type "list_reverseiterator" from hci) (by decide)
  have hne : l ≠ I := by
    rintro rfl
    rw [hol] at hoi; cases hoi; rw [hcl] at hci; exact absurd hci (by decide)
  have hSf : S ∉ [I, l] := fun hm => by
    rcases List.mem_cons.mp hm with e | hm
    · exact hSI e
    · exact hSl (List.mem_singleton.mp hm)
  unfold Builtin.List.listExtendWith
  refine wpAny_bind (wpAny_typeOf (T := "list_reverseiterator") hit.typeIs ?_)
  have h1 : Builtin.List.listSameRef (.ref S) (.ref I) = false := by simp [Builtin.List.listSameRef, hSI]
  have h2 : (Value.type "list_reverseiterator" == Value.type "list") = false := by decide
  have h3 : (Value.type "list_reverseiterator" == Value.type "tuple") = false := by decide
  simp only [h1, h2, h3, Bool.or_false, Bool.false_eq_true, if_false]
  refine wpAny_bind (wpAny_pyIter_revIter hit ?_)
  refine wpAny_bind (wpAny_holding ?_)
  unfold Builtin.List.listLengthHint
  refine wpAny_bind (wpAny_specialOf hit.typeIs nolen_ri ?_)
  show wpAny _ A.in1 (specialOf (Value.ref I) (Str.ofString "__length_hint__") >>= _) _ _ _
  refine wpAny_bind (wpAny_specialOf hit.typeIs hint_ri ?_)
  generalize hid : ("list_reverseiterator.__length_hint__" : String) = id0
  wp_delta
  rw [show splitId id0 = some ("list_reverseiterator", "__length_hint__") from by subst hid; decide +kernel]
  subst hid
  refine wpAny_bind (wpAny_isInstance (b := true) hit.typeIs (by rw [isSubtype_type]; kernel_rfl) ?_)
  refine wpAny_pure ?_
  rw [if_neg (by decide)]
  have W := Walks.listRev (prog := prog) (w := w) (A := A.in1) hh I l hne items
  refine wpAny_pure ⟨plainId_quiet F.plain_extend_loop _, codeAny_extend_loopS W.toS hn _ hSf _ items.size 0 _ _ _ rfl (Nat.zero_le _) ⟨Nat.zero_le _, by simpa using hit, hL⟩ hS (ItemsOf.nil _) fun s' acc' c' hm hS' hacc => ?_⟩
  exact hR s' acc' c' hm hS' hacc
theorem init_rev {R : Result → Shared → Prop} (hh : A.handled = none) {I l : Addr} {items : Array Value} (hit : s.heap.IsRevIter I l ((items.size : Int) - 1)) (hL : s.heap.IsList l items) (S : Addr) (hS : s.heap.get? S = some { cls := .type "list", data := .seq #[] }) (hSl : S ≠ l) (hSI : S ≠ I)
    (hR : ∀ s' acc' c', s'.gens = s.gens → s'.os = s.os → (∀ b o, b ≠ S → b ≠ I → s.heap.get? b = some o → s'.heap.get? b = some o) → s'.heap.get? S = some { cls := .type "list", dict := none, data := .seq acc' c', slots := #[] } →
      ItemsOf (fun i v => items[items.size - 1 - i]? = some v) acc' items.size → R (.ok (.ret .none)) s') (hn : items.size ≤ sizeLine) :
    wpAny (model prog w) A.in1 (Builtin.«list.__init__» ⟨[.ref S, .ref I], []⟩)
      (fun fin s' => match fin with | .done f => R (.ok f) s' | .again c' => c'.quiet = true ∧ codeAny (model prog w) A c' R s') (fun e s' => R (.error e) s') s := by
  show wpAny _ _ (do let old ← Builtin.List.listItems (.ref S); Builtin.List.listUpdate (.ref S) (fun _ => #[]); letGo old.toList.reverse; Builtin.List.listExtendWith (.ref S) (.ref I) .none) _ _ s
  refine wpAny_bind ?_
  unfold Builtin.List.listItems
  refine wpAny_bind (wpAny_seqItems hS rfl (wpAny_pure ?_))
  show wpAny _ _ (updateSeq S (fun _ => #[]) >>= fun _ => letGo (#[] : Array Value).toList.reverse >>= fun _ => Builtin.List.listExtendWith (.ref S) (.ref I) .none) _ _ s
  refine wpAny_bind (wpAny_updateSeq hS rfl ?_)
  have hS₂ := Heap.get?_update_self (Obj.mapSeq (fun _ => (#[] : Array Value))) hS rfl
  have oth : ∀ b o, b ≠ S → s.heap.get? b = some o → (s.heap.update S (Obj.mapSeq (fun _ => (#[] : Array Value)))).get? b = some o :=
    fun b o hb e => (Heap.get?_update_other _ _ (Ne.symm hb)).trans e
  refine wpAny_bind (wpAny_letGo ?_)
  refine extend_rev (hn := hn) hh (hit.at fun o e => oth I o (Ne.symm hSI) e) (hL.at fun o e => oth l o (Ne.symm hSl) e) S .none _ hS₂ hSl fun s' acc' c' hm hS' hacc => ?_
  refine hR s' acc' c' hm.gens hm.os (fun b o hb hi e => hm.heap b o (fun z => ?_) (oth b o hb e)) hS' hacc
  rcases List.mem_cons.mp z with e' | z
  · exact hb e'
  · exact hi (List.mem_singleton.mp z)
theorem call_list_revIter {Q : Value → Shared → Prop} (hh : A.handled = none) {I l : Addr} {items : Array Value} (hit : s.heap.IsRevIter I l ((items.size : Int) - 1)) (hL : s.heap.IsList l items)
    (hQ : ∀ s' acc' c', s'.gens = s.gens → s'.os = s.os → (∀ b o, b ≠ I → s.heap.get? b = some o → s'.heap.get? b = some o) →
      s'.heap.get? s.heap.objs.size = some { cls := .type "list", dict := none, data := .seq acc' c', slots := #[] } → ItemsOf (fun i v => items[items.size - 1 - i]? = some v) acc' items.size → Q (.ref s.heap.objs.size) s') (hn : items.size ≤ sizeLine) :
    wpAny (model prog w) A (call (.type "list") [.ref I]) Q E s := by
  refine callType_codes (Q₁ := fun obj s₁ => obj = .ref s.heap.objs.size ∧ s₁ = { s with heap := s.heap.push { cls := .type "list", data := .seq #[] } }) F.called_list (F.typeCall_list_1 _) F.entry_list_init
    (code_list_new _ ⟨rfl, rfl⟩) fun obj s₁ h₁ => ?_
  obtain ⟨rfl, rfl⟩ := h₁
  have hS : (s.heap.push { cls := .type "list", data := .seq #[] }).get? s.heap.objs.size = some { cls := .type "list", data := .seq #[] } := Heap.get?_push_size _ rfl
  obtain ⟨oi, hoi, _⟩ := id hit
  obtain ⟨ol, hol, _⟩ := id hL
  refine ⟨⟨_, hS, rfl⟩, F.args_list_init_2 _ _, init_rev (A := A.in1) (hn := hn) hh (hit.at fun o e => Heap.get?_push_of_some _ e) (hL.at fun o e => Heap.get?_push_of_some _ e) _ hS (Nat.ne_of_gt (Heap.lt_size hol)) (Nat.ne_of_gt (Heap.lt_size hoi)) fun s' acc' c' hg ho hk hS' hacc => ?_⟩
  exact ⟨rfl, hQ s' acc' c' hg ho (fun b o hI e => hk b o (Nat.ne_of_lt (Heap.lt_size e)) hI (Heap.get?_push_of_some _ e)) hS' hacc⟩
end
theorem rev_items {items acc : Array Value} (h : ItemsOf (fun i v => items[items.size - 1 - i]? = some v) acc items.size) : acc = items.toList.reverse.toArray := by
  apply Array.ext_getElem?
  intro i
  by_cases hi : i < items.size
  · have e : acc[i]? = some (acc[i]'(by rw [h.1]; exact hi)) := Array.getElem?_eq_getElem _
    have q := h.2 i _ e
    rw [e, ← q]
    simp [List.getElem?_reverse, hi]
  · rw [Array.getElem?_eq_none (by rw [h.1]; omega), Array.getElem?_eq_none (by simp; omega)]
def tListRev (K : PySem.W.Frag) (te : TE) : TE := fun σ H Q => te σ H fun x H1 => ∃ (l : Addr) (ys : List V), x = .ref l ∧ SqL K H1 l ys ∧ ∀ q, H1 q = none → Q (.ref q) (upd H1 q (.lst ys.reverse))
theorem pe_listRev {e : Expr} {te : TE} {p1 p2 pos1 pos2 : Pos} (hc : X.calm = true) (hg1 : Gl X "list") (hm1 : X.mg "list" = none) (hg2 : Gl X "reversed") (hm2 : X.mg "reversed" = none) (he : PE X e te)
    (hs : starEach [e] X.env = [(false, eval e X.env)] := by rfl) (hs2 : starEach [.Call (.Name "reversed" p2) [e] [] pos2] X.env = [(false, eval (.Call (.Name "reversed" p2) [e] [] pos2) X.env)] := by rfl) :
    PE X (.Call (.Name "list" p1) [.Call (.Name "reversed" p2) [e] [] pos2] [] pos1) (tListRev X.K te) := by
  intro pins s σ H Q I h
  refine wpAny_Call_Name_kw (ld_blt I hg1 hm1 boot_list ?_)
  refine PyProof.Rows.callWith_type1 ?_ hs2 rfl
  rw [hs2]
  show wpAny _ _ (spliced ((false, eval (.Call (.Name "reversed" p2) [e] [] pos2) X.env) :: backTo pos1 [])) _ _ s
  refine Calls.spliced_cons ?_
  refine wpAny_Call_Name_kw (ld_blt I hg2 hm2 boot_reversed ?_)
  refine PyProof.Rows.callWith_type1 ?_ hs rfl
  rw [hs]
  show wpAny _ _ (spliced ((false, eval e X.env) :: backTo pos2 [])) _ _ s
  refine Calls.spliced_cons (thn (he pins s σ H _ I h) fun v s1 ⟨x, H1, I1, r1, q1⟩ => Calls.spliced_nil ?_)
  obtain ⟨l, ys, rfl, hq, q⟩ := q1
  cases r1
  obtain ⟨its, rv, pl, hz⟩ := I1.list hq
  have hl := rv.length
  refine call_reversed_list pl.isList (Calls.spliced_nil ?_)
  have hsz : (its.toArray.size : Int) = (ys.length : Int) := by rw [List.size_toArray, hl]
  refine call_list_revIter (s := { s1 with heap := s1.heap.push (revObj l ((its.toArray.size : Int) - 1)) }) (I1.ok.hd hc) (I := s1.heap.objs.size) (l := l) (items := its.toArray) ⟨_, Heap.get?_push_size _ rfl, rfl, rfl⟩ (pl.isList.at fun o e => Heap.get?_push_of_some _ e) (fun s' acc c hgn ho hk hS hacc => ?_) (by rw [List.size_toArray, ← hl]; exact hz)
  have e1 : (s1.heap.push (revObj l ((its.toArray.size : Int) - 1))).objs.size = s1.heap.objs.size + 1 := Heap.size_push _ _
  rw [show ({ s1 with heap := s1.heap.push (revObj l ((its.toArray.size : Int) - 1)) } : Shared).heap.objs.size = s1.heap.objs.size + 1 from e1] at hS ⊢
  have kept : ∀ b o, s1.heap.get? b = some o → s'.heap.get? b = some o := fun b o e => hk b o (Nat.ne_of_lt (Heap.lt_size e)) (Heap.get?_push_of_some _ e)
  have hokL := I1.laid (a := s1.heap.objs.size + 1) (o := .lst ys.reverse) (h' := s'.heap) (t' := s'.toks) kept (Nat.le_succ _) ⟨by rw [List.length_reverse]; exact hz, its.reverse, c, rv.reverse, by rw [hS, rev_items hacc]⟩
  have I2 : Inv X pins σ (upd H1 (s1.heap.objs.size + 1) (.lst ys.reverse)) s' := by
    refine I1.call' (ch := []) (by rw [ho]) ?_ hokL.hok (by rw [hgn]; exact I1.bare) fun b z => absurd z (by simp)
    exact Un.laid kept (Nat.le_succ _) (I1.hok.fresh (Nat.le_succ _))
  exact ⟨.ref _, _, I2, rfl, q _ (I1.hok.fresh (Nat.le_succ _))⟩
end
section
variable {X : Cx} (K : PySem.W.Frag)
theorem k_isi (e : X.K = K := by rfl) : CallR X (.builtin "isinstance") (rIsi K) := by subst e; exact call_isi
theorem k_len (e : X.K = K := by rfl) : CallR X (.builtin "len") (fun xs H Q => ∃ p ys, xs = [.ref p] ∧ (SqL K H p ys ∨ SqT K H p ys) ∧ Q (.int ys.length) H) := by subst e; exact call_len_seq
theorem k_ixL (e : X.K = K := by rfl) : IxR X (rIxL K) := by subst e; exact ix_list
theorem k_ixT (e : X.K = K := by rfl) : IxR X (rIxT K) := by subst e; exact ix_tup
theorem k_slL (e : X.K = K := by rfl) : SlR X (rSlL K) := by subst e; exact sl_list
theorem k_all (hc : X.calm = true) (e : X.K = K := by rfl) : CallR X (.builtin "all") (rAll K) := by subst e; exact call_all hc
theorem k_any (hc : X.calm = true) (e : X.K = K := by rfl) : CallR X (.builtin "any") (rAny K) := by subst e; exact call_any hc
theorem k_listOf (e : X.K = K := by rfl) : CallR X (.type "list") (fun xs H Q => ∃ p ys, xs = [.ref p] ∧ (SqL K H p ys ∨ SqT K H p ys) ∧ ∀ l, H l = none → Q (.ref l) (upd H l (.lst ys))) := by subst e; exact call_list_of
theorem k_eqT (hu : X.A.units + 64 < cLine) (e : X.K = K := by rfl) : OpR X (compareOp .Eq) (rEqT K false) := by subst e; exact op_eqT hu
theorem k_neT (hu : X.A.units + 64 < cLine) (e : X.K = K := by rfl) : OpR X (compareOp .NotEq) (rEqT K true) := by subst e; exact op_neT hu
theorem k_notInT (hu : X.A.units + 64 < cLine) (e : X.K = K := by rfl) : OpR X (compareOp .NotIn) (rInT K true) := by subst e; exact op_notInT hu
theorem k_pi {tg l : Expr} {tl : TE} (hl : PE X l tl) (e : X.K = K := by rfl) : PI X tg l (iList K tl) := by subst e; exact pi_list hl
end
structure Df (K : PySem.W.Frag) (mg : Str → Option Value) (x : Str) (st : Stmt) (ps : List Str) (f : Addr) (fd : FuncData) : Prop where
  fn : Fun K x x st f fd
  b : Binds K fd ps []
  g : mg x = some (.ref f)
theorem pcall {X : Cx} {x : Str} {st : Stmt} {ps : List Str} {f : Addr} {fd : FuncData} {k : Nat} {sp : Sp} {e : Expr} {es : List Expr} {t : TA} {p pos : Pos} (D : Df X.K X.mg x st ps f fd) (G : FnOk X.prog X.w X.K X.mg X.base CX0 k f fd ps sp) (hr : Room k X.A) (ha : PA X (e :: es) t) (hg : Gl X x := by rfl)
    (hdb : (x == ("__debug__" : Str)) = false := by decide) (he : starEach (e :: es) X.env = (false, eval e X.env) :: starEach es X.env := by rfl) (hpl : (backTo pos (starEach es X.env)).any (·.1) = false := by rfl) : PE X (.Call (.Name x p) (e :: es) [] pos) (tCall sp [] E0 t) :=
  pe_call G hr hg D.g D.fn.kp D.b .nil pass0 ha hdb he hpl
theorem df_mk {K : PySem.W.Frag} {h : Heap} {mg : Str → Option Value} {x : Str} {st : Stmt} {ps : List Str} {f : Addr} {oc : Value} {od an : Option Addr} {osl : Array (Option Value)} {kV doc pm cdv ct : Value} (X : K.In h) (G : h.Ns mainGlobals mg)
    (a : PySem.W.nsIn K mainGlobals x = some (some (.ref f))) (l : K.lookup f = some ⟨oc, od, .func (PySem.W.fnOf x x (defArgs st) (defBody st) (defScope st) .none kV doc pm an cdv ct), osl⟩) (c : PySem.W.codeIn K cdv x = true) (k : PySem.W.keepIn K (.ref f) = true)
    (hb : ∀ (kV doc pm : Value) (an : Option Addr) (cdv ct : Value) (us : List Value), us.length = ps.length → bindArgs (PySem.W.fnOf x x (defArgs st) (defBody st) (defScope st) .none kV doc pm an cdv ct) ⟨us, []⟩ = pure (ps.zip us)) :
    Df K mg x st ps f (PySem.W.fnOf x x (defArgs st) (defBody st) (defScope st) .none kV doc pm an cdv ct) :=
  ⟨fun_mk l c k, (fun_mk (st := st) l c k).binds hb, PySem.W.mg_of X G a⟩
structure Blt (mg : Str → Option Value) : Prop where
  n_isinstance : mg "isinstance" = none
  n_int : mg "int" = none
  n_bool : mg "bool" = none
  n_list : mg "list" = none
  n_tuple : mg "tuple" = none
  n_reversed : mg "reversed" = none
  n_len : mg "len" = none
  n_max : mg "max" = none
  n_min : mg "min" = none
  n_range : mg "range" = none
  n_all : mg "all" = none
  n_any : mg "any" = none
  n_sorted : mg "sorted" = none
  n_enumerate : mg "enumerate" = none
  n_repr : mg "repr" = none
theorem HUof {A : Around} {k : Nat} (hr : Room k A) : A.units + 64 < cLine := hr.units
def aw (fp : List Addr) (H : Hp) : Hp := fun b => if b ∈ fp then none else H b
theorem aw_in {fp : List Addr} {H : Hp} {b : Addr} (h : b ∈ fp) : aw fp H b = none := by unfold aw; rw [if_pos h]
theorem aw_out {fp : List Addr} {H : Hp} {b : Addr} (h : b ∉ fp) : aw fp H b = H b := by unfold aw; rw [if_neg h]
theorem aw_same (fp : List Addr) (H : Hp) : Same (aw fp H) H := fun b o e => by
  by_cases h : b ∈ fp
  · rw [aw_in h] at e; cases e
  · rw [aw_out h] at e; exact e
theorem Same.aw {H H' : Hp} (h : Same H H') (fp : List Addr) : Same (aw fp H) (aw fp H') := fun b o e => by
  by_cases hb : b ∈ fp
  · rw [aw_in hb] at e; cases e
  · rw [aw_out hb] at e ⊢; exact h b o e
theorem same_upd {H : Hp} {p : Addr} {o : HO} (h : H p = none) : Same H (upd H p o) := fun b u e => by rw [upd_ne (ne_of_none e h)]; exact e
end L2
set_option Elab.async false
set_option linter.all false
set_option maxRecDepth 100000
namespace L2
open PySem PyProof.Rows
def unD : List (PyData × PyData) → List (Int × Int)
  | (.int k, .int v) :: r => (k, v) :: unD r
  | _ => []
def dD (ps : List (Int × Int)) : List (PyData × PyData) := ps.map fun p => (.int p.1, .int p.2)
def dV (ps : List (Int × Int)) : List (Key × V) := ps.map fun p => (.inl p.1, .int p.2)
theorem dV_inj : ∀ {ps qs : List (Int × Int)}, dV ps = dV qs → ps = qs
  | [], [], _ => rfl
  | [], _ :: _, h => by cases h
  | _ :: _, [], h => by cases h
  | (k, v) :: r, (k', v') :: r', h => by
    have h' : ((Sum.inl k : Key), V.int v) :: dV r = (Sum.inl k', V.int v') :: dV r' := h
    injection h' with h1 h2
    injection h1 with h3 h4
    injection h3 with h3
    injection h4 with h4
    rw [h3, h4, dV_inj h2]
mutual
def ThAt (H : Hp) : PyData → V → Prop
  | .none, v => v = .non
  | .bool b, v => v = .bl b
  | .int i, v => v = .int i
  | .str x, v => v = .str x
  | .list xs, v => ∃ a ys, v = .ref a ∧ H a = some (.lst ys) ∧ ThsAt H xs ys
  | .tuple xs, v => ∃ a ys, v = .ref a ∧ H a = some (.tup ys) ∧ ThsAt H xs ys
  | .dict kvs, v => kvs = dD (unD kvs) ∧ ∃ a, v = .ref a ∧ H a = some (.dK (dV (unD kvs)))
def ThsAt (H : Hp) : List PyData → List V → Prop
  | [], ys => ys = []
  | d :: ds, ys => ∃ y zs, ys = y :: zs ∧ ThAt H d y ∧ ThsAt H ds zs
end
mutual
theorem ThAt.same {H H' : Hp} (m : Same H H') : ∀ {d : PyData} {v : V}, ThAt H d v → ThAt H' d v
  | .none, v, h => by rw [ThAt] at h ⊢; exact h
  | .bool b, v, h => by rw [ThAt] at h ⊢; exact h
  | .int i, v, h => by rw [ThAt] at h ⊢; exact h
  | .str x, v, h => by rw [ThAt] at h ⊢; exact h
  | .list xs, v, h => by
    rw [ThAt] at h ⊢
    obtain ⟨a, ys, h1, h2, h3⟩ := h
    exact ⟨a, ys, h1, m _ _ h2, ThsAt.same m h3⟩
  | .tuple xs, v, h => by
    rw [ThAt] at h ⊢
    obtain ⟨a, ys, h1, h2, h3⟩ := h
    exact ⟨a, ys, h1, m _ _ h2, ThsAt.same m h3⟩
  | .dict kvs, v, h => by
    rw [ThAt] at h ⊢
    obtain ⟨h0, a, h1, h2⟩ := h
    exact ⟨h0, a, h1, m _ _ h2⟩
theorem ThsAt.same {H H' : Hp} (m : Same H H') : ∀ {ds : List PyData} {ys : List V}, ThsAt H ds ys → ThsAt H' ds ys
  | [], ys, h => by rw [ThsAt] at h ⊢; exact h
  | d :: ds, ys, h => by
    rw [ThsAt] at h ⊢
    obtain ⟨y, zs, h1, h2, h3⟩ := h
    exact ⟨y, zs, h1, ThAt.same m h2, ThsAt.same m h3⟩
end
theorem ThsAt.len {H : Hp} : ∀ {ds : List PyData} {ys : List V}, ThsAt H ds ys → ys.length = ds.length
  | [], ys, h => by rw [ThsAt] at h; rw [h]; rfl
  | d :: ds, ys, h => by
    rw [ThsAt] at h
    obtain ⟨y, zs, h1, h2, h3⟩ := h
    rw [h1, List.length_cons, List.length_cons, ThsAt.len h3]
theorem ThsAt.get {H : Hp} : ∀ {ds : List PyData} {ys : List V} {k : Nat} {v : V}, ThsAt H ds ys → ys[k]? = some v → ∃ d, ds[k]? = some d ∧ ThAt H d v
  | [], ys, k, v, h, e => by rw [ThsAt] at h; rw [h] at e; simp at e
  | d :: ds, ys, k, v, h, e => by
    rw [ThsAt] at h
    obtain ⟨y, zs, h1, h2, h3⟩ := h
    rw [h1] at e
    cases k with
    | zero =>
      have e' : y = v := by simpa using e
      exact ⟨d, rfl, by rw [← e']; exact h2⟩
    | succ k => exact ThsAt.get (ds := ds) (k := k) h3 (by simpa using e)
theorem ThsAt.app {H : Hp} : ∀ {ds es : List PyData} {ys zs : List V}, ThsAt H ds ys → ThsAt H es zs → ThsAt H (ds ++ es) (ys ++ zs)
  | [], es, ys, zs, h, q => by rw [ThsAt] at h; rw [h]; exact q
  | d :: ds, es, ys, zs, h, q => by
    rw [ThsAt] at h
    obtain ⟨y, us, h1, h2, h3⟩ := h
    rw [h1, List.cons_append, List.cons_append, ThsAt]
    exact ⟨y, us ++ zs, rfl, h2, ThsAt.app h3 q⟩
def tyT : PyData → String
  | .none => "NoneType" | .bool _ => "bool" | .int _ => "int" | .str _ => "str" | .list _ => "list" | .tuple _ => "tuple" | .dict _ => "dict"
theorem ThAt.ty {K : PySem.W.Frag} {H : Hp} {d : PyData} {v : V} (h : ThAt H d v) : TyOf K H v (.type (tyT d)) := by
  cases d with
  | none => rw [ThAt] at h; rw [h]; exact .non
  | bool b => rw [ThAt] at h; rw [h]; exact .bl b
  | int i => rw [ThAt] at h; rw [h]; exact .int i
  | str x => rw [ThAt] at h; rw [h]; exact .str x
  | list xs => rw [ThAt] at h; obtain ⟨a, ys, rfl, h2, _⟩ := h; exact .lst h2
  | tuple xs => rw [ThAt] at h; obtain ⟨a, ys, rfl, h2, _⟩ := h; exact .tup h2
  | dict kvs => rw [ThAt] at h; obtain ⟨_, a, rfl, h2⟩ := h; exact .dK h2
def isS (T t : String) : Bool := t == T || (t == "bool" && T == "int")
def isT (T : String) (d : PyData) : Bool := isS T (tyT d)
section
variable {K : PySem.W.Frag}
theorem kit_ts {T t : String} (hT : T = "int" ∨ T = "bool" ∨ T = "list" ∨ T = "tuple" ∨ T = "str") (ht : t = "NoneType" ∨ t = "bool" ∨ t = "int" ∨ t = "str" ∨ t = "list" ∨ t = "tuple" ∨ t = "dict") : PySem.W.kitOne K (.type t) (.type T) = some (isS T t) := by
  rcases hT with rfl | rfl | rfl | rfl | rfl <;> rcases ht with rfl | rfl | rfl | rfl | rfl | rfl | rfl <;>
    first
    | exact kit_ty (by decide +kernel) (by decide +kernel) (fun _ => rfl)
    | exact kit_ty (by decide +kernel) (by decide +kernel) (fun e => absurd e (by decide))
theorem tyT_one (d : PyData) : tyT d = "NoneType" ∨ tyT d = "bool" ∨ tyT d = "int" ∨ tyT d = "str" ∨ tyT d = "list" ∨ tyT d = "tuple" ∨ tyT d = "dict" := by
  cases d <;> simp [tyT]
theorem kit_int (d : PyData) : PySem.W.kitOne K (.type (tyT d)) (.type "int") = some (isT "int" d) := kit_ts (by simp) (tyT_one d)
theorem kit_bool (d : PyData) : PySem.W.kitOne K (.type (tyT d)) (.type "bool") = some (isT "bool" d) := kit_ts (by simp) (tyT_one d)
theorem kit_list (d : PyData) : PySem.W.kitOne K (.type (tyT d)) (.type "list") = some (isT "list" d) := kit_ts (by simp) (tyT_one d)
theorem kit_tuple (d : PyData) : PySem.W.kitOne K (.type (tyT d)) (.type "tuple") = some (isT "tuple" d) := kit_ts (by simp) (tyT_one d)
end
end L2
set_option Elab.async false
set_option linter.all false
set_option maxRecDepth 100000
namespace L2
open PySem PyProof.Rows
section
variable {P : Program} {w : World} {H : Hp} {h : Heap}
theorem lst_obj {a : Addr} {ys : List V} (ok : HOk P w H h) (e : H a = some (.lst ys)) : ∃ (its : List Value) (n : Nat), Vals ys its ∧ h.get? a = some { cls := .type "list", data := .seq its.toArray n } := (ok a _ e).2
theorem tup_obj {a : Addr} {ys : List V} (ok : HOk P w H h) (e : H a = some (.tup ys)) : ∃ (its : List Value) (o : Obj) (n : Nat), Vals ys its ∧ h.get? a = some o ∧ o.cls = .type "tuple" ∧ o.data = .seq its.toArray n := by
  obtain ⟨_, its, r, o, h1, h2, n, h3⟩ := ok a _ e
  exact ⟨its, o, n, r, h1, h2, h3⟩
theorem ents_reads : ∀ {l : List DictEntry} {vs : List (Key × Value)} {ps : List (Int × Int)}, Pairs (mixKind P w) l vs → KV (dV ps) vs →
    ReadsAll h (l.map (·.key)) ((dD ps).map (·.1)) [] ∧ ReadsAll h (l.map (·.val)) ((dD ps).map (·.2)) []
  | _, _, [], pr, r => by
    cases r; cases pr
    exact ⟨.nil, .nil⟩
  | _, _, (k, v) :: ps, pr, r => by
    have r' : KV ((Sum.inl k, V.int v) :: dV ps) _ := r
    cases r' with
    | cons r1 r2 =>
      cases pr with
      | cons p1 p2 p3 =>
        obtain ⟨q1, q2⟩ := ents_reads p3 r2
        obtain ⟨e1, t1, e2⟩ := r1
        rw [← e1] at p1
        obtain ⟨t, e3⟩ := Value.isInt_shape (show Value.isInt k _ = true from p1)
        refine ⟨?_, ?_⟩
        · refine ReadsAll.cons (as := []) (bs := []) (d := .int k) ?_ q1
          show Reads h (DictEntry.key _) (.int k) []
          rw [e3]; exact .int _ _
        · refine ReadsAll.cons (as := []) (bs := []) (d := .int v) ?_ q2
          show Reads h (DictEntry.val _) (.int v) []
          rw [p2, e2]; exact .int _ _
theorem ents_shown {as : List Addr} {d : Nat} : ∀ {l : List DictEntry} {vs : List (Key × Value)} {ps : List (Int × Int)}, Pairs (mixKind P w) l vs → KV (dV ps) vs → PyData.showableKv (dD ps) = true →
    ReprEntriesK P w as h d l (PyData.shownKv (dD ps))
  | _, _, [], pr, r, _ => by
    cases r; cases pr
    show ReprEntriesK P w as h d [] (PyData.shownKv [])
    rw [PyData.shownKv]; exact .nil
  | _, _, (k, v) :: ps, pr, r, hs => by
    have r' : KV ((Sum.inl k, V.int v) :: dV ps) _ := r
    have hs' : PyData.showableKv ((.int k, .int v) :: dD ps) = true := hs
    rw [PyData.showableKv, PyData.showable, PyData.showable, Bool.and_eq_true, Bool.and_eq_true] at hs'
    cases r' with
    | cons r1 r2 =>
      cases pr with
      | cons p1 p2 p3 =>
        obtain ⟨e1, t1, e2⟩ := r1
        rw [← e1] at p1
        obtain ⟨t, e3⟩ := Value.isInt_shape (show Value.isInt k _ = true from p1)
        show ReprEntriesK P w as h d _ (PyData.shownKv ((.int k, .int v) :: dD ps))
        rw [PyData.shownKv, PyData.shown, PyData.shown]
        refine .cons ?_ ?_ (ents_shown p3 r2 hs'.2)
        · rw [e3]; exact .of_is (ReprIs.int t (of_decide_eq_true hs'.1.1)) _ _ _
        · rw [p2, e2]; exact .of_is (ReprIs.int t1 (of_decide_eq_true hs'.1.2)) _ _ _
theorem depth_dD : ∀ ps : List (Int × Int), PyData.depthKv (dD ps) = 0
  | [] => by show PyData.depthKv [] = 0; rw [PyData.depthKv]
  | (k, v) :: ps => by
    show PyData.depthKv ((.int k, .int v) :: dD ps) = 0
    rw [PyData.depthKv, PyData.depth, PyData.depth, depth_dD ps]; rfl
theorem dic_obj {a : Addr} {ps : List (Int × Int)} (ok : HOk P w H h) (e : H a = some (.dK (dV ps))) : (a == sysModules) = false ∧ ∃ (o : Obj) (es : Array DictEntry) (n : Nat) (vs : List (Key × Value)), h.get? a = some o ∧ o.cls = .type "dict" ∧ o.data = .dict es n ∧ Pairs (mixKind P w) es.toList vs ∧ KV (dV ps) vs := by
  obtain ⟨_, hs, vs, r, o, es, ep, e1, ex, ed, _, pr, _⟩ := ok a _ e
  exact ⟨hs, o, es, ep, vs, e1, ex.1, ed, pr, r⟩
mutual
theorem th_reads (ok : HOk P w H h) : ∀ {d : PyData} {v : V} {u : Value}, ThAt H d v → RelV v u → ∃ as, Reads h u d as
  | .none, v, u, t, r => by
    rw [ThAt] at t; subst t
    have e : u = Value.none := r
    subst e; exact ⟨_, .none⟩
  | .bool b, v, u, t, r => by
    rw [ThAt] at t; subst t
    have e : u = Value.bool b := r
    subst e; exact ⟨_, .bool b⟩
  | .int i, v, u, t, r => by
    rw [ThAt] at t; subst t
    obtain ⟨k, rfl⟩ : ∃ k, u = Value.int i k := r
    exact ⟨_, .int i k⟩
  | .str x, v, u, t, r => by
    rw [ThAt] at t; subst t
    obtain ⟨k, rfl⟩ : ∃ k, u = Value.str x k := r
    exact ⟨_, .str x k⟩
  | .list xs, v, u, t, r => by
    rw [ThAt] at t
    obtain ⟨a, ys, rfl, ha, hx⟩ := t
    have e : u = Value.ref a := r
    subst e
    obtain ⟨its, n, rv, ho⟩ := lst_obj ok ha
    obtain ⟨as, q⟩ := ths_reads ok hx rv
    exact ⟨_, .list ho rfl rfl q⟩
  | .tuple xs, v, u, t, r => by
    rw [ThAt] at t
    obtain ⟨a, ys, rfl, ha, hx⟩ := t
    have e : u = Value.ref a := r
    subst e
    obtain ⟨its, o, n, rv, h1, h2, h3⟩ := tup_obj ok ha
    obtain ⟨as, q⟩ := ths_reads ok hx rv
    exact ⟨_, .tuple h1 h2 h3 q⟩
  | .dict kvs, v, u, t, r => by
    rw [ThAt] at t
    obtain ⟨hk, a, rfl, ha⟩ := t
    generalize unD kvs = ps at hk ha
    subst hk
    have e : u = Value.ref a := r
    subst e
    obtain ⟨_, o, es, n, vs, h1, h2, h3, h4, h5⟩ := dic_obj ok ha
    obtain ⟨q1, q2⟩ := ents_reads (h := h) h4 h5
    exact ⟨_, .dict h1 h2 h3 q1 q2⟩
theorem ths_reads (ok : HOk P w H h) : ∀ {ds : List PyData} {ys : List V} {us : List Value}, ThsAt H ds ys → Vals ys us → ∃ as, ReadsAll h us ds as
  | [], ys, us, t, r => by
    rw [ThsAt] at t; subst t
    cases r
    exact ⟨_, .nil⟩
  | d :: ds, ys, us, t, r => by
    rw [ThsAt] at t
    obtain ⟨y, zs, rfl, h1, h2⟩ := t
    cases r with
    | cons r1 r2 =>
      obtain ⟨as, q⟩ := th_reads ok h1 r1
      obtain ⟨bs, q2⟩ := ths_reads ok h2 r2
      exact ⟨_, .cons q q2⟩
end
mutual
theorem th_shown (ok : HOk P w H h) : ∀ {d : PyData} {v : V} {u : Value}, ThAt H d v → RelV v u → d.showable = true → d.shown.length ≤ sizeLine → ∃ bs, ReadAtMost h d.depth bs ∧ ReprK P w bs h d.depth u d.shown
  | .none, v, u, t, r, _, _ => by
    rw [ThAt] at t; subst t
    have e : u = Value.none := r
    subst e
    exact ⟨[], by simp [ReadAtMost], by rw [PyData.shown]; exact .of_is ReprIs.none _ _ _⟩
  | .bool b, v, u, t, r, _, _ => by
    rw [ThAt] at t; subst t
    have e : u = Value.bool b := r
    subst e
    exact ⟨[], by simp [ReadAtMost], by rw [PyData.shown]; exact .of_is (ReprIs.bool b) _ _ _⟩
  | .int i, v, u, t, r, hs, _ => by
    rw [ThAt] at t; subst t
    obtain ⟨k, rfl⟩ : ∃ k, u = Value.int i k := r
    rw [PyData.showable] at hs
    exact ⟨[], by simp [ReadAtMost], by rw [PyData.shown]; exact .of_is (ReprIs.int k (of_decide_eq_true hs)) _ _ _⟩
  | .str x, v, u, t, r, _, hz => by
    rw [ThAt] at t; subst t
    obtain ⟨k, rfl⟩ : ∃ k, u = Value.str x k := r
    rw [PyData.shown] at hz
    exact ⟨[], by simp [ReadAtMost], by rw [PyData.shown]; exact .of_is (ReprIs.str x k hz) _ _ _⟩
  | .list xs, v, u, t, r, hs, hz => by
    obtain ⟨as, rd⟩ := th_reads ok t r
    rw [ThAt] at t
    obtain ⟨a, ys, rfl, ha, hx⟩ := t
    have e : u = Value.ref a := r
    subst e
    obtain ⟨its, n, rv, ho⟩ := lst_obj ok ha
    rw [PyData.showable] at hs
    rw [PyData.shown] at hz
    obtain ⟨bs, hb, hk⟩ := ths_shown ok hx rv hs fun s hsm => Nat.le_trans (listText_mem_le hsm) hz
    have dd : (PyData.list xs).depth = PyData.depthAll xs + 1 := by rw [PyData.depth]
    refine ⟨a :: bs, ReadAtMost.cons rd (by omega) hb, ?_⟩
    rw [dd, PyData.shown]
    cases its with
    | nil =>
      cases rv
      cases xs with
      | nil => rw [PyData.shownAll, listText_nil]; exact ReprK.listEmpty ho rfl rfl
      | cons _ _ => rw [ThsAt] at hx; obtain ⟨_, _, z, _⟩ := hx; cases z
    | cons x l => exact ReprK.list ho rfl rfl (not_mem_of_deeper rd (by omega) hb) (by rw [hk.length_eq]; simp) fun i y q => hk.item i y (by simpa using q)
  | .tuple xs, v, u, t, r, hs, hz => by
    obtain ⟨as, rd⟩ := th_reads ok t r
    rw [ThAt] at t
    obtain ⟨a, ys, rfl, ha, hx⟩ := t
    have e : u = Value.ref a := r
    subst e
    obtain ⟨its, o, n, rv, h1, h2, h3⟩ := tup_obj ok ha
    rw [PyData.showable] at hs
    rw [PyData.shown] at hz
    obtain ⟨bs, hb, hk⟩ := ths_shown ok hx rv hs fun s hsm => Nat.le_trans (tupleText_mem_le hsm) hz
    have dd : (PyData.tuple xs).depth = PyData.depthAll xs + 1 := by rw [PyData.depth]
    refine ⟨a :: bs, ReadAtMost.cons rd (by omega) hb, ?_⟩
    rw [dd, PyData.shown]
    exact ReprK.tuple h1 h2 h3 (not_mem_of_deeper rd (by omega) hb) hk
  | .dict kvs, v, u, t, r, hs, hz => by
    obtain ⟨as, rd⟩ := th_reads ok t r
    rw [ThAt] at t
    obtain ⟨hk, a, rfl, ha⟩ := t
    generalize unD kvs = ps at hk ha
    subst hk
    have e : u = Value.ref a := r
    subst e
    obtain ⟨sy, o, es, n, vs, h1, h2, h3, h4, h5⟩ := dic_obj ok ha
    have dd : (PyData.dict (dD ps)).depth = 0 + 1 := by rw [PyData.depth, depth_dD]
    rw [PyData.showable] at hs
    refine ⟨[a], ReadAtMost.cons (d := .dict (dD ps)) (n := 0) rd (Nat.zero_le _) (by simp [ReadAtMost]), ?_⟩
    rw [dd, PyData.shown]
    exact ReprK.dict h1 h2 h3 sy (by simp) (ents_shown h4 h5 hs)
theorem ths_shown (ok : HOk P w H h) : ∀ {ds : List PyData} {ys : List V} {us : List Value}, ThsAt H ds ys → Vals ys us → PyData.showableAll ds = true → (∀ s ∈ PyData.shownAll ds, s.length ≤ sizeLine) → ∃ bs, ReadAtMost h (PyData.depthAll ds) bs ∧ ReprAllK P w bs h (PyData.depthAll ds) us (PyData.shownAll ds)
  | [], ys, us, t, r, _, _ => by
    rw [ThsAt] at t; subst t
    cases r
    exact ⟨[], by simp [ReadAtMost], by rw [PyData.shownAll]; exact .nil⟩
  | d :: ds, ys, us, t, r, hs, hz => by
    rw [ThsAt] at t
    obtain ⟨y, zs, rfl, h1, h2⟩ := t
    rw [PyData.showableAll, Bool.and_eq_true] at hs
    rw [PyData.shownAll] at hz
    cases r with
    | cons r1 r2 =>
      obtain ⟨b1, q1, k1⟩ := th_shown ok h1 r1 hs.1 (hz _ (.head _))
      obtain ⟨b2, q2, k2⟩ := ths_shown ok h2 r2 hs.2 fun s hsm => hz s (.tail _ hsm)
      have dd : PyData.depthAll (d :: ds) = max d.depth (PyData.depthAll ds) := by rw [PyData.depthAll]
      refine ⟨b1 ++ b2, (q1.mono (by omega)).append (q2.mono (by omega)), ?_⟩
      rw [PyData.shownAll]
      exact .cons ((k1.more fun b hb => List.mem_append_left _ hb).level_le (by omega)) (k2.more_le (fun b hb => List.mem_append_right _ hb) (by omega))
end
end
def rReprT : List V → Hp → VK → Prop := fun xs H Q => ∃ v d, xs = [v] ∧ ThAt H d v ∧ d.showable = true ∧ d.shown.length ≤ sizeLine ∧ d.depth ≤ 40 ∧ Q (.str d.shown) H
theorem call_reprT {X : Cx} (hg : X.A.guards = some []) (hu : X.A.units + 64 < cLine) : CallR X (.builtin "repr") rReprT := by
  intro pins s σ H xs us Q I r hq
  obtain ⟨v, d, rfl, t, hs, hz, hd, q⟩ := hq
  obtain ⟨u, rfl, ru⟩ := vals1 r
  obtain ⟨as, rd⟩ := th_reads I.hok t ru
  cases d with
  | none =>
    rw [ThAt] at t; subst t
    have e : u = Value.none := ru
    subst e
    rw [PyData.shown] at q
    exact P.repr_of_none ⟨.str "None", H, I.tok _, ⟨_, rfl⟩, q⟩
  | bool b =>
    rw [ThAt] at t; subst t
    have e : u = Value.bool b := ru
    subst e
    rw [PyData.shown] at q
    exact P.repr_of_bool ⟨.str _, H, I.tok _, ⟨_, rfl⟩, q⟩
  | int i =>
    rw [ThAt] at t; subst t
    obtain ⟨k, rfl⟩ : ∃ k, u = Value.int i k := ru
    rw [PyData.shown] at q
    rw [PyData.showable] at hs
    exact P.repr_of_int (of_decide_eq_true hs) ⟨.str _, H, I.tok _, ⟨_, rfl⟩, q⟩
  | str x =>
    rw [ThAt] at t; subst t
    obtain ⟨k, rfl⟩ : ∃ k, u = Value.str x k := ru
    rw [PyData.shown] at q hz
    exact P.repr_of_str ⟨.str _, H, I.tok _, ⟨_, rfl⟩, q⟩ hz
  | list xs =>
    rw [ThAt] at t
    obtain ⟨a, ys, rfl, ha, hx⟩ := t
    have e : u = Value.ref a := ru
    subst e
    obtain ⟨its, n, rv, ho⟩ := lst_obj I.hok ha
    rw [PyData.showable] at hs
    rw [PyData.shown] at hz q
    obtain ⟨bs, hb, hk⟩ := ths_shown I.hok hx rv hs fun s hsm => Nat.le_trans (listText_mem_le hsm) hz
    have dd : (PyData.list xs).depth = PyData.depthAll xs + 1 := by rw [PyData.depth]
    refine call_repr_slot (by omega) ⟨_, ho, rfl⟩ PySem.F.slot_list_repr.toG ?_
    cases its with
    | nil =>
      cases rv
      cases xs with
      | nil =>
        rw [PyData.shownAll, listText_nil] at q
        exact call_list_repr_empty ⟨_, ho, rfl⟩ ho rfl ⟨_, _, rfl, .str "[]", H, I.tok _, ⟨_, rfl⟩, q⟩
      | cons _ _ => rw [ThsAt] at hx; obtain ⟨_, _, z, _⟩ := hx; cases z
    | cons x l =>
      exact call_list_reprK ho rfl rfl (not_mem_of_deeper rd (by omega) hb) (by rw [hk.length_eq]; simp) (fun i y q => hk.item i y (by simpa using q)) (A := X.A.in1) hg (fun b _ => Clear.nil b) (by show X.A.units + 1 + (PyData.depthAll xs + 1) < cLine; omega) (fun _ _ e => e) (fun h' u tk hk => ⟨_, _, rfl, .str _, H, I.kept hk, ⟨_, rfl⟩, q⟩) hz
  | tuple xs =>
    rw [ThAt] at t
    obtain ⟨a, ys, rfl, ha, hx⟩ := t
    have e : u = Value.ref a := ru
    subst e
    obtain ⟨its, o, n, rv, h1, h2, h3⟩ := tup_obj I.hok ha
    rw [PyData.showable] at hs
    rw [PyData.shown] at hz q
    obtain ⟨bs, hb, hk⟩ := ths_shown I.hok hx rv hs fun s hsm => Nat.le_trans (tupleText_mem_le hsm) hz
    have dd : (PyData.tuple xs).depth = PyData.depthAll xs + 1 := by rw [PyData.depth]
    exact call_repr_slot (by omega) ⟨_, h1, h2⟩ PySem.F.slot_tuple_repr (call_tuple_reprK h1 h2 h3 (not_mem_of_deeper rd (by omega) hb) hk (A := X.A.in1) hg (fun b _ => Clear.nil b) (by show X.A.units + 1 + (PyData.depthAll xs + 1) < cLine; omega) (fun _ _ e => e) (fun h' u tk hk => ⟨_, _, rfl, .str _, H, I.kept hk, ⟨_, rfl⟩, q⟩) hz)
  | dict kvs =>
    rw [ThAt] at t
    obtain ⟨hk, a, rfl, ha⟩ := t
    generalize unD kvs = ps at hk ha
    subst hk
    have e : u = Value.ref a := ru
    subst e
    obtain ⟨sy, o, es, n, vs, h1, h2, h3, h4, h5⟩ := dic_obj I.hok ha
    rw [PyData.showable] at hs
    rw [PyData.shown] at q hz
    exact call_repr_slot (by omega) ⟨_, h1, h2⟩ PySem.F.slot_dict_repr (call_dict_reprK (as := []) (d := 0) h1 h2 h3 sy (by simp) (ents_shown h4 h5 hs) (A := X.A.in1) hg (fun b _ => Clear.nil b) (by show X.A.units + 1 + (0 + 1) < cLine; omega) (fun _ _ e => e) (fun h' u tk hk => ⟨_, _, rfl, .str _, H, I.kept hk, ⟨_, rfl⟩, q⟩) hz)
end L2
set_option Elab.async false
set_option linter.all false
set_option maxRecDepth 100000
namespace HT
open PySem PyProof.Rows
section
open PySem.SeqAt
open PySem.AutoSeq1 (wpAny_loadPart')
open PySem.MeetsSeq PySem.MeetsSeq2 PySem.MeetsSeq3 PySem.SeqRoads2
theorem ints_at {vs : List Value} {ns : List Int} (h : IntsAre vs ns) {i : Nat} (hi : i < ns.length) : ∃ t, vs[i]? = some (.int (ns[i]) t) := by
  induction h generalizing i with
  | nil => simp at hi
  | cons a t h ih =>
    cases i with
    | zero => exact ⟨t, rfl⟩
    | succ i =>
      obtain ⟨t', e⟩ := ih (i := i) (by simpa using hi)
      exact ⟨t', by simpa using e⟩
theorem lt_loop (l b : Addr) (items items2 : Array Value) (n n2 : Nat) (dd dd2 : Option Addr) (sl sl2 : Array (Option Value)) (ns ms : List Int) (hi : IntsAre items.toList ns) (hj : IntsAre items2.toList ms) (k : Nat) :
    ∀ i : Nat, ns.length - i = k → i ≤ ns.length → i ≤ ms.length → Meets (Builtin.«list.__eq__.loop» ⟨[.ref l, .ref b, rawInt i, rawInt 0], []⟩)
      (fun _ R s => s.heap.get? l = some { cls := .type "list", dict := dd, data := .seq items n, slots := sl } ∧ s.heap.get? b = some { cls := .type "list", dict := dd2, data := .seq items2 n2, slots := sl2 } ∧
        R (.ok (.ret (.bool (lexLt (ns.drop i) (ms.drop i))))) s) := by
  have z1 : items.size = ns.length := by rw [← hi.length]; simp
  have z2 : items2.size = ms.length := by rw [← hj.length]; simp
  induction k with
  | zero =>
    intro i hk h1 h2 prog w A R s h
    obtain ⟨hp, g, d, tk, os⟩ := s; obtain ⟨hl, hb, h⟩ := h
    have hin : i = ns.length := by omega
    wp_walk using wpAny_loadPart' hl, wpAny_loadPart' hb
    have hi1 : items[((i : Nat) : Int).toNat]? = none := by simp; omega
    have hd : ns.drop i = [] := by simp; omega
    rw [hd] at h
    rw [hi1]
    wp_walk using wpAny_loadPart' hl, wpAny_loadPart' hb
    show R (.ok (.ret (.bool (decide (items.size < items2.size))))) _
    have e : lexLt [] (ms.drop i) = decide (items.size < items2.size) := by
      cases q : ms.drop i with
      | nil =>
        rw [lexLt_nil_nil]
        have : ms.length ≤ i := by simpa using List.drop_eq_nil_iff.mp q
        exact (decide_eq_false (by omega)).symm
      | cons x y =>
        rw [lexLt_nil_cons]
        have : i < ms.length := by
          by_cases z : i < ms.length
          · exact z
          · rw [List.drop_of_length_le (by omega)] at q; cases q
        exact (decide_eq_true (by omega)).symm
    rw [← e]
    exact h
  | succ k ih =>
    intro i hk h1 h2 prog w A R s h
    obtain ⟨hp, g, d, tk, os⟩ := s; obtain ⟨hl, hb, h⟩ := h
    have hlt : i < ns.length := by omega
    obtain ⟨t, et⟩ := ints_at hi hlt
    have hi1 : items[((i : Nat) : Int).toNat]? = some (.int (ns[i]) t) := by simpa using et
    by_cases hm : i < ms.length
    · obtain ⟨u, eu⟩ := ints_at hj hm
      have hi2 : items2[((i : Nat) : Int).toNat]? = some (.int (ms[i]) u) := by simpa using eu
      wp_walk using wpAny_loadPart' hl, wpAny_loadPart' hb
      rw [List.drop_eq_getElem_cons hlt, List.drop_eq_getElem_cons hm, lexLt_cons] at h
      have hc : ((i : Int) + 1) = ((i + 1 : Nat) : Int) := by push_cast; rfl
      rw [hi1, hi2]
      obtain ⟨e, he, hiff⟩ := eqAt_int A.in1 ⟨hp, g, d, tk, os⟩ (ns[i]) t (ms[i]) u
      refine wpAny_bind (he prog w _ _ ?_)
      cases e with
      | true =>
        rw [if_pos (hiff.mp rfl)] at h
        wp_walk
        rw [hc]
        exact ⟨plainId_quiet plain_eq_loop _, codeAny_builtin entry_eq_loop (by
          rw [Around.under_plainId plain_eq_loop _]
          exact ih (i + 1) (by omega) (by omega) (by omega) prog w A R _ ⟨hl, hb, h⟩)⟩
      | false =>
        rw [if_neg (fun q => absurd (hiff.mpr q) Bool.false_ne_true)] at h
        have hri := rcLt_int A.in1 ⟨hp, g, d, tk, os⟩ (ns[i]) t (ms[i]) u prog w
        wp_walk using wpAny_loadPart' hl, wpAny_loadPart' hb
        rw [hi1, hi2]
        wp_walk using hri
        simpa using h
    · have hi2 : items2[((i : Nat) : Int).toNat]? = none := by simp; omega
      wp_walk using wpAny_loadPart' hl, wpAny_loadPart' hb
      rw [List.drop_eq_getElem_cons hlt, List.drop_of_length_le (show ms.length ≤ i by omega), lexLt_cons_nil] at h
      rw [hi1, hi2]
      wp_walk using wpAny_loadPart' hl, wpAny_loadPart' hb
      show R (.ok (.ret (.bool (decide (items.size < items2.size))))) _
      rw [decide_eq_false (by omega)]
      exact h
theorem list_lt_ints (l b : Addr) (items items2 : Array Value) (n n2 : Nat) (dd dd2 : Option Addr) (sl sl2 : Array (Option Value)) (ns ms : List Int) (hi : IntsAre items.toList ns) (hj : IntsAre items2.toList ms) :
    Meets (Builtin.«list.__lt__» ⟨[.ref l, .ref b], []⟩)
      (fun _ R s => s.heap.get? l = some { cls := .type "list", dict := dd, data := .seq items n, slots := sl } ∧ s.heap.get? b = some { cls := .type "list", dict := dd2, data := .seq items2 n2, slots := sl2 } ∧
        R (.ok (.ret (.bool (lexLt ns ms)))) s) := by
  intro prog w A R s h
  obtain ⟨hp, g, d, tk, os⟩ := s; obtain ⟨hl, hb, h⟩ := h
  have f3 := AutoSeq1.sub_list_list
  wp_walk using wpAny_loadPart' hl, wpAny_loadPart' hb
  exact ⟨plainId_quiet plain_eq_loop _, codeAny_builtin entry_eq_loop (by
    rw [Around.under_plainId plain_eq_loop _]
    exact lt_loop l b items items2 n n2 dd dd2 sl sl2 ns ms hi hj _ 0 rfl (Nat.zero_le _) (Nat.zero_le _) prog w A R _ ⟨hl, hb, by simpa using h⟩)⟩
end
section
variable {prog : Program} {w : World} {A : Around} {E : Value → Shared → Prop} {s : Shared}
theorem lt_listInts {l b : Addr} {items items2 : Array Value} {ns ms : List Int} {Q : Value → Shared → Prop} (hl : s.heap.IsList l items) (hb : s.heap.IsList b items2) (hi : IntsAre items.toList ns) (hj : IntsAre items2.toList ms)
    (hu : A.units < cLine) (h : Q (.bool (lexLt ns ms)) s) : wpAny (model prog w) A (richCompare .Lt (.ref l) (.ref b)) Q E s := by
  obtain ⟨⟨cls, dd, data, sl⟩, ho, hc, n, hd⟩ := id hl
  obtain ⟨⟨cls2, dd2, data2, sl2⟩, ho2, hc2, n2, hd2⟩ := id hb
  simp only at hc hd hc2 hd2
  subst hc hd hc2 hd2
  exact richCompare_meets_room (op := .Lt) ⟨_, ho, rfl⟩ ⟨_, ho2, rfl⟩ PySem.F.slot_list_lt PySem.F.entry_list_lt (PySem.F.args_list_lt_2 _ _) (list_lt_ints l b items items2 n n2 dd dd2 sl sl2 ns ms hi hj)
    ⟨ho, ho2, show Value.bool (lexLt ns ms) ≠ Value.notImplemented ∧ Q (.bool (lexLt ns ms)) s from ⟨(fun x => nomatch x), h⟩⟩ hu
end
end HT
namespace HT
open PySem PyProof.Rows PySem.W
def kin {α : Type} (n : Nat) : KasT α → Bool
  | .ret _ => true
  | .ask i j k => decide (i < n) && decide (j < n) && kin n (k true) && kin n (k false)
theorem lexLt_irrefl : ∀ a : List Int, lexLt a a = false
  | [] => rfl
  | x :: a => by rw [lexLt_cons, if_pos rfl, lexLt_irrefl a]
theorem lexLt_flip : ∀ a b : List Int, a ≠ b → lexLt b a = !lexLt a b
  | [], [], h => absurd rfl h
  | [], _ :: _, _ => rfl
  | _ :: _, [], _ => rfl
  | x :: a, y :: b, h => by
    rw [lexLt_cons, lexLt_cons]
    by_cases e : x = y
    · subst e
      rw [if_pos rfl, if_pos rfl]
      exact lexLt_flip a b fun z => h (by rw [z])
    · rw [if_neg e, if_neg (Ne.symm e), Bool.eq_iff_iff]
      simp
      omega
theorem lexLt_trans : ∀ a b c : List Int, lexLt a b = true → lexLt b c = true → lexLt a c = true
  | [], [], _, h, _ => by rw [lexLt_nil_nil] at h; cases h
  | [], _ :: _, [], _, h => by rw [lexLt_cons_nil] at h; cases h
  | [], _ :: _, _ :: _, _, _ => rfl
  | _ :: _, [], _, h, _ => by rw [lexLt_cons_nil] at h; cases h
  | _ :: _, _ :: _, [], _, h => by rw [lexLt_cons_nil] at h; cases h
  | x :: a, y :: b, z :: c, h1, h2 => by
    rw [lexLt_cons] at h1 h2 ⊢
    by_cases e1 : x = y
    · subst e1
      rw [if_pos rfl] at h1
      by_cases e2 : x = z
      · subst e2
        rw [if_pos rfl] at h2 ⊢
        exact lexLt_trans a b c h1 h2
      · rw [if_neg e2] at h2 ⊢; exact h2
    · rw [if_neg e1] at h1
      have h1' := of_decide_eq_true h1
      by_cases e2 : y = z
      · subst e2
        rw [if_neg e1]; exact h1
      · rw [if_neg e2] at h2
        have h2' := of_decide_eq_true h2
        rw [if_neg (show x ≠ z by omega)]
        exact decide_eq_true (by omega)
end HT
namespace L2
open PySem PySem.Spec PyProof.Rows
section
variable {X : Cx}
def rLtL (K : PySem.W.Frag) : R2 := fun x y H Q => ∃ (a b : Addr) (ns ms : List Int), x = .ref a ∧ y = .ref b ∧ SqL K H a (ns.map V.int) ∧ SqL K H b (ms.map V.int) ∧ Q (.bl (HT.lexLt ns ms)) H
theorem k_ltL (K : PySem.W.Frag) (hu : X.A.units + 64 < cLine) (e : X.K = K := by rfl) : OpR X (compareOp .Lt) (rLtL K) := by
  subst e
  intro pins s σ H x y v u Q I rx ry h
  obtain ⟨a, b, ns, ms, rfl, rfl, ha, hb, q⟩ := h
  cases rx
  cases ry
  obtain ⟨its, r1, p1, _⟩ := I.list ha
  obtain ⟨its2, r2, p2, _⟩ := I.list hb
  exact HT.lt_listInts p1.isList p2.isList (intsAre_of r1) (intsAre_of r2) (by omega) ⟨.bl (HT.lexLt ns ms), H, I, rfl, q⟩
end
end L2
set_option Elab.async false
set_option linter.all false
set_option maxRecDepth 100000
namespace HT
open PySem PyProof.Rows PySem.W
def KW {α : Type} (c : Nat → Nat → Bool) (n : Nat) : KasT α → (α → Prop) → Prop
  | .ret a, Q => Q a
  | .ask i j k, Q => i < n ∧ j < n ∧ KW c n (k (c i j)) Q
theorem KW.bind {α β : Type} {c : Nat → Nat → Bool} {n : Nat} {f : α → KasT β} {Q : β → Prop} : ∀ {t : KasT α}, KW c n t (fun a => KW c n (f a) Q) → KW c n (t.bind f) Q
  | .ret _, h => h
  | .ask _ _ k, h => ⟨h.1, h.2.1, KW.bind (t := k _) h.2.2⟩
theorem KW.mono {α : Type} {c : Nat → Nat → Bool} {n : Nat} {Q Q' : α → Prop} (hq : ∀ a, Q a → Q' a) : ∀ {t : KasT α}, KW c n t Q → KW c n t Q'
  | .ret a, h => hq a h
  | .ask _ _ k, h => ⟨h.1, h.2.1, KW.mono hq (t := k _) h.2.2⟩
theorem KW.wp {α : Type} {n : Nat} {c : Nat → Nat → Bool} {cmp : Nat → Nat → (Bool → Shared → Prop) → Shared → Prop} {s : Shared} {Q : α → Prop} (hc : ∀ i j C, i < n → j < n → C (c i j) s → cmp i j C s) :
    ∀ t : KasT α, KW c n t Q → t.kasWp cmp (fun a s' => s' = s ∧ Q a) s
  | .ret _, h => ⟨rfl, h⟩
  | .ask i j k, h => hc i j _ h.1 h.2.1 (KW.wp hc (k (c i j)) h.2.2)
structure Ord (c : Nat → Nat → Bool) (n : Nat) : Prop where
  tr : ∀ i j k, i < n → j < n → k < n → c i j = true → c j k = true → c i k = true
  tot : ∀ i j, i < n → j < n → i ≠ j → c i j = false → c j i = true
  asy : ∀ i j, i < n → j < n → c i j = true → c j i = false
structure Pm (n : Nat) (p : Array Nat) : Prop where
  sz : p.size = n
  pm : p.toList.Perm (List.range n)
theorem Pm.lt {n : Nat} {p : Array Nat} (h : Pm n p) (i : Nat) (hi : i < n) : p.getD i 0 < n := by
  have hs := h.sz
  have e : p.getD i 0 = p[i] := by simp [Array.getD, hs, hi]
  rw [e]
  exact List.mem_range.mp (h.pm.mem_iff.mp (by simp))
theorem Pm.ne {n : Nat} {p : Array Nat} (h : Pm n p) {i j : Nat} (hi : i < n) (hj : j < n) (hij : i ≠ j) : p.getD i 0 ≠ p.getD j 0 := by
  have hs := h.sz
  have e1 : p.getD i 0 = p.toList[i]'(by simp [hs, hi]) := by simp [Array.getD, hs, hi]
  have e2 : p.getD j 0 = p.toList[j]'(by simp [hs, hj]) := by simp [Array.getD, hs, hj]
  rw [e1, e2]
  have nd : p.toList.Nodup := h.pm.nodup_iff.mpr List.nodup_range
  intro z
  exact hij ((List.getElem_inj nd).mp z)
theorem Pm.of {n : Nat} {p q : Array Nat} (h : Pm n p) (z : q.Perm p) : Pm n q := ⟨by rw [z.size_eq]; exact h.sz, (Array.perm_iff_toList_perm.mp z).trans h.pm⟩
def Up (c : Nat → Nat → Bool) (p : Array Nat) (m : Nat) : Prop := ∀ i j, i < j → j < m → c (p.getD i 0) (p.getD j 0) = true
def Dn (c : Nat → Nat → Bool) (p : Array Nat) (m : Nat) : Prop := ∀ i j, i < j → j < m → c (p.getD j 0) (p.getD i 0) = true
section
variable {c : Nat → Nat → Bool} {n : Nat}
theorem asc_ok (O : Ord c n) {p : Array Nat} (hp : Pm n p) : ∀ (f m : Nat), 1 ≤ m → m + f ≤ n → Up c p m → KW c n (kas_asc p f m) (fun r => m ≤ r ∧ r ≤ m + f ∧ Up c p r ∧ (r < m + f → c (p.getD r 0) (p.getD (r - 1) 0) = true))
  | 0, m, _, _, u => ⟨Nat.le_refl _, Nat.le_refl _, u, fun z => absurd z (Nat.lt_irrefl _)⟩
  | f + 1, m, h1, h2, u => by
    refine ⟨hp.lt m (by omega), hp.lt (m - 1) (by omega), ?_⟩
    cases e : c (p.getD m 0) (p.getD (m - 1) 0) with
    | true => exact ⟨Nat.le_refl _, by omega, u, fun _ => e⟩
    | false =>
      have hs : c (p.getD (m - 1) 0) (p.getD m 0) = true := O.tot _ _ (hp.lt m (by omega)) (hp.lt (m - 1) (by omega)) (hp.ne (by omega) (by omega) (by omega)) e
      have u' : Up c p (m + 1) := fun i j hij hj => by
        by_cases hjm : j < m
        · exact u i j hij hjm
        · have ej : j = m := by omega
          subst ej
          by_cases hi : i = j - 1
          · rw [hi]; exact hs
          · exact O.tr _ _ _ (hp.lt i (by omega)) (hp.lt (j - 1) (by omega)) (hp.lt j (by omega)) (u i (j - 1) (by omega) (by omega)) hs
      refine KW.mono (fun r h => ?_) (asc_ok O hp f (m + 1) (by omega) (by omega) u')
      exact ⟨by omega, by omega, h.2.2.1, fun z => h.2.2.2 (by omega)⟩
theorem desc_ok (O : Ord c n) {p : Array Nat} (hp : Pm n p) : ∀ (f m : Nat), 1 ≤ m → m + f ≤ n → Dn c p m → KW c n (kas_desc f p m 0) (fun r => r.1 = p ∧ r.2.2 = 0 ∧ m ≤ r.2.1 ∧ r.2.1 ≤ m + f ∧ Dn c p r.2.1)
  | 0, m, _, _, u => ⟨rfl, rfl, Nat.le_refl _, Nat.le_refl _, u⟩
  | f + 1, m, h1, h2, u => by
    refine ⟨hp.lt m (by omega), hp.lt (m - 1) (by omega), ?_⟩
    cases e : c (p.getD m 0) (p.getD (m - 1) 0) with
    | true =>
      have u' : Dn c p (m + 1) := fun i j hij hj => by
        by_cases hjm : j < m
        · exact u i j hij hjm
        · have ej : j = m := by omega
          subst ej
          by_cases hi : i = j - 1
          · rw [hi]; exact e
          · exact O.tr _ _ _ (hp.lt j (by omega)) (hp.lt (j - 1) (by omega)) (hp.lt i (by omega)) e (u i (j - 1) (by omega) (by omega))
      refine KW.mono (fun r h => ?_) (desc_ok O hp f (m + 1) (by omega) (by omega) u')
      exact ⟨h.1, h.2.1, by omega, by omega, h.2.2.2.2⟩
    | false =>
      have hs : c (p.getD (m - 1) 0) (p.getD m 0) = true := O.tot _ _ (hp.lt m (by omega)) (hp.lt (m - 1) (by omega)) (hp.ne (by omega) (by omega) (by omega)) e
      refine ⟨hp.lt (m - 1) (by omega), hp.lt m (by omega), ?_⟩
      rw [hs]
      exact ⟨rfl, rfl, Nat.le_refl _, (show m ≤ m + (f + 1) by omega), u⟩
theorem rev_getD {p : Array Nat} {m : Nat} (hm : m ≤ p.size) (k : Nat) : (kas_rev p 0 m).getD k 0 = if k < m then p.getD (m - 1 - k) 0 else p.getD k 0 := by
  have q := getElem?_mirror_all (xs := p) (i := 0) hm k
  have e : ∀ (a : Array Nat) (j : Nat), a.getD j 0 = (a[j]?).getD 0 := fun a j => by simp [Array.getD_eq_getD_getElem?]
  unfold kas_rev
  rw [e, q]
  by_cases h : k < m
  · rw [if_pos ⟨Nat.zero_le _, h⟩, if_pos h, e, Nat.zero_add]
  · rw [if_neg (by omega), if_neg h, e]
theorem tail3_ok (O : Ord c n) {p : Array Nat} (hp : Pm n p) {m : Nat} (h1 : 1 ≤ m) (h2 : m ≤ n) (u : Dn c p m) : KW c n (kas_tail3 m n p) (fun r => 1 ≤ r.1 ∧ r.1 ≤ n ∧ Pm n r.2 ∧ Up c r.2 r.1) := by
  have hr : Pm n (kas_rev p 0 m) := hp.of (mirror_perm _ _ _ _)
  have hsz : m ≤ p.size := by rw [hp.sz]; exact h2
  have u' : Up c (kas_rev p 0 m) m := fun i j hij hj => by
    rw [rev_getD hsz, rev_getD hsz, if_pos (by omega), if_pos hj]
    exact u _ _ (by omega) (by omega)
  refine KW.bind (KW.mono (fun r h => ?_) (asc_ok O hr (n - m) m h1 (by omega) u'))
  exact ⟨by omega, by omega, hr, h.2.2.1⟩
theorem count_ok (O : Ord c n) {p : Array Nat} (hp : Pm n p) (h2 : 2 ≤ n) : KW c n (kas_count n p) (fun r => 1 ≤ r.1 ∧ r.1 ≤ n ∧ Pm n r.2 ∧ Up c r.2 r.1) := by
  refine KW.bind (KW.mono (fun r h => ?_) (asc_ok O hp (n - 1) 1 (Nat.le_refl _) (by omega) (fun i j hij hj => by omega)))
  obtain ⟨h1, h3, u, st⟩ := h
  by_cases e : r = n
  · subst e
    rw [if_pos (by simp)]
    exact ⟨h1, Nat.le_refl _, hp, u⟩
  · rw [if_neg (by simpa using e)]
    by_cases hr : r > 1
    · rw [if_pos hr]
      refine ⟨hp.lt 0 (by omega), hp.lt (r - 1) (by omega), ?_⟩
      rw [u 0 (r - 1) (by omega) (by omega)]
      exact ⟨h1, by omega, hp, u⟩
    · rw [if_neg hr]
      have er : r = 1 := by omega
      subst er
      have s1 := st (by omega)
      have d : Dn c p 2 := fun i j hij hj => by
        have ei : i = 0 := by omega
        have ej : j = 1 := by omega
        subst ei; subst ej
        exact s1
      refine KW.bind (KW.mono (fun r h => ?_) (desc_ok O hp (n - 2) 2 (by omega) (by omega) d))
      obtain ⟨a1, a2, a3, a4, a5⟩ := h
      obtain ⟨q, m, z⟩ := r
      simp only at a1 a2 a3 a4 a5
      subst a1; subst a2
      show KW c n (if 0 > 0 then _ else _) _
      rw [if_neg (Nat.lt_irrefl 0)]
      exact tail3_ok O hp (show 1 ≤ m by omega) (show m ≤ n by omega) a5
theorem place_ok (O : Ord c n) {p : Array Nat} (hp : Pm n p) {k : Nat} (hk : k < n) (u : Up c p k) : ∀ (f l r : Nat), l ≤ r → r ≤ k → r - l ≤ f → (∀ i, i < l → c (p.getD i 0) (p.getD k 0) = true) → (∀ i, r ≤ i → i < k → c (p.getD k 0) (p.getD i 0) = true) →
    KW c n (kas_place p k f l r) (fun l => l ≤ k ∧ (∀ i, i < l → c (p.getD i 0) (p.getD k 0) = true) ∧ (∀ i, l ≤ i → i < k → c (p.getD k 0) (p.getD i 0) = true))
  | 0, l, r, h1, h2, h3, lo, hi => ⟨by omega, lo, fun i a b => hi i (by omega) b⟩
  | f + 1, l, r, h1, h2, h3, lo, hi => by
    unfold kas_place
    by_cases hlr : l ≥ r
    · rw [if_pos hlr]
      exact ⟨by omega, lo, fun i a b => hi i (by omega) b⟩
    · rw [if_neg hlr]
      have hm : (l + r) / 2 < k := by omega
      refine ⟨hp.lt k hk, hp.lt _ (by omega), ?_⟩
      cases e : c (p.getD k 0) (p.getD ((l + r) / 2) 0) with
      | true =>
        dsimp only
        rw [if_pos rfl]
        refine place_ok O hp hk u f l ((l + r) / 2) (by omega) (by omega) (by omega) lo fun i a b => ?_
        by_cases ei : i = (l + r) / 2
        · rw [ei]; exact e
        · exact O.tr _ _ _ (hp.lt k hk) (hp.lt _ (by omega)) (hp.lt i (by omega)) e (u _ _ (by omega) b)
      | false =>
        dsimp only
        rw [if_neg Bool.false_ne_true]
        have hs : c (p.getD ((l + r) / 2) 0) (p.getD k 0) = true := O.tot _ _ (hp.lt k hk) (hp.lt _ (by omega)) (hp.ne hk (by omega) (by omega)) e
        refine place_ok O hp hk u f ((l + r) / 2 + 1) r (by omega) h2 (by omega) (fun i a => ?_) hi
        by_cases ei : i = (l + r) / 2
        · rw [ei]; exact hs
        · exact O.tr _ _ _ (hp.lt i (by omega)) (hp.lt _ (by omega)) (hp.lt k hk) (u _ _ (by omega) (by omega)) hs
theorem bub_getD {p : Array Nat} {k l : Nat} (hk : k < p.size) (hl : l ≤ k) (i : Nat) : (bubble p k (k - l)).getD i 0 = if i = l then p.getD k 0 else if l < i ∧ i ≤ k then p.getD (i - 1) 0 else p.getD i 0 := by
  have q := getElem?_bubble hk (k - l) (by omega) i
  have e : ∀ (a : Array Nat) (j : Nat), a.getD j 0 = (a[j]?).getD 0 := fun a j => by simp [Array.getD_eq_getD_getElem?]
  rw [show k - (k - l) = l by omega] at q
  rw [e, e p k, e p (i - 1), e p i, q]
  split
  · rfl
  · split
    · rfl
    · rfl
theorem bin_ok (O : Ord c n) : ∀ (f : Nat) {p : Array Nat} {k : Nat}, Pm n p → 1 ≤ k → k + f = n → Up c p k → KW c n (kas_bin f p k) (fun q => Pm n q ∧ Up c q n)
  | 0, p, k, hp, h1, h2, u => by
    have : k = n := by omega
    subst this
    exact ⟨hp, u⟩
  | f + 1, p, k, hp, h1, h2, u => by
    refine KW.bind (KW.mono (fun l h => ?_) (place_ok O hp (show k < n by omega) u k 0 k (Nat.zero_le _) (Nat.le_refl _) (by omega) (fun i hi => by omega) (fun i a b => by omega)))
    obtain ⟨hlk, lo, hi⟩ := h
    have hks : k < p.size := by rw [hp.sz]; omega
    refine bin_ok O f (hp.of (bubble_perm _ _ _)) (by omega) (by omega) fun i j hij hj => ?_
    rw [bub_getD hks hlk, bub_getD hks hlk]
    by_cases hi1 : i = l
    · rw [if_pos hi1, if_neg (by omega), if_pos (by omega)]
      exact hi _ (by omega) (by omega)
    · rw [if_neg hi1]
      by_cases hi2 : l < i ∧ i ≤ k
      · rw [if_pos hi2, if_neg (by omega), if_pos (by omega)]
        exact u _ _ (by omega) (by omega)
      · rw [if_neg hi2]
        by_cases hj1 : j = l
        · rw [if_pos hj1]
          exact lo _ (by omega)
        · rw [if_neg hj1]
          by_cases hj2 : l < j ∧ j ≤ k
          · rw [if_pos hj2]
            exact u _ _ (by omega) (by omega)
          · rw [if_neg hj2]
            exact u _ _ (by omega) (by omega)
theorem sortG (O : Ord c n) (h2 : 2 ≤ n) : KW c n (kas_sort n) (fun p => Pm n p ∧ Up c p n) := by
  have h0 : Pm n (List.toArray (List.range n)) := ⟨by simp, by simp⟩
  refine KW.bind (KW.mono (fun r h => ?_) (count_ok O h0 h2))
  obtain ⟨h1, h3, hp, u⟩ := h
  by_cases hr : r.1 < n
  · rw [if_pos hr, Nat.max_eq_left h1]
    exact bin_ok O _ hp h1 (by omega) u
  · rw [if_neg hr]
    have : r.1 = n := by omega
    rw [this] at u
    exact ⟨hp, u⟩
end
end HT
set_option Elab.async false
set_option linter.all false
set_option maxRecDepth 100000
namespace HT
open PySem PyProof.Rows PySem.W
section
variable {prog : Program} {w : World} {A : Around} {E : Value → Shared → Prop} {s : Shared}
theorem one_lt {l b : Addr} {items items2 : Array Value} {ns ms : List Int} {Q : Bool → Shared → Prop} (hl : s.heap.IsList l items) (hb : s.heap.IsList b items2) (hi : IntsAre items.toList ns) (hj : IntsAre items2.toList ms) (hu : A.units + 1 < cLine)
    (h : Q (lexLt ns ms) s) : wpAny (model prog w) A (keyLt' oneType' (.ref l) (.ref b)) Q E s := by
  obtain ⟨⟨cls, dd, data, sl⟩, ho, hc, n, hd⟩ := id hl
  obtain ⟨⟨cls2, dd2, data2, sl2⟩, ho2, hc2, n2, hd2⟩ := id hb
  simp only at hc hd hc2 hd2
  subst hc hd hc2 hd2
  rw [keyLt'_oneType, oneLt'_eq]
  simp only [if_true]
  refine wpAny_bind (wpAny_cRoomFor (by omega) (wpAny_bind (wpAny_callSpecialIfBound?_slot (T := "list") (name := "__lt__") ⟨_, ho, rfl⟩ PySem.F.slot_list_lt
    (call_meets PySem.F.slot_list_lt ⟨_, ho, rfl⟩ PySem.F.entry_list_lt (PySem.F.args_list_lt_2 _ _) (list_lt_ints l b items items2 n n2 dd dd2 sl sl2 ns ms hi hj) ⟨ho, ho2, ?_⟩))))
  exact wpAny_truthy_bool h
theorem perm_getD {α : Type} (d : α) (zs : List α) {p : List Nat} (h : p.Perm (List.range zs.length)) : (p.map fun i => zs.getD i d).Perm zs := by
  have e : (List.range zs.length).map (fun i => zs.getD i d) = zs := by
    apply List.ext_getElem?
    intro i
    rw [List.getElem?_map]
    by_cases hi : i < zs.length
    · rw [List.getElem?_range hi, Option.map_some, List.getD_eq_getElem?_getD, List.getElem?_eq_getElem hi]; rfl
    · rw [List.getElem?_eq_none (by simpa using hi), List.getElem?_eq_none (by omega)]; rfl
  have q := h.map fun i => zs.getD i d
  rw [e] at q
  exact q
end
end HT
namespace L2
open PySem PySem.Spec PyProof.Rows
section
variable {X : Cx}
theorem vals_refs : ∀ {zs : List (Addr × List Int)} {its : List Value}, Vals (zs.map fun z => V.ref z.1) its → its = zs.map fun z => Value.ref z.1
  | [], its, h => by cases h; rfl
  | z :: zs, its, h => by
    cases h with
    | cons r t => rw [vals_refs t]; cases r; rfl
theorem refs_vals : ∀ (zs : List (Addr × List Int)), Vals (zs.map fun z => V.ref z.1) (zs.map fun z => Value.ref z.1)
  | [] => .nil
  | z :: zs => .cons rfl (refs_vals zs)
end
end L2
set_option Elab.async false
set_option linter.all false
set_option maxRecDepth 100000
namespace L2
open PySem PySem.Spec PyProof.Rows
section
variable {κ : Type} [DecidableEq κ]
def valV (kvs : List (κ × V)) (k : κ) : Option V := (kvs.find? fun kv => decide (kv.1 = k)).map (·.2)
def putK (kvs : List (κ × V)) (k : κ) (v : V) : List (κ × V) :=
  if (kvs.any fun kv => decide (kv.1 = k)) = true then kvs.map (fun kv => if kv.1 = k then (kv.1, v) else kv) else kvs ++ [(k, v)]
def dropK (kvs : List (κ × V)) (k : κ) : List (κ × V) := kvs.filter fun kv => decide (kv.1 ≠ k)
theorem valV_pos {p : κ × V} {r : List (κ × V)} {k : κ} (e : p.1 = k) : valV (p :: r) k = some p.2 := by simp [valV, List.find?_cons, e]
theorem valV_neg {p : κ × V} {r : List (κ × V)} {k : κ} (e : ¬ p.1 = k) : valV (p :: r) k = valV r k := by simp [valV, List.find?_cons, e]
theorem valV_any (k : κ) : ∀ kvs : List (κ × V), (kvs.any fun kv => decide (kv.1 = k)) = (valV kvs k).isSome
  | [] => rfl
  | p :: r => by
    rw [List.any_cons]
    by_cases e : p.1 = k
    · simp only [valV_pos e, decide_eq_true e, Bool.true_or, Option.isSome_some]
    · rw [valV_neg e, decide_eq_false e, Bool.false_or]; exact valV_any k r
theorem length_putK (kvs : List (κ × V)) (k : κ) (v : V) : (putK kvs k v).length ≤ kvs.length + 1 := by
  unfold putK
  split
  · rw [List.length_map]; omega
  · rw [List.length_append, List.length_cons, List.length_nil]; omega
theorem RelO.isSome_eq {o : Option V} {u : Option Value} (r : RelO o u) : o.isSome = u.isSome := by
  cases o with
  | none => cases u with
    | none => rfl
    | some _ => exact (show False from r).elim
  | some _ => cases u with
    | none => exact (show False from r).elim
    | some _ => rfl
theorem RelO.getD {o : Option V} {u : Option Value} {d : V} {d' : Value} (r : RelO o u) (rd : RelV d d') : RelV (o.getD d) (u.getD d') := by
  cases o with
  | none => cases u with
    | none => exact rd
    | some _ => exact (show False from r).elim
  | some _ => cases u with
    | none => exact (show False from r).elim
    | some _ => exact r
theorem KV.val {kvs : List (κ × V)} {vs : List (κ × Value)} (r : KV kvs vs) (k : κ) : RelO (valV kvs k) (valueAt vs k) := by
  unfold KV at r
  induction r with
  | nil => exact True.intro
  | @cons p q ps qs h t ih =>
    obtain ⟨h1, h2⟩ := h
    by_cases e : p.1 = k
    · have e' : q.1 = k := h1.symm.trans e
      have b : valueAt (q :: qs) k = some q.2 := by simp [valueAt, List.find?_cons, e']
      rw [valV_pos e, b]; exact h2
    · have e' : ¬ q.1 = k := fun z => e (h1.trans z)
      have b : valueAt (q :: qs) k = valueAt qs k := by simp [valueAt, List.find?_cons, e']
      rw [valV_neg e, b]; exact ih
theorem KV.any {kvs : List (κ × V)} {vs : List (κ × Value)} (r : KV kvs vs) (k : κ) : (kvs.any fun kv => decide (kv.1 = k)) = vs.any fun kv => decide (kv.1 = k) := by
  unfold KV at r
  induction r with
  | nil => rfl
  | cons h t ih => rw [List.any_cons, List.any_cons, ih, h.1]
theorem KV.repl {kvs : List (κ × V)} {vs : List (κ × Value)} (r : KV kvs vs) (k : κ) {y : V} {u : Value} (ry : RelV y u) :
    KV (kvs.map fun kv => if kv.1 = k then (kv.1, y) else kv) (vs.map fun kv => if kv.1 = k then (kv.1, u) else kv) := by
  unfold KV at r ⊢
  induction r with
  | nil => exact .nil
  | @cons p q ps qs h t ih =>
    rw [List.map_cons, List.map_cons]
    refine .cons ?_ ih
    obtain ⟨h1, h2⟩ := h
    by_cases e : p.1 = k
    · rw [if_pos e, if_pos (h1.symm.trans e)]; exact ⟨h1, ry⟩
    · rw [if_neg e, if_neg (fun z => e (h1.trans z))]; exact ⟨h1, h2⟩
theorem KV.put {kvs : List (κ × V)} {vs : List (κ × Value)} (r : KV kvs vs) (k : κ) {y : V} {u : Value} (ry : RelV y u) : KV (putK kvs k y) (stored vs k u) := by
  unfold putK stored
  rw [r.any k]
  by_cases e : (vs.any fun kv => decide (kv.1 = k)) = true
  · rw [if_pos e, if_pos e]; exact r.repl k ry
  · rw [if_neg e, if_neg e]; exact Paired.snoc r ⟨rfl, ry⟩
theorem KV.drop {kvs : List (κ × V)} {vs : List (κ × Value)} (r : KV kvs vs) (k : κ) : KV (dropK kvs k) (without vs k) := by
  unfold KV at r ⊢
  unfold dropK without
  induction r with
  | nil => exact .nil
  | @cons p q ps qs h t ih =>
    obtain ⟨h1, h2⟩ := h
    rw [List.filter_cons, List.filter_cons]
    by_cases e : p.1 = k
    · have a : ¬ decide (p.1 ≠ k) = true := by simp [e]
      have b : ¬ decide (q.1 ≠ k) = true := by simp [h1.symm.trans e]
      rw [if_neg a, if_neg b]; exact ih
    · have e' : ¬ q.1 = k := fun z => e (h1.trans z)
      have a : decide (p.1 ≠ k) = true := by simp [e]
      have b : decide (q.1 ≠ k) = true := by simp [e']
      rw [if_pos a, if_pos b]; exact .cons ⟨h1, h2⟩ ih
theorem KV.length {kvs : List (κ × V)} {vs : List (κ × Value)} (r : KV kvs vs) : kvs.length = vs.length := Paired.length r
end
theorem kV_is {P : Program} {w : World} {k : Key} {u : Value} (r : RelV (kV k) u) : (mixKind P w).is k u = true := by
  cases k with
  | inl i => obtain ⟨t, e⟩ := (show ∃ t, u = Value.int i t from r); subst e; exact mixKind_int P w i t
  | inr x => obtain ⟨t, e⟩ := (show ∃ t, u = Value.str x t from r); subst e; exact mixKind_str P w x t
theorem items_are {P : Program} {w : World} : ∀ {ks : List Key} {us : List Value}, Vals (ks.map kV) us → ItemsAre (mixKind P w) ks us
  | [], _, r => by rw [List.map_nil] at r; cases r; exact .nil
  | k :: ks, _, r => by
    rw [List.map_cons] at r
    cases r with
    | cons h t => exact .cons (kV_is h) (items_are t)
abbrev KT (H : Hp) : List (List Key × V) → List (List Key × Addr × Value) → Prop := Paired fun p q => p.1 = q.1 ∧ H q.2.1 = some (.tup (p.1.map kV)) ∧ RelV p.2 q.2.2
theorem KT.val {H : Hp} {kvs : List (List Key × V)} {xs : List (List Key × Addr × Value)} (r : KT H kvs xs) (k : List Key) : RelO (valV kvs k) ((atKey xs k).map (·.2)) := by
  induction r with
  | nil => exact True.intro
  | @cons p q ps qs h t ih =>
    obtain ⟨h1, _, h2⟩ := h
    by_cases e : p.1 = k
    · have e' : q.1 = k := h1.symm.trans e
      have b : atKey (q :: qs) k = some q.2 := by simp [atKey, List.find?_cons, e']
      rw [valV_pos e, b]; exact h2
    · have e' : ¬ q.1 = k := fun z => e (h1.trans z)
      have b : atKey (q :: qs) k = atKey qs k := by simp [atKey, List.find?_cons, e']
      rw [valV_neg e, b]; exact ih
theorem KT.repl {H : Hp} {kvs : List (List Key × V)} {xs : List (List Key × Addr × Value)} (r : KT H kvs xs) (k : List Key) {y : V} {u : Value} (ry : RelV y u) :
    KT H (kvs.map fun kv => if kv.1 = k then (kv.1, y) else kv) (xs.map (putAt k u)) := by
  induction r with
  | nil => exact .nil
  | @cons p q ps qs h t ih =>
    rw [List.map_cons, List.map_cons]
    refine .cons ?_ ih
    obtain ⟨h1, h2, h3⟩ := h
    unfold putAt
    by_cases e : p.1 = k
    · rw [if_pos e, if_pos (h1.symm.trans e)]; exact ⟨h1, h2, ry⟩
    · rw [if_neg e, if_neg (fun z => e (h1.trans z))]; exact ⟨h1, h2, h3⟩
theorem KT.put {H : Hp} {kvs : List (List Key × V)} {xs : List (List Key × Addr × Value)} (r : KT H kvs xs) (k : List Key) {b : Addr} {y : V} {u : Value} (hb : H b = some (.tup (k.map kV))) (ry : RelV y u) :
    KT H (putK kvs k y) (storedH xs k b u) := by
  have e : (kvs.any fun kv => decide (kv.1 = k)) = (atKey xs k).isSome := by
    rw [valV_any, (r.val k).isSome_eq, Option.isSome_map]
  unfold putK storedH
  rw [e]
  by_cases q : (atKey xs k).isSome = true
  · rw [if_pos q, if_pos q]; exact r.repl k ry
  · rw [if_neg q, if_neg q]; exact Paired.snoc r ⟨rfl, hb, ry⟩
theorem KT.keeps {H H' : Hp} {kvs : List (List Key × V)} {xs : List (List Key × Addr × Value)} (r : KT H kvs xs) (ht : ∀ b ys, H b = some (.tup ys) → H' b = some (.tup ys)) : KT H' kvs xs :=
  Paired.mapP r fun _ _ z => ⟨z.1, ht _ _ z.2.1, z.2.2⟩
section
variable {P : Program} {w : World} {H : Hp} {h : Heap} {a : Addr}
theorem rd_of {u : HO} (ok : HOk P w H h) (e : Rd H a u) : ObjOk P w H h a u := e.ok ok
theorem dk_rd {kvs : List (Key × V)} (ok : HOk P w H h) (e : Rd H a (.dK kvs)) : kvs.length ≤ sizeLine ∧ (a == sysModules) = false ∧ ∃ vs, KV kvs vs ∧ h.DictOf (mixKind P w) a vs :=
  show ObjOk P w H h a (.dK kvs) from rd_of ok e
theorem dk_of {kvs : List (Key × V)} (ok : HOk P w H h) (e : H a = some (.dK kvs)) : kvs.length ≤ sizeLine ∧ (a == sysModules) = false ∧ ∃ vs, KV kvs vs ∧ h.DictOf (mixKind P w) a vs := dk_rd ok (.inl e)
theorem key_of {ks : List Key} (ok : HOk P w H h) (e : H a = some (.tup (ks.map kV))) : (tupleKind (mixKind P w)).is h ks a := by
  obtain ⟨_, its, r, o, h1, h2, n, h3⟩ := (show ObjOk P w H h a (.tup (ks.map kV)) from ok a _ e)
  exact ⟨o, its.toArray, n, h1, h2, h3, by simpa using items_are r⟩
theorem dt_rd {kvs : List (List Key × V)} (ok : HOk P w H h) (e : Rd H a (.dT kvs)) : kvs.length ≤ sizeLine ∧ (a == sysModules) = false ∧
    ∃ xs, KT H kvs xs ∧ h.DictOfH (tupleKind (mixKind P w)) a xs := by
  obtain ⟨z, y, xs, r, o, es, ep, h1, h2, h3, h4, h5⟩ := (show ObjOk P w H h a (.dT kvs) from rd_of ok e)
  refine ⟨z, y, xs, r, o, es, ep, h1, h2, h3, h4, fun x hx => ?_, h5⟩
  have all : ∀ {l : List (List Key × V)} {m : List (List Key × Addr × Value)}, KT H l m → ∀ x ∈ m, (tupleKind (mixKind P w)).is h x.1 x.2.1 := by
    intro l m q
    induction q with
    | nil => intro x hx; exact nomatch hx
    | @cons p q ps qs hq t ih =>
      intro x hx
      rcases List.mem_cons.mp hx with e | hx
      · subst e
        exact key_of ok (by rw [← hq.1]; exact hq.2.1)
      · exact ih x hx
  exact all r x hx
theorem dt_of {kvs : List (List Key × V)} (ok : HOk P w H h) (e : H a = some (.dT kvs)) : kvs.length ≤ sizeLine ∧ (a == sysModules) = false ∧
    ∃ xs, KT H kvs xs ∧ h.DictOfH (tupleKind (mixKind P w)) a xs := dt_rd ok (.inl e)
end
def DGet (H : Hp) (a : Addr) (y : V) (r : Option V) : Prop :=
  (∃ kvs k, Rd H a (.dK kvs) ∧ y = kV k ∧ r = valV kvs k) ∨ ∃ kvs k b, Rd H a (.dT kvs) ∧ y = .ref b ∧ H b = some (.tup (k.map kV)) ∧ r = valV kvs k
def DPut (H : Hp) (a : Addr) (y v : V) (H' : Hp) : Prop :=
  (∃ kvs k, H a = some (.dK kvs) ∧ y = kV k ∧ kvs.length < sizeLine ∧ H' = upd H a (.dK (putK kvs k v))) ∨
  ∃ kvs k b, H a = some (.dT kvs) ∧ y = .ref b ∧ H b = some (.tup (k.map kV)) ∧ kvs.length < sizeLine ∧ H' = upd H a (.dT (putK kvs k v))
theorem DGet.k {H : Hp} {a : Addr} {kvs : List (Key × V)} {k : Key} (e : H a = some (.dK kvs)) : DGet H a (kV k) (valV kvs k) := .inl ⟨kvs, k, .inl e, rfl, rfl⟩
theorem DGet.t {H : Hp} {a b : Addr} {kvs : List (List Key × V)} {k : List Key} (e : H a = some (.dT kvs)) (eb : H b = some (.tup (k.map kV))) : DGet H a (.ref b) (valV kvs k) := .inr ⟨kvs, k, b, .inl e, rfl, eb, rfl⟩
theorem DPut.k {H : Hp} {a : Addr} {kvs : List (Key × V)} {k : Key} {v : V} (e : H a = some (.dK kvs)) (hl : kvs.length < sizeLine) : DPut H a (kV k) v (upd H a (.dK (putK kvs k v))) := .inl ⟨kvs, k, e, rfl, hl, rfl⟩
theorem DPut.t {H : Hp} {a b : Addr} {kvs : List (List Key × V)} {k : List Key} {v : V} (e : H a = some (.dT kvs)) (eb : H b = some (.tup (k.map kV))) (hl : kvs.length < sizeLine) :
    DPut H a (.ref b) v (upd H a (.dT (putK kvs k v))) := .inr ⟨kvs, k, b, e, rfl, eb, hl, rfl⟩
section
variable {X : Cx} {pins : List (Addr × Obj)} {σ : St} {H : Hp} {s : Shared} {a : Addr} {y v : V} {u r : Value} {o : Option V} {A : Around} {E : Value → Shared → Prop}
theorem Inv.big (I : Inv X pins σ H s) : sysModules < s.heap.objs.size := by
  have h : mainGlobals < s.heap.objs.size := (I.mod.glob.keeps I.bk).lt
  exact Nat.lt_trans (by decide) h
theorem d_write {h' : Heap} {t' : Nat} {ob : HO} (I : Inv X pins σ H s) (mu : Mut (H a)) (hs : Heap.SameBut a s.heap h') (he : ∃ q, h'.get? a = some q) (new : ObjOk X.prog X.w (upd H a ob) h' a ob) :
    Inv X pins σ (upd H a ob) { s with heap := h', toks := t' } :=
  I.write (x := a) (e := a) mu (.inl rfl) (fun b q hb z => (hs.2 b hb).trans z) he new
theorem dk_new {P : Program} {w : World} {H' : Hp} {h' : Heap} {kvs : List (Key × V)} {vs : List (Key × Value)} (z : kvs.length ≤ sizeLine) (hd : (a == sysModules) = false) (rel : KV kvs vs) (dd : h'.DictOf (mixKind P w) a vs) :
    ObjOk P w H' h' a (.dK kvs) := ⟨z, hd, vs, rel, dd⟩
theorem d_setItem {H' : Hp} {Q : Unit → Shared → Prop} (hu : A.units + 1 < cLine) (I : Inv X pins σ H s) (g : DPut H a y v H') (ry : RelV y u) (rv : RelV v r) (h : ∀ s', Inv X pins σ H' s' → Q () s') :
    wpAny (model X.prog X.w) A (setItem (.ref a) u r) Q E s := by
  rcases g with ⟨kvs, k, e, ey, l, eH⟩ | ⟨kvs, k, b, e, ey, eb, l, eH⟩
  · subst ey eH
    obtain ⟨z, hd, vs, rel, dd⟩ := dk_of I.hok e
    have hz : vs.length ≤ sizeLine := by rw [← rel.length]; exact z
    have hl : (putK kvs k v).length ≤ sizeLine := by have := length_putK kvs k v; omega
    refine wpAny_setItem_pairs (hsz := hz) (kV_is ry) dd fun h' dd' hs => h _ ?_
    have he : ∃ q, h'.get? a = some q := let ⟨q, _, _, hq, _⟩ := dd'; ⟨q, hq⟩
    exact d_write I (by rw [e]; exact True.intro) hs he (dk_new hl hd (rel.put k rv) dd')
  · subst ey eH
    cases (show u = Value.ref b from ry)
    obtain ⟨z, hd, xs, rel, dd⟩ := dt_of I.hok e
    have hz : xs.length ≤ sizeLine := by rw [← Paired.length rel]; exact z
    have hl : (putK kvs k v).length ≤ sizeLine := by have := length_putK kvs k v; omega
    refine wpAny_setItem_heap (hsz := hz) (tupleKind_room_in1 hu) (key_of I.hok eb) dd fun h' dd' hs => h _ ?_
    obtain ⟨q, es, ep, hq, h2, h3, h4, _, h5⟩ := dd'
    refine d_write I (by rw [e]; exact True.intro) hs ⟨q, hq⟩ ⟨hl, hd, _, (rel.put k eb rv).keeps fun c ys ec => ?_, q, es, ep, hq, h2, h3, h4, h5⟩
    rw [upd_ne (ne_of ec e (fun z => nomatch z))]
    exact ec
end
section
variable {X : Cx} {pins : List (Addr × Obj)} {σ : St} {H : Hp} {s : Shared} {a : Addr} {kvs : List (Key × V)} {k : Key} {u : Value} {A : Around} {E : Value → Shared → Prop}
end
def sDPut (td ty tv : TE) : TS := fun D σ H => tv σ H fun v H1 => td σ H1 fun x H2 => ty σ H2 fun y H3 => ∃ a H4, x = .ref a ∧ DPut H3 a y v H4 ∧ D.nx σ H4
section
variable {X : Cx} {o i e value : Expr} {pos pos' tpos : Pos} {td ty tv : TE}
theorem ps_dput (hu : X.A.units + 1 < cLine) (ho : PE X o td) (hi : PE X i ty) (hv : PE X value tv) (hs : swapsWith value (some (.Subscript o i pos')) pos.line X.env = pure false) :
    PS X (.Assign [.Subscript o i pos'] value pos) (sDPut td ty tv) := by
  intro pins s σ H D I h
  refine wpAny_Assign_Subscript (thn (hv pins s σ H _ I h) fun r s1 ⟨v, H1, I1, rv, q1⟩ => thn (ho pins s1 σ H1 _ I1 q1) fun u s2 ⟨x, H2, I2, rx, q2⟩ => thn (hi pins s2 σ H2 _ I2 q2) fun iv s3 ⟨y, H3, I3, ry, a, H4, ex, g, q3⟩ => ?_) hs
  subst ex
  obtain rfl : u = Value.ref a := rx
  exact d_setItem hu I3 g ry rv fun s4 I4 => ⟨σ, H4, I4, q3⟩
end
theorem dk_empty {P : Program} {w : World} {H : Hp} (h : Heap) (hb : sysModules < h.objs.size) : ObjOk P w H (h.push { cls := .type "dict", data := .dict #[] }) h.objs.size (.dK []) :=
  ⟨Nat.zero_le _, beq_eq_false_iff_ne.mpr (Ne.symm (Nat.ne_of_lt hb)), [], .nil, Heap.DictOf.new h⟩
theorem dt_empty {P : Program} {w : World} {H : Hp} (h : Heap) (hb : sysModules < h.objs.size) : ObjOk P w H (h.push { cls := .type "dict", data := .dict #[] }) h.objs.size (.dT []) :=
  ⟨Nat.zero_le _, beq_eq_false_iff_ne.mpr (Ne.symm (Nat.ne_of_lt hb)), [], .nil, _, #[], 0, Heap.get?_push_size _ rfl, ⟨rfl, rfl, rfl⟩, rfl, rfl, List.nodup_nil⟩
def tDNewK : TE := fun _ H Q => ∀ p, H p = none → Q (.ref p) (upd H p (.dK []))
def tDNewT : TE := fun _ H Q => ∀ p, H p = none → Q (.ref p) (upd H p (.dT []))
section
variable {X : Cx} {pos : Pos}
theorem pe_dnewK : PE X (.Dict [] [] pos) tDNewK := fun pins s σ H Q I h =>
  wpAny_Dict_empty ⟨.ref s.heap.objs.size, _, I.laid (a := s.heap.objs.size) (o := .dK []) (t' := s.toks) (fun _ _ q => Heap.get?_push_of_some _ q) (Nat.le_refl _) (dk_empty s.heap I.big), rfl, h _ (I.hok.fresh (Nat.le_refl _))⟩
theorem pe_dnewT : PE X (.Dict [] [] pos) tDNewT := fun pins s σ H Q I h =>
  wpAny_Dict_empty ⟨.ref s.heap.objs.size, _, I.laid (a := s.heap.objs.size) (o := .dT []) (t' := s.toks) (fun _ _ q => Heap.get?_push_of_some _ q) (Nat.le_refl _) (dt_empty s.heap I.big), rfl, h _ (I.hok.fresh (Nat.le_refl _))⟩
end
structure M1 (X : Cx) (o : Expr) (m : Str) (apos : Pos) (e : Expr) (cpos : Pos) : Prop where
  base : attributeBase o m X.env (eval o X.env) = eval o X.env
  few : ((backTo cpos (starEach [e] X.env)).all (fun x => !x.1) && (backToKw cpos (keywordEach [] X.env)).all (fun x => x.1.isSome)
    && decide (([e] : List Expr).length + ([] : List Keyword).length + (if ([] : List Keyword).isEmpty then 0 else 1) < 30)) = true
  line : (apos.endLine == cpos.line) = true
  trees : backTo cpos (starEach [e] X.env) = [(false, eval e X.env)]
structure M2 (X : Cx) (o : Expr) (m : Str) (apos : Pos) (e f : Expr) (cpos : Pos) : Prop where
  base : attributeBase o m X.env (eval o X.env) = eval o X.env
  few : ((backTo cpos (starEach [e, f] X.env)).all (fun x => !x.1) && (backToKw cpos (keywordEach [] X.env)).all (fun x => x.1.isSome)
    && decide (([e, f] : List Expr).length + ([] : List Keyword).length + (if ([] : List Keyword).isEmpty then 0 else 1) < 30)) = true
  line : (apos.endLine == cpos.line) = true
  trees : backTo cpos (starEach [e, f] X.env) = [(false, eval e X.env), (false, eval f X.env)]
section
variable {X : Cx} {pins : List (Addr × Obj)} {σ : St} {H : Hp} {s : Shared} {a : Addr} {y d : V} {u r : Value} {o : Option V} {A : Around} {E : Value → Shared → Prop}
end
section
variable {X : Cx} {o e f : Expr} {apos cpos : Pos} {td ty tx : TE}
end
section
variable {X : Cx} {pins : List (Addr × Obj)} {σ : St} {H : Hp} {s : Shared} {a : Addr} {kvs : List (Key × V)} {A : Around} {E : Value → Shared → Prop}
end
section
variable {X : Cx} {pins : List (Addr × Obj)} {σ : St} {H : Hp} {s : Shared} {a : Addr} {y : V} {u : Value} {A : Around} {E : Value → Shared → Prop}
end
end L2
namespace L2
open PySem PySem.Spec PyProof.Rows
section
variable {X : Cx}
end
section
variable {κ : Type} [DecidableEq κ]
end
end L2
set_option Elab.async false
set_option linter.all false
set_option maxRecDepth 100000
namespace HT
open PySem PyProof.Rows PySem.W
section
variable {prog : Program} {w : World} {A : Around} {E : Value → Shared → Prop} {s : Shared}
theorem sortX_tree {a : Addr} {vs : List Value} {n0 : Nat} {κ : SortKind} {c : Nat → Nat → Bool} {P : PySem.Fin → Shared → Prop} (ho : s.heap.get? a = some (seqObj "list" vs.toArray n0)) (h60 : vs.length ≤ 60) (O : Ord c vs.length)
    (hkind : ∀ G : Heap, (∀ b o, b ≠ a → s.heap.get? b = some o → G.get? b = some o) → 2 ≤ vs.length → ∀ Q : SortKind → Shared → Prop, Q κ { s with heap := G } → wpAny (model prog w) A (keyKind' vs.toArray) Q E { s with heap := G })
    (hcmp : ∀ G : Heap, (∀ b o, b ≠ a → s.heap.get? b = some o → G.get? b = some o) → ∀ i j (C : Bool → Shared → Prop), i < vs.length → j < vs.length → C (c i j) { s with heap := G } → kas_ask prog w A κ vs i j C { s with heap := G })
    (h : ∀ p : List Nat, p.Perm (List.range vs.length) → p.Pairwise (fun i j => c i j = true) → P (.done (.ret .none)) { s with heap := sortedHeap s.heap a vs (p.map fun i => vs.getD i Value.none).toArray }) :
    wpAny (model prog w) A (Builtin.«list.sort» ⟨[.ref a], []⟩) P E s := by
  rw [list_sort_plain]
  have hsl : vs.length ≤ sizeLine := Nat.le_trans h60 (by decide)
  have ha : a < s.heap.objs.size := Heap.lt_size ho
  obtain ⟨e1, ho1⟩ : ∃ e1, (s.heap.update a (Obj.mapSeq fun _ => #[])).get? a = some (seqObj "list" #[] e1) := ⟨_, get?_update_seq ho (fun _ => #[])⟩
  refine wpAny_bind (listItems_at ho rfl (wpAny_bind (listUpdate_at ho rfl (wpAny_bind (seqEpoch_at ho1 rfl (wpAny_bind (wpAny_newTuple (wpAny_bind (wpAny_newList (wpAny_holding ?_) (Nat.zero_le _))) (by show vs.length ≤ _; exact hsl))))) (by rw [List.size_toArray]; exact hsl) (Nat.zero_le _))))
  generalize hG : (((s.heap.update a (Obj.mapSeq fun _ => (#[] : Array Value))).push (seqObj "tuple" vs.toArray 0)).push (seqObj "list" #[] 0)) = G
  have ho6 : G.get? a = some (seqObj "list" #[] e1) := by
    rw [← hG, Heap.get?_push_ne _ _ _ (by rw [size_push', Heap.size_update]; exact Nat.ne_of_lt (Nat.lt_succ_of_lt ha)), Heap.get?_push_ne _ _ _ (by rw [Heap.size_update]; exact Nat.ne_of_lt ha)]; exact ho1
  have keep : ∀ b o, b ≠ a → s.heap.get? b = some o → G.get? b = some o := fun b o hb e => by
    have hlt := Heap.lt_size e
    rw [← hG, Heap.get?_push_ne _ _ _ (by rw [size_push', Heap.size_update]; exact Nat.ne_of_lt (Nat.lt_succ_of_lt hlt)), Heap.get?_push_ne _ _ _ (by rw [Heap.size_update]; exact Nat.ne_of_lt hlt), Heap.get?_update_other _ _ (Ne.symm hb)]; exact e
  show wpAny (model prog w) A _ P E { s with heap := G }
  dsimp only
  have e2 : ∀ out : Array Value, G.update a (Obj.mapSeq fun _ => out) = sortedHeap s.heap a vs out := fun out => by rw [← hG]; rfl
  by_cases h2 : vs.toArray.size < 2
  · rw [if_pos h2, if_pos h2]
    refine wpAny_bind (wpAny_pure ?_)
    rw [StateT.run_pure]
    refine wpAny_bind (wpAny_pure ?_)
    dsimp only
    rw [List.size_toArray] at h2
    have hout : (arrOf (SortSt.mk' general' (vs.toArray.zip vs.toArray) #[] 7 none)).map (·.2) = ((List.range vs.length).map fun i => vs.getD i Value.none).toArray := by
      show ((vs.toArray.zip vs.toArray).map (·.2)) = _
      apply Array.toList_inj.mp
      rw [Array.toList_map, Array.toList_zip, List.map_snd_zip (by simp)]
      apply List.ext_getElem?
      intro i
      rw [List.getElem?_map]
      by_cases hi : i < vs.length
      · rw [List.getElem?_range hi, Option.map_some, List.getD_eq_getElem?_getD, List.getElem?_eq_getElem hi]; rfl
      · rw [List.getElem?_eq_none (by simpa using hi), List.getElem?_eq_none (by simpa using hi)]; rfl
    rw [hout]
    refine wpAny_bind (seqEpoch_at ho6 rfl (wpAny_bind (listUpdate_at ho6 rfl ?_ (Nat.zero_le _) (by rw [List.size_toArray, List.length_map, List.length_range]; exact Nat.le_succ_of_le hsl))))
    simp only [bne_self_eq_false, Bool.false_eq_true, if_false]
    rw [e2]
    refine wpAny_pure (h _ (List.Perm.refl _) ?_)
    rw [List.pairwise_iff_getElem]
    intro i j hi hj hij
    rw [List.length_range] at hj
    omega
  · rw [if_neg h2, if_neg h2]
    rw [List.size_toArray] at h2
    refine wpAny_bind (hkind G keep (by omega) _ ?_)
    have ask : (kas_sort vs.length).kasWp (kas_ask prog w A κ vs) (fun p s' => s' = { s with heap := G } ∧ (Pm vs.length p ∧ Up c p vs.length)) { s with heap := G } :=
      KW.wp (n := vs.length) (fun i j C hi hj hC => hcmp G keep i j C hi hj hC) _ (sortG O (by omega))
    refine wpAny_bind (wpAny_mono (kat_run (E := E) (ks := vs) (vs := vs) (Q := fun st' s' => ∃ p : Array Nat, s' = { s with heap := G } ∧ arrOf st' = p.map (kas_item (vs.toArray.zip vs.toArray)) ∧ failedOf st' = none ∧ Pm vs.length p ∧ Up c p vs.length)
      rfl (by omega) (by omega) (fun p st' s' _ a2 a3 a4 => ⟨p, a4.1, a2, a3, a4.2⟩) ask) ?_ fun _ _ e => e)
    rintro ⟨⟨⟩, st'⟩ s' ⟨p, rfl, har, hfl, hpm, hup⟩
    dsimp only
    have hpl : p.toList.length = vs.length := by rw [hpm.pm.length_eq, List.length_range]
    have hol : (p.toList.map fun i => vs.getD i Value.none).length = vs.length := by rw [List.length_map, hpl]
    rw [kat_snds rfl har]
    refine wpAny_bind (seqEpoch_at ho6 rfl (wpAny_bind (listUpdate_at ho6 rfl ?_ (Nat.zero_le _) (by rw [List.size_toArray, hol]; exact Nat.le_succ_of_le hsl))))
    rw [hfl]
    simp only [bne_self_eq_false, Bool.false_eq_true, if_false]
    rw [e2]
    refine wpAny_pure (h _ hpm.pm ?_)
    rw [List.pairwise_iff_getElem]
    intro i j hi hj hij
    have q1 := hup i j hij (by omega)
    have g1 : p.getD i 0 = p.toList[i] := by
      have : i < p.size := by rw [hpm.sz]; omega
      simp [Array.getD, this]
    have g2 : p.getD j 0 = p.toList[j] := by
      have : j < p.size := by rw [hpm.sz]; omega
      simp [Array.getD, this]
    rw [g1, g2] at q1
    exact q1
theorem sortedX {r : Addr} {n : Nat} {κ : SortKind} {Pv : List Value → Prop} {Q : Value → Shared → Prop} (h60 : n ≤ 60)
    (hcol : ∀ R : List Value → Shared → Prop, (∀ h' tk vs, (∀ b o, s.heap.get? b = some o → h'.get? b = some o) → vs.length = n → Pv vs → R vs { s with heap := h', toks := tk }) → wpAny (model prog w) A.in1 (collect (.ref r)) R E s)
    (hord : ∀ vs, vs.length = n → Pv vs → ∃ c : Nat → Nat → Bool, Ord c n ∧
      (∀ (G : Heap) (tk : Nat), (∀ b o, s.heap.get? b = some o → G.get? b = some o) → 2 ≤ n → ∀ Q : SortKind → Shared → Prop, Q κ { s with heap := G, toks := tk } → wpAny (model prog w) A.in1.in1 (keyKind' vs.toArray) Q E { s with heap := G, toks := tk }) ∧
      (∀ (G : Heap) (tk : Nat), (∀ b o, s.heap.get? b = some o → G.get? b = some o) → ∀ i j (C : Bool → Shared → Prop), i < n → j < n → C (c i j) { s with heap := G, toks := tk } → kas_ask prog w A.in1.in1 κ vs i j C { s with heap := G, toks := tk }) ∧
      ∀ (p : List Nat) (h' h'' : Heap) (tk e : Nat), p.Perm (List.range n) → p.Pairwise (fun i j => c i j = true) → (∀ b o, s.heap.get? b = some o → h'.get? b = some o) → (∀ b o, h'.get? b = some o → h''.get? b = some o) → h''.get? h'.objs.size = some (seqObj "list" (p.map fun i => vs.getD i Value.none).toArray e) → Q (.ref h'.objs.size) { s with heap := h'', toks := tk }) :
    wpAny (model prog w) A (call (.builtin "sorted") [.ref r]) Q E s := by
  refine Calls.call_function_entry kind_sorted plain_sorted entry_sorted (args_sorted1 _) ?_
  unfold Builtin.«sorted»
  refine wpAny_bind (m := checkCount "sorted" 1 1 _) (wpAny_pure (wpAny_bind (hcol _ fun h' tk vs hk hl pv => ?_)))
  obtain ⟨c, O, hkind, hcmp, fin⟩ := hord vs hl pv
  subst hl
  have hsl : vs.length ≤ sizeLine := Nat.le_trans h60 (by decide)
  refine wpAny_bind (wpAny_newList ?_ hsl)
  have hoL : (h'.push (seqObj "list" vs.toArray 0)).get? h'.objs.size = some (seqObj "list" vs.toArray 0) := Heap.get?_push_size _ rfl
  have ne : ∀ b o, s.heap.get? b = some o → b ≠ h'.objs.size := fun b o q => Nat.ne_of_lt (Heap.lt_size (hk b o q))
  show wpAny _ _ _ _ _ { s with heap := h'.push (seqObj "list" vs.toArray 0), toks := tk }
  dsimp only
  refine wpAny_bind (wpAny_holding (wpAny_call_entry slot_list_sort ⟨_, hoL, rfl⟩ entry_list_sort (sortX_tree (A := A.in1.in1) (s := { s with heap := h'.push (seqObj "list" vs.toArray 0), toks := tk }) (κ := κ) (c := c) hoL h60 O (fun G kG h2 Q' hq => hkind G tk (fun b o q => kG b o (ne b o q) (Heap.get?_push_of_some _ (hk b o q))) h2 Q' hq)
    (fun G kG i j C hi hj hC => hcmp G tk (fun b o q => kG b o (ne b o q) (Heap.get?_push_of_some _ (hk b o q))) i j C hi hj hC) fun p hp hw => ⟨_, rfl, ?_⟩) (args_list_sort _)))
  refine wpAny_pure ⟨_, rfl, ?_⟩
  obtain ⟨e, he⟩ := sortedHeap_at (out := (p.map fun i => vs.getD i Value.none).toArray) hoL
  refine fin p h' _ tk e hp hw hk (fun b o q => ?_) he
  have hlt := Heap.lt_size q
  rw [sortedHeap_old (Nat.ne_of_lt hlt) (by rw [size_push']; exact Nat.lt_succ_of_lt hlt)]
  exact Heap.get?_push_of_some _ q
end
end HT
set_option Elab.async false
set_option linter.all false
set_option maxRecDepth 100000
namespace HT
open PySem PyProof.Rows PySem.W
def RawD (h : Heap) (d : Addr) (ks : List Value) (ep : Nat) : Prop := ∃ (o : Obj) (es : Array DictEntry), h.get? d = some o ∧ o.ExactDict ∧ o.data = .dict es ep ∧ es.toList.map (·.key) = ks
theorem RawD.at {h h' : Heap} {d : Addr} {ks : List Value} {ep : Nat} (x : RawD h d ks ep) (e : ∀ o, h.get? d = some o → h'.get? d = some o) : RawD h' d ks ep := let ⟨o, es, ho, r⟩ := x; ⟨o, es, e _ ho, r⟩
theorem RawD.lt {h : Heap} {d : Addr} {ks : List Value} {ep : Nat} (x : RawD h d ks ep) : d < h.objs.size := let ⟨_, _, ho, _⟩ := x; Heap.lt_size ho
theorem RawD.ty {s : Shared} {d : Addr} {ks : List Value} {ep : Nat} (x : RawD s.heap d ks ep) : s.TypeIs (.ref d) "dict" := let ⟨o, _, ho, hc, _⟩ := x; ⟨o, ho, hc.1⟩
section
variable {prog : Program} {w : World} {A : Around} {E : Value → Shared → Prop} {s : Shared} {d it : Addr} {ks : List Value} {ep i : Nat}
theorem rd_iter {Q : Value → Shared → Prop} (hd : (d == sysModules) = false) (hm : RawD s.heap d ks ep) (hQ : Q (.ref s.heap.objs.size) { s with heap := s.heap.push { cls := .type "dict_keyiterator", data := .fields #[.ref d, .int 0 0, .int ks.length 0, .int ep 0] } }) :
    wpAny (model prog w) A (pyIter (.ref d)) Q E s := by
  obtain ⟨o, es, ho, hc, hdat, hk⟩ := id hm
  refine wpAny_pyIter_slot hm.ty F.slot_dict_iter (wpAny_call_entry F.slot_dict_iter hm.ty F.entry_dict_iter ?_ (F.args_dict_iter_1 _))
  unfold Builtin.«dict.__iter__» Builtin.Dict.dictSlotNone
  refine wpAny_bind (wpAny_bind (wpAny_notOrdered_dict hm.ty ?_))
  show wpAny _ _ (pure (Value.ref d)) _ _ s
  refine wpAny_pure ?_
  show wpAny _ _ (Builtin.Dict.showsAll d >>= _) _ _ s
  unfold Builtin.Dict.showsAll
  rw [hd, if_neg Bool.false_ne_true]
  have hsz : es.size = ks.length := by rw [← hk]; simp
  refine wpAny_bind (wpAny_pure (wpAny_bind (wpAny_dictEntries ho hdat (wpAny_bind (wpAny_dictEpoch ho hdat (wpAny_bind (wpAny_newObj_type (wpAny_pure ⟨_, rfl, "dict_keyiterator", _, ⟨_, Heap.get?_push_size _ rfl, rfl⟩, F.slot_dict_keyiterator_next.lookup, ?_⟩))))))))
  simpa [rawInt, hsz] using hQ
theorem rd_item {v : Value} {Q : Option Value → Shared → Prop} (hit : s.heap.IsKeyIter it d i ks.length ep) (hm : RawD s.heap d ks ep) (hx : ks[i]? = some v)
    (hQ : ∀ h', h'.IsKeyIter it d (i + 1) ks.length ep → Heap.SameBut it s.heap h' → Q (some v) { s with heap := h' }) : wpAny (model prog w) A (pyNext (.ref it)) Q E s := by
  obtain ⟨o, ho, hc, hd⟩ := id hit
  obtain ⟨od, es, hod, hcd, hdd, hk⟩ := id hm
  have hsz : es.size = ks.length := by rw [← hk]; simp
  have hlt : i < es.size := by rw [hsz]; exact (List.getElem?_eq_some_iff.mp hx).1
  have hkey : es[i].key = v := by
    rw [← hk, List.getElem?_map] at hx
    simpa [hlt] using hx
  have hown : Builtin.Dict_items.ownsTuple "dict_keyiterator" = false := by decide
  unfold pyNext
  refine wpAny_bind (wpAny_attempt (wpAny_callSpecial?_slot (name := Str.ofString "__next__") hit.typeIs F.slot_dict_keyiterator_next (wpAny_call_entry F.slot_dict_keyiterator_next hit.typeIs F.entry_dict_keyiterator_next ?_ (F.args_dict_keyiterator_next_1 _))))
  refine wpAny_bind (wpAny_pure (wpAny_bind (wpAny_bind ?_)))
  first | refine wpAny_bind (wpAny_typeNameOfWhole_keyiter hit.typeIs (wpAny_pure (wpAny_bind (wpAny_fieldsOf ho hd ?_)))) | refine wpAny_bind (wpAny_typeNameOf_keyiter hit.typeIs (wpAny_pure (wpAny_bind (wpAny_fieldsOf ho hd ?_))))
  simp only [hown, Bool.false_eq_true, if_false]
  show wpAny _ _ (if (Value.ref d == Value.none) = true then _ else _) _ _ s
  rw [if_neg (show ¬ ((Value.ref d == Value.none) = true) from Bool.false_ne_true)]
  refine wpAny_bind (wpAny_pure (wpAny_bind (wpAny_dictEntries hod hdd ?_)))
  rw [if_neg (by rw [hsz]; simp)]
  refine wpAny_bind (wpAny_pure (wpAny_bind (wpAny_dictEpoch hod hdd ?_)))
  rw [if_neg (by simp)]
  refine wpAny_pure ?_
  simp only [show ¬ ((i : Int) < 0) from by omega, if_false, Int.toNat_natCast, Array.getElem?_eq_getElem hlt]
  refine wpAny_bind ?_
  first | refine wpAny_bind (wpAny_typeNameOfWhole_keyiter hit.typeIs (wpAny_pure (wpAny_bind (wpAny_isOneOf_keyiter hit.typeIs ?_)))) | refine wpAny_bind (wpAny_typeNameOf_keyiter hit.typeIs (wpAny_pure (wpAny_bind (wpAny_isOneOf_keyiter hit.typeIs ?_))))
  show wpAny _ _ (setField (.ref it) 1 (rawInt ((i : Int) + 1)) >>= _) _ _ s
  refine wpAny_bind (wpAny_setField ho hd (by simp) ?_)
  have hit' : (s.heap.update it (Obj.mapFields (·.setIfInBounds 1 (rawInt ((i : Int) + 1))))).IsKeyIter it d (i + 1) ks.length ep :=
    ⟨_, Heap.get?_update_self _ ho (Obj.isFreed_of_fields (Obj.data_mapFields hd _)), (Obj.cls_mapFields ..).trans hc, by rw [Obj.data_mapFields hd]; simp [rawInt]⟩
  refine wpAny_bind (wpAny_holding (wpAny_bind (wpAny_isOneOf_keyiter (s := { s with heap := s.heap.update it (Obj.mapFields (·.setIfInBounds 1 (rawInt ((i : Int) + 1)))) }) hit'.typeIs ?_)))
  show wpAny _ _ (pure es[i].key) _ _ _
  rw [hkey]
  exact wpAny_pure (wpAny_pure ⟨_, rfl, wpAny_pure (hQ _ hit' (Heap.SameBut.update ..))⟩)
theorem rd_end {Q : Option Value → Shared → Prop} (hh : A.handled = none) (hit : s.heap.IsKeyIter it d ks.length ks.length ep) (hm : RawD s.heap d ks ep) (hQ : ∀ h', Heap.ExtBut it s.heap h' → Q none { s with heap := h' }) : wpAny (model prog w) A (pyNext (.ref it)) Q E s := by
  obtain ⟨o, ho, hc, hd⟩ := id hit
  obtain ⟨od, es, hod, hcd, hdd, hk⟩ := id hm
  have hsz : es.size = ks.length := by rw [← hk]; simp
  have hge : es.size ≤ ks.length := Nat.le_of_eq hsz
  have hown : Builtin.Dict_items.ownsTuple "dict_keyiterator" = false := by decide
  unfold pyNext
  refine wpAny_bind (wpAny_attempt (wpAny_callSpecial?_slot (name := Str.ofString "__next__") hit.typeIs F.slot_dict_keyiterator_next (wpAny_call_entry F.slot_dict_keyiterator_next hit.typeIs F.entry_dict_keyiterator_next ?_ (F.args_dict_keyiterator_next_1 _))))
  refine wpAny_bind (wpAny_pure (wpAny_bind (wpAny_bind ?_)))
  first | refine wpAny_bind (wpAny_typeNameOfWhole_keyiter hit.typeIs (wpAny_pure (wpAny_bind (wpAny_fieldsOf ho hd ?_)))) | refine wpAny_bind (wpAny_typeNameOf_keyiter hit.typeIs (wpAny_pure (wpAny_bind (wpAny_fieldsOf ho hd ?_))))
  simp only [hown, Bool.false_eq_true, if_false]
  show wpAny _ _ (if (Value.ref d == Value.none) = true then _ else _) _ _ s
  rw [if_neg (show ¬ ((Value.ref d == Value.none) = true) from Bool.false_ne_true)]
  refine wpAny_bind (wpAny_pure (wpAny_bind (wpAny_dictEntries hod hdd ?_)))
  rw [if_neg (by rw [hsz]; simp)]
  refine wpAny_bind (wpAny_pure (wpAny_bind (wpAny_dictEpoch hod hdd ?_)))
  rw [if_neg (by simp)]
  refine wpAny_pure ?_
  simp only [show ¬ ((ks.length : Int) < 0) from by omega, if_false, Int.toNat_natCast, Array.getElem?_eq_none hge]
  refine wpAny_bind ?_
  first | refine wpAny_bind (wpAny_typeNameOfWhole_keyiter hit.typeIs (wpAny_pure ?_)) | refine wpAny_bind (wpAny_typeNameOf_keyiter hit.typeIs (wpAny_pure ?_))
  show wpAny _ _ (setField (.ref it) 0 .none >>= _) _ _ s
  refine wpAny_bind (wpAny_setField ho hd (by simp) ?_)
  show wpAny _ _ (newExc (.type "StopIteration") [] >>= _) _ _ _
  refine wpAny_bind ?_
  simp only [newExc, newTuple]
  refine wpAny_bind (wpAny_newObj_type (wpAny_bind (m := firstArgMember _ _) (wpAny_of_eq (a := Value.none) (by first | rfl | (simp only [firstArgMember]; rfl)) (wpAny_newObj_type ?_ (by size_fits)))) (by size_fits))
  simp only [raiseNew]
  refine wpAny_bind (wpAny_handled ?_)
  rw [show A.in1.handled = none from hh]
  refine wpAny_bind (wpAny_pure (wpAny_throw ?_))
  refine wpAny_bind (wpAny_isInstance (T := "StopIteration") (b := true) ⟨_, Heap.get?_push_size _ rfl, rfl⟩ isSubtype_stop ?_)
  exact wpAny_pure (hQ _ (((Heap.SameBut.update ..).extBut.push _).push _))
theorem rd_walks (hh : A.handled = none) (I d : Addr) (hne : d ≠ I) (ks : List Value) (ep : Nat) : Walks prog w A I [I, d] [I] ks.length (fun i v => ks[i]? = some v) (fun i h => h.IsKeyIter I d i ks.length ep ∧ RawD h d ks ep) where
  sub := fun b hb => by simp at hb; simp [hb]
  frame := fun _ _ _ st hk => ⟨st.1.at fun o e => hk I (by simp) o e, st.2.at fun o e => hk d (by simp) o e⟩
  item := fun i s Q E hi st hQ => by
    refine rd_item (v := ks[i]) st.1 st.2 (List.getElem?_eq_getElem hi) fun h' hit' hs' => hQ _ h' s.toks (List.getElem?_eq_getElem hi) ⟨hit', st.2.at fun o e => hs'.extBut _ _ hne e⟩ fun b o hb e => hs'.extBut b o (fun h => hb (by simp [h])) e
  done := fun s Q E st hQ => rd_end hh st.1 st.2 fun h' he' => hQ h' s.toks fun b o hb e => he' b o (fun h => hb (by simp [h])) e
  self := fun _ _ _ _ st hQ => wpAny_pyIter_keyiter st.1 hQ
theorem rd_src (lo : (d == sysModules) = false) : KdlSrc prog w "dict" d d ks.length (fun i v => ks[i]? = some v) (fun h => RawD h d ks ep) where
  type := fun _ hm => hm.ty
  there := fun _ hm => ⟨hm.lt, hm.lt⟩
  keep := fun _ _ hm hk => hm.at fun o e => hk d (.inl rfl) o e
  notList := by decide
  notTuple := by decide
  hint := fun _ _ _ _ hm hq => kdl_hint_dict hm.ty hq
  iter := fun _ _ hh hm => ⟨_, _, (fun _ _ hq => rd_iter lo hm hq), rd_walks hh _ d (Nat.ne_of_lt hm.lt) ks ep, ⟨⟨_, Heap.get?_push_size _ rfl, rfl, rfl⟩, hm.at fun o e => Heap.get?_push_of_some _ e⟩⟩
end
end HT
namespace L2
open PySem PySem.Spec PyProof.Rows PySem.W
def kI (ns : List Int) : List Key := ns.map Sum.inl
theorem kI_V (ns : List Int) : (kI ns).map kV = ns.map V.int := by unfold kI; rw [List.map_map]; rfl
theorem kI_inj {a b : List Int} (e : kI a = kI b) : a = b := by
  unfold kI at e
  exact List.map_inj_right (fun x y h => by cases h; rfl) |>.mp e
section
variable {X : Cx} {pins : List (Addr × Obj)} {σ : St} {H : Hp} {s : Shared}
theorem tupI_at (I : Inv X pins σ H s) {p : Addr} {ns : List Int} (h : H p = some (.tup (ns.map V.int))) : ∃ (its : List Value) (o : Obj) (m : Nat), IntsAre its ns ∧ s.heap.get? p = some o ∧ o.cls = .type "tuple" ∧ o.data = .seq its.toArray m := by
  obtain ⟨_, its, r, o, e, hc, m, hd⟩ := I.hok p _ h
  exact ⟨its, o, m, by simpa using intsAre_of r, e, hc, hd⟩
end
theorem lex_ints {prog : Program} {w : World} {A : Around} {Q : Bool → Shared → Prop} {s : Shared} {f : Bool} : ∀ {xs ys : List Value} {as bs : List Int} (i : Nat), IntsAre xs as → IntsAre ys bs → f = decide (as.length < bs.length) → Q (HT.lexLt as bs) s → KatLex prog w A true f Q (xs.zip ys) i s
  | [], _, _, _, i, .nil, .nil, hf, h => by subst hf; exact kat_nil h
  | [], _, _, _, i, .nil, .cons m u hj, hf, h => by subst hf; exact kat_nil h
  | _, [], _, _, i, .cons n t hi, .nil, hf, h => by subst hf; exact kat_nil h
  | _, _, _, _, i, .cons n t (ns := as) hi, .cons m u (ns := bs) hj, hf, h => by
    rw [List.zip_cons_cons]
    refine kat_cons (wpAny_eqBool_int ?_)
    rw [HT.lexLt_cons] at h
    by_cases e : n = m
    · rw [if_pos e] at h
      rw [show (n == m) = true by simp [e]]
      exact kat_yes (lex_ints (i + 1) hi hj (by rw [hf]; simp) h)
    · rw [if_neg e] at h
      rw [show (n == m) = false by simp [e]]
      refine kat_no ?_
      by_cases hi0 : i = 0
      · subst hi0
        exact oneLt_int h
      · rw [show (true && i == 0) = false by simp [hi0]]
        exact kat_one _ _ (HT.rcLt_int A s n t m u prog w _ _ h)
section
variable {X : Cx} {pins : List (Addr × Obj)} {σ : St} {H : Hp} {s : Shared}
theorem keyT_lt (I : Inv X pins σ H s) {A : Around} {p q : Addr} {as bs : List Int} (hp : H p = some (.tup (as.map V.int))) (hq : H q = some (.tup (bs.map V.int))) {Q : Bool → Shared → Prop} {E : Value → Shared → Prop} (h : Q (HT.lexLt as bs) s) :
    wpAny (model X.prog X.w) A (keyLt' (tuples' true) (.ref p) (.ref q)) Q E s := by
  obtain ⟨its, o, m, hi, e, _, hd⟩ := tupI_at I hp
  obtain ⟨its', o', m', hi', e', _, hd'⟩ := tupI_at I hq
  refine kat_lt e hd e' hd' ?_
  rw [List.size_toArray, List.size_toArray, hi.length, hi'.length]
  exact lex_ints 0 (by simpa using hi) (by simpa using hi') rfl h
end
theorem kat_tupsI {X : Cx} {pins : List (Addr × Obj)} {σ : St} {H : Hp} {s : Shared} (I : Inv X pins σ H s) : ∀ zs : List (Addr × List Int), (∀ z ∈ zs, H z.1 = some (.tup (z.2.map V.int)) ∧ z.2 ≠ []) → ∃ fs : List Value, KatTups s.heap (zs.map fun z => Value.ref z.1) fs ∧ fs.length = zs.length ∧ ∀ v ∈ fs, ∃ n t, v = Value.int n t
  | [], _ => ⟨[], KatTups.nil, rfl, fun v hv => by cases hv⟩
  | z :: zs, h => by
    obtain ⟨fs, h1, h2, h3⟩ := kat_tupsI I zs fun q hq => h q (.tail _ hq)
    obtain ⟨za, zl⟩ := z
    obtain ⟨hz, hne⟩ := h (za, zl) (.head _)
    obtain ⟨its, o, m, hi, e, hc, hd⟩ := tupI_at I hz
    simp only at hi hne
    cases hi with
    | nil => exact absurd rfl hne
    | cons n t hi =>
      refine ⟨.int n t :: fs, KatTups.cons e hc hd (by simp) h1, by simp [h2], fun v hv => ?_⟩
      rcases List.mem_cons.mp hv with rfl | hv
      · exact ⟨n, t, rfl⟩
      · exact h3 v hv
theorem lexOrd {ls : List (List Int)} (nd : ls.Nodup) : HT.Ord (fun i j => HT.lexLt (ls.getD i []) (ls.getD j [])) ls.length := by
  have ge : ∀ i, (h : i < ls.length) → ls.getD i [] = ls[i] := fun i h => by rw [List.getD_eq_getElem?_getD, List.getElem?_eq_getElem h]; rfl
  refine ⟨fun i j k _ _ _ h1 h2 => HT.lexLt_trans _ _ _ h1 h2, fun i j hi hj hij h => ?_, fun i j hi hj h => ?_⟩
  · have ne : ls.getD i [] ≠ ls.getD j [] := fun z => by
      rw [ge i hi, ge j hj] at z
      exact hij ((List.getElem_inj nd).mp z)
    have := HT.lexLt_flip _ _ ne
    rw [h] at this
    exact this
  · cases e : HT.lexLt (ls.getD j []) (ls.getD i []) with
    | false => rfl
    | true =>
      have := HT.lexLt_trans _ _ _ h e
      rw [HT.lexLt_irrefl] at this
      cases this
theorem perm_out {zs : List (Addr × List Int)} {p : List Nat} (hp : p.Perm (List.range zs.length)) (hw : p.Pairwise (fun i j => HT.lexLt ((zs.map (·.2)).getD i []) ((zs.map (·.2)).getD j []) = true)) :
    ∃ zs' : List (Addr × List Int), zs'.Perm zs ∧ zs'.Pairwise (fun x y => HT.lexLt x.2 y.2 = true) ∧ (p.map fun i => (zs.map fun z => Value.ref z.1).getD i Value.none) = zs'.map fun z => Value.ref z.1 := by
  have g : ∀ i ∈ p, (zs.map (·.2)).getD i [] = (zs.getD i (0, [])).2 ∧ (zs.map fun z => Value.ref z.1).getD i Value.none = Value.ref (zs.getD i (0, [])).1 := fun i hi => by
    have hi' := List.mem_range.mp (hp.mem_iff.mp hi)
    constructor
    · rw [List.getD_eq_getElem?_getD, List.getD_eq_getElem?_getD, List.getElem?_map, List.getElem?_eq_getElem hi']; rfl
    · rw [List.getD_eq_getElem?_getD, List.getD_eq_getElem?_getD, List.getElem?_map, List.getElem?_eq_getElem hi']; rfl
  refine ⟨p.map fun i => zs.getD i (0, []), HT.perm_getD _ zs hp, ?_, ?_⟩
  · rw [List.pairwise_map]
    refine List.Pairwise.imp_of_mem ?_ hw
    intro i j hi hj h
    rw [(g i hi).1, (g j hj).1] at h
    exact h
  · rw [List.map_map]
    exact List.map_congr_left fun i hi => (g i hi).2
theorem kt_split {H : Hp} : ∀ {kvs : List (List Key × V)} {xs : List (List Key × Addr × Value)} {ls : List (List Int)}, KT H kvs xs → kvs.map (·.1) = ls.map kI → ∃ zs : List (Addr × List Int), zs.map (·.2) = ls ∧ (xs.map fun x => Value.ref x.2.1) = zs.map (fun z => Value.ref z.1) ∧ (∀ z ∈ zs, H z.1 = some (.tup (z.2.map V.int))) ∧ xs.map (·.1) = ls.map kI
  | [], [], ls, .nil, e => by
    cases ls with
    | nil => exact ⟨[], rfl, rfl, by simp, rfl⟩
    | cons _ _ => simp at e
  | p :: kvs, q :: xs, ls, .cons h t, e => by
    cases ls with
    | nil => simp at e
    | cons l ls =>
      rw [List.map_cons, List.map_cons] at e
      injection e with e1 e2
      obtain ⟨zs, h1, h2, h3, h4⟩ := kt_split t e2
      refine ⟨(q.2.1, l) :: zs, by simp [h1], by simp [h2], fun z hz => ?_, ?_⟩
      · rcases List.mem_cons.mp hz with rfl | hz
        · have := h.2.1
          rw [e1, kI_V] at this
          exact this
        · exact h3 z hz
      · rw [List.map_cons, List.map_cons, h4, ← h.1, e1]
section
variable {X : Cx}
def rSortD : List V → Hp → VK → Prop := fun xs H Q => ∃ (a : Addr) (kvs : List (List Key × V)) (ls : List (List Int)), xs = [.ref a] ∧ H a = some (.dT kvs) ∧ kvs.map (·.1) = ls.map kI ∧ ls.length ≤ 60 ∧ (∀ l ∈ ls, l ≠ []) ∧
  ∀ (p : Addr) (zs' : List (Addr × List Int)), H p = none → (zs'.map (·.2)).Perm ls → zs'.Pairwise (fun x y => HT.lexLt x.2 y.2 = true) → (∀ z ∈ zs', H z.1 = some (.tup (z.2.map V.int))) → Q (.ref p) (upd H p (.lst (zs'.map fun z => V.ref z.1)))
theorem k_sortD (hcalm : X.calm = true := by rfl) : CallR X (.builtin "sorted") rSortD := by
  intro pins s σ H xs us Q I r h
  obtain ⟨a, kvs, ls, rfl, ha, hks, h60, hne, q⟩ := h
  obtain ⟨u, rfl, rx⟩ := vals1 r
  cases rx
  obtain ⟨z, hd, xs, rel, o, es, ep, h1, h2, h3, h4, h5, h6⟩ := dt_of I.hok ha
  obtain ⟨zs, hz2, hzr, hzt, hx1⟩ := kt_split rel hks
  have hzl : zs.length = ls.length := by rw [← hz2, List.length_map]
  have nd : (zs.map (·.2)).Nodup := by
    rw [hz2]
    rw [hx1] at h6
    exact (List.pairwise_map.mp h6).imp fun hab e => hab (by rw [e])
  have hraw : HT.RawD s.heap a (zs.map fun z => Value.ref z.1) ep := ⟨o, es, h1, h2, h3, by rw [h4, List.map_map, ← hzr]; rfl⟩
  have hkl : (zs.map fun z => Value.ref z.1).length = zs.length := List.length_map ..
  have hO := lexOrd nd
  rw [List.length_map] at hO
  have hzt' : ∀ z ∈ zs, H z.1 = some (.tup (z.2.map V.int)) ∧ z.2 ≠ [] := fun z hz => ⟨hzt z hz, hne _ (by rw [← hz2]; exact List.mem_map.mpr ⟨z, hz, rfl⟩)⟩
  refine HT.sortedX (n := zs.length) (κ := tuples' true) (Pv := fun vs => vs = zs.map fun z => Value.ref z.1) (by omega) (fun R hR => ?_) fun vs hl hv => ?_
  · refine kdu_collect (A := X.A.in1) (HT.rd_src (ks := zs.map fun z => Value.ref z.1) (ep := ep) hd) (I.ok.hd hcalm) hraw (by rw [hkl]; exact Nat.le_trans (show zs.length ≤ 60 by omega) (by decide)) fun h' tk acc hk hacc => ?_
    have hal : acc.toList.length = zs.length := by rw [Array.length_toList, hacc.1, hkl]
    refine hR h' tk acc.toList hk hal ?_
    apply List.ext_getElem?
    intro i
    cases e : acc.toList[i]? with
    | some v => exact (hacc.2 i v (by rw [← Array.getElem?_toList]; exact e)).symm
    | none => rw [List.getElem?_eq_none (by rw [hkl, ← hal]; exact List.getElem?_eq_none_iff.mp e)]
  · subst hv
    have gr : ∀ i, i < zs.length → (zs.map fun z => Value.ref z.1).getD i Value.none = .ref (zs.getD i (0, [])).1 ∧ (zs.map (·.2)).getD i [] = (zs.getD i (0, [])).2 ∧ zs.getD i (0, []) ∈ zs := fun i hi => by
      have e : zs.getD i (0, []) = zs[i] := by rw [List.getD_eq_getElem?_getD, List.getElem?_eq_getElem hi]; rfl
      rw [e]
      refine ⟨?_, ?_, List.getElem_mem _⟩
      · rw [List.getD_eq_getElem?_getD, List.getElem?_map, List.getElem?_eq_getElem hi]; rfl
      · rw [List.getD_eq_getElem?_getD, List.getElem?_map, List.getElem?_eq_getElem hi]; rfl
    refine ⟨_, hO, fun G tk kG hn2 Q' hq => ?_, fun G tk kG i j C hi hj hC => ?_, fun p h' h'' tk e hp hw k1 k2 hat => ?_⟩
    · obtain ⟨fs, ht, hfl, hfi⟩ := kat_tupsI (I.kept (t' := tk) kG) zs hzt'
      refine kat_kind (T := .type "int") ht (by omega) (fun v hv => ?_) (by decide) (by rw [show (Value.type "int" != Value.type "tuple") = true by decide]; exact hq)
      obtain ⟨n, t, rfl⟩ := hfi v hv
      exact Looks.of_pure rfl
    · obtain ⟨a1, a2, a3⟩ := gr i hi
      obtain ⟨b1, b2, b3⟩ := gr j hj
      unfold kas_ask
      rw [a1, b1]
      refine keyT_lt (I.kept (t' := tk) kG) (hzt _ a3) (hzt _ b3) ?_
      rw [a2, b2] at hC
      exact hC
    · obtain ⟨zs', pm, pw, hm⟩ := perm_out hp hw
      rw [hm] at hat
      have I1 := I.kept (t' := tk) k1
      have hfree : H h'.objs.size = none := I1.hok.fresh (Nat.le_refl _)
      have hl' : zs'.length = zs.length := pm.length_eq
      refine ⟨.ref h'.objs.size, _, I1.laid (t' := tk) (o := .lst (zs'.map fun z => V.ref z.1)) k2 (Nat.le_refl _) ⟨by rw [List.length_map]; exact Nat.le_trans (show zs'.length ≤ 60 by omega) (by decide), _, e, refs_vals zs', hat⟩, rfl, q _ zs' hfree (by rw [← hz2]; exact pm.map _) pw fun z hz => hzt z (pm.mem_iff.mp hz)⟩
end
end L2
set_option Elab.async false
set_option linter.all false
set_option maxRecDepth 100000
namespace L2
open PySem PySem.Spec PyProof.Rows
section
variable {X : Cx} {tg : Expr}
end
end L2
set_option Elab.async false
set_option linter.all false
set_option maxRecDepth 100000
namespace L2
open PySem PySem.Spec PyProof.Rows PySem.SeqAt
section
variable {X : Cx}
end
end L2
set_option Elab.async false
set_option linter.all false
set_option maxRecDepth 100000
namespace L2
open PySem PySem.Spec PyProof.Rows PySem.SeqAt
section
variable {X : Cx}
end
end L2
set_option Elab.async false
set_option linter.all false
set_option maxRecDepth 100000
namespace L2
open PySem PySem.Spec PyProof.Rows
structure CScopeT (sc : Scope) (scope : Scope) (xs : List Str) (M : List Str) (ys : List Str) (js : List Nat) : Prop where
  kind : scope.kind = .function
  cell : ∀ y ∈ scope.names, y.2 ≠ .cell
  loc : ∀ y ∈ scope.names, y.2 = .local → scope.names.lookup y.1 = some .local
  var : ∀ x ∈ xs, scope.names.lookup x = some .local
  free : ∀ y ∈ scope.names, y.2 = .free → sc.names.lookup y.1 = some .cell ∨ sc.names.lookup y.1 = some .free
  caps : js.map (M[·]?) = ys.map some
  fr : ∀ y ∈ ys, scope.names.lookup y = some .free
  nd : (xs ++ ys).Nodup
def nones (xs : List Str) : St := xs.map fun _ => none
theorem CScope.nofree {sc scope : Scope} {x : Str} {M : List Str} (kind : scope.kind = .function) (cell : ∀ y ∈ scope.names, y.2 ≠ .cell) (loc : ∀ y ∈ scope.names, y.2 = .local → scope.names.lookup y.1 = some .local) (var : scope.names.lookup x = some .local) (free : ∀ y ∈ scope.names, y.2 ≠ .free) : CScope sc scope x M [] [] :=
  ⟨kind, cell, loc, var, fun y hy e => absurd e (free y hy), rfl, by simp, by simp⟩
section
variable {X : Cx} {pins : List (Addr × Obj)} {σ : St} {H : Hp} {s : Shared}
theorem inv_compT {scope : Scope} {xs ys : List Str} {js : List Nat} {fp : List Addr} {h₁ : Heap} {tk : Nat} {C : Addr} (I : Inv X pins σ H s) (S : CScopeT X.env.scope scope xs X.N ys js) (hf : ∀ b ∈ fp, FpOk X pins H b) (ho : ∀ b ∈ fp, ∃ o, s.heap.get? b = some o)
    (hC : s.heap.objs.size ≤ C) (hk : ∀ b o, s.heap.get? b = some o → h₁.get? b = some o) (hn : h₁.Ns C fun _ => none) :
    Inv (cxC X (xs ++ ys) scope C s H fp) [] (nones xs ++ capt js σ) H { s with heap := h₁, toks := tk } := by
  have sub : ∀ y c, (closOf X.env.cells scope.names []).lookup y = some c → X.env.cells.lookup y = some c := fun y c e => closOf_sub (fun _ _ z => by simp at z) e
  have has : ∀ y, scope.names.lookup y = some .free → ∃ c, (closOf X.env.cells scope.names []).lookup y = some c := fun y e => by
    have m : (y, NameKind.free) ∈ scope.names := PySem.mem_of_lookup e
    exact closOf_has (.inr ⟨m, I.ok.has y (S.free _ m rfl)⟩)
  have lt : ∀ b ∈ fp, b < s.heap.objs.size := fun b hb => by obtain ⟨o, e⟩ := ho b hb; exact Heap.lt_size e
  have ok : (cxC X (xs ++ ys) scope C s H fp).Ok := by
    refine ⟨I.ok.mod, S.kind, I.ok.glob, I.ok.blt, hC, fun y z c e1 e2 => I.ok.inj y z c (sub _ _ e1) (sub _ _ e2), fun y hy => ?_, fun y c z => ?_, I.ok.hd, I.ok.frames, .inl rfl, fun b hb => ?_, I.bs, Nat.le_trans I.ok.bsz I.sz, fun b o e hb => ?_, fun b hb z => ?_, I.stack, I.stkFree⟩
    · have hy' : (relabel scope X.env).names.lookup y = some .cell ∨ (relabel scope X.env).names.lookup y = some .free := hy
      have nocell : scope.names.lookup y ≠ some .cell := fun z => S.cell _ (PySem.mem_of_lookup z) rfl
      rcases hy' with e | e
      · rcases lookup_relabel e with z | ⟨_, z⟩
        · exact absurd z nocell
        · exact has y z
      · rcases lookup_relabel e with z | ⟨z, _⟩
        · exact has y z
        · cases z
    · exact absurd (show false = true from z) Bool.false_ne_true
    · refine ⟨Nat.ne_of_lt (Nat.lt_of_lt_of_le (lt b hb) hC), fun y c e => (hf b hb).2.2.2.2.1 y c (sub y c e)⟩
    · rcases (hf b hb).2.2.2.1 with z | z
      · exact I.ok.noex b o e z
      · exact absurd (Nat.lt_of_lt_of_le (Heap.lt_size e) (Nat.le_trans I.ok.bsz z)) (Nat.lt_irrefl _)
    · rcases List.mem_cons.mp (I.stkSub b z) with e | e
      · exact (hf b hb).2.1 e
      · exact (hf b hb).2.2.1 e
  refine ⟨ok, rfl, I.bare, Un.kept hk, ⟨_, hn, fun i y v e1 e2 e3 => ?_⟩, fun y c e => ?_, I.hok.fresh hC, fun y c e => I.freeC y c (sub y c e), fun p hp => absurd (show p ∈ ([] : List (Addr × Obj)) from hp) (by simp), I.hok.kept hk, ?_⟩
  · by_cases hix : i < xs.length
    · have z : (nones xs ++ capt js σ)[i]? = some none := by
        rw [List.getElem?_append_left (by unfold nones; rw [List.length_map]; exact hix)]
        unfold nones
        rw [List.getElem?_map, List.getElem?_eq_getElem hix]; rfl
      rw [z] at e2; cases e2
    · obtain ⟨k, rfl⟩ : ∃ k, i = xs.length + k := ⟨i - xs.length, by omega⟩
      have e1' : ys[k]? = some y := by
        have e1 : (xs ++ ys)[xs.length + k]? = some y := e1
        rw [List.getElem?_append_right (by omega), Nat.add_sub_cancel_left] at e1; exact e1
      have e2' : (capt js σ)[k]? = some (some v) := by
        rw [List.getElem?_append_right (by unfold nones; rw [List.length_map]; omega)] at e2
        unfold nones at e2
        rw [List.length_map, Nat.add_sub_cancel_left] at e2; exact e2
      obtain ⟨j, hj, hσ⟩ := capt_get e2'
      have hN : X.N[j]? = some y := by
        have z := congrArg (fun l => l[k]?) S.caps
        simp only [List.getElem?_map, hj, e1', Option.map_some] at z
        exact Option.some.inj z
      have hfr := S.fr y (List.mem_of_getElem? e1')
      have m : (y, NameKind.free) ∈ scope.names := PySem.mem_of_lookup hfr
      have hkind := S.free _ m rfl
      obtain ⟨m', hns, hl⟩ := I.loc
      obtain ⟨u, r, lk⟩ := hl j y v hN hσ (by rcases hkind with z | z; exact .inr (.inl z); exact .inr (.inr z))
      refine ⟨u, r, .inr ⟨?_, ?_⟩⟩
      · have e3' : (relabel scope X.env).names.lookup y = some .local ∨ (relabel scope X.env).names.lookup y = some .cell ∨ (relabel scope X.env).names.lookup y = some .free := e3
        rcases e3' with z | z | z
        · rcases lookup_relabel z with q | ⟨q, _⟩
          · rw [hfr] at q; cases q
          · cases q
        · exact .inl z
        · exact .inr z
      · obtain ⟨c, hc⟩ := has y hfr
        refine ⟨c, hc, ?_⟩
        rcases lk with ⟨z, _⟩ | ⟨_, c', hc', cell⟩
        · rcases hkind with q | q
          · have q' : X.env.kindOf y = some .cell := q
            rw [show X.env.kindOf y = some .local from z] at q'; cases q'
          · have q' : X.env.kindOf y = some .free := q
            rw [show X.env.kindOf y = some .local from z] at q'; cases q'
        · rw [sub y c hc] at hc'
          cases hc'
          obtain ⟨o, e, d⟩ := cell
          exact ⟨o, hk _ _ e, d⟩
  · obtain ⟨v, o, e', d⟩ := I.cell y c (sub y c e)
    exact ⟨v, o, hk _ _ e', d⟩
  · have z := congrArg List.length S.caps
    simp only [List.length_map] at z
    show (nones xs ++ capt js σ).length = (xs ++ ys).length
    simp [capt, nones, z]
end
section
variable {prog : Program} {w : World} {A : Around} {R : Result → Shared → Prop} {s : Shared}
theorem compLoopT {elt target iter : Expr} {ifs : List Expr} {scope : Scope} {pos : Pos} {it acc : Value} {env : Env} {N : Value → Shared → Prop} (hN : N = notedBy (model prog w) A env fun e s' => R (.error e) s') (I : Nat → Shared → Prop)
    (turn : ∀ n s, I n s → wpAny (model prog w) A (pyNext it) (fun r s₁ => match r with
      | none => R (.ok .next) s₁
      | some v => wpAny (model prog w) A (letOwnedTupleGo target it v) (fun _ s₅ => wpAny (model prog w) A (assign target env v) (fun _ s₂ =>
          wpAny (model prog w) A (forIn ifs true fun c r => if r = true then do let ok ← isTrue c env (eval c env); pure (ForInStep.yield ok) else pure (ForInStep.yield r)) (fun ok s₃ => if ok = true then wpAny (model prog w) A (eval elt env) (fun x s₄ => wpAny (model prog w) A (call (.builtin "list.append") [acc, x]) (fun _ s₅ => ∃ m, m < n ∧ I m s₅) N s₄) N s₃ else ∃ m, m < n ∧ I m s₃) N s₂) N s₅) N s₁) N s)
    (n : Nat) (h : I n s) : codeAny (model prog w) A (.compLoop (.ListComp elt [⟨target, iter, ifs, 0⟩] scope pos) 0 it acc env) R s := by
  subst hN
  refine codeAny_loop rfl I (fun n s hI => ?_) n h
  show wpAny _ A ((compTurn (.ListComp elt [⟨target, iter, ifs, 0⟩] scope pos) 0 it acc env).onRaise (fun x => do noteFrame x env; theTreesLotGoes x)) _ _ s
  rw [compTurn_list]
  refine wpAny_noted (wpAny_bind (wpAny_standAt (wpAny_bind (wpAny_mono (turn n s hI) (fun r s₁ h₁ => ?_) fun _ _ h' => h'))))
  cases r with
  | none => exact wpAny_pure h₁
  | some v =>
    refine wpAny_bind (wpAny_mono h₁ (fun _ s₅ h₅ => wpAny_bind (wpAny_mono h₅ (fun _ s₂ h₂ => wpAny_bind (wpAny_mono h₂ (fun ok s₃ h₃ => ?_) fun _ _ h' => h')) fun _ _ h' => h')) fun _ _ h' => h')
    cases ok with
    | false => exact wpAny_pure ⟨rfl, h₃⟩
    | true => exact wpAny_bind (wpAny_bind (wpAny_mono h₃ (fun x s₄ h₄ => wpAny_bind (wpAny_mono h₄ (fun _ s₆ h₆ => wpAny_pure (wpAny_pure ⟨rfl, h₆⟩)) fun _ _ h' => h')) fun _ _ h' => h'))
end
def CompLoopT (J : It) (xs : List Str) (js : List Nat) (g : TG) (tt : TT) (te : TE) (σ : St) (Q : VK) (H : Hp) : Prop := ∃ W : Nat → Nat → List V → Hp → Prop, (∃ m, W 0 m [] H) ∧ ∀ i m ys H, W i m ys H →
  (J.stop i H ∧ ∀ D, H D = none → Q (.ref D) (upd H D (.lst ys))) ∨
  (J.go i H ∧ ys.length < sizeLine ∧ ∃ N : List V → Hp → Prop, (∀ ys' H', N ys' H' → ∃ m', m' < m ∧ W (i + 1) m' ys' H') ∧ ∀ x H', J.yld i H x H' → g x (nones xs ++ capt js σ) H' fun σ' H1 => (∃ vs : St, vs.length = xs.length ∧ σ' = vs ++ capt js σ) ∧ tt σ' H1 fun b H2 => if b = true then te σ' H2 fun v H3 => N (ys ++ [v]) H3 else N ys H2)
def tCompT (wi : TI) (xs : List Str) (js : List Nat) (g : TG) (tt : TT) (te : TE) : TE := fun σ H Q => wi σ H fun J H1 => CompLoopT J xs js g tt te σ Q H1
section
variable {X : Cx} {elt iter : Expr} {ifs : List Expr} {tg : Expr} {xs : List Str} {pos : Pos} {g : TG} {scope : Scope} {ys : List Str} {js : List Nat} {wi : TI} {tt : TT} {te : TE}
theorem comp_blockT {pins : List (Addr × Obj)} {σ : St} {H : Hp} {s : Shared} {J : It} {fp : List Addr} {it : Addr} {tn : Nat → Heap → Prop} {Q : VK} {E : Value → Shared → Prop} {R : Value → Addr → Result → Shared → Prop}
    (S : CScopeT X.env.scope scope xs X.N ys js) (hc : X.calm = true) (hg : ∀ C s₀ H₀ ex, PG (cxC X (xs ++ ys) scope C s₀ H₀ ex) tg g) (ht : ∀ C s₀ H₀ ex, PTs (cxC X (xs ++ ys) scope C s₀ H₀ ex) ifs tt) (he : ∀ C s₀ H₀ ex, PE (cxC X (xs ++ ys) scope C s₀ H₀ ex) elt te)
    (I : Inv X pins σ H s) (T : Turn X.prog X.w X.K tg J fp it tn) (st : tn 0 s.heap) (hf : ∀ b ∈ fp, FpOk X pins H b)
    (hw : ∃ W : Nat → Nat → List V → Hp → Prop, (∃ m, W 0 m [] H) ∧ ∀ i m zs H, W i m zs H →
      (J.stop i H ∧ ∀ D, H D = none → Q (.ref D) (upd H D (.lst zs))) ∨
      (J.go i H ∧ zs.length < sizeLine ∧ ∃ N : List V → Hp → Prop, (∀ ys' H', N ys' H' → ∃ m', m' < m ∧ W (i + 1) m' ys' H') ∧ ∀ x H', J.yld i H x H' → g x (nones xs ++ capt js σ) H' fun σ' H1 => (∃ vs : St, vs.length = xs.length ∧ σ' = vs ++ capt js σ) ∧ tt σ' H1 fun b H2 => if b = true then te σ' H2 fun v H3 => N (zs ++ [v]) H3 else N zs H2))
    (hR : ∀ D C s' H' m', Inv X pins σ H' s' → Q (.ref D) H' → s.heap.objs.size ≤ C → H' C = none → s'.heap.Ns C m' → R (.ref D) C (.ok .next) s') :
    wpAny (model X.prog X.w) X.A (newList []) (fun acc s₃ => wpAny (model X.prog X.w) X.A (newFunctionEnv scope X.env.globals (closOf X.env.cells scope.names []) [] X.env.qual none .none (some X.env)) (fun cenv s₄ =>
      codeAny (model X.prog X.w) X.A (.compStart (.ListComp elt [⟨tg, iter, ifs, 0⟩] scope pos) 0 (.ref it) acc { cenv with scope := relabel scope X.env }) (R acc cenv.locals) s₄) E s₃) E s := by
  obtain ⟨W, ⟨m0, w0⟩, turn⟩ := hw
  refine wpAny_newObj_type (wpAny_newFunctionEnv S.cell (by intro y hy; simp at hy) (fun h₁ hns₁ hsb₁ => ?_) S.kind)
  dsimp only at hns₁ hsb₁ ⊢
  generalize hH2 : s.heap.push { cls := .type "list", dict := none, data := .seq ([] : List Value).toArray } = G at hns₁ hsb₁ ⊢
  generalize hD : s.heap.objs.size = D at *
  generalize hCe : G.objs.size = C at *
  have hC : C = D + 1 := by rw [← hCe, ← hH2, Heap.size_push, hD]
  have hDlt : D < C := by rw [hC]; exact Nat.lt_succ_self D
  have hDC : D ≠ C := Nat.ne_of_lt hDlt
  have old : ∀ b o, s.heap.get? b = some o → h₁.get? b = some o := fun b o e => by
    have hb : b < D := hD ▸ Heap.lt_size e
    exact (hsb₁.2 b (Nat.ne_of_lt (Nat.lt_trans hb hDlt))).trans (Heap.get?_push_of_some _ (hH2 ▸ Heap.get?_push_of_some _ e))
  have hacc : h₁.get? D = some { cls := .type "list", data := .seq ([] : List Value).toArray 0 } := by
    refine (hsb₁.2 D hDC).trans (Heap.get?_push_of_some _ ?_)
    rw [← hH2, ← hD]
    exact Heap.get?_push_size _ rfl
  have obj0 := T.obj 0 _ st
  have fplt : ∀ b ∈ fp, b < D := fun b hb => by obtain ⟨o, e, _⟩ := obj0 b hb; exact hD ▸ Heap.lt_size e
  generalize hX : cxC X (xs ++ ys) scope C s H fp = X'
  have I1 : Inv X' [] (nones xs ++ capt js σ) H { s with heap := h₁, toks := s.toks + ([] : List (Str × Value)).length } := by
    subst hX
    exact inv_compT I S hf (fun b hb => by obtain ⟨o, e, _⟩ := obj0 b hb; exact ⟨o, e⟩) (by omega) old (by simpa using hns₁)
  have eP : X'.prog = X.prog := by subst hX; rfl
  have eW : X'.w = X.w := by subst hX; rfl
  have eK : X'.K = X.K := by subst hX; rfl
  have eA : X'.A = X.A := by subst hX; rfl
  have eC : X'.calm = true := by subst hX; exact hc
  have eL : X'.env.locals = C := by subst hX; rfl
  have eS : X'.s₀ = s := by subst hX; rfl
  have eN : X'.N = xs ++ ys := by subst hX; rfl
  have eE : X'.env = compEnvC scope (closOf X.env.cells scope.names []) C X.env := by subst hX; rfl
  have eXe : X'.xe = fun _ _ => False := by subst hX; rfl
  have eX : X'.ex = fp := by subst hX; rfl
  have ePn : X'.pn = [] := by subst hX; rfl
  have efs : ∀ b, b ∈ X'.fs → b ∈ frs X.stack := fun b z => by subst hX; exact z
  have cellLt : ∀ y c, X'.env.cells.lookup y = some c → c < D := fun y c e => by
    have e' : (closOf X.env.cells scope.names []).lookup y = some c := by rw [eE] at e; exact e
    obtain ⟨v, o, e2, _⟩ := I.cell y c (closOf_sub (fun _ _ z => by simp at z) e')
    exact hD ▸ Heap.lt_size e2
  have frLt : ∀ b, b ∈ X'.fs → b < D := fun b z => by
    rcases List.mem_cons.mp (I.stkSub b (efs b z)) with e | e
    · rw [e]; exact hD ▸ I.lt
    · exact Nat.lt_of_not_le fun h => I.nofs (hD ▸ h) e
  have fpOk : ∀ (p : List (Addr × Obj)) (H' : Hp), (∀ b ∈ fp, H' b = none) → (∀ q ∈ p, q.1 = D) → ∀ b ∈ fp, FpOk X' p H' b := fun p H' hn hp b hb => by
    refine ⟨hn b hb, ?_, fun z => ?_, .inl (eX ▸ hb), fun y c e => ?_, fun q hq => ?_⟩
    · rw [eL]; exact Nat.ne_of_lt (Nat.lt_trans (fplt b hb) hDlt)
    · rcases List.mem_cons.mp (I.stkSub b (efs b z)) with e | e
      · exact (hf b hb).2.1 e
      · exact (hf b hb).2.2.1 e
    · have e' : (closOf X.env.cells scope.names []).lookup y = some c := by rw [eE] at e; exact e
      exact (hf b hb).2.2.2.2.1 y c (closOf_sub (fun _ _ z => by simp at z) e')
    · rw [ePn, List.nil_append] at hq
      rw [hp q hq]; exact Nat.ne_of_gt (fplt b hb)
  have noCell : ∀ (its : List Value) (k : Nat) v, ({ cls := .type "list", data := .seq its.toArray k } : Obj).data ≠ .cell v := fun its k v z => by cases z
  have done : ∀ {zs : List V} {its : List Value} {k : Nat} {H' : Hp} {s' : Shared}, Inv X' [] (nones xs ++ capt js σ) H' s' → s'.heap.get? D = some { cls := .type "list", data := .seq its.toArray k } → Vals zs its → H' D = none → zs.length ≤ sizeLine →
      (∀ D, H' D = none → Q (.ref D) (upd H' D (.lst zs))) → R (.ref D) C (.ok .next) s' := fun {zs its k H' s'} I' hd hv hn hz q => by
    have un := I'.base
    obtain ⟨m', hns, _⟩ := I'.loc
    rw [eL] at hns
    have hCn : H' C = none := by have := I'.free; rw [eL] at this; exact this
    have hH0 : X'.H₀ = H := by subst hX; rfl
    rw [hH0, eS, eX] at un
    have un2 : Un (frs X.stack) fp H (upd H' D (.lst zs)) s.heap s'.heap := by
      have ne : ∀ b o, s.heap.get? b = some o → b ≠ D := fun b o e => Nat.ne_of_lt (hD ▸ Heap.lt_size e)
      have un' : Un (frs X.stack) fp H H' s.heap s'.heap := by subst hX; exact un
      exact ⟨un'.keep, un'.slot, fun b o e n hx => by rw [upd_ne (ne b o e)]; exact un'.free b o e n hx, un'.there, fun b xs e => by rw [upd_ne (ne_of_none (un'.tups b xs e) hn)]; exact un'.tups b xs e,
        fun b o u e => by rw [upd_ne (ne_of_none (un'.frzs b o u e) hn)]; exact un'.frzs b o u e, fun b ps e => by
          obtain ⟨more, z⟩ := un'.tbls b ps e
          exact ⟨more, by rw [upd_ne (ne_of_none z hn)]; exact z⟩⟩
    have hok : HOk X.prog X.w (upd H' D (.lst zs)) s'.heap := by
      have h0 := I'.hok
      rw [eP, eW] at h0
      exact h0.track hn ⟨hz, its, k, hv, hd⟩
    have I2 : Inv X pins σ (upd H' D (.lst zs)) s' := I.call' (by have := I'.os; rw [eS] at this; exact this) un2 hok I'.bare fun b hb => ⟨(hf b hb).2.2.2.1, (hf b hb).2.1, (hf b hb).2.2.2.2.1, (hf b hb).2.2.2.2.2⟩
    exact hR D C s' _ m' I2 (q D hn) (by omega) (by rw [upd_ne (Ne.symm hDC)]; exact hCn) hns
  have loop : codeAny (model X.prog X.w) X.A (.compLoop (.ListComp elt [⟨tg, iter, ifs, 0⟩] scope pos) 0 (.ref it) (.ref D) X'.env) (R (.ref D) C) { s with heap := h₁, toks := s.toks + ([] : List (Str × Value)).length } := by
    refine compLoopT rfl (fun n s' => ∃ i zs its k H', Inv X' [] (nones xs ++ capt js σ) H' s' ∧ tn i s'.heap ∧ (∀ b ∈ fp, H' b = none) ∧ s'.heap.get? D = some { cls := .type "list", data := .seq its.toArray k } ∧ Vals zs its ∧ H' D = none ∧ zs.length ≤ sizeLine ∧ W i n zs H')
      ?_ m0 ⟨0, [], [], 0, H, I1, T.keep _ _ _ st (fun b hb o e => old b o e), fun b hb => (hf b hb).1, hacc, .nil, I.hok.fresh (by omega), Nat.zero_le _, w0⟩
    rintro n s3 ⟨i, zs, its, k, H3, I3, st3, fr3, d3, v3, n3, z3, w3⟩
    have pinD : Inv X' [(D, { cls := .type "list", data := .seq its.toArray k })] (nones xs ++ capt js σ) H3 s3 := I3.pins_of fun p hp => by
      have e : p = (D, { cls := .type "list", data := .seq its.toArray k }) := by simpa using hp
      subst e
      exact ⟨d3, n3, by rw [eL]; exact hDC, fun z => Nat.lt_irrefl _ (frLt D z), noCell its k⟩
    have hpD : ∀ q ∈ [(D, ({ cls := .type "list", data := .seq its.toArray k } : Obj))], q.1 = D := fun q hq => by
      have e : q = (D, { cls := .type "list", data := .seq its.toArray k }) := by simpa using hq
      rw [e]
    rcases turn i n zs H3 w3 with ⟨stop, qn⟩ | ⟨go, hzl, NN, hNN, step⟩
    · refine thn (eA ▸ T.done X' eP eW eK eC i _ s3 _ H3 _ pinD (fpOk _ _ fr3 hpD) st3 stop) fun r s4 ⟨hr, I4⟩ => ?_
      subst hr
      exact done (I4.pins_of fun p hp => absurd hp (by simp)) (I4.pin (D, { cls := .type "list", data := .seq its.toArray k }) (List.mem_append_right _ (by simp))).1 v3 n3 z3 qn
    · refine thn (eA ▸ T.item X' eP eW eK eC i _ s3 _ H3 _ pinD (fpOk _ _ fr3 hpD) st3 go) fun r s4 ⟨u, hr, h4⟩ => ?_
      subst hr
      refine thn h4 fun _ s4 ⟨v, H5, I5, r5, y5, st5, fr5⟩ => ?_
      have I5' := I5.pinned (fpOk _ _ fr5 hpD) (T.obj _ _ st5)
      have ev : ∀ {α : Type} {t : Sem α} {Q' : α → Shared → Prop} {E' : Value → Shared → Prop} {s' : Shared}, wpAny (model X'.prog X'.w) X'.A t Q' X'.xe s' → wpAny (model X.prog X.w) X.A t Q' E' s' := fun {α t Q' E' s'} hh => by
        rw [eP, eW, eA, eXe] at hh
        exact wpAny_mono hh (fun _ _ q => q) fun _ _ z => z.elim
      have hgg : PG X' tg g := hX ▸ hg C s H fp
      refine ev (thn (hgg _ s4 _ H5 v u _ I5' r5 (step v H5 y5)) fun _ s6 ⟨σ6, H6, I6, ⟨vs6, hvl, e6⟩, q6⟩ => ?_)
      subst e6
      have back : ∀ {σ' : St} {H7 : Hp} {s7 : Shared}, Inv X' ([(D, { cls := .type "list", data := .seq its.toArray k })] ++ pinsAt fp s4.heap) (vs6 ++ capt js σ) H7 s7 → Inv X' [] (nones xs ++ capt js σ) H7 s7 := fun {_ H7 s7} I7 => by
        refine (I7.pins_of fun p hp => absurd hp (by simp)).weak (by rw [List.length_append, List.length_append, hvl]; unfold nones; rw [List.length_map]) fun i v' e => ?_
        by_cases hix : i < xs.length
        · have z : (nones xs ++ capt js σ)[i]? = some none := by
            rw [List.getElem?_append_left (by unfold nones; rw [List.length_map]; exact hix)]
            unfold nones
            rw [List.getElem?_map, List.getElem?_eq_getElem hix]; rfl
          rw [z] at e; cases e
        · have hn : (nones xs).length = xs.length := by unfold nones; rw [List.length_map]
          rw [List.getElem?_append_right (by omega), hn] at e
          rw [List.getElem?_append_right (by omega), hvl]
          exact e
      have fps : ∀ {σ' : St} {H7 : Hp} {s7 : Shared}, Inv X' ([(D, { cls := .type "list", data := .seq its.toArray k })] ++ pinsAt fp s4.heap) σ' H7 s7 → (∀ b ∈ fp, H7 b = none) ∧ (∀ b ∈ fp, ∀ o, s4.heap.get? b = some o → s7.heap.get? b = some o) ∧ s7.heap.get? D = some { cls := .type "list", data := .seq its.toArray k } ∧ H7 D = none := fun {σ' H7 s7} I7 => by
        have g : ∀ b ∈ fp, ∀ o, s4.heap.get? b = some o → s7.heap.get? b = some o ∧ H7 b = none := fun b hb o e => by
          have z := I7.pin (b, o) (List.mem_append_right _ (List.mem_append_right _ (mem_pinsAt hb e)))
          exact ⟨z.1, z.2.1⟩
        refine ⟨fun b hb => ?_, fun b hb o e => (g b hb o e).1, (I7.pin (D, { cls := .type "list", data := .seq its.toArray k }) (List.mem_append_right _ (by simp))).1, (I7.pin (D, { cls := .type "list", data := .seq its.toArray k }) (List.mem_append_right _ (by simp))).2.1⟩
        obtain ⟨o, e, _⟩ := T.obj _ _ st5 b hb
        exact (g b hb o e).2
      have hte : PTs X' ifs tt := hX ▸ ht C s H fp
      have hee : PE X' elt te := hX ▸ he C s H fp
      refine ev (thn (hte _ s6 _ H6 _ I6 q6) fun b s7 ⟨H7, I7, q7⟩ => ?_)
      cases b with
      | false =>
        rw [if_neg Bool.false_ne_true]
        rw [if_neg Bool.false_ne_true] at q7
        obtain ⟨m', hm, w7⟩ := hNN _ _ q7
        obtain ⟨g1, g2, g3, g4⟩ := fps I7
        exact ⟨m', hm, i + 1, zs, its, k, H7, back (σ' := []) I7, T.keep _ _ _ st5 g2, g1, g3, v3, g4, z3, w7⟩
      | true =>
        rw [if_pos rfl]
        rw [if_pos rfl] at q7
        refine ev (thn (hee _ s7 _ H7 _ I7 q7) fun u8 s8 ⟨v8, H8, I8, r8, q8⟩ => ?_)
        obtain ⟨m', hm, w8⟩ := hNN _ _ q8
        obtain ⟨g1, g2, g3, g4⟩ := fps I8
        have hil := v3.length
        refine call_meets F.slot_list_append ⟨_, g3, rfl⟩ F.entry_list_append (F.args_list_append_2 _ _) (PySem.list_append D its.toArray k u8 (by rw [List.size_toArray]; omega)) ⟨g3, ?_⟩
        have q := PySem.IsL.update g3 (fun a => a.push u8)
        have ea : its.toArray.push u8 = (its ++ [u8]).toArray := by simp
        rw [ea] at q
        have kk : ∀ b o, b ≠ D → s8.heap.get? b = some o → (s8.heap.update D (Obj.mapSeq fun a => a.push u8)).get? b = some o := fun b o hb e => (Heap.get?_update_other _ _ (Ne.symm hb)).trans e
        have I9 : Inv X' [] (nones xs ++ capt js σ) H8 { s8 with heap := s8.heap.update D (Obj.mapSeq fun a => a.push u8), toks := s8.toks } := by
          refine (back (σ' := []) I8).turned kk g4 (by rw [eL]; exact hDC) (.inr (by rw [eS]; omega)) (fun y c e => Nat.ne_of_lt (cellLt y c e)) fun p hp => ?_
          rw [ePn] at hp
          exact absurd hp (by simp)
        refine ⟨m', hm, i + 1, zs ++ [v8], its ++ [u8], _, H8, I9, T.keep _ _ _ st5 (fun b hb o e => kk b o (Nat.ne_of_lt (fplt b hb)) (g2 b hb o e)), g1, q, v3.append (.cons r8 .nil), g4, ?_, w8⟩
        rw [List.length_append, List.length_singleton]
        omega
  rw [eE] at loop
  exact codeAny_compStart_list loop (T.self _ 0 _ _ _ (T.keep _ _ _ st (fun b hb o e => old b o e)) loop)
theorem pe_compT (S : CScopeT X.env.scope scope xs X.N ys js) (hc : X.calm = true) (hi : PI X tg iter wi) (hg : ∀ C s₀ H₀ ex, PG (cxC X (xs ++ ys) scope C s₀ H₀ ex) tg g) (ht : ∀ C s₀ H₀ ex, PTs (cxC X (xs ++ ys) scope C s₀ H₀ ex) ifs tt) (he : ∀ C s₀ H₀ ex, PE (cxC X (xs ++ ys) scope C s₀ H₀ ex) elt te)
    (hs : ∀ x, foldedSetIterable iter X.env x = pure x := by intro _; rfl) : PE X (.ListComp elt [⟨tg, iter, ifs, 0⟩] scope pos) (tCompT wi xs js g tt te) := by
  intro pins s σ H Q I h
  rw [eval_ListComp]
  refine wpAny_comprehension_free (use := none) rfl hs (closureFor_eq fun y hy e => I.ok.has _ (S.free y hy e)) S.kind S.loc (thn (hi pins s σ H _ I h) fun v s1 h1 => thn h1 fun itv s2 h2 => ?_)
  obtain ⟨it, fp, tn, J, H2, e, I2, T, st2, f2, hw⟩ := h2
  subst e
  refine comp_blockT (Q := Q) (R := fun acc C => compPost (model X.prog X.w) X.A X.xe none (EP X pins σ Q) acc C) S hc hg ht he I2 T st2 f2 hw ?_
  intro D C s' H' m' I' q hC hn hns
  refine ⟨m', hns, fun h' hs' => ⟨.ref D, H', ?_, rfl, q⟩⟩
  have e := I2.fpOk hC hn
  exact I'.turned (t' := s'.toks) (fun b o hb e => (hs'.2 b hb).trans e) hn e.2.1 e.2.2.2.1 e.2.2.2.2.1 e.2.2.2.2.2
theorem ps_setCompT {i : Nat} {y : Str} {py spos : Pos} (S : CScopeT X.env.scope scope xs X.N ys js) (hc : X.calm = true) (hN : X.N.Nodup) (hy : X.N[i]? = some y) (hl : Loc X.env.scope y) (hi : PI X tg iter wi) (hg : ∀ C s₀ H₀ ex, PG (cxC X (xs ++ ys) scope C s₀ H₀ ex) tg g) (ht : ∀ C s₀ H₀ ex, PTs (cxC X (xs ++ ys) scope C s₀ H₀ ex) ifs tt) (he : ∀ C s₀ H₀ ex, PE (cxC X (xs ++ ys) scope C s₀ H₀ ex) elt te)
    (hf : X.fn y = true ∨ X.env.scope.names.lookup y = some .local := by first | exact .inl rfl | exact .inr rfl | assumption)
    (hsw : swapsWith (.ListComp elt [⟨tg, iter, ifs, 0⟩] scope pos) (some (.Name y py)) spos.line X.env = pure true := by rfl)
    (hs : ∀ x, foldedSetIterable iter X.env x = pure x := by intro _; rfl) : PS X (.Assign [.Name y py] (.ListComp elt [⟨tg, iter, ifs, 0⟩] scope pos) spos) (tAsg (tCompT wi xs js g tt te) (gName i)) := by
  intro pins s σ H D I h
  rw [exec_Assign_Name_used _ _ _ _ hsw]
  refine wpAny_bind (wpAny_standAt (wpAny_bind ?_))
  show wpAny _ X.A (do let _ ← comprehension (.ListComp elt [⟨tg, iter, ifs, 0⟩] scope pos) scope X.env _ (newList []) false (eval iter X.env) (some (assign (.Name y py) X.env))) _ _ s
  refine wpAny_bind (wpAny_mono (wpAny_comprehension_free (use := some (assign (.Name y py) X.env)) (Q := fun _ s' => SP X pins D .next s') rfl hs (closureFor_eq fun y hy e => I.ok.has _ (S.free y hy e)) S.kind S.loc
    (thn (hi pins s σ H _ I h) fun v s1 h1 => thn h1 fun itv s2 h2 => ?_)) (fun _ s' hq => wpAny_pure (wpAny_pure hq)) fun _ _ e => e)
  obtain ⟨it, fp, tn, J, H2, e, I2, T, st2, f2, hw⟩ := h2
  subst e
  refine comp_blockT (Q := fun v H' => gName i v σ H' D.nx) (R := fun acc C => compPost (model X.prog X.w) X.A X.xe (some (assign (.Name y py) X.env)) (fun _ s' => SP X pins D .next s') acc C) S hc hg ht he I2 T st2 f2 hw ?_
  intro Da C s' H' m' I' q hC hn hns
  have e := I2.fpOk hC hn
  show wpAny _ X.A (assign (.Name y py) X.env (.ref Da)) _ _ _
  refine wpAny_assign_Name (store_ok2 I' hN hy hl (show RelV (.ref Da) (.ref Da) from rfl) (fun s2' I3 ⟨a, sb, ha⟩ => ?_) hf)
  have hCa : C ≠ a := by
    rcases ha with z | z
    · rw [z]; exact e.2.1
    · intro w; exact e.2.2.2.2.1 _ _ z w.symm
  refine ⟨m', hns.sameBut sb hCa, fun h' hs' => ⟨_, H', ?_, q⟩⟩
  exact I3.turned (t' := s2'.toks) (fun b o hb e => (hs'.2 b hb).trans e) hn e.2.1 e.2.2.2.1 e.2.2.2.2.1 e.2.2.2.2.2
end
theorem compT_list {K : PySem.W.Frag} {a : Addr} {xs : List V} {ns : List Str} {js : List Nat} {g : TG} {tt : TT} {te : TE} {σ : St} {H : Hp} {Q : VK} (Pv : Nat → List V → Hp → Prop) (h0 : Pv 0 [] H) (hl : ∀ i ys H, i ≤ xs.length → Pv i ys H → SqL K H a xs)
    (hs : ∀ i x ys H, xs[i]? = some x → Pv i ys H → ys.length < sizeLine ∧ g x (nones ns ++ capt js σ) H fun σ' H1 => (∃ vs : St, vs.length = ns.length ∧ σ' = vs ++ capt js σ) ∧ tt σ' H1 fun b H2 => if b = true then te σ' H2 fun v H3 => Pv (i + 1) (ys ++ [v]) H3 else Pv (i + 1) ys H2)
    (hd : ∀ ys H, Pv xs.length ys H → ∀ D, H D = none → Q (.ref D) (upd H D (.lst ys))) :
    CompLoopT (Itl K a) ns js g tt te σ Q H := by
  refine ⟨fun i m ys H => m = xs.length - i ∧ i ≤ xs.length ∧ Pv i ys H, ⟨xs.length, by simp, Nat.zero_le _, h0⟩, ?_⟩
  rintro i m ys H ⟨rfl, hi, p⟩
  have q := hl i ys H hi p
  by_cases hlt : i < xs.length
  · have hx : xs[i]? = some xs[i] := List.getElem?_eq_getElem hlt
    obtain ⟨hz, hst⟩ := hs i xs[i] ys H hx p
    refine .inr ⟨⟨xs, xs[i], q, hx⟩, hz, Pv (i + 1), fun ys' H' p' => ⟨xs.length - (i + 1), by omega, rfl, hlt, p'⟩, fun x H' y => ?_⟩
    obtain ⟨e, y⟩ := y
    subst e
    have e2 := y xs q
    rw [hx] at e2
    cases e2
    exact hst
  · have e : i = xs.length := by omega
    subst e
    exact .inl ⟨⟨xs, q, Nat.le_refl _⟩, hd ys H p⟩
theorem k_gtup {X : Cx} (K : PySem.W.Frag) {es : List Expr} {k : Nat} {t : TGs} {pos : Pos} (n : Nat) (hc : X.calm = true) (h : PGs X es t) (e : X.K = K := by rfl)
    (hn : (assignEach es X.env).length = n := by rfl) (hst : (assignEach es X.env).findIdx? (·.1) = none := by rfl) : PG X (.Tuple es k pos) (gTup K n t) := by subst e; exact pg_tup hc h hn hst
end L2
set_option Elab.async false
set_option linter.all false
set_option maxRecDepth 100000
namespace L2
open PySem PySem.Spec PyProof.Rows
structure Mt (K : PySem.W.Frag) (C : Addr) (q x : Str) (st : Stmt) (ps : List Str) (f : Addr) (fd : FuncData) : Prop where
  fn : Fun K x q st f fd
  b : Binds K fd ps []
  m : Meth K C x f
structure Blt2 (mg : Str → Option Value) : Prop where
  n_sum : mg "sum" = none
  n_abs : mg "abs" = none
  n_zip : mg "zip" = none
  n_str : mg "str" = none
section
variable {X : Cx} {tg : Expr}
end
end L2
set_option Elab.async false
set_option linter.all false
set_option maxRecDepth 100000
namespace L2
open PySem PySem.Spec PyProof.Rows
section
variable {X : Cx}
end
end L2
set_option Elab.async false
set_option linter.all false
set_option maxRecDepth 100000
namespace L2
open PySem PySem.Spec PyProof.Rows PySem.W
section
variable {X : Cx}
def rSortM (K : PySem.W.Frag) : List V → Hp → VK → Prop := fun xs H Q => ∃ (a : Addr) (zs : List (Addr × List Int)), xs = [.ref a] ∧ SqL K H a (zs.map fun z => V.ref z.1) ∧ zs.length ≤ 60 ∧ (∀ z ∈ zs, SqL K H z.1 (z.2.map V.int)) ∧ (zs.map (·.2)).Nodup ∧
  ∀ (p : Addr) (zs' : List (Addr × List Int)), H p = none → zs'.Perm zs → zs'.Pairwise (fun x y => HT.lexLt x.2 y.2 = true) → Q (.ref p) (upd H p (.lst (zs'.map fun z => V.ref z.1)))
theorem k_sortM (K : PySem.W.Frag) (hu : X.A.units + 64 < cLine) (e : X.K = K := by rfl) : CallR X (.builtin "sorted") (rSortM K) := by
  subst e
  intro pins s σ H xs us Q I r h
  obtain ⟨a, zs, rfl, ha, h60, hz, nd, q⟩ := h
  obtain ⟨u, rfl, rx⟩ := vals1 r
  cases rx
  obtain ⟨its, r1, p1, _⟩ := I.list ha
  have e1 := vals_refs r1
  subst e1
  have hO := lexOrd nd
  rw [List.length_map] at hO
  have hkl : (zs.map fun z => Value.ref z.1).length = zs.length := List.length_map ..
  have hzl : ∀ z ∈ zs, ∃ its : List Value, s.heap.IsList z.1 its.toArray ∧ IntsAre its z.2 := fun z hzm => by
    obtain ⟨its, r2, p2, _⟩ := I.list (hz z hzm)
    exact ⟨its, p2.isList, by simpa using intsAre_of r2⟩
  refine HT.sortedX (n := zs.length) (κ := oneType') (Pv := fun vs => vs = zs.map fun z => Value.ref z.1) h60 (fun R hR => ?_) fun vs hl hv => ?_
  · have hsl : (zs.map fun z => Value.ref z.1).length ≤ sizeLine := by rw [hkl]; exact Nat.le_trans h60 (by decide)
    refine collect_list p1.isList ?_ hsl
    refine hR _ s.toks _ (fun b o q => ?_) hkl rfl
    have hlt := Heap.lt_size q
    rw [Heap.get?_update_ne _ _ _ _ (Nat.ne_of_lt hlt), Heap.get?_push_ne _ _ _ (Nat.ne_of_lt hlt)]; exact q
  · subst hv
    have gr : ∀ i, i < zs.length → (zs.map fun z => Value.ref z.1).getD i Value.none = .ref (zs.getD i (0, [])).1 ∧ (zs.map (·.2)).getD i [] = (zs.getD i (0, [])).2 ∧ zs.getD i (0, []) ∈ zs := fun i hi => by
      have e : zs.getD i (0, []) = zs[i] := by rw [List.getD_eq_getElem?_getD, List.getElem?_eq_getElem hi]; rfl
      rw [e]
      refine ⟨?_, ?_, List.getElem_mem _⟩
      · rw [List.getD_eq_getElem?_getD, List.getElem?_map, List.getElem?_eq_getElem hi]; rfl
      · rw [List.getD_eq_getElem?_getD, List.getElem?_map, List.getElem?_eq_getElem hi]; rfl
    refine ⟨_, hO, fun G tk kG hn2 Q' hq => ?_, fun G tk kG i j C hi hj hC => ?_, fun p h' h'' tk e hp hw k1 k2 hat => ?_⟩
    · refine kas_kind (T := .type "list") (by omega) (fun v hv => ?_) (by decide) (by decide) hq
      obtain ⟨z, hzm, rfl⟩ := List.mem_map.mp hv
      obtain ⟨its, hl, _⟩ := hzl z hzm
      obtain ⟨o, e, hcl, _⟩ := hl
      intro A' Q' E' s' k q
      exact wpAny_typeOf (T := "list") ⟨o, k _ _ (kG _ _ e), hcl⟩ q
    · obtain ⟨a1, a2, a3⟩ := gr i hi
      obtain ⟨b1, b2, b3⟩ := gr j hj
      obtain ⟨its, hl, hI⟩ := hzl _ a3
      obtain ⟨its2, hl2, hI2⟩ := hzl _ b3
      unfold kas_ask
      rw [a1, b1]
      refine HT.one_lt (s := { s with heap := G, toks := tk }) (hl.at fun o e => kG _ o e) (hl2.at fun o e => kG _ o e) (by simpa using hI) (by simpa using hI2) (by show X.A.units + 1 + 1 + 1 < cLine; omega) ?_
      rw [a2, b2] at hC
      exact hC
    · obtain ⟨zs', pm, pw, hm⟩ := perm_out hp hw
      rw [hm] at hat
      have I1 := I.kept (t' := tk) k1
      have hfree : H h'.objs.size = none := I1.hok.fresh (Nat.le_refl _)
      have hl' : zs'.length = zs.length := pm.length_eq
      exact ⟨.ref h'.objs.size, _, I1.laid (t' := tk) (o := .lst (zs'.map fun z => V.ref z.1)) k2 (Nat.le_refl _) ⟨by rw [List.length_map]; exact Nat.le_trans (show zs'.length ≤ 60 by omega) (by decide), _, e, refs_vals zs', hat⟩, rfl, q _ zs' hfree pm pw⟩
end
end L2
set_option Elab.async false
set_option linter.all false
set_option maxRecDepth 100000
namespace L2
open PySem PySem.Spec PyProof.Rows
def Noted (n : Addr → Prop) (h : Heap) (e : Addr) (c : Value) : Prop :=
  ∃ (oe oT : Obj) (vs ts : Array Value) (a0 : Value) (T : Addr), h.get? e = some oe ∧ oe.cls = c ∧ oe.data = .fields vs ∧ vs[0]? = some a0 ∧ vs[1]? = some (.ref T) ∧ n T ∧ T ≠ e ∧ h.get? T = some oT ∧ oT.data = .fields ts ∧ ts[3]? = some .none
def CX1 (P : Program) (w : World) : CXT := fun outer H s E e s' =>
  ∃ (ea : Addr) (c : Value) (H' : Hp), e = .ref ea ∧ s'.os = s.os ∧ AllBare s'.gens ∧ Un (frs outer) [] H H' s.heap s'.heap ∧ HOk P w H' s'.heap ∧ s.heap.get? ea = none ∧ H' ea = none ∧
    Noted (fun T => s.heap.get? T = none ∧ H' T = none) s'.heap ea c ∧ E c none H'
def PassN (X : Cx) (Ex : St → XK) : Prop := ∀ (pins : List (Addr × Obj)) (σ : St) (H : Hp) (s : Shared) (h' : Heap) (ea : Addr) (c : Value) (vs : List Value), Inv X pins σ H s → Heap.MadeExcOf s.heap h' ea c vs → Ex σ c none H → X.xe (.ref ea) { s with heap := h' }
def PassS (X : Cx) (Ex : St → XK) : Prop := ∀ (pins : List (Addr × Obj)) (σ : St) (H : Hp) (s : Shared) (e : Value) (s' : Shared), Inv X pins σ H s → CX1 X.prog X.w X.stack H s (Ex σ) e s' → X.xe e s'
theorem FnOk.up {P : Program} {w : World} {K : PySem.W.Frag} {mg : Str → Option Value} {base : Heap} {CX : CXT} {k : Nat} {f : Addr} {fd : FuncData} {ps : List Str} {sp : Sp} (F : FnOk P w K mg base CX0 k f fd ps sp) : FnOk P w K mg base CX k f fd ps sp :=
  ⟨F.len, fun A outer s H args us vs Q E hr e0 hb hv hs => codeAny_mono (F.run A outer s H args us vs Q E hr e0 hb hv hs) fun r s' q => by
    cases r with
    | error e => exact False.elim q
    | ok fl => cases fl <;> exact q⟩
theorem ObjOk.thereO {P : Program} {w : World} {H : Hp} {h : Heap} {a : Addr} {o : HO} (x : ObjOk P w H h a o) : ∃ u, h.get? a = some u := by
  cases o with
  | lst xs => obtain ⟨_, _, _, _, e⟩ := x; exact ⟨_, e⟩
  | tup xs => obtain ⟨_, _, _, o, e, _⟩ := x; exact ⟨_, e⟩
  | dK kvs => obtain ⟨_, _, _, _, o, _, _, e, _⟩ := x; exact ⟨_, e⟩
  | dT kvs => obtain ⟨_, _, _, _, o, _, _, e, _⟩ := x; exact ⟨_, e⟩
  | set S n => obtain ⟨o, _, _, _, e, _⟩ := x; exact ⟨_, e⟩
  | ins C dx fs => obtain ⟨_, _, _, e, _⟩ := x; exact ⟨_, e⟩
  | own y => exact x
  | xd fs => obtain ⟨_, ⟨_, _, _, e, _⟩, _⟩ := x; exact ⟨_, e⟩
  | rng lo hi => obtain ⟨_, _, _, e⟩ := x; exact ⟨_, e⟩
  | frz ob u => obtain ⟨e, _⟩ := x; exact ⟨_, e⟩
  | tbl ps => exact ⟨_, (show h.get? a = some _ from x)⟩
  | met f y => exact ⟨_, (show h.get? a = some _ from x)⟩
  | ext φ => obtain ⟨_, e, _⟩ := x; exact e
theorem HOk.off {P : Program} {w : World} {H : Hp} {h : Heap} {a : Addr} (x : HOk P w H h) (e : h.get? a = none) : H a = none := by
  cases q : H a with
  | none => rfl
  | some o => obtain ⟨u, z⟩ := (x a o q).thereO; rw [e] at z; cases z
section
variable {X : Cx} {pins : List (Addr × Obj)} {σ : St} {H H' : Hp} {s s' : Shared} {h' B : Heap} {ea : Addr} {c a0 : Value}
def Holds1 (X : Cx) (H' : Hp) (s s' : Shared) (B : Heap) : Prop := ∀ b o, s'.heap.get? b = some o → ((∃ u, s.heap.get? b = some u) ∨ H' b ≠ none) → b ∉ frs X.stack → B.get? b = some o
theorem fly_free (I : Inv X pins σ H s) (un : Un (frs X.stack) [] H H' s.heap s'.heap) : ∀ b ∈ frs X.stack, H' b = none := fun b hb => by
  obtain ⟨_, o, ho, _⟩ := I.stack.mem hb
  exact un.free b o ho (I.stkFree b hb) (by simp)
theorem fly_un (I : Inv X pins σ H s) (un : Un (frs X.stack) [] H H' s.heap s'.heap) (hok : HOk X.prog X.w H' s'.heap) (hB : Holds1 X H' s s' B) (st : B.StaysIn h') (up : s'.heap.UpToSlots h') :
    Un (frs X.stack) [] H H' s.heap h' ∧ HOk X.prog X.w H' h' := by
  have fr := fly_free I un
  have sl : ∀ b o, s.heap.get? b = some o → b ∈ frs X.stack → ∃ q, h'.get? b = some { o with slots := q } := fun b o e hb => by
    obtain ⟨_, o2, ho, hd⟩ := I.stack.mem hb
    rw [e] at ho; cases ho
    obtain ⟨q, e1⟩ := un.slot b o e (I.stkFree b hb) hb (by simp)
    obtain ⟨q2, e2⟩ := up b _ e1 hd
    exact ⟨q2, e2⟩
  refine ⟨⟨fun b o e n hb _ => ?_, fun b o e _ hb _ => sl b o e hb, fun b o e n _ => un.free b o e n (by simp), fun b o e _ => ?_, un.tups, un.frzs, un.tbls⟩, fun a o e => ?_⟩
  · exact st b o (hB b o (un.keep b o e n hb (by simp)) (.inl ⟨o, e⟩) hb)
  · by_cases hb : b ∈ frs X.stack
    · obtain ⟨q, e1⟩ := sl b o e hb
      exact ⟨_, e1⟩
    · obtain ⟨o1, e1⟩ := un.there b o e (by simp)
      exact ⟨o1, st b o1 (hB b o1 e1 (.inl ⟨o, e⟩) hb)⟩
  · refine (hok a o e).stay (fun b u hc q => ?_) (fun _ q => q) fun _ _ q => q
    have nb : H' b ≠ none := by
      rcases hc with z | z
      · rw [z, e]; intro z2; cases z2
      · rw [z]; intro z2; cases z2
    exact st b u (hB b u q (.inr nb) fun hb => nb (fr b hb))
theorem fly_T (I : Inv X pins σ H s) (un : Un (frs X.stack) [] H H' s.heap s'.heap) (hok : HOk X.prog X.w H' s'.heap) (hB : Holds1 X H' s s' B) (st : B.StaysIn h') (up : s'.heap.UpToSlots h') (t : h'.TracedW B ea c a0) :
    Noted (fun T => s.heap.get? T = none ∧ H' T = none) h' ea c := by
  have fr := fly_free I un
  obtain ⟨oe, vs, T, oT, ts, he, ⟨hc, h0⟩, hd, h1, hnT, hTe, hT, hdT, h3⟩ := t
  have nF : T ∉ frs X.stack := fun hb => by
    obtain ⟨_, o, ho, hd⟩ := I.stack.mem hb
    obtain ⟨q, e1⟩ := un.slot T o ho (I.stkFree T hb) hb (by simp)
    obtain ⟨q2, e2⟩ := up T _ e1 hd
    rw [hT] at e2; cases e2
    exact hd _ hdT
  refine ⟨oe, oT, vs, ts, a0, T, he, hc, hd, h0, h1, ⟨?_, ?_⟩, hTe, hT, hdT, h3⟩
  · cases q : s.heap.get? T with
    | none => rfl
    | some o =>
      obtain ⟨o1, e1⟩ := un.there T o q (by simp)
      have := hB T o1 e1 (.inl ⟨o, q⟩) nF
      rw [hnT] at this; cases this
  · cases q : H' T with
    | none => rfl
    | some o =>
      obtain ⟨o1, e1⟩ := (hok T o q).thereO
      have := hB T o1 e1 (.inr (by rw [q]; intro z; cases z)) nF
      rw [hnT] at this; cases this
theorem fly_out {E : XK} (I : Inv X pins σ H s) (hx : X.ex = []) (os : s'.os = s.os) (bare : AllBare s'.gens) (un : Un (frs X.stack) [] H H' s.heap s'.heap) (hok : HOk X.prog X.w H' s'.heap) (n0 : s.heap.get? ea = none) (n1 : H' ea = none)
    (hB : Holds1 X H' s s' B) (st : B.StaysIn h') (t : h'.TracedW B ea c a0) (up : s'.heap.UpToSlots h') (hE : E c none H') : CX1 X.prog X.w X.outer X.H₀ X.s₀ E (.ref ea) { s' with heap := h' } := by
  obtain ⟨u1, k1⟩ := fly_un I un hok hB st up
  have J : Inv X pins σ H' { s' with heap := h' } := I.call' (ch := []) os u1 k1 bare fun b z => absurd z (by simp)
  have off : ∀ b, s.heap.get? b = none → X.s₀.heap.get? b = none := fun b e => by
    cases q : X.s₀.heap.get? b with
    | none => rfl
    | some o =>
      obtain ⟨o1, e1⟩ := I.base.there b o q (by rw [hx]; simp)
      rw [e] at e1; cases e1
  have ub := J.base
  rw [hx] at ub
  obtain ⟨oe, oT, vs, ts, a1, T, he, hc, hd, h0, h1, ⟨hn, hm⟩, r⟩ := fly_T I un hok hB st up t
  exact ⟨ea, c, H', rfl, J.os, J.bare, ub, k1, off ea n0, n1, ⟨oe, oT, vs, ts, a1, T, he, hc, hd, h0, h1, ⟨off T hn, hm⟩, r⟩, hE⟩
theorem holds_hide {Ts : List Addr} (n0 : s.heap.get? ea = none) (n1 : H' ea = none) (nT : ∀ T ∈ Ts, s.heap.get? T = none ∧ H' T = none) : Holds1 X H' s s' (PySem.W.hideAll s'.heap (ea :: (Ts ++ frs X.stack))) := fun b o e hb hf => by
  refine PySem.W.hideAll_get _ e fun hm => ?_
  have bad : ∀ a, s.heap.get? a = none → H' a = none → b ≠ a := fun a h1 h2 z => by
    subst z
    rcases hb with ⟨u, q⟩ | q
    · rw [h1] at q; cases q
    · exact q h2
  rcases List.mem_cons.mp hm with z | hm
  · exact bad ea n0 n1 z
  · rcases List.mem_append.mp hm with z | z
    · exact bad b (nT b z).1 (nT b z).2 rfl
    · exact hf z
theorem fly_frames (I : Inv X pins σ H s) (os : s'.os = s.os) (bare : AllBare s'.gens) (un : Un (frs X.stack) [] H H' s.heap s'.heap) (hok : HOk X.prog X.w H' s'.heap) {as : List Addr} (ha : ∀ b ∈ frs X.stack, b ∈ as) : s'.heap.FunFrames (PySem.W.hideAll s'.heap as) X.stack := by
  have J : Inv X pins σ H' s' := I.call' (ch := []) os un hok bare fun b z => absurd z (by simp)
  exact PySem.W.funFrames_hide J.stack fun env he b hb => ha b (List.mem_filterMap.mpr ⟨env, he, hb⟩)
theorem fly_lib (I : Inv X pins σ H s) (os : s'.os = s.os) (bare : AllBare s'.gens) (un : Un (frs X.stack) [] H H' s.heap s'.heap) (hok : HOk X.prog X.w H' s'.heap) (n0 : s.heap.get? ea = none) (n1 : H' ea = none)
    (t : Noted (fun T => s.heap.get? T = none ∧ H' T = none) s'.heap ea c) : ∃ B a0, Holds1 X H' s s' B ∧ Heap.FlyingW B X.stack ea c a0 s'.heap := by
  obtain ⟨oe, oT, vs, ts, a0, T, he, hc, hd, h0, h1, ⟨hn, hm⟩, hTe, hT, hdT, h3⟩ := t
  refine ⟨PySem.W.hideAll s'.heap (ea :: ([T] ++ frs X.stack)), a0, holds_hide n0 n1 (fun b hb => by rw [List.mem_singleton.mp hb]; exact ⟨hn, hm⟩), fun b o q => PySem.W.of_hideAll _ q, PySem.W.hideAll_none _ (by simp), fly_frames I os bare un hok (by intro b hb; simp [hb]), ?_⟩
  exact ⟨oe, vs, T, oT, ts, he, ⟨hc, h0⟩, hd, h1, PySem.W.hideAll_none _ (by simp), hTe, hT, hdT, h3⟩
end
theorem pass_call {P : Program} {w : World} {K : PySem.W.Frag} {mg : Str → Option Value} {base : Heap} {N : List Str} {qual : Str} {scope : Scope} {f : Addr} {cd : Value} {A : Around} {outer : List Env} {s₀ : Shared} {H₀ : Hp} {E : XK} :
    PassS (cxOf (CX1 P w) P w K mg base N qual scope f cd A outer s₀ H₀ E) fun _ => E := by
  intro pins σ H s e s' I hcx
  obtain ⟨ea, c, H', rfl, os, bare, un, hok, n0, n1, t, hE⟩ := hcx
  obtain ⟨B, a0, hB, fl⟩ := fly_lib I os bare un hok n0 n1 t
  show wpAny _ _ (leaving (envOfC qual scope s₀.heap.objs.size f cd) (.ref ea)) _ _ s'
  refine wpAny_leaves_onW I.ok.frames rfl fl fun h2 fl2 up => ?_
  exact fly_out I rfl os bare un hok n0 n1 hB fl2.1 fl2.2.2.2 up hE
theorem pass_new {P : Program} {w : World} {K : PySem.W.Frag} {mg : Str → Option Value} {base : Heap} {N : List Str} {qual : Str} {scope : Scope} {f : Addr} {cd : Value} {A : Around} {outer : List Env} {s₀ : Shared} {H₀ : Hp} {E : XK} :
    PassN (cxOf (CX1 P w) P w K mg base N qual scope f cd A outer s₀ H₀ E) fun _ => E := by
  intro pins σ H s h' ea c vs I hm hE
  show wpAny _ _ (leaving (envOfC qual scope s₀.heap.objs.size f cd) (.ref ea)) _ _ _
  refine wpAny_leaves_madeW (s := { s with heap := h' }) (base := PySem.W.hideAll s.heap (frs (cxOf (CX1 P w) P w K mg base N qual scope f cd A outer s₀ H₀ E).stack)) I.ok.frames rfl (fun b o q => PySem.W.of_hideAll _ q)
    (fly_frames I rfl I.bare Un.refl I.hok fun b hb => hb) hm fun h2 t fl _ _ up => ?_
  refine fly_out (s' := { s with heap := h' }) I rfl rfl I.bare (Un.kept hm.keeps) (I.hok.kept hm.keeps) hm.new (I.hok.off hm.new) (fun b o e hb hf => ?_) fl.1 fl.2.2.2 up hE
  refine PySem.W.hideAll_get _ ?_ hf
  rcases hb with ⟨u, q⟩ | q
  · have z := hm.keeps b u q
    rw [show h'.get? b = some o from e] at z; cases z; exact q
  · cases r : H b with
    | none => exact absurd r q
    | some x =>
      obtain ⟨u, q⟩ := (I.hok b x r).thereO
      have z := hm.keeps b u q
      rw [show h'.get? b = some o from e] at z; cases z; exact q
end L2
set_option Elab.async false
set_option linter.all false
set_option maxRecDepth 100000
namespace L2
open PySem PySem.Spec PyProof.Rows
abbrev veT : List Value := [.type "ValueError", .type "Exception", .type "BaseException", .type "object"]
structure ExcC (K : PySem.W.Frag) (mg : Str → Option Value) (x : Str) (C : Addr) : Prop where
  g : mg x = some (.ref C)
  ok : PySem.W.excIn K C veT "ValueError.__new__" = true
theorem exc_obj {K : PySem.W.Frag} {h : Heap} {C : Addr} {bmB : List Value} {newId : String} (X : K.In h) (q : PySem.W.excIn K C bmB newId = true) :
    ∃ (bm bs : List Value) (N : Addr) (nm qn : Str) (hd ab : Bool) (sn : List Str) (sub : List Value) (col : Option Bool) (dd : Option Addr) (k0 k1 k2 k3 k5 : Option Value) (mN : Str → Option Value),
      h.get? C = some (excClassObj nm qn C N bs bm hd sn sub ab col dd k0 k1 k2 k3 k5 newId) ∧ h.Ns N mN ∧ mN "__init__" = none ∧ OwnTail h bmB bm := by
  unfold PySem.W.excIn at q
  split at q
  · rename_i dd cd sl e
    split at q
    · rename_i C2 bm k0 k1 k2 k3 n k5 hm hs
      rw [Bool.and_eq_true, Bool.and_eq_true, Bool.and_eq_true, Bool.and_eq_true, Bool.and_eq_true] at q
      have z1 := eq_of_beq q.1.1.1.1.1
      have z2 := eq_of_beq q.1.1.1.1.2
      have z3 : cd.hasDel = false := by simpa using q.1.1.1.2
      cases cd with
      | mk nm bs mro ns qn hd sn sub ab col del =>
        cases sl with
        | mk l =>
          have hs' : l = _ := hs
          have hm' : mro = _ := hm
          have z3' : del = false := z3
          subst hs' hm' z3' z1 z2
          exact ⟨bm, bs, ns, nm, qn, hd, ab, sn, sub, col, dd, k0, k1, k2, k3, k5, _, X _ _ e, Heap.Ns.of_isNs (PySem.W.isNs_of_in X q.1.2), PySem.W.nsMap_none_of_in X q.1.2 (eq_of_beq q.2), PySem.W.tail_of_in X q.1.1.2⟩
    · cases q
  · cases q
def tRaise (c : Value) (Ex : St → XK) (t : TA) : TS := fun _ σ H => t σ H fun vs H1 => vs.length ≤ sizeLine ∧ Ex σ c none H1
theorem ps_raise {X : Cx} {x : Str} {C : Addr} {Ex : St → XK} {e : Expr} {es : List Expr} {t : TA} {np cpos pos : Pos} (O : ExcC X.K X.mg x C) (hx : PassN X Ex) (hc : X.calm = true) (ha : PA X (e :: es) t) (hg : Gl X x := by rfl) (hdb : (x == ("__debug__" : Str)) = false := by decide)
    (he : starEach (e :: es) X.env = (false, eval e X.env) :: starEach es X.env := by rfl) (hpl : (backTo cpos (starEach (e :: es) X.env)).any (·.1) = false := by rfl) : PS X (.Raise (some (.Call (.Name x np) (e :: es) [] cpos)) none pos) (tRaise (.ref C) Ex t) := by
  intro pins s σ H D I h
  obtain ⟨bm, bs, N, nm, qn, hd, ab, sn, sub, col, dd, k0, k1, k2, k3, k5, mN, hC, hN, hni, T⟩ := exc_obj (h := X.base) I.ok.mod.kin O.ok
  refine wpAny_Raise_call_subT (C := C) (nm := nm) (q := qn) (N := N) (bs := bs) (bm := bm) (hdct := hd) (sn := sn) (sub := sub) (ab := ab) (col := col) (dd := dd) (k0 := k0) (k1 := k1) (k2 := k2) (k3 := k3) (k5 := k5)
    PySem.F.excBase_ValueError (mN := mN) (T.hasType PySem.F.excBase_ValueError.hasBase) (I.ok.hd hc) hpl hni (ld_glob I hg O.g ⟨rfl, ?_⟩ hdb)
  have ha' := ha cpos pins s σ H _ I h
  rw [he] at ha' ⊢
  refine Calls.evalArgs_plain (thn ha' fun us s1 ⟨vs, H1, I1, r, hz, q⟩ => ?_)
  exact ⟨rfl, by rw [← r.length]; exact hz, I1.bk _ _ hC, hN.keeps I1.bk, T.keeps I1.bk, fun h' ea hm => hx pins σ H1 s1 h' ea (.ref C) us I1 hm q⟩
def tCallX (sp : Sp) (Ex : St → XK) (t : TA) : TE := fun σ H Q => t σ H fun vs H1 => sp vs H1 Q (Ex σ)
theorem run_fnX {X : Cx} {k : Nat} {f : Addr} {fd : FuncData} {ps : List Str} {sp : Sp} {Ex : St → XK} {pins : List (Addr × Obj)} {σ : St} {H : Hp} {s : Shared} {Q : VK} {us : List Value} {vs : List V} (F : FnOk X.prog X.w X.K X.mg X.base (CX1 X.prog X.w) k f fd ps sp) (hr : Room k X.A) (hb : Binds X.K fd ps []) (hx : PassS X Ex)
    (I : Inv X pins σ H s) (r : Vals vs us) (h : sp vs H Q (Ex σ)) : wpAny (model X.prog X.w) X.A (call (.ref f) us) (EP X pins σ Q) X.xe s := by
  have hl : us.length = ps.length := by rw [← r.length]; exact F.len _ _ _ _ h
  have hb' := hb s us I.kIn (by rw [List.append_nil]; exact hl)
  rw [List.append_nil] at hb'
  refine wpAny_call (codeAny_mono (F.run X.A X.stack s H ⟨us, []⟩ us vs Q (Ex σ) hr I.env0 hb' r h) fun r s' hq => ?_)
  cases r with
  | error e => exact hx pins σ H s e s' I hq
  | ok fl =>
    cases fl with
    | ret u => exact I.after hq
    | next => exact False.elim hq
    | brk => exact False.elim hq
    | cont => exact False.elim hq
theorem pcallX {X : Cx} {x : Str} {st : Stmt} {ps : List Str} {f : Addr} {fd : FuncData} {k : Nat} {sp : Sp} {Ex : St → XK} {e : Expr} {es : List Expr} {t : TA} {p pos : Pos} (D : Df X.K X.mg x st ps f fd) (G : FnOk X.prog X.w X.K X.mg X.base (CX1 X.prog X.w) k f fd ps sp) (hr : Room k X.A) (hx : PassS X Ex) (ha : PA X (e :: es) t) (hg : Gl X x := by rfl)
    (hdb : (x == ("__debug__" : Str)) = false := by decide) (he : starEach (e :: es) X.env = (false, eval e X.env) :: starEach es X.env := by rfl) (hpl : (backTo pos (starEach es X.env)).any (·.1) = false := by rfl) : PE X (.Call (.Name x p) (e :: es) [] pos) (tCallX sp Ex t) := by
  intro pins s σ H Q I h
  refine wpAny_Call_Name_kw (ld_glob I hg D.g ?_ hdb)
  refine PySem.W.callWith_K (h₀ := X.base) I.ok.mod.kin D.fn.kp (thn (ha pos pins s σ H _ I h) fun us s1 ⟨vs, H1, I1, r, q⟩ => ⟨I1.kIn, ?_⟩) he hpl
  exact run_fnX G hr D.b hx I1 r q
theorem Fun.ok1 {P : Program} {w : World} {K : PySem.W.Frag} {mg : Str → Option Value} {base : Heap} {x qual : Str} {st : Stmt} {f : Addr} {fd : FuncData} {N ps : List Str} {k : Nat} {sp : Sp} (F : Fun K x qual st f fd) (S : FnScope N ps (defScope st)) (len : ∀ vs H Q E, sp vs H Q E → vs.length = ps.length)
    (hbody : ∀ (cdv : Value) (A : Around) (outer : List Env) (s : Shared) (H : Hp) (vs : List V) (Q : VK) (E : XK), Room k (A.deeper (envOfC qual (defScope st) s.heap.objs.size f cdv)) → sp vs H Q E →
      ∃ t, PSs (cxOf (CX1 P w) P w K mg base N qual (defScope st) f cdv A outer s H E) (defBody st) t ∧ t { nx := fun _ H' => Q .non H', rt := Q } (start N vs) H) : FnOk P w K mg base (CX1 P w) (k + 1) f fd ps sp := by
  obtain ⟨oc, od, kV, doc, pm, an, cdv, ct, osl, rfl, lk, hcd⟩ := F.ex
  exact fn_of lk hcd S len fun A outer s H vs Q E hr hsp => hbody cdv A outer s H vs Q E hr hsp
end L2
set_option Elab.async false
set_option linter.all false
set_option maxRecDepth 100000
namespace L2
open PySem PySem.Spec PyProof.Rows Builtin Builtin.ObjectAttr Builtin.Getset_descriptor
structure ExcI (K : PySem.W.Frag) (C : Addr) : Prop where
  ga : PySem.W.findIn K (.ref C) "__getattribute__" = some (some (.builtin "BaseException.__getattribute__"))
  hk : PySem.W.findIn K (.ref C) "__getattr__" = some none
  at_ : PySem.W.findIn K (.ref C) "__class__" = some (some (.builtin "object.__class__"))
  sp : PySem.W.specialIn K (.builtin "object.__class__") "__get__" = some (some (.builtin "getset_descriptor.__get__"))
  tk : PySem.W.takesIn K (.builtin "object.__class__") = some true
  mo : PySem.W.mroIn K C (.type "object") = some true
  mb : PySem.W.mroIn K C (.type "BaseException") = some true
def ExcAt (e C : Addr) (h : Heap) : Prop := ∃ o, h.get? e = some o ∧ o.cls = .ref C
section
variable {prog : Program} {w : World} {A : Around} {K : PySem.W.Frag} {e C : Addr} {h : Heap}
theorem ExcAt.ty {M : Model} (x : ExcAt e C h) : PySem.W.Looks M h (typeOf (.ref e)) (.ref C) := by
  obtain ⟨o, h1, h2⟩ := x
  have L : PySem.W.Looks M h (typeOf (.ref e)) o.cls := (PySem.W.Looks.ld h1).andThen .now
  rw [h2] at L
  exact L
theorem exc_find {M : Model} (X : K.In h) (F : ExcI K C) : PySem.W.Looks M h (find (.ref e) (.ref C) "__class__") (.bind (.builtin "getset_descriptor.__get__") (.builtin "object.__class__")) := by
  have q3 : PySem.W.Looks M h (dataDescriptor? (some (.builtin "object.__class__")) (some (.builtin "getset_descriptor.__get__"))) (some (.builtin "getset_descriptor.__get__", .builtin "object.__class__")) := (PySem.W.looks_takesIn X F.tk).andThen .now
  have q2 : PySem.W.Looks M h (getOf (some (.builtin "object.__class__"))) (some (.builtin "getset_descriptor.__get__")) := PySem.W.looks_specialIn X F.sp
  exact (PySem.W.looks_findIn X F.at_).andThen (q2.andThen (q3.andThen (PySem.W.Looks.tag .now)))
theorem exc_classGet {R : Result → Shared → Prop} {s : Shared} {tp : Value} (X : K.In s.heap) (x : ExcAt e C s.heap) (F : ExcI K C) (q : R (.ok (.ret (.ref C))) s) : codeAny (model prog w) A (.call (.builtin "getset_descriptor.__get__") ⟨[.builtin "object.__class__", .ref e, tp], []⟩) R s := by
  cases s with
  | mk hp gn dr tk os =>
    have y0 := x.ty (M := model prog w)
    have y1 := PySem.W.looks_mroIn (M := model prog w) X F.mo
    refine codeAny_call_builtin PySem.W.KF.slot_gs.plain PySem.W.KF.entry_gs (PySem.W.KF.slot_gs.check _ _ _ _ _ _ _ _ PySem.W.KF.type_class (PySem.W.KF.args_gs _ _ _) ?_)
    unfold «getset_descriptor.__get__» descrGet
    rw [PySem.W.dga_obj]
    refine wpAny_bind (wpAny_pure ?_)
    unfold descrGetter descrCheckInstance descrNameAndClass isInstance
    simp only [PySem.W.KF.owner_class]
    repeat lk
    refine ⟨Code.quiet_builtin _ (by decide +kernel), codeAny_builtin PySem.W.KF.entry_class ?_⟩
    unfold «object.__class__» shownTypeOf
    repeat lk
    exact q
theorem exc_ga {R : Result → Shared → Prop} {s : Shared} {t : Tok} (X : K.In s.heap) (x : ExcAt e C s.heap) (F : ExcI K C) (q : R (.ok (.ret (.ref C))) s) : codeAny (model prog w) A (.call (.builtin "BaseException.__getattribute__") ⟨[.ref e, .str "__class__" t], []⟩) R s := by
  cases s with
  | mk hp gn dr tk os =>
    have y0 := x.ty (M := model prog w)
    have y3 := exc_find (M := model prog w) (e := e) X F
    have y4 := PySem.W.looks_mroIn (M := model prog w) X F.mb
    refine codeAny_call_builtin PySem.F.attr_ValueError.ga.plain PySem.F.entry_bexc_ga ?_
    have z1 : builtinKind "BaseException.__getattribute__" = some .slot := by decide +kernel
    have z2 : splitId "BaseException.__getattribute__" = some ("BaseException", "__getattribute__") := by decide +kernel
    have z3 := PySem.F.args_bexc_ga (.ref e) (.str "__class__" t)
    simp only [checkBuiltinCall, z1, z2]
    refine wpAny_bind ?_
    unfold isInstance
    refine wpAny_bind (y0.at (y4.at ?_))
    repeat (any_goals (first | assumption | wp_step))
    obtain ⟨o, h1, h2⟩ := id x
    refine wpAny_loadPart h1 (wpAny_pure ?_)
    rw [h2]
    refine wpAny_bind (y3.at ?_)
    dsimp only
    repeat (any_goals (first | assumption | with_reducible refine wpAny_holding ?_ | wp_step))
    exact exc_classGet (s := ⟨hp, gn, dr, tk, os⟩) X x F (wpAny_pure q)
theorem exc_class {E : Value → Shared → Prop} {Q : Option Value → Shared → Prop} {s : Shared} (X : K.In s.heap) (x : ExcAt e C s.heap) (F : ExcI K C) (q : Q (some (.ref C)) { s with toks := s.toks + 1 }) : wpAny (model prog w) A (getAttr? (.ref e) "__class__") Q E s := by
  cases s with
  | mk hp gn dr tk os =>
    have y0 := x.ty (M := model prog w)
    have y1 := PySem.W.looks_findIn (M := model prog w) X F.ga
    have y2 := PySem.W.looks_findIn (M := model prog w) X F.hk
    have y3 := exc_find (M := model prog w) (e := e) X F
    have y4 := PySem.W.looks_mroIn (M := model prog w) X F.mb
    unfold getAttr? getAttrBy? getAttrBy
    refine wpAny_bind (wpAny_mkText (wpAny_bind (wpAny_attempt (wpAny_holding (wpAny_bind (y0.at (wpAny_bind (y1.at ?_))))))))
    show wpAny _ _ (if (onTheHeap (.ref C) && (Value.builtin "BaseException.__getattribute__" == Value.builtin "object.__getattribute__")) = true then _ else _) _ _ _
    rw [show (Value.builtin "BaseException.__getattribute__" == Value.builtin "object.__getattribute__") = false from by decide +kernel, Bool.and_false, if_neg (by decide)]
    unfold getAttrByItsOwn hookBefore
    refine wpAny_bind ?_
    rw [if_pos (show onTheHeap (.ref C) = true from rfl)]
    refine y2.at (wpAny_bind (wpAny_attempt (wpAny_holding ?_)))
    unfold callGetattribute boundAndCalled
    rw [if_neg (by intro z; cases z)]
    refine wpAny_bind (wpAny_of_eq (PySem.F.attr_ValueError.ga.bind (.ref e)) ?_)
    exact wpAny_call (exc_ga (s := ⟨hp, gn, dr, tk + 1, os⟩) X x F (wpAny_pure (wpAny_pure q)))
theorem kitx_exc (F : ExcI K C) : PySem.W.KitX K (.ref e) (.ref C) (ExcAt e C) where
  ty := fun _ _ _ x => x.ty
  it := fun _ _ X _ => by
    have z := F.mo
    unfold PySem.W.mroIn PySem.W.clsIn at z
    split at z
    · rename_i ho
      intro A1 Q1 E1 s1 k q
      unfold isType loadHead
      exact wpAny_bind (wpAny_loadPart (k _ _ (X _ _ ho)) (wpAny_pure q))
    · cases z
  ne := fun h tp dd its n sl X htp => by
    have z := F.mo
    refine Bool.eq_false_iff.mpr fun q => ?_
    have ec : C = tp := Value.ref.inj (beq_iff_eq.mp q)
    subst ec
    unfold PySem.W.mroIn PySem.W.clsIn at z
    split at z
    · rename_i ho
      have z2 := X _ _ ho
      rw [htp] at z2
      cases z2
    · cases z
  ca := fun X x q => exc_class X x F q
def excO (e C : Addr) : HO := .ext fun h => ExcAt e C h
def rIsiX (K : PySem.W.Frag) : List V → Hp → VK → Prop := fun xs H Q => ∃ e C c cu b, xs = [.ref e, c] ∧ RelV c cu ∧ (∀ u, RelV c u → u = cu) ∧ H e = some (excO e C) ∧ ExcI K C ∧ PySem.W.kitOne K (.ref C) cu = some b ∧ Q (.bl b) H
theorem call_isiX {X : Cx} : CallR X (.builtin "isinstance") (rIsiX X.K) := by
  intro pins s σ H xs us Q I r h
  obtain ⟨e, C, c, cu, b, rfl, _, un, he, F, k, q⟩ := h
  obtain ⟨u, v, rfl, rx, rt⟩ := vals2 r
  cases (show u = Value.ref e from rx)
  cases un v rt
  have o : ObjOk X.prog X.w H s.heap e (excO e C) := I.hok e _ he
  exact PySem.W.kia_one (kitx_exc F) I.kIn o.1 k (fun z => nomatch z) fun tk => ⟨.bl b, H, I.tok tk, rfl, q⟩
theorem k_isiX {X : Cx} (K : PySem.W.Frag) (e : X.K = K := by rfl) : CallR X (.builtin "isinstance") (rIsiX K) := by subst e; exact call_isiX
end
end L2
set_option Elab.async false
set_option linter.all false
set_option maxRecDepth 100000
namespace L2
open PySem PySem.Spec PyProof.Rows
structure CatchC (K : PySem.W.Frag) (mg : Str → Option Value) (y : Str) (Ch : Addr) : Prop where
  g : mg y = some (.ref Ch)
  mb : PySem.W.mroIn K Ch (.type "BaseException") = some true
theorem exc_match {prog : Program} {w : World} {A : Around} {E : Value → Shared → Prop} {K : PySem.W.Frag} {e C Ch : Addr} {s : Shared} {b : Bool} {Q : Bool → Shared → Prop} (X : K.In s.heap) (x : ExcAt e C s.heap) (m : PySem.W.kitCls K (.ref C) (.ref Ch) = some b)
    (hb : PySem.W.mroIn K Ch (.type "BaseException") = some true) (q : Q b s) : wpAny (model prog w) A (excMatches (.ref e) (.ref Ch)) Q E s := by
  cases s with
  | mk hp gn dr tk os =>
    obtain ⟨y1, y2, y3⟩ := PySem.W.kit_cls (M := model prog w) X m
    have y0 := x.ty (M := model prog w)
    have y4 := PySem.W.looks_mroIn (M := model prog w) X hb
    have y5 := tc_notTuple
    unfold excMatches isInstance isExcClass
    repeat (first | with_reducible refine PySem.W.Looks.at (by assumption) ?_ | (with_reducible refine wpAny_of_eq y5 ?_) | with_reducible refine wpAny_bind ?_ | wp_step)
    cases b
    · exact wpAny_pure (wpAny_pure (wpAny_pure q))
    · exact wpAny_pure (wpAny_pure (wpAny_pure q))
section
variable {X : Cx} {pins : List (Addr × Obj)} {σ : St} {H H' : Hp} {s s' : Shared}
abbrev Cx.sui (X : Cx) (e : Addr) : Cx := { X with A := X.A.mark (some (.ref e)), calm := false, xe := fun _ _ => False }
theorem Inv.toSui (I : Inv X pins σ H s) (e : Addr) : Inv (X.sui e) pins σ H s :=
  ⟨⟨I.ok.mod, I.ok.kind, I.ok.glob, I.ok.blt, I.ok.above, I.ok.inj, I.ok.has, I.ok.cab, (fun z => nomatch z), I.ok.frames, I.ok.stk, I.ok.exf, I.ok.bs, I.ok.bsz, I.ok.noex, I.ok.exfs, I.ok.funs, I.ok.frf⟩, I.os, I.bare, I.base, I.loc, I.cell, I.free, I.freeC, I.pin, I.hok, I.len⟩
theorem Inv.ofSui {e : Addr} (ok : X.Ok) (I : Inv (X.sui e) pins σ H s) : Inv X pins σ H s := ⟨ok, I.os, I.bare, I.base, I.loc, I.cell, I.free, I.freeC, I.pin, I.hok, I.len⟩
abbrev Cx.body (X : Cx) (E : Value → Shared → Prop) (pn : List (Addr × Obj)) : Cx := { X with xe := E, pn := pn }
theorem Inv.toBody (I : Inv X pins σ H s) (E : Value → Shared → Prop) : Inv (X.body E (X.pn ++ pins)) [] σ H s :=
  ⟨⟨I.ok.mod, I.ok.kind, I.ok.glob, I.ok.blt, I.ok.above, I.ok.inj, I.ok.has, I.ok.cab, I.ok.hd, I.ok.frames, I.ok.stk, I.ok.exf, I.ok.bs, I.ok.bsz, I.ok.noex, I.ok.exfs, I.ok.funs, I.ok.frf⟩, I.os, I.bare, I.base, I.loc, I.cell, I.free, I.freeC, fun p hp => I.pin p (by rw [List.append_nil] at hp; exact hp), I.hok, I.len⟩
theorem Inv.ofBody {E : Value → Shared → Prop} {pins' : List (Addr × Obj)} (ok : X.Ok) (I : Inv (X.body E (X.pn ++ pins)) pins' σ H s) : Inv X pins σ H s := ⟨ok, I.os, I.bare, I.base, I.loc, I.cell, I.free, I.freeC, fun p hp => I.pin p (List.mem_append_left _ hp), I.hok, I.len⟩
theorem SP.ofBody {E : Value → Shared → Prop} {D : Ends} {f : Flow} (ok : X.Ok) (h : SP (X.body E (X.pn ++ pins)) [] D f s') : SP X pins D f s' := by
  cases f with
  | next => obtain ⟨σ', H', I, q⟩ := h; exact ⟨σ', H', I.ofBody ok, q⟩
  | brk => obtain ⟨σ', H', I, q⟩ := h; exact ⟨σ', H', I.ofBody ok, q⟩
  | cont => obtain ⟨σ', H', I, q⟩ := h; exact ⟨σ', H', I.ofBody ok, q⟩
  | ret u => obtain ⟨v, σ', H', I, r, q⟩ := h; exact ⟨v, σ', H', I.ofBody ok, r, q⟩
theorem fly_track {e C : Addr} {h' : Heap} (un : Un (frs X.stack) [] H H' s.heap h') (hok : HOk X.prog X.w H' h') (n0 : s.heap.get? e = none) (n1 : H' e = none) (x : ExcAt e C h') :
    Un (frs X.stack) [] H (upd H' e (excO e C)) s.heap h' ∧ HOk X.prog X.w (upd H' e (excO e C)) h' := by
  have ne : ∀ b o, s.heap.get? b = some o → b ≠ e := fun b o q z => by rw [z, n0] at q; cases q
  refine ⟨⟨un.keep, un.slot, fun b o q n hx => by rw [upd_ne (ne b o q)]; exact un.free b o q n hx, un.there, fun b xs q => ?_, fun b o u q => ?_, fun b ps q => ?_⟩, fun b o q => ?_⟩
  · have z := un.tups b xs q
    rw [upd_ne (ne_of_none z n1)]; exact z
  · have z := un.frzs b o u q
    rw [upd_ne (ne_of_none z n1)]; exact z
  · obtain ⟨more, z⟩ := un.tbls b ps q
    exact ⟨more, by rw [upd_ne (ne_of_none z n1)]; exact z⟩
  · by_cases hb : b = e
    · subst hb
      rw [upd_same] at q
      cases q
      obtain ⟨o, h1, h2⟩ := id x
      exact ⟨x, ⟨o, h1⟩, fun ha hb' xa ka => let ⟨o, h1, h2⟩ := xa; ⟨o, ka o h1, h2⟩⟩
    · rw [upd_ne hb] at q
      exact (hok b o q).stay (fun c u _ z => z) (fun c z => by rw [upd_ne (ne_of_none z n1)]; exact z) fun c xs z => by rw [upd_ne (ne_of_none z n1)]; exact z
theorem Inv.gone {i t : Nat} {n : Str} {h' : Heap} (I : Inv X pins σ H s) (hN : X.N.Nodup) (hi : X.N[i]? = some n) (hs : Heap.SameBut X.env.locals s.heap h') (hn : ∀ m, s.heap.Ns X.env.locals m → ∃ v, h'.Ns X.env.locals fun x => if x = n then v else m x) :
    Inv X pins (σ.set i none) H { s with heap := h', toks := t } := by
  have nl : ∀ b o, X.s₀.heap.get? b = some o → b ≠ X.env.locals := fun b o e => Nat.ne_of_lt (Nat.lt_of_lt_of_le (Heap.lt_size e) I.ok.above)
  have tr : ∀ b u, H b = some u → b ≠ X.env.locals := fun b u e z => by rw [z, I.free] at e; cases e
  obtain ⟨m, hm, hl⟩ := id I.loc
  obtain ⟨v, hv⟩ := hn m hm
  refine ⟨I.ok, I.os, I.bare, ⟨fun b o e n hb hx => (hs.2 b (nl b o e)).trans (I.base.keep b o e n hb hx), fun b o e n hb hx => ?_, I.base.free, fun b o e hx => ?_, I.base.tups, I.base.frzs, I.base.tbls⟩, ⟨_, hv, fun j y w e1 e2 e3 => ?_⟩, fun y c e => ?_, I.free, I.freeC, fun p hp => ?_, fun b u e => ?_, by rw [List.length_set]; exact I.len⟩
  · obtain ⟨sl, q⟩ := I.base.slot b o e n hb hx
    exact ⟨sl, (hs.2 b (nl b o e)).trans q⟩
  · obtain ⟨o1, q⟩ := I.base.there b o e hx
    exact ⟨o1, (hs.2 b (nl b o e)).trans q⟩
  · have hj : j ≠ i := fun z => by
      subst z
      rw [List.getElem?_set] at e2
      split at e2
      · split at e2 <;> cases e2
      · exact absurd rfl (by assumption)
    rw [List.getElem?_set_ne (Ne.symm hj)] at e2
    obtain ⟨u, r, q⟩ := hl j y w e1 e2 e3
    refine ⟨u, r, ?_⟩
    rcases q with ⟨k, z⟩ | ⟨k, c, z, zc⟩
    · refine .inl ⟨k, ?_⟩
      have ny : y ≠ n := fun z => hj (nodup_ix hN e1 (z ▸ hi))
      show (if y = n then v else m y) = some u
      rw [if_neg ny]; exact z
    · exact .inr ⟨k, c, z, zc.sameBut hs (I.cne y c z)⟩
  · obtain ⟨w, z⟩ := I.cell y c e
    exact ⟨w, z.sameBut hs (I.cne y c e)⟩
  · obtain ⟨e, n, ne, nf, d⟩ := I.pin p hp
    exact ⟨(hs.2 p.1 ne).trans e, n, ne, nf, d⟩
  · refine (I.hok b u e).stay (fun c z hc q => (hs.2 c ?_).trans q) (fun _ q => q) fun _ _ q => q
    rcases hc with z | z
    · rw [z]; exact tr b u e
    · exact tr c _ z
end
def dropE (i : Nat) (D : Ends) : Ends := { nx := fun σ H => D.nx (σ.set i none) H, rt := D.rt, bk := fun σ H => D.bk (σ.set i none) H, ct := fun σ H => D.ct (σ.set i none) H }
def xAs (K : PySem.W.Frag) (Ch : Addr) (i : Nat) (ts : TS) (D : Ends) : St → XK := fun σ c _ H => ∃ C, c = .ref C ∧ PySem.W.kitCls K (.ref C) (.ref Ch) = some true ∧ ∀ e, H e = none → ts (dropE i D) (σ.set i (some (.ref e))) (upd H e (excO e C))
def tTryAs (K : PySem.W.Frag) (Ch : Addr) (i : Nat) (tb : (St → XK) → TS) (ts : TS) : TS := fun D σ H => tb (xAs K Ch i ts D) D σ H
section
variable {X : Cx} {y n : Str} {Ch : Addr} {i : Nat} {body suite : List Stmt} {b₀ : Stmt} {tb : (St → XK) → TS} {ts : TS} {np hpos pos : Pos}
theorem ps_tryAs (O : CatchC X.K X.mg y Ch) (hstk : X.stack = X.env :: X.outer) (hfr : X.env.frame = some X.env.locals) (nd : X.N.Nodup) (hi : X.N[i]? = some n) (hloc : X.env.scope.names.lookup n = some .local)
    (hb : ∀ (E : Value → Shared → Prop) (pn : List (Addr × Obj)) (Ex : St → XK), PassS (X.body E pn) Ex → PSs (X.body E pn) body (tb Ex)) (hs : ∀ e, PSs (X.sui e) (b₀ :: suite) ts) (hg : Gl X y := by rfl) (hdb : (y == ("__debug__" : Str)) = false := by decide) :
    PS X (.Try body [.ExceptHandler (some (.Name y np)) (some n) (b₀ :: suite) hpos] [] [] pos) (tTryAs X.K Ch i tb ts) := by
  intro pins s σ H D I h
  have ok := I.ok
  refine wpAny_Try_except (wpAny_mono (hb (fun e s₁ => wpAny (model X.prog X.w) X.A (noteFrame e X.env) (fun _ s₂ => wpAny (model X.prog X.w) X.A (setFlight e none) (fun _ s₃ => wpAny (model X.prog X.w) X.A (handleBy e X.env [.ExceptHandler (some (.Name y np)) (some n) (b₀ :: suite) hpos]) (SP X pins D) X.xe s₃) X.xe s₂) X.xe s₁)
    (X.pn ++ pins) (xAs X.K Ch i ts D) ?_ [] s σ H D (I.toBody _) h) (fun f s1 q => ?_) fun _ _ z => z)
  · intro pins2 σ2 H2 s2 e s3 I2 hcx
    have I2 := I2.ofBody ok
    obtain ⟨ea, c, H3, rfl, os, bare, un, hok, n0, n1, t, C, rfl, hk, hq⟩ := hcx
    obtain ⟨B, a0, hB, fl⟩ := fly_lib I2 os bare un hok n0 n1 t
    have fl' : Heap.FlyingW B (X.env :: X.outer) ea (.ref C) a0 s3.heap := by rw [← hstk]; exact fl
    refine wpAny_looks_onW (by rw [ok.frames, hstk]) hfr fl' fun h4 held up4 => wpAny_landsW held fun h5 fl5 up5 => ?_
    obtain ⟨u5, k5⟩ := fly_un I2 un hok hB fl5.1 (up4.trans up5)
    have J5 : Inv X pins σ2 H3 { s3 with heap := h5 } := I2.call' (ch := []) os u5 k5 bare fun b z => absurd z (by simp)
    have x5 : ExcAt ea C h5 := fl5.there
    refine wpAny_handleBy_cons (codeAny_handlers_test (ld_glob (X := X.sui ea) (J5.toSui ea) hg O.g ?_ hdb)) (by intro z; cases z)
    refine exc_match J5.kIn x5 hk O.mb (codeAny_handlers_suite_as (lands_againW fl5 fun h6 fl6 up6 => ?_))
    obtain ⟨u6, k6⟩ := fly_un I2 un hok hB fl6.1 ((up4.trans up5).trans up6)
    obtain ⟨u7, k7⟩ := fly_track u6 k6 n0 n1 fl6.there
    have J7 : Inv X pins σ2 (upd H3 ea (excO ea C)) { s3 with heap := h6 } := I2.call' (ch := []) os u7 k7 bare fun b z => absurd z (by simp)
    refine store_ok (X := X.sui ea) (v := .ref ea) (J7.toSui ea) nd hi (.inl hloc) rfl (fun s8 J8 => ?_) (.inr hloc)
    refine wpAny_mono (hs ea pins s8 _ _ (dropE i D) J8 (hq ea n1)) (fun f s9 q => ?_) fun _ _ z => False.elim z
    have fin : ∀ {σ9 : St} {H9 : Hp}, Inv (X.sui ea) pins σ9 H9 s9 → (∀ s10, Inv X pins (σ9.set i none) H9 s10 → SP X pins D f s10) → wpAny (model X.prog X.w) X.A (do bindName X.env n .none; unbindBehindTheSuite X.env n hpos) (fun _ s10 => SP X pins D f s10) X.xe s9 := fun {σ9 H9} J k => by
      have J' := J.ofSui ok
      obtain ⟨m, hm, _⟩ := id J'.loc
      refine wpAny_nameGoes_keeps hloc hm (by rw [ok.kind]; rfl) fun h10 v hn hsb => k _ (J'.gone nd hi hsb fun m2 hm2 => ?_)
      refine ⟨v, ?_⟩
      have e : m2 = m := by
        obtain ⟨o1, es1, ep1, a1, b1, c1, d1⟩ := hm
        obtain ⟨o2, es2, ep2, a2, b2, c2, d2⟩ := hm2
        rw [a1] at a2; cases a2
        rw [b1] at b2; cases b2
        funext z
        rw [← d1, ← d2]
      rw [e]; exact hn
    cases f with
    | next => obtain ⟨σ9, H9, J, q⟩ := q; exact fin J fun s10 K10 => ⟨_, _, K10, q⟩
    | brk => obtain ⟨σ9, H9, J, q⟩ := q; exact fin J fun s10 K10 => ⟨_, _, K10, q⟩
    | cont => obtain ⟨σ9, H9, J, q⟩ := q; exact fin J fun s10 K10 => ⟨_, _, K10, q⟩
    | ret u => obtain ⟨v, σ9, H9, J, r, q⟩ := q; exact fin J fun s10 K10 => ⟨v, _, _, K10, r, q⟩
  · cases f with
    | next => exact wpAny_execs_nil (SP.ofBody ok q)
    | ret u => exact SP.ofBody ok q
    | brk => exact SP.ofBody ok q
    | cont => exact SP.ofBody ok q
end
end L2
set_option Elab.async false
set_option linter.all false
set_option maxRecDepth 100000
namespace L2
open PySem PySem.Spec PyProof.Rows
def cxX (X : Cx) (XE : XK) (N : List Str) (scope : Scope) (C : Addr) (s₀ : Shared) (H₀ : Hp) (ex : List Addr) : Cx :=
  { cxC X N scope C s₀ H₀ ex with xe := fun e s' => ∃ pins σ H s, Inv (cxC X N scope C s₀ H₀ ex) pins σ H s ∧ CX1 X.prog X.w X.stack H s XE e s' }
theorem Inv.withX {X : Cx} {XE : XK} {N : List Str} {scope : Scope} {C : Addr} {s₀ : Shared} {H₀ : Hp} {ex : List Addr} {pins : List (Addr × Obj)} {σ : St} {H : Hp} {s : Shared} (I : Inv (cxC X N scope C s₀ H₀ ex) pins σ H s) : Inv (cxX X XE N scope C s₀ H₀ ex) pins σ H s :=
  ⟨⟨I.ok.mod, I.ok.kind, I.ok.glob, I.ok.blt, I.ok.above, I.ok.inj, I.ok.has, I.ok.cab, I.ok.hd, I.ok.frames, I.ok.stk, I.ok.exf, I.ok.bs, I.ok.bsz, I.ok.noex, I.ok.exfs, I.ok.funs, I.ok.frf⟩, I.os, I.bare, I.base, I.loc, I.cell, I.free, I.freeC, I.pin, I.hok, I.len⟩
theorem Inv.offX {X : Cx} {XE : XK} {N : List Str} {scope : Scope} {C : Addr} {s₀ : Shared} {H₀ : Hp} {ex : List Addr} {pins : List (Addr × Obj)} {σ : St} {H : Hp} {s : Shared} (I : Inv (cxX X XE N scope C s₀ H₀ ex) pins σ H s) : Inv (cxC X N scope C s₀ H₀ ex) pins σ H s :=
  ⟨⟨I.ok.mod, I.ok.kind, I.ok.glob, I.ok.blt, I.ok.above, I.ok.inj, I.ok.has, I.ok.cab, I.ok.hd, I.ok.frames, I.ok.stk, I.ok.exf, I.ok.bs, I.ok.bsz, I.ok.noex, I.ok.exfs, I.ok.funs, I.ok.frf⟩, I.os, I.bare, I.base, I.loc, I.cell, I.free, I.freeC, I.pin, I.hok, I.len⟩
theorem pass_x {X : Cx} {XE : XK} {N : List Str} {scope : Scope} {C : Addr} {s₀ : Shared} {H₀ : Hp} {ex : List Addr} : PassS (cxX X XE N scope C s₀ H₀ ex) fun _ => XE :=
  fun pins σ H s e s' I h => ⟨pins, σ, H, s, I.offX, h⟩
def CXc (X : Cx) (fp : List Addr) (C : Addr) (H : Hp) (s : Shared) (E : XK) (e : Value) (s' : Shared) : Prop :=
  ∃ (ea : Addr) (c : Value) (H' : Hp) (m : Str → Option Value), e = .ref ea ∧ s'.os = s.os ∧ AllBare s'.gens ∧ Un (frs X.stack) fp H H' s.heap s'.heap ∧ HOk X.prog X.w H' s'.heap ∧ (s.heap.get? ea = none ∨ ea ∈ fp) ∧ H' ea = none ∧ ea ≠ C ∧
    H' C = none ∧ s'.heap.Ns C m ∧ Noted (fun T => (s.heap.get? T = none ∨ T ∈ fp) ∧ H' T = none ∧ T ≠ C) s'.heap ea c ∧ E c none H'
theorem cxc_of {X : Cx} {N : List Str} {scope : Scope} {C : Addr} {H : Hp} {s : Shared} {fp : List Addr} {pins : List (Addr × Obj)} {σ1 : St} {H1 : Hp} {s1 s' : Shared} {e : Value} {E : XK} {D : Nat} (hDC : D < C) (hfr : ∀ b ∈ frs X.stack, b < D)
    (J : Inv (cxC X N scope C s H fp) pins σ1 H1 s1) (h : CX1 X.prog X.w X.stack H1 s1 E e s') : CXc X fp C H s E e s' := by
  obtain ⟨ea, c, H', he, os, bare, un, hok, n0, n1, ⟨oe, oT, vs, ts, a0, T, h0, h1, h2, h3, h4, ⟨h5, h5'⟩, h6⟩, hE⟩ := h
  obtain ⟨m, hns, _⟩ := J.loc
  have hns' : s1.heap.Ns C m := hns
  have b1 : Un (frs X.stack) fp H H1 s.heap s1.heap := J.base
  have nC : C ∉ frs X.stack := fun z => Nat.lt_irrefl _ (Nat.lt_trans (hfr C z) hDC)
  have hC1 : H1 C = none := J.free
  obtain ⟨o, es, ep, ho, r⟩ := hns'
  have kC := un.keep C o ho hC1 nC (by simp)
  have new : ∀ b, s1.heap.get? b = none → s.heap.get? b = none ∨ b ∈ fp := fun b e => by
    by_cases hb : b ∈ fp
    · exact .inr hb
    · left
      cases q : s.heap.get? b with
      | none => rfl
      | some o => obtain ⟨o1, e1⟩ := b1.there b o q hb; rw [e] at e1; cases e1
  have neC : ∀ b, s1.heap.get? b = none → b ≠ C := fun b e z => by rw [z, ho] at e; cases e
  exact ⟨ea, c, H', m, he, os.trans J.os, bare, b1.trans (un.mono (fun _ z => z) (by simp)), hok, new ea n0, n1, neC ea n0, un.free C o ho hC1 (by simp), ⟨o, es, ep, kC, r⟩, ⟨oe, oT, vs, ts, a0, T, h0, h1, h2, h3, h4, ⟨new T h5, h5', neC T h5⟩, h6⟩, hE⟩
def PassC (X : Cx) (E : XK) : Prop := ∀ (pins : List (Addr × Obj)) (σ : St) (H : Hp) (s : Shared) (fp : List Addr) (C : Addr) (e : Value) (s' : Shared), Inv X pins σ H s → (∀ b ∈ fp, FpOk X pins H b) → s.heap.objs.size ≤ C → CXc X fp C H s E e s' →
  notedBy (model X.prog X.w) X.A X.env (fun e s1 => ∃ m, s1.heap.Ns C m ∧ ∀ h', Heap.SameBut C s1.heap h' → ∀ cenv : Env, cenv.frame = X.env.frame → wpAny (model X.prog X.w) X.A (passOn "comprehension.variables-let-go" e cenv : Sem Value) (fun _ _ => False) X.xe { s1 with heap := h' }) e s'
section
variable {X : Cx} {elt iter : Expr} {ifs : List Expr} {x : Str} {px pos : Pos} {scope : Scope} {ys : List Str} {js : List Nat} {wi : TI} {tt : TT} {te : TE}
theorem comp_blockX {XE : XK} {pins : List (Addr × Obj)} {σ : St} {H : Hp} {s : Shared} {J : It} {fp : List Addr} {it : Addr} {tn : Nat → Heap → Prop} {Q : VK} {E : Value → Shared → Prop} {R : Value → Addr → Result → Shared → Prop}
    (S : CScope X.env.scope scope x X.N ys js) (hc : X.calm = true) (ht : ∀ C s₀ H₀ ex, PTs (cxX X XE (x :: ys) scope C s₀ H₀ ex) ifs tt) (he : ∀ C s₀ H₀ ex, PE (cxX X XE (x :: ys) scope C s₀ H₀ ex) elt te)
    (I : Inv X pins σ H s) (T : Turn X.prog X.w X.K (.Name x px) J fp it tn) (st : tn 0 s.heap) (hf : ∀ b ∈ fp, FpOk X pins H b)
    (hw : ∃ W : Nat → Nat → List V → Hp → Prop, (∃ m, W 0 m [] H) ∧ ∀ i m zs H, W i m zs H →
      (J.stop i H ∧ ∀ D, H D = none → Q (.ref D) (upd H D (.lst zs))) ∨
      (J.go i H ∧ zs.length < sizeLine ∧ ∃ N : List V → Hp → Prop, (∀ ys' H', N ys' H' → ∃ m', m' < m ∧ W (i + 1) m' ys' H') ∧ ∀ x H', J.yld i H x H' → tt (some x :: capt js σ) H' fun b H2 => if b = true then te (some x :: capt js σ) H2 fun v H3 => N (zs ++ [v]) H3 else N zs H2))
    (hR : ∀ D C s' H' m', Inv X pins σ H' s' → Q (.ref D) H' → s.heap.objs.size ≤ C → H' C = none → s'.heap.Ns C m' → R (.ref D) C (.ok .next) s')
    (hE : ∀ D C e s', s.heap.objs.size ≤ C → CXc X fp C H s XE e s' → notedBy (model X.prog X.w) X.A X.env (fun e s1 => R (.ref D) C (.error e) s1) e s') :
    wpAny (model X.prog X.w) X.A (newList []) (fun acc s₃ => wpAny (model X.prog X.w) X.A (newFunctionEnv scope X.env.globals (closOf X.env.cells scope.names []) [] X.env.qual none .none (some X.env)) (fun cenv s₄ => cenv.frame = X.env.frame ∧
      codeAny (model X.prog X.w) X.A (.compStart (.ListComp elt [⟨.Name x px, iter, ifs, 0⟩] scope pos) 0 (.ref it) acc { cenv with scope := relabel scope X.env }) (R acc cenv.locals) s₄) E s₃) E s := by
  obtain ⟨W, ⟨m0, w0⟩, turn⟩ := hw
  refine wpAny_newObj_type (wpAny_newFunctionEnv S.cell (by intro y hy; simp at hy) (fun h₁ hns₁ hsb₁ => ?_) S.kind)
  dsimp only at hns₁ hsb₁ ⊢
  generalize hH2 : s.heap.push { cls := .type "list", dict := none, data := .seq ([] : List Value).toArray } = G at hns₁ hsb₁ ⊢
  generalize hD : s.heap.objs.size = D at *
  generalize hCe : G.objs.size = C at *
  have hC : C = D + 1 := by rw [← hCe, ← hH2, Heap.size_push, hD]
  have hDlt : D < C := by rw [hC]; exact Nat.lt_succ_self D
  have hDC : D ≠ C := Nat.ne_of_lt hDlt
  have old : ∀ b o, s.heap.get? b = some o → h₁.get? b = some o := fun b o e => by
    have hb : b < D := hD ▸ Heap.lt_size e
    exact (hsb₁.2 b (Nat.ne_of_lt (Nat.lt_trans hb hDlt))).trans (Heap.get?_push_of_some _ (hH2 ▸ Heap.get?_push_of_some _ e))
  have hacc : h₁.get? D = some { cls := .type "list", data := .seq ([] : List Value).toArray 0 } := by
    refine (hsb₁.2 D hDC).trans (Heap.get?_push_of_some _ ?_)
    rw [← hH2, ← hD]
    exact Heap.get?_push_size _ rfl
  have obj0 := T.obj 0 _ st
  have fplt : ∀ b ∈ fp, b < D := fun b hb => by obtain ⟨o, e, _⟩ := obj0 b hb; exact hD ▸ Heap.lt_size e
  generalize hX : cxX X XE (x :: ys) scope C s H fp = X'
  have I1 : Inv X' [] (none :: capt js σ) H { s with heap := h₁, toks := s.toks + ([] : List (Str × Value)).length } := by
    subst hX
    exact (inv_comp I S hf (fun b hb => by obtain ⟨o, e, _⟩ := obj0 b hb; exact ⟨o, e⟩) (by omega) old (by simpa using hns₁)).withX
  have eP : X'.prog = X.prog := by subst hX; rfl
  have eW : X'.w = X.w := by subst hX; rfl
  have eK : X'.K = X.K := by subst hX; rfl
  have eA : X'.A = X.A := by subst hX; rfl
  have eC : X'.calm = true := by subst hX; exact hc
  have eL : X'.env.locals = C := by subst hX; rfl
  have eS : X'.s₀ = s := by subst hX; rfl
  have eN : X'.N = x :: ys := by subst hX; rfl
  have eE : X'.env = compEnvC scope (closOf X.env.cells scope.names []) C X.env := by subst hX; rfl
  have eX : X'.ex = fp := by subst hX; rfl
  have ePn : X'.pn = [] := by subst hX; rfl
  have efs : ∀ b, b ∈ X'.fs → b ∈ frs X.stack := fun b z => by subst hX; exact z
  have cellLt : ∀ y c, X'.env.cells.lookup y = some c → c < D := fun y c e => by
    have e' : (closOf X.env.cells scope.names []).lookup y = some c := by rw [eE] at e; exact e
    obtain ⟨v, o, e2, _⟩ := I.cell y c (closOf_sub (fun _ _ z => by simp at z) e')
    exact hD ▸ Heap.lt_size e2
  have frLt : ∀ b, b ∈ X'.fs → b < D := fun b z => by
    rcases List.mem_cons.mp (I.stkSub b (efs b z)) with e | e
    · rw [e]; exact hD ▸ I.lt
    · exact Nat.lt_of_not_le fun h => I.nofs (hD ▸ h) e
  have fpOk : ∀ (p : List (Addr × Obj)) (H' : Hp), (∀ b ∈ fp, H' b = none) → (∀ q ∈ p, q.1 = D) → ∀ b ∈ fp, FpOk X' p H' b := fun p H' hn hp b hb => by
    refine ⟨hn b hb, ?_, fun z => ?_, .inl (eX ▸ hb), fun y c e => ?_, fun q hq => ?_⟩
    · rw [eL]; exact Nat.ne_of_lt (Nat.lt_trans (fplt b hb) hDlt)
    · rcases List.mem_cons.mp (I.stkSub b (efs b z)) with e | e
      · exact (hf b hb).2.1 e
      · exact (hf b hb).2.2.1 e
    · have e' : (closOf X.env.cells scope.names []).lookup y = some c := by rw [eE] at e; exact e
      exact (hf b hb).2.2.2.2.1 y c (closOf_sub (fun _ _ z => by simp at z) e')
    · rw [ePn, List.nil_append] at hq
      rw [hp q hq]; exact Nat.ne_of_gt (fplt b hb)
  have noCell : ∀ (its : List Value) (k : Nat) v, ({ cls := .type "list", data := .seq its.toArray k } : Obj).data ≠ .cell v := fun its k v z => by cases z
  have done : ∀ {zs : List V} {its : List Value} {k : Nat} {H' : Hp} {s' : Shared}, Inv X' [] (none :: capt js σ) H' s' → s'.heap.get? D = some { cls := .type "list", data := .seq its.toArray k } → Vals zs its → H' D = none → zs.length ≤ sizeLine →
      (∀ D, H' D = none → Q (.ref D) (upd H' D (.lst zs))) → R (.ref D) C (.ok .next) s' := fun {zs its k H' s'} I' hd hv hn hz q => by
    have un := I'.base
    obtain ⟨m', hns, _⟩ := I'.loc
    rw [eL] at hns
    have hCn : H' C = none := by have := I'.free; rw [eL] at this; exact this
    have hH0 : X'.H₀ = H := by subst hX; rfl
    rw [hH0, eS, eX] at un
    have un2 : Un (frs X.stack) fp H (upd H' D (.lst zs)) s.heap s'.heap := by
      have ne : ∀ b o, s.heap.get? b = some o → b ≠ D := fun b o e => Nat.ne_of_lt (hD ▸ Heap.lt_size e)
      have un' : Un (frs X.stack) fp H H' s.heap s'.heap := by subst hX; exact un
      exact ⟨un'.keep, un'.slot, fun b o e n hx => by rw [upd_ne (ne b o e)]; exact un'.free b o e n hx, un'.there, fun b xs e => by rw [upd_ne (ne_of_none (un'.tups b xs e) hn)]; exact un'.tups b xs e,
        fun b o u e => by rw [upd_ne (ne_of_none (un'.frzs b o u e) hn)]; exact un'.frzs b o u e, fun b ps e => by
          obtain ⟨more, z⟩ := un'.tbls b ps e
          exact ⟨more, by rw [upd_ne (ne_of_none z hn)]; exact z⟩⟩
    have hok : HOk X.prog X.w (upd H' D (.lst zs)) s'.heap := by
      have h0 := I'.hok
      rw [eP, eW] at h0
      exact h0.track hn ⟨hz, its, k, hv, hd⟩
    have I2 : Inv X pins σ (upd H' D (.lst zs)) s' := I.call' (by have := I'.os; rw [eS] at this; exact this) un2 hok I'.bare fun b hb => ⟨(hf b hb).2.2.2.1, (hf b hb).2.1, (hf b hb).2.2.2.2.1, (hf b hb).2.2.2.2.2⟩
    exact hR D C s' _ m' I2 (q D hn) (by omega) (by rw [upd_ne (Ne.symm hDC)]; exact hCn) hns
  have loop : codeAny (model X.prog X.w) X.A (.compLoop (.ListComp elt [⟨.Name x px, iter, ifs, 0⟩] scope pos) 0 (.ref it) (.ref D) X'.env) (R (.ref D) C) { s with heap := h₁, toks := s.toks + ([] : List (Str × Value)).length } := by
    refine codeAny_compLoop_tests (fun n s' => ∃ i zs its k H', Inv X' [] (none :: capt js σ) H' s' ∧ tn i s'.heap ∧ (∀ b ∈ fp, H' b = none) ∧ s'.heap.get? D = some { cls := .type "list", data := .seq its.toArray k } ∧ Vals zs its ∧ H' D = none ∧ zs.length ≤ sizeLine ∧ W i n zs H')
      ?_ m0 ⟨0, [], [], 0, H, I1, T.keep _ _ _ st (fun b hb o e => old b o e), fun b hb => (hf b hb).1, hacc, .nil, I.hok.fresh (by omega), Nat.zero_le _, w0⟩ (fun _ => rfl)
    rintro n s3 ⟨i, zs, its, k, H3, I3, st3, fr3, d3, v3, n3, z3, w3⟩
    have pinD : Inv X' [(D, { cls := .type "list", data := .seq its.toArray k })] (none :: capt js σ) H3 s3 := I3.pins_of fun p hp => by
      have e : p = (D, { cls := .type "list", data := .seq its.toArray k }) := by simpa using hp
      subst e
      exact ⟨d3, n3, by rw [eL]; exact hDC, fun z => Nat.lt_irrefl _ (frLt D z), noCell its k⟩
    have hpD : ∀ q ∈ [(D, ({ cls := .type "list", data := .seq its.toArray k } : Obj))], q.1 = D := fun q hq => by
      have e : q = (D, { cls := .type "list", data := .seq its.toArray k }) := by simpa using hq
      rw [e]
    rcases turn i n zs H3 w3 with ⟨stop, qn⟩ | ⟨go, hzl, NN, hNN, step⟩
    · refine thn (eA ▸ T.done X' eP eW eK eC i _ s3 _ H3 _ pinD (fpOk _ _ fr3 hpD) st3 stop) fun r s4 ⟨hr, I4⟩ => ?_
      subst hr
      exact done (I4.pins_of fun p hp => absurd hp (by simp)) (I4.pin (D, { cls := .type "list", data := .seq its.toArray k }) (List.mem_append_right _ (by simp))).1 v3 n3 z3 qn
    · refine thn (eA ▸ T.item X' eP eW eK eC i _ s3 _ H3 _ pinD (fpOk _ _ fr3 hpD) st3 go) fun r s4 ⟨u, hr, h4⟩ => ?_
      subst hr
      refine from_pure (a := ()) h4 fun ⟨v, H5, I5, r5, y5, st5, fr5⟩ => ?_
      have I5' := I5.pinned (fpOk _ _ fr5 hpD) (T.obj _ _ st5)
      have ev : ∀ {α : Type} {t : Sem α} {Q' : α → Shared → Prop} {s' : Shared}, wpAny (model X'.prog X'.w) X'.A t Q' X'.xe s' → wpAny (model X.prog X.w) X.A t Q' (notedBy (model X.prog X.w) X.A X'.env fun e s' => R (.ref D) C (.error e) s') s' := fun {α t Q' s'} hh => by
        rw [eP, eW, eA] at hh
        exact wpAny_mono hh (fun _ _ q => q) fun e s9 z => by
          subst hX
          obtain ⟨p1, σ1, H1, s1, J1, c1⟩ := z
          exact hE D C e s9 (by omega) (cxc_of (by omega) (fun b hb => frLt b hb) J1 c1)
      refine ev (thn (pg_name (X := X') (i := 0) (by rw [eN]; exact S.nd) (by rw [eN]; rfl) (.inl (by rw [eE]; exact lookup_relabel_local S.var)) (.inr (by rw [eE]; exact lookup_relabel_local S.var)) _ s4 _ H5 v u (fun σ' H' => σ' = some v :: capt js σ ∧ H' = H5) I5' r5 ⟨rfl, rfl⟩) fun _ s6 ⟨σ6, H6, I6, e6, e6'⟩ => ?_)
      subst e6 e6'
      have back : ∀ {σ' : St} {H7 : Hp} {s7 : Shared}, Inv X' ([(D, { cls := .type "list", data := .seq its.toArray k })] ++ pinsAt fp s4.heap) (some v :: capt js σ) H7 s7 → Inv X' [] (none :: capt js σ) H7 s7 := fun {_ H7 s7} I7 => by
        refine (I7.pins_of fun p hp => absurd hp (by simp)).weak rfl fun i v' e => ?_
        cases i with
        | zero => simp at e
        | succ i => simpa using e
      have fps : ∀ {σ' : St} {H7 : Hp} {s7 : Shared}, Inv X' ([(D, { cls := .type "list", data := .seq its.toArray k })] ++ pinsAt fp s4.heap) σ' H7 s7 → (∀ b ∈ fp, H7 b = none) ∧ (∀ b ∈ fp, ∀ o, s4.heap.get? b = some o → s7.heap.get? b = some o) ∧ s7.heap.get? D = some { cls := .type "list", data := .seq its.toArray k } ∧ H7 D = none := fun {σ' H7 s7} I7 => by
        have g : ∀ b ∈ fp, ∀ o, s4.heap.get? b = some o → s7.heap.get? b = some o ∧ H7 b = none := fun b hb o e => by
          have z := I7.pin (b, o) (List.mem_append_right _ (List.mem_append_right _ (mem_pinsAt hb e)))
          exact ⟨z.1, z.2.1⟩
        refine ⟨fun b hb => ?_, fun b hb o e => (g b hb o e).1, (I7.pin (D, { cls := .type "list", data := .seq its.toArray k }) (List.mem_append_right _ (by simp))).1, (I7.pin (D, { cls := .type "list", data := .seq its.toArray k }) (List.mem_append_right _ (by simp))).2.1⟩
        obtain ⟨o, e, _⟩ := T.obj _ _ st5 b hb
        exact (g b hb o e).2
      have hte : PTs X' ifs tt := hX ▸ ht C s H fp
      have hee : PE X' elt te := hX ▸ he C s H fp
      refine ev (thn (hte _ s6 _ H6 _ I6 (step v H6 y5)) fun b s7 ⟨H7, I7, q7⟩ => ?_)
      cases b with
      | false =>
        rw [if_neg Bool.false_ne_true]
        rw [if_neg Bool.false_ne_true] at q7
        obtain ⟨m', hm, w7⟩ := hNN _ _ q7
        obtain ⟨g1, g2, g3, g4⟩ := fps I7
        exact ⟨m', hm, i + 1, zs, its, k, H7, back (σ' := []) I7, T.keep _ _ _ st5 g2, g1, g3, v3, g4, z3, w7⟩
      | true =>
        rw [if_pos rfl]
        rw [if_pos rfl] at q7
        refine ev (thn (hee _ s7 _ H7 _ I7 q7) fun u8 s8 ⟨v8, H8, I8, r8, q8⟩ => ?_)
        obtain ⟨m', hm, w8⟩ := hNN _ _ q8
        obtain ⟨g1, g2, g3, g4⟩ := fps I8
        have hil := v3.length
        refine call_meets F.slot_list_append ⟨_, g3, rfl⟩ F.entry_list_append (F.args_list_append_2 _ _) (PySem.list_append D its.toArray k u8 (by rw [List.size_toArray]; omega)) ⟨g3, ?_⟩
        have q := PySem.IsL.update g3 (fun a => a.push u8)
        have ea : its.toArray.push u8 = (its ++ [u8]).toArray := by simp
        rw [ea] at q
        have kk : ∀ b o, b ≠ D → s8.heap.get? b = some o → (s8.heap.update D (Obj.mapSeq fun a => a.push u8)).get? b = some o := fun b o hb e => (Heap.get?_update_other _ _ (Ne.symm hb)).trans e
        have I9 : Inv X' [] (none :: capt js σ) H8 { s8 with heap := s8.heap.update D (Obj.mapSeq fun a => a.push u8), toks := s8.toks } := by
          refine (back (σ' := []) I8).turned kk g4 (by rw [eL]; exact hDC) (.inr (by rw [eS]; omega)) (fun y c e => Nat.ne_of_lt (cellLt y c e)) fun p hp => ?_
          rw [ePn] at hp
          exact absurd hp (by simp)
        refine ⟨m', hm, i + 1, zs ++ [v8], its ++ [u8], _, H8, I9, T.keep _ _ _ st5 (fun b hb o e => kk b o (Nat.ne_of_lt (fplt b hb)) (g2 b hb o e)), g1, q, v3.append (.cons r8 .nil), g4, ?_, w8⟩
        rw [List.length_append, List.length_singleton]
        omega
  rw [eE] at loop
  exact ⟨rfl, codeAny_compStart_list loop (T.self _ 0 _ _ _ (T.keep _ _ _ st (fun b hb o e => old b o e)) loop)⟩
def postX (M : Model) (A : Around) (env : Env) (E : Value → Shared → Prop) (Q : Value → Shared → Prop) (acc : Value) (C : Addr) (r : Result) (s' : Shared) : Prop :=
  match r with
  | .ok _ => ∃ m, s'.heap.Ns C m ∧ ∀ h', Heap.SameBut C s'.heap h' → Q acc { s' with heap := h' }
  | .error x => ∃ m, s'.heap.Ns C m ∧ ∀ h', Heap.SameBut C s'.heap h' → ∀ cenv : Env, cenv.frame = env.frame → wpAny M A (passOn "comprehension.variables-let-go" x cenv : Sem Value) (fun _ _ => False) E { s' with heap := h' }
theorem comp_freeX {M : Model} {A : Around} {E : Value → Shared → Prop} {s : Shared} {env : Env} {e : Expr} {scope : Scope} {pos : Pos} {newAcc first : Sem Value} {g : Comprehension} {gs : List Comprehension} {cl : List (Str × Addr)} {Q : Value → Shared → Prop}
    (h1 : clausesOf e = g :: gs) (h2 : ∀ x, foldedSetIterable g.iter env x = pure x) (h3 : closureFor scope env = pure cl) (h4 : scope.kind = .function) (h5 : ∀ x ∈ scope.names, x.2 = .local → scope.names.lookup x.1 = some .local)
    (h : wpAny M A first (fun x s₁ => wpAny M A (pyIter x) (fun it s₂ => wpAny M A newAcc (fun acc s₃ => wpAny M A (newFunctionEnv scope env.globals cl [] env.qual none .none (some env)) (fun cenv s₄ => cenv.frame = env.frame ∧
      codeAny M A (.compStart e 0 it acc { cenv with scope := relabel scope env }) (postX M A env E Q acc cenv.locals) s₄) E s₃) E s₂) E s₁) E s) : wpAny M A (comprehension e scope env pos newAcc false first none) Q E s := by
  unfold comprehension
  rw [h3, h1]
  refine wpAny_bind (thn h fun x s₁ k₁ => wpAny_bind (wpAny_standAt (wpAny_bind (wpAny_of_eq (h2 x) (wpAny_bind (wpAny_holding (thn k₁ fun it s₂ k₂ => wpAny_standIf (wpAny_bind (thn k₂ fun acc s₃ k₃ => wpAny_bind (wpAny_pure (wpAny_bind (thn k₃ fun cenv s₄ k₄ => ?_))))))))))))
  dsimp only
  have hv : ∀ x ∈ (scope.names.filter fun x => (x.2 == .local || x.2 == .cell) && x.1 != (".0" : Str)).reverse, x.2 = .local → Env.kindOf { cenv with scope := relabel scope env } x.1 = some .local :=
    fun x hx hl => lookup_relabel_local (h5 x (List.mem_filter.mp (List.mem_reverse.mp hx)).1 hl)
  refine wpAny_holding (wpAny_bind (wpAny_attempt (wpAny_holding (wpAny_run (codeAny_mono k₄.2 fun r s' hr => ?_)))))
  cases r with
  | ok f =>
    obtain ⟨m, hn, hr⟩ := hr
    exact wpAny_bind (wpAny_holding (wpAny_comp_letGo (cenv := { cenv with scope := relabel scope env }) h4 _ s' m hv hn fun h' m' _ hs' => wpAny_pure (hr h' hs')))
  | error x =>
    obtain ⟨m, hn, hr⟩ := hr
    exact wpAny_bind (wpAny_holding (wpAny_comp_letGo (cenv := { cenv with scope := relabel scope env }) h4 _ s' m hv hn fun h' m' _ hs' => wpAny_mono (hr h' hs' _ k₄.1) (fun _ _ f => f.elim) fun _ _ y => y))
theorem pe_compX {XE : XK} (S : CScope X.env.scope scope x X.N ys js) (hc : X.calm = true) (hp : PassC X XE) (hi : PI X (.Name x px) iter wi) (ht : ∀ C s₀ H₀ ex, PTs (cxX X XE (x :: ys) scope C s₀ H₀ ex) ifs tt) (he : ∀ C s₀ H₀ ex, PE (cxX X XE (x :: ys) scope C s₀ H₀ ex) elt te)
    (hs : ∀ x, foldedSetIterable iter X.env x = pure x := by intro _; rfl) : PE X (.ListComp elt [⟨.Name x px, iter, ifs, 0⟩] scope pos) (tComp wi js tt te) := by
  intro pins s σ H Q I h
  rw [eval_ListComp]
  refine comp_freeX rfl hs (closureFor_eq fun y hy e => I.ok.has _ (S.free y hy e)) S.kind S.loc (thn (hi pins s σ H _ I h) fun v s1 h1 => thn h1 fun itv s2 h2 => ?_)
  obtain ⟨it, fp, tn, J, H2, e, I2, T, st2, f2, hw⟩ := h2
  subst e
  refine comp_blockX (Q := Q) (XE := XE) (R := fun acc C => postX (model X.prog X.w) X.A X.env X.xe (EP X pins σ Q) acc C) S hc ht he I2 T st2 f2 hw ?_ ?_
  · intro D C s' H' m' I' q hC hn hns
    refine ⟨m', hns, fun h' hs' => ⟨.ref D, H', ?_, rfl, q⟩⟩
    have e := I2.fpOk hC hn
    exact I'.turned (t' := s'.toks) (fun b o hb e => (hs'.2 b hb).trans e) hn e.2.1 e.2.2.2.1 e.2.2.2.2.1 e.2.2.2.2.2
  · intro D C e s' hC hx
    exact hp pins σ H2 s2 fp C e s' I2 f2 hC hx
end
theorem setFlight_held {M : Model} {A : Around} {E : Value → Shared → Prop} {s : Shared} {B : Heap} {l : List Env} {e L : Addr} {c a0 : Value} {Q : Unit → Shared → Prop} (hh : Heap.HeldW B l e c a0 L s.heap) (h : ∀ h', Heap.HeldW B l e c a0 L h' → s.heap.UpToSlots h' → Q () { s with heap := h' }) :
    wpAny M A (setFlight (.ref e) (some L)) Q E s := by
  obtain ⟨f1, f2, f3, oe, vs, T, oT, ts, he, hcl, hd, h1, hnT, hTe, hT, hdT, h3⟩ := hh
  have z3 : 3 < ts.size := (Array.getElem?_eq_some_iff.mp h3).1
  unfold setFlight
  refine wpAny_bind (wpAny_field he hd h1 ?_)
  rw [if_pos (show (Value.ref T != Value.none) = true from by simp)]
  refine wpAny_setField hT hdT z3 ?_
  generalize hg : s.heap.update T (Obj.mapFields (·.setIfInBounds 3 ((some L).elim Value.none fun f => rawInt f))) = g
  have oth : ∀ b, b ≠ T → g.get? b = s.heap.get? b := fun b hb => by rw [← hg]; exact Heap.get?_update_other _ _ (Ne.symm hb)
  have nr : ∀ b o, s.heap.get? b = some o → (∀ vs, o.data ≠ .fields vs) → b ≠ T := fun b o hb hnf q => by rw [q, hT] at hb; cases hb; exact hnf ts hdT
  refine h g ⟨fun b o hbo => (oth b fun q => by rw [q, hnT] at hbo; cases hbo).trans (f1 b o hbo), f2, f3.of_keeps fun b o hb hnf => ⟨o, (oth b (nr b o hb hnf)).trans hb, rfl⟩, ?_⟩ fun b o hb hn => ⟨o.slots, (oth b (nr b o hb hn)).trans hb⟩
  refine ⟨oe, vs, T, _, _, (oth e (Ne.symm hTe)).trans he, hcl, hd, h1, hnT, hTe, by rw [← hg]; exact Heap.get?_update_self _ hT (Obj.isFreed_of_fields (Obj.data_mapFields hdT _)), Obj.data_mapFields hdT _, by simp [z3]⟩
def UpF (l : List Env) (h h' : Heap) : Prop := ∀ b ∈ frs l, ∀ o, h.get? b = some o → (∀ vs, o.data ≠ .fields vs) → ∃ sl, h'.get? b = some { o with slots := sl }
theorem UpF.trans {l : List Env} {h1 h2 h3 : Heap} (x : UpF l h1 h2) (y : UpF l h2 h3) : UpF l h1 h3 := fun b hb o e hn =>
  let ⟨_, e1⟩ := x b hb o e hn; let ⟨sl, e2⟩ := y b hb _ e1 hn; ⟨sl, e2⟩
theorem UpF.of {l : List Env} {h h' : Heap} (x : h.UpToSlots h') : UpF l h h' := fun b _ o e hn => x b o e hn
theorem UpF.frames {B h h' : Heap} : ∀ {l : List Env}, UpF l h h' → h.FunFrames B l → h'.FunFrames B l
  | [], _, _ => trivial
  | env :: r, u, ⟨hk, ⟨L, o, hf, hn, ho, hd⟩, hr⟩ => by
    have m : ∀ b, b ∈ frs r → b ∈ frs (env :: r) := fun b hb => by unfold frs; rw [List.filterMap_cons, hf]; exact List.mem_cons_of_mem _ hb
    obtain ⟨sl, e⟩ := u L (by unfold frs; rw [List.filterMap_cons, hf]; exact List.mem_cons_self) o ho hd
    exact ⟨hk, ⟨L, _, hf, hn, e, hd⟩, UpF.frames (fun b hb => u b (m b hb)) hr⟩
section
variable {X : Cx} {pins : List (Addr × Obj)} {σ : St} {H H' : Hp} {s s' : Shared} {h' B : Heap} {ea : Addr} {c a0 : Value} {fp : List Addr}
def Holdsc (X : Cx) (fp : List Addr) (H' : Hp) (s s' : Shared) (B : Heap) : Prop := ∀ b o, s'.heap.get? b = some o → (((∃ u, s.heap.get? b = some u) ∧ b ∉ fp) ∨ H' b ≠ none) → b ∉ frs X.stack → B.get? b = some o
theorem flc_free (I : Inv X pins σ H s) (hf : ∀ b ∈ fp, b ∉ frs X.stack) (un : Un (frs X.stack) fp H H' s.heap s'.heap) : ∀ b ∈ frs X.stack, H' b = none := fun b hb => by
  obtain ⟨_, o, ho, _⟩ := I.stack.mem hb
  exact un.free b o ho (I.stkFree b hb) fun z => hf b z hb
theorem flc_un (I : Inv X pins σ H s) (hf : ∀ b ∈ fp, b ∉ frs X.stack) (un : Un (frs X.stack) fp H H' s.heap s'.heap) (hok : HOk X.prog X.w H' s'.heap) (hB : Holdsc X fp H' s s' B) (st : B.StaysIn h') (up : UpF X.stack s'.heap h') :
    Un (frs X.stack) fp H H' s.heap h' ∧ HOk X.prog X.w H' h' := by
  have fr := flc_free I hf un
  have sl : ∀ b o, s.heap.get? b = some o → b ∈ frs X.stack → ∃ q, h'.get? b = some { o with slots := q } := fun b o e hb => by
    obtain ⟨_, o2, ho, hd⟩ := I.stack.mem hb
    rw [e] at ho; cases ho
    obtain ⟨q, e1⟩ := un.slot b o e (I.stkFree b hb) hb fun z => hf b z hb
    obtain ⟨q2, e2⟩ := up b hb _ e1 hd
    exact ⟨q2, e2⟩
  refine ⟨⟨fun b o e n hb hx => ?_, fun b o e _ hb _ => sl b o e hb, fun b o e n hx => un.free b o e n hx, fun b o e hx => ?_, un.tups, un.frzs, un.tbls⟩, fun a o e => ?_⟩
  · exact st b o (hB b o (un.keep b o e n hb hx) (.inl ⟨⟨o, e⟩, hx⟩) hb)
  · by_cases hb : b ∈ frs X.stack
    · obtain ⟨q, e1⟩ := sl b o e hb
      exact ⟨_, e1⟩
    · obtain ⟨o1, e1⟩ := un.there b o e hx
      exact ⟨o1, st b o1 (hB b o1 e1 (.inl ⟨⟨o, e⟩, hx⟩) hb)⟩
  · refine (hok a o e).stay (fun b u hc q => ?_) (fun _ q => q) fun _ _ q => q
    have nb : H' b ≠ none := by
      rcases hc with z | z
      · rw [z, e]; intro z2; cases z2
      · rw [z]; intro z2; cases z2
    exact st b u (hB b u q (.inr nb) fun hb => nb (fr b hb))
theorem flc_out {E : XK} (I : Inv X pins σ H s) (hx : X.ex = []) (hfo : ∀ b ∈ fp, FpOk X pins H b) (os : s'.os = s.os) (bare : AllBare s'.gens) (un : Un (frs X.stack) fp H H' s.heap s'.heap) (hok : HOk X.prog X.w H' s'.heap) (n0 : s.heap.get? ea = none ∨ ea ∈ fp) (n1 : H' ea = none)
    (hB : Holdsc X fp H' s s' B) (st : B.StaysIn h') (t : h'.TracedW B ea c a0) (up : UpF X.stack s'.heap h') (hE : E c none H') : CX1 X.prog X.w X.outer X.H₀ X.s₀ E (.ref ea) { s' with heap := h' } := by
  have hf : ∀ b ∈ fp, b ∉ frs X.stack := fun b hb z => by
    rcases List.mem_cons.mp (I.stkSub b z) with e | e
    · exact (hfo b hb).2.1 e
    · exact (hfo b hb).2.2.1 e
  obtain ⟨u1, k1⟩ := flc_un I hf un hok hB st up
  have J : Inv X pins σ H' { s' with heap := h' } := I.call' (ch := fp) os u1 k1 bare fun b hb => ⟨(hfo b hb).2.2.2.1, (hfo b hb).2.1, (hfo b hb).2.2.2.2.1, (hfo b hb).2.2.2.2.2⟩
  have off : ∀ b, (s.heap.get? b = none ∨ b ∈ fp) → X.s₀.heap.get? b = none := fun b e => by
    cases q : X.s₀.heap.get? b with
    | none => rfl
    | some o =>
      rcases e with e | e
      · obtain ⟨o1, e1⟩ := I.base.there b o q (by rw [hx]; simp)
        rw [e] at e1; cases e1
      · rcases (hfo b e).2.2.2.1 with z | z
        · rw [hx] at z; exact absurd z (by simp)
        · exact absurd (Nat.lt_of_lt_of_le (Heap.lt_size q) z) (Nat.lt_irrefl _)
  have ub := J.base
  rw [hx] at ub
  obtain ⟨oe, vs, T, oT, ts, he, ⟨hc, h0⟩, hd, h1, hnT, hTe, hT, hdT, h3⟩ := t
  have nF : T ∉ frs X.stack := fun hb => by
    obtain ⟨_, o, ho, hd⟩ := I.stack.mem hb
    obtain ⟨q, e1⟩ := un.slot T o ho (I.stkFree T hb) hb fun z => hf T z hb
    obtain ⟨q2, e2⟩ := up T hb _ e1 hd
    rw [hT] at e2; cases e2
    exact hd _ hdT
  have m1 : s.heap.get? T = none ∨ T ∈ fp := by
    by_cases hb : T ∈ fp
    · exact .inr hb
    · left
      cases q : s.heap.get? T with
      | none => rfl
      | some o =>
        obtain ⟨o1, e1⟩ := un.there T o q hb
        have := hB T o1 e1 (.inl ⟨⟨o, q⟩, hb⟩) nF
        rw [hnT] at this; cases this
  have m2 : H' T = none := by
    cases q : H' T with
    | none => rfl
    | some o =>
      obtain ⟨o1, e1⟩ := (hok T o q).thereO
      have := hB T o1 e1 (.inr (by rw [q]; intro z; cases z)) nF
      rw [hnT] at this; cases this
  exact ⟨ea, c, H', rfl, J.os, J.bare, ub, k1, off ea n0, n1, ⟨oe, oT, vs, ts, a0, T, he, hc, hd, h0, h1, ⟨off T m1, m2⟩, hTe, hT, hdT, h3⟩, hE⟩
end
theorem pass_comp {P : Program} {w : World} {K : PySem.W.Frag} {mg : Str → Option Value} {base : Heap} {N : List Str} {qual : Str} {scope : Scope} {f : Addr} {cd : Value} {A : Around} {outer : List Env} {s₀ : Shared} {H₀ : Hp} {E : XK} :
    PassC (cxOf (CX1 P w) P w K mg base N qual scope f cd A outer s₀ H₀ E) E := by
  intro pins σ H s fp C e s' I hfo hC hcx
  obtain ⟨ea, c, H', m, rfl, os, bare, un, hok, n0, n1, neC, nC, hm, ⟨oe, oT, vs, ts, a0, T, he, hcl, hd, h0, h1, ⟨hn, hmT, hTC⟩, hTe, hT, hdT, h3⟩, hE⟩ := hcx
  generalize hX : cxOf (CX1 P w) P w K mg base N qual scope f cd A outer s₀ H₀ E = X at *
  have ex : X.ex = [] := by subst hX; rfl
  have eF : X.env.frame = some X.env.locals := by subst hX; rfl
  have eS : X.stack = X.env :: X.outer := by subst hX; rfl
  have hf : ∀ b ∈ fp, b ∉ frs X.stack := fun b hb z => by
    rcases List.mem_cons.mp (I.stkSub b z) with e | e
    · exact (hfo b hb).2.1 e
    · exact (hfo b hb).2.2.1 e
  have nCF : C ∉ frs X.stack := fun z => by
    rcases List.mem_cons.mp (I.stkSub C z) with e | e
    · exact Nat.lt_irrefl _ (Nat.lt_of_lt_of_le I.lt (e ▸ hC))
    · exact I.nofs hC e
  generalize hBe : PySem.W.hideAll s'.heap (C :: ea :: T :: frs X.stack) = B
  have inB : ∀ {b : Addr} {o : Obj}, B.get? b = some o → s'.heap.get? b = some o := fun {b o} q => by rw [← hBe] at q; exact PySem.W.of_hideAll _ q
  have nB : ∀ b, b ∈ C :: ea :: T :: frs X.stack → B.get? b = none := fun b hb => by rw [← hBe]; exact PySem.W.hideAll_none _ hb
  have hB : Holdsc X fp H' s s' B := fun b o e hb hfr => by
    rw [← hBe]
    refine PySem.W.hideAll_get _ e fun hmem => ?_
    have bad : ∀ a, (s.heap.get? a = none ∨ a ∈ fp) → H' a = none → b ≠ a := fun a h1 h2 z => by
      subst z
      rcases hb with ⟨⟨u, q⟩, n⟩ | q
      · rcases h1 with h1 | h1
        · rw [h1] at q; cases q
        · exact n h1
      · exact q h2
    rcases List.mem_cons.mp hmem with z | hmem
    · exact bad C (.inl (Heap.get?_none_of_le hC)) nC z
    · rcases List.mem_cons.mp hmem with z | hmem
      · exact bad ea n0 n1 z
      · rcases List.mem_cons.mp hmem with z | z
        · exact bad T hn hmT z
        · exact hfr z
  have J : Inv X pins σ H' s' := I.call' (ch := fp) os un hok bare fun b hb => ⟨(hfo b hb).2.2.2.1, (hfo b hb).2.1, (hfo b hb).2.2.2.2.1, (hfo b hb).2.2.2.2.2⟩
  have ff : s'.heap.FunFrames B X.stack := by
    rw [← hBe]
    exact PySem.W.funFrames_hide J.stack fun env he b hb => List.mem_cons_of_mem _ (List.mem_cons_of_mem _ (List.mem_cons_of_mem _ (List.mem_filterMap.mpr ⟨env, he, hb⟩)))
  have fl : Heap.FlyingW B X.stack ea c a0 s'.heap := ⟨fun b o q => inB q, nB ea (by simp), ff, oe, vs, T, oT, ts, he, ⟨hcl, h0⟩, hd, h1, nB T (by simp), hTe, hT, hdT, h3⟩
  have fr := I.ok.frames
  rw [eS] at fr fl
  unfold notedBy
  refine wpAny_looks_onW fr eF fl fun h1 held up => ?_
  refine ⟨m, up.ns hm, fun h2 sb cenv hcf => ?_⟩
  have u1 : UpF X.stack s'.heap h1 := UpF.of up
  have u2 : UpF X.stack h1 h2 := fun b hb o e _ => ⟨o.slots, (sb.2 b fun z => nCF (z ▸ hb)).trans e⟩
  obtain ⟨g1, g2, g3, oe', vs', T', oT', ts', he', hcl', hd', h1', hnT', hTe', hT', hdT', h3'⟩ := held
  have stay : ∀ b o, B.get? b = some o → b ≠ C := fun b o e z => by rw [z, nB C (by simp)] at e; cases e
  have eC : ea ≠ C := neC
  have TC : T' ≠ C := fun z => by
    obtain ⟨o9, es9, ep9, k9, d9, _⟩ := up.ns hm
    rw [z, k9] at hT'; cases hT'
    rw [d9] at hdT'; cases hdT'
  have held2 : Heap.HeldW B (X.env :: X.outer) ea c a0 X.env.locals h2 := ⟨fun b o e => (sb.2 b (stay b o e)).trans (g1 b o e), g2, eS ▸ u2.frames (eS.symm ▸ g3), oe', vs', T', oT', ts', (sb.2 ea eC).trans he', hcl', hd', h1', hnT', hTe', (sb.2 T' TC).trans hT', hdT', h3'⟩
  unfold PySem.passOn
  rw [hcf, eF]
  refine wpAny_bind (wpAny_field (s := { s' with heap := h2 }) ((sb.2 ea eC).trans he') hd' h1' ?_)
  rw [if_neg (show ¬ ((Value.ref T' == Value.none) = true) from by simp)]
  refine wpAny_bind (setFlight_held (s := { s' with heap := h2 }) held2 fun h3 held3 up3 => wpAny_throw ?_)
  have fin : ∀ h4, Heap.FlyingW B (X.env :: X.outer) ea c a0 h4 → h3.UpToSlots h4 → CX1 X.prog X.w X.outer X.H₀ X.s₀ E (.ref ea) { s' with heap := h4 } := fun h4 fl4 up4 =>
    flc_out I ex hfo os bare un hok n0 n1 hB fl4.1 fl4.2.2.2 (((u1.trans u2).trans (UpF.of up3)).trans (UpF.of up4)) hE
  subst hX
  show wpAny _ _ (leaving _ (.ref ea)) _ _ _
  unfold leaving
  refine wpAny_bind (wpAny_noteFrame_againW eF held3.2.2.2 ?_)
  exact wpAny_landsW held3 fun h4 fl4 up4 => fin h4 fl4 up4
end L2
set_option Elab.async false
set_option linter.all false
set_option maxRecDepth 100000
namespace L2
open PySem PySem.Spec PyProof.Rows
structure CScopeD (sc : Scope) (scope : Scope) (x : Str) (M : List Str) (ys : List Str) (js : List Nat) : Prop where
  kind : scope.kind = .function
  cell : ∀ y ∈ scope.names, y.2 = .cell → y.1 = x
  loc : ∀ y ∈ scope.names, y.2 = .local → scope.names.lookup y.1 = some .local
  var : scope.names.lookup x = some .cell
  free : ∀ y ∈ scope.names, y.2 = .free → sc.names.lookup y.1 = some .cell ∨ sc.names.lookup y.1 = some .free
  caps : js.map (M[·]?) = ys.map some
  fr : ∀ y ∈ ys, scope.names.lookup y = some .free
  nd : (x :: ys).Nodup
  own : ∀ n acc, cellsFrom n scope.names acc = (x, n) :: acc
  psh : ∀ h : Heap, pushCells h scope.names = h.push { cls := .type "cell", data := .cell none }
section
variable {X : Cx} {pins : List (Addr × Obj)} {σ : St} {H : Hp} {s : Shared}
end
section
variable {X : Cx} {elt iter : Expr} {ifs : List Expr} {x : Str} {px pos : Pos} {scope : Scope} {ys : List Str} {js : List Nat} {wi : TI} {tt : TT} {te : TE}
end
end L2
namespace L2
open PySem PySem.Spec PyProof.Rows
end L2
set_option Elab.async false
set_option linter.all false
set_option maxRecDepth 100000
namespace L2
open PySem PySem.Spec PyProof.Rows
theorem pa_str {X : Cx} {x : Str} {j} {pos : Pos} {es : List Expr} {t : TA} (h : PA X es t) : PA X (.Constant (.str x) j pos :: es) (tCons (tC (.str x)) t) := pa_cons pe_str h rfl
theorem ps_setL {X : Cx} {i : Nat} {x : Str} {es : List Expr} {t : TA} {pos' lp pos : Pos} (hN : X.N.Nodup) (hi : X.N[i]? = some x) (hx : Loc X.env.scope x) (h : PA X es t) (hf : X.fn x = true ∨ X.env.scope.names.lookup x = some .local := by first | exact .inl rfl | exact .inr rfl | assumption) :
    PS X (.Assign [.Name x pos'] (.List es lp) pos) (tAsg (tLst t) (gName i)) := ps_set hN hi hx (pe_lst h) rfl hf
theorem cutV_to (xs : List V) (m : Nat) : cutV xs none (some (m : Int)) = xs.take m := by
  unfold cutV
  rw [HT.sIx_nat, HT.sIx_none, List.drop_zero, Nat.sub_zero]
  by_cases h : m ≤ xs.length
  · rw [Nat.min_eq_left h]
  · rw [Nat.min_eq_right (by omega), List.take_of_length_le (Nat.le_refl _), List.take_of_length_le (by omega)]
end L2
set_option Elab.async false
set_option linter.all false
set_option maxRecDepth 100000
namespace L2
open PySem PyProof.Rows
@[irreducible] def PEI (X : Cx) (e : Expr) (t : TE) : Prop := PE X e t
@[irreducible] def PAI (X : Cx) (es : List Expr) (t : TA) : Prop := PA X es t
@[irreducible] def PSsI (X : Cx) (st : List Stmt) (t : TS) : Prop := PSs X st t
theorem PEI.o {X : Cx} {e : Expr} {t : TE} (h : PEI X e t) : PE X e t := by unfold PEI at h; exact h
theorem PAI.o {X : Cx} {es : List Expr} {t : TA} (h : PAI X es t) : PA X es t := by unfold PAI at h; exact h
theorem PSsI.o {X : Cx} {l : List Stmt} {t : TS} (h : PSsI X l t) : PSs X l t := by unfold PSsI at h; exact h
theorem pei {X : Cx} {e : Expr} {t : TE} (h : PE X e t) : PEI X e t := by unfold PEI; exact h
theorem pai {X : Cx} {es : List Expr} {t : TA} (h : PA X es t) : PAI X es t := by unfold PAI; exact h
theorem pssi {X : Cx} {l : List Stmt} {t : TS} (h : PSs X l t) : PSsI X l t := by unfold PSsI; exact h
theorem pei_int {X : Cx} {i j pos} : PEI X (.Constant (.int i) j pos) (tC (.int i)) := pei pe_int
theorem pei_lst {X : Cx} {es : List Expr} {t : TA} {pos : Pos} (h : PAI X es t) : PEI X (.List es pos) (tLst t) := pei (pe_lst h.o)
theorem pei_tup {X : Cx} {es : List Expr} {t : TA} {x1} {pos : Pos} (h : PAI X es t) : PEI X (.Tuple es x1 pos) (tTup t) := pei (pe_tup h.o)
theorem pai_nil {X : Cx} : PAI X [] tNil := pai pa_nil
theorem pai_str {X : Cx} {x : Str} {j} {pos : Pos} {es : List Expr} {t : TA} (h : PAI X es t) : PAI X (.Constant (.str x) j pos :: es) (tCons (tC (.str x)) t) := pai (pa_str h.o)
theorem pai_cons {X : Cx} {e : Expr} {es : List Expr} {te : TE} {t : TA} (ha : PEI X e te) (hr : PAI X es t) (hs : starEach (e :: es) X.env = (false, eval e X.env) :: starEach es X.env := by rfl) : PAI X (e :: es) (tCons te t) := pai (pa_cons ha.o hr.o hs)
theorem pss_consJ {X : Cx} {st : Stmt} {rest : List Stmt} {t u : TS} (h1 : PS X st t) (h2 : PSsI X rest u) : PSs X (st :: rest) (tSeq t u) := pss_cons h1 h2.o
theorem pssI_set {X : Cx} {i : Nat} {x : Str} {es : List Expr} {t : TA} {u : TS} {rest : List Stmt} {pos' lp pos : Pos} (hN : X.N.Nodup) (hi : X.N[i]? = some x) (hx : Loc X.env.scope x) (h : PAI X es t) (hr : PSs X rest u) (hf : X.fn x = true ∨ X.env.scope.names.lookup x = some .local := by first | exact .inl rfl | exact .inr rfl | assumption) :
    PSsI X (.Assign [.Name x pos'] (.List es lp) pos :: rest) (tSeq (tAsg (tLst t) (gName i)) u) := pssi (pss_cons (ps_setL hN hi hx h.o hf) hr)
theorem pe_ixI {X : Cx} {a b : Expr} {ta tb : TE} {pos : Pos} {r : R2} (hr : IxR X r) (ha : PEI X a ta) (hb : PE X b tb) (hs : PlainIx b) : PE X (.Subscript a b pos) (tOp r ta tb) := pe_ix hr ha.o hb hs
theorem ps_setI {X : Cx} {i : Nat} {x : Str} {e : Expr} {te : TE} {pos' pos : Pos} (hN : X.N.Nodup) (hi : X.N[i]? = some x) (hx : Loc X.env.scope x) (he : PEI X e te) (hs : swapsWith e (some (.Name x pos')) pos.line X.env = pure false := by rfl) (hf : X.fn x = true ∨ X.env.scope.names.lookup x = some .local := by first | exact .inl rfl | exact .inr rfl | assumption) :
    PS X (.Assign [.Name x pos'] e pos) (tAsg te (gName i)) := ps_set hN hi hx he.o hs hf
theorem pe_opJ {X : Cx} {a b : Expr} {ta tb : TE} {pos : Pos} {op : Operator} {r : R2} (ho : OpR X (binaryOp op) r) (ha : PE X a ta) (hb : PEI X b tb) : PE X (.BinOp a op b pos) (tOp r ta tb) := pe_op ho ha hb.o
end L2
set_option Elab.async false
set_option linter.all false
set_option maxRecDepth 100000
namespace L2
open PySem PyProof.Rows
structure Fit (k n : Nat) (d : PyData) : Prop where
  ls : d.leavesShort 40 = true
  sh : d.showable = true
  dp : d.depth ≤ k
  wt : d.weight ≤ n
theorem Fit.shown {k n : Nat} {d : PyData} (f : Fit k n d) (hn : n ≤ 100000) : d.shown.length ≤ sizeLine := by
  have h := PyData.shown_le 40 (by decide) d f.ls
  have := f.wt
  rw [sizeLine_eq]
  omega
def Th (H : Hp) (k n : Nat) (v : V) : Prop := ∃ d, ThAt H d v ∧ Fit k n d
theorem Th.same {H H' : Hp} {k n : Nat} {v : V} (t : Th H k n v) (m : Same H H') : Th H' k n v := let ⟨d, h, f⟩ := t; ⟨d, h.same m, f⟩
theorem Th.le {H : Hp} {k n k' n' : Nat} {v : V} (t : Th H k n v) (hk : k ≤ k') (hn : n ≤ n') : Th H k' n' v := let ⟨d, h, f⟩ := t; ⟨d, h, f.ls, f.sh, Nat.le_trans f.dp hk, Nat.le_trans f.wt hn⟩
section
variable {H : Hp} {k n : Nat}
theorem Th.non : Th H k n .non := ⟨.none, by rw [ThAt], by rw [PyData.leavesShort], by rw [PyData.showable], by rw [PyData.depth]; exact Nat.zero_le _, by rw [PyData.weight]; exact Nat.zero_le _⟩
theorem Th.bl {b : Bool} : Th H k n (.bl b) := ⟨.bool b, by rw [ThAt], by rw [PyData.leavesShort], by rw [PyData.showable], by rw [PyData.depth]; exact Nat.zero_le _, by rw [PyData.weight]; exact Nat.zero_le _⟩
theorem log2_small {m : Nat} (h : m < 10 ^ 30) : m.log2 < 100 := by
  by_cases z : m = 0
  · subst z; decide
  · exact (Nat.log2_lt z).mpr (Nat.lt_trans h (by decide))
theorem Th.int {i : Int} (h : i.natAbs < 10 ^ 30) (hn : 100 ≤ n) : Th H k n (.int i) := by
  refine ⟨.int i, by rw [ThAt], ?_, ?_, by rw [PyData.depth]; exact Nat.zero_le _, ?_⟩
  · rw [PyData.leavesShort, PyData.shown]
    refine decide_eq_true ?_
    have := int_text_length_le10 (a := i) (k := 30) (by decide) h
    rw [PySem.ofString_length]
    omega
  · rw [PyData.showable]
    exact decide_eq_true (Nat.lt_trans (log2_small h) (by decide))
  · rw [PyData.weight]
    have := log2_small h
    split <;> omega
theorem Th.str {x : Str} (h : (x.cps.toList.all fun c => decide (c < 16 ^ 8)) = true) (hn : x.cps.size ≤ n) : Th H k n (.str x) := ⟨.str x, by rw [ThAt], by rw [PyData.leavesShort]; exact h, by rw [PyData.showable], by rw [PyData.depth]; exact Nat.zero_le _, by rw [PyData.weight]; exact hn⟩
theorem Th.emp {a : Addr} (h : H a = some (.dK [])) (hk : 1 ≤ k) : Th H k n (.ref a) := ⟨.dict [], by rw [ThAt]; exact ⟨rfl, a, rfl, h⟩, by rw [PyData.leavesShort, PyData.leavesShortKv], by rw [PyData.showable, PyData.showableKv], by rw [PyData.depth, PyData.depthKv]; exact hk, by rw [PyData.weight, PyData.weightKv]; exact Nat.zero_le _⟩
theorem Ths.of : ∀ {vs : List V}, (∀ v ∈ vs, Th H k n v) → ∃ ds, ThsAt H ds vs ∧ PyData.leavesShortAll 40 ds = true ∧ PyData.showableAll ds = true ∧ PyData.depthAll ds ≤ k ∧ PyData.weightAll ds ≤ (n + 1) * vs.length
  | [], _ => ⟨[], by rw [ThsAt], by rw [PyData.leavesShortAll], by rw [PyData.showableAll], by rw [PyData.depthAll]; exact Nat.zero_le _, by rw [PyData.weightAll]; exact Nat.zero_le _⟩
  | v :: vs, h => by
    obtain ⟨d, h1, f⟩ := h v (.head _)
    obtain ⟨ds, g1, g2, g3, g4, g5⟩ := Ths.of fun v hv => h v (.tail _ hv)
    refine ⟨d :: ds, by rw [ThsAt]; exact ⟨_, _, rfl, h1, g1⟩, by rw [PyData.leavesShortAll, f.ls, g2]; rfl, by rw [PyData.showableAll, f.sh, g3]; rfl, ?_, ?_⟩
    · rw [PyData.depthAll]; have := f.dp; omega
    · rw [PyData.weightAll, List.length_cons, Nat.mul_succ]; have := f.wt; omega
theorem Th.lst {a : Addr} {vs : List V} {n' : Nat} (h : H a = some (.lst vs)) (t : ∀ v ∈ vs, Th H k n v) (hn : (n + 1) * vs.length ≤ n') : Th H (k + 1) n' (.ref a) := by
  obtain ⟨ds, g1, g2, g3, g4, g5⟩ := Ths.of t
  exact ⟨.list ds, by rw [ThAt]; exact ⟨a, vs, rfl, h, g1⟩, by rw [PyData.leavesShort]; exact g2, by rw [PyData.showable]; exact g3, by rw [PyData.depth]; omega, by rw [PyData.weight]; omega⟩
theorem Th.tup {a : Addr} {vs : List V} {n' : Nat} (h : H a = some (.tup vs)) (t : ∀ v ∈ vs, Th H k n v) (hn : (n + 1) * vs.length ≤ n') : Th H (k + 1) n' (.ref a) := by
  obtain ⟨ds, g1, g2, g3, g4, g5⟩ := Ths.of t
  exact ⟨.tuple ds, by rw [ThAt]; exact ⟨a, vs, rfl, h, g1⟩, by rw [PyData.leavesShort]; exact g2, by rw [PyData.showable]; exact g3, by rw [PyData.depth]; omega, by rw [PyData.weight]; omega⟩
theorem Th.ints {a : Addr} {ns : List Int} {n' : Nat} (h : H a = some (.lst (ns.map V.int))) (t : ∀ i ∈ ns, i.natAbs < 10 ^ 30) (hn : 101 * ns.length ≤ n') : Th H (k + 1) n' (.ref a) :=
  Th.lst (n := 100) h (fun v hv => by
    obtain ⟨i, hi, rfl⟩ := List.mem_map.mp hv
    exact Th.int (t i hi) (Nat.le_refl _)) (by rw [List.length_map]; exact hn)
end
end L2
set_option Elab.async false
set_option linter.all false
set_option maxRecDepth 100000
namespace L2
open PySem PyProof.Rows
structure Ty where
  p : Hp → V → Prop
  mo : ∀ {G G' : Hp} {v : V}, Same G G' → p G v → p G' v
structure View where
  v : Hp → Hp
  ok : Hp → Prop
  out : ∀ {H : Hp} {a : Addr} {o : HO}, v H a = some o → H a = some o
  new : ∀ {H : Hp} {p : Addr} (o : HO), ok H → H p = none → ok (upd H p o) ∧ Same (v H) (v (upd H p o)) ∧ v (upd H p o) p = some o
abbrev Cxt := List (Option Ty)
def Fits (Γ : Cxt) (G : Hp) (σ : St) : Prop := σ.length = Γ.length ∧ ∀ (i : Nat) (T : Ty), Γ[i]? = some (some T) → ∃ v : V, σ[i]? = some (some v) ∧ T.p G v
theorem Fits.same {Γ : Cxt} {G G' : Hp} {σ : St} (f : Fits Γ G σ) (s : Same G G') : Fits Γ G' σ := ⟨f.1, fun i T h => let ⟨v, e, q⟩ := f.2 i T h; ⟨v, e, T.mo s q⟩⟩
theorem Fits.set {Γ : Cxt} {G : Hp} {σ : St} {i : Nat} {T : Ty} {v : V} (f : Fits Γ G σ) (q : T.p G v) : Fits (Γ.set i (some T)) G (σ.set i (some v)) := by
  refine ⟨by rw [List.length_set, List.length_set, f.1], fun j T' h => ?_⟩
  rw [List.getElem?_set] at h ⊢
  by_cases e : i = j
  · rw [if_pos e] at h ⊢
    by_cases l : i < Γ.length
    · rw [if_pos l] at h
      rw [if_pos (by rw [f.1]; exact l)]
      cases h
      exact ⟨v, rfl, q⟩
    · rw [if_neg l] at h; cases h
  · rw [if_neg e] at h ⊢
    exact f.2 j T' h
theorem Fits.nil {G : Hp} : Fits [] G [] := ⟨rfl, fun i T h => by simp at h⟩
theorem Fits.cons {Γ : Cxt} {G : Hp} {σ : St} {T : Ty} {v : V} (q : T.p G v) (f : Fits Γ G σ) : Fits (some T :: Γ) G (some v :: σ) := by
  refine ⟨by rw [List.length_cons, List.length_cons, f.1], fun i T' h => ?_⟩
  cases i with
  | zero => cases h; exact ⟨v, rfl, q⟩
  | succ i => exact f.2 i T' h
theorem Fits.skip {Γ : Cxt} {G : Hp} {σ : St} {v : Option V} (f : Fits Γ G σ) : Fits (none :: Γ) G (v :: σ) := by
  refine ⟨by rw [List.length_cons, List.length_cons, f.1], fun i T' h => ?_⟩
  cases i with
  | zero => cases h
  | succ i => exact f.2 i T' h
def Tp (w : View) (Γ : Cxt) (te : TE) (T : Ty) : Prop := ∀ (σ : St) (H : Hp) (Q : VK), w.ok H → Fits Γ (w.v H) σ → (∀ v H', w.ok H' → Same (w.v H) (w.v H') → T.p (w.v H') v → Q v H') → te σ H Q
def tyTh (k n : Nat) : Ty := ⟨fun G v => Th G k n v, fun s h => h.same s⟩
def tyI (lo hi : Int) : Ty := ⟨fun _ v => ∃ i, v = .int i ∧ lo ≤ i ∧ i ≤ hi, fun _ h => h⟩
def tyLof (T : Ty) (lo hi : Nat) : Ty := ⟨fun G v => ∃ a vs, v = .ref a ∧ G a = some (.lst vs) ∧ lo ≤ vs.length ∧ vs.length ≤ hi ∧ ∀ u ∈ vs, T.p G u, fun s ⟨a, vs, h1, h2, h3, h4, h5⟩ => ⟨a, vs, h1, s _ _ h2, h3, h4, fun u hu => T.mo s (h5 u hu)⟩⟩
abbrev tyL (k n lo hi : Nat) : Ty := tyLof (tyTh k n) lo hi
def tyEq (v : V) : Ty := ⟨fun _ u => u = v, fun _ h => h⟩
def TpA (w : View) (Γ : Cxt) (ta : TA) (k n m : Nat) : Prop := ∀ (σ : St) (H : Hp) (Q : List V → Hp → Prop), w.ok H → Fits Γ (w.v H) σ → (∀ vs H', w.ok H' → Same (w.v H) (w.v H') → vs.length = m → (∀ u ∈ vs, Th (w.v H') k n u) → Q vs H') → ta σ H Q
def TpB (w : View) (Γ : Cxt) (ta : TA) (T : Ty) (m : Nat) : Prop := ∀ (σ : St) (H : Hp) (Q : List V → Hp → Prop), w.ok H → Fits Γ (w.v H) σ → (∀ vs H', w.ok H' → Same (w.v H) (w.v H') → vs.length = m → (∀ u ∈ vs, T.p (w.v H') u) → Q vs H') → ta σ H Q
def TpO (w : View) (Γ : Cxt) (to : TO) : Prop := ∀ (σ : St) (H : Hp) (Q : Option Int → Hp → Prop), w.ok H → Fits Γ (w.v H) σ → (∀ o H', w.ok H' → Same (w.v H) (w.v H') → Q o H') → to σ H Q
section
variable {w : View} {Γ : Cxt} {te ta tb : TE} {K : PySem.W.Frag} {k n m k' n' m' lo hi lo' hi' : Nat} {i j i' j' : Int}
theorem Tp.sub {T T' : Ty} (h : Tp w Γ te T) (s : ∀ G v, T.p G v → T'.p G v) : Tp w Γ te T' := fun σ H Q o f q => h σ H Q o f fun v H' o' s' t => q v H' o' s' (s _ _ t)
theorem Tp.var {x : Nat} {T : Ty} (h : Γ[x]? = some (some T)) : Tp w Γ (tVar x) T := fun σ H Q o f q => let ⟨v, e, t⟩ := f.2 x T h; ⟨v, e, q v H o (Same.refl _) t⟩
theorem Tp.non : Tp w Γ (tC .non) (tyTh 0 0) := fun σ H Q o f q => q _ H o (Same.refl _) Th.non
theorem Tp.bl {b : Bool} : Tp w Γ (tC (.bl b)) (tyTh 0 0) := fun σ H Q o f q => q _ H o (Same.refl _) Th.bl
theorem Tp.str {x : Str} (h : (x.cps.toList.all fun c => decide (c < 16 ^ 8)) = true) (hn : x.cps.size ≤ 100) : Tp w Γ (tC (.str x)) (tyTh 0 100) := fun σ H Q o f q => q _ H o (Same.refl _) (Th.str h hn)
theorem Tp.int : Tp w Γ (tC (.int i)) (tyI i i) := fun σ H Q o f q => q _ H o (Same.refl _) ⟨i, rfl, Int.le_refl _, Int.le_refl _⟩
theorem Tp.wide (h : Tp w Γ te (tyI i j)) (h1 : i' ≤ i) (h2 : j ≤ j') : Tp w Γ te (tyI i' j') := h.sub fun G v ⟨x, e, a, b⟩ => ⟨x, e, Int.le_trans h1 a, Int.le_trans b h2⟩
theorem Tp.add (ha : Tp w Γ ta (tyI i j)) (hb : Tp w Γ tb (tyI i' j')) : Tp w Γ (tOp (rI0 fun x y => .int (x + y)) ta tb) (tyI (i + i') (j + j')) := fun σ H Q o f q => ha σ H _ o f fun v H1 o1 s1 ⟨x, e1, a1, b1⟩ => hb σ H1 _ o1 (f.same s1) fun u H2 o2 s2 ⟨y, e2, a2, b2⟩ => ⟨x, y, e1, e2, q _ H2 o2 (s1.trans s2) ⟨_, rfl, by omega, by omega⟩⟩
theorem Tp.subI (ha : Tp w Γ ta (tyI i j)) (hb : Tp w Γ tb (tyI i' j')) : Tp w Γ (tOp (rI0 fun x y => .int (x - y)) ta tb) (tyI (i - j') (j - i')) := fun σ H Q o f q => ha σ H _ o f fun v H1 o1 s1 ⟨x, e1, a1, b1⟩ => hb σ H1 _ o1 (f.same s1) fun u H2 o2 s2 ⟨y, e2, a2, b2⟩ => ⟨x, y, e1, e2, q _ H2 o2 (s1.trans s2) ⟨_, rfl, by omega, by omega⟩⟩
theorem Tp.neg (ha : Tp w Γ ta (tyI i j)) : Tp w Γ (tUn (rU fun x => .int (-x)) ta) (tyI (-j) (-i)) := fun σ H Q o f q => ha σ H _ o f fun v H1 o1 s1 ⟨x, e1, a1, b1⟩ => ⟨x, e1, q _ H1 o1 s1 ⟨_, rfl, by omega, by omega⟩⟩
theorem Tp.pow {x y : Int} (c : CPow x y) : Tp w Γ (tOp (rI CPow fun i j => .int (i ^ j.toNat)) (tC (.int x)) (tC (.int y))) (tyI (x ^ y.toNat) (x ^ y.toNat)) := fun σ H Q o f q => ⟨x, y, rfl, rfl, c, q _ H o (Same.refl _) ⟨_, rfl, Int.le_refl _, Int.le_refl _⟩⟩
theorem Tp.ofI (h : Tp w Γ te (tyI i j)) (h1 : -(10 ^ 29) ≤ i := by decide) (h2 : j ≤ 10 ^ 29 := by decide) : Tp w Γ te (tyTh 0 100) := h.sub fun G v ⟨x, e, a, b⟩ => by
  rw [e]; exact Th.int (by omega) (Nat.le_refl _)
theorem Tp.ofL (h : Tp w Γ te (tyL k n lo hi)) : Tp w Γ te (tyTh (k + 1) ((n + 1) * hi)) := h.sub fun G v ⟨a, vs, e, h1, _, h2, h3⟩ => by
  rw [e]; exact Th.lst h1 h3 (Nat.mul_le_mul_left _ h2)
theorem Tp.le (h : Tp w Γ te (tyTh k n)) (hk : k ≤ k') (hn : n ≤ n') : Tp w Γ te (tyTh k' n') := h.sub fun G v t => t.le hk hn
theorem TpA.nil : TpA w Γ tNil 0 0 0 := fun σ H Q o f q => q [] H o (Same.refl _) rfl (by simp)
theorem TpA.cons {t : TA} (h : Tp w Γ te (tyTh k n)) (ht : TpA w Γ t k' n' m) : TpA w Γ (tCons te t) (max k k') (max n n') (m + 1) := fun σ H Q o f q => h σ H _ o f fun v H1 o1 s1 t1 => ht σ H1 _ o1 (f.same s1) fun vs H2 o2 s2 e2 t2 => q (v :: vs) H2 o2 (s1.trans s2) (by rw [List.length_cons, e2]) fun u hu => by
  rcases List.mem_cons.mp hu with rfl | hu
  · exact (t1.same s2).le (Nat.le_max_left _ _) (Nat.le_max_left _ _)
  · exact (t2 u hu).le (Nat.le_max_right _ _) (Nat.le_max_right _ _)
theorem small_line {x : Nat} (h : x ≤ 10000) : x ≤ sizeLine := Nat.le_trans h (by decide)
theorem Tp.lst {t : TA} (h : TpA w Γ t k n m) (hm : m ≤ 10000 := by decide) : Tp w Γ (tLst t) (tyL k n m m) := fun σ H Q o f q => h σ H _ o f fun vs H1 o1 s1 e1 t1 => ⟨small_line (by rw [e1]; exact hm), fun p hp => by
  obtain ⟨o2, s2, e2⟩ := w.new (.lst vs) o1 hp
  exact q (.ref p) _ o2 (s1.trans s2) ⟨p, vs, rfl, e2, Nat.le_of_eq e1.symm, Nat.le_of_eq e1, fun u hu => (t1 u hu).same s2⟩⟩
theorem Tp.tup {t : TA} (h : TpA w Γ t k n m) (hm : m ≤ 10000 := by decide) : Tp w Γ (tTup t) (tyTh (k + 1) ((n + 1) * m)) := fun σ H Q o f q => h σ H _ o f fun vs H1 o1 s1 e1 t1 => ⟨small_line (by rw [e1]; exact hm), fun p hp => by
  obtain ⟨o2, s2, e2⟩ := w.new (.tup vs) o1 hp
  exact q (.ref p) _ o2 (s1.trans s2) (Th.tup e2 (fun u hu => (t1 u hu).same s2) (by rw [e1]; exact Nat.le_refl _))⟩
theorem Tp.emp : Tp w Γ tDNewK (tyTh 1 0) := fun σ H Q o f q p hp => by
  obtain ⟨o2, s2, e2⟩ := w.new (.dK []) o hp
  exact q (.ref p) _ o2 s2 (Th.emp e2 (Nat.le_refl _))
theorem mem_rep {xs : List V} {c : Nat} {x : V} (h : x ∈ (List.replicate c xs).flatten) : x ∈ xs := by
  obtain ⟨l, hl, hx⟩ := List.mem_flatten.mp h
  rw [(List.mem_replicate.mp hl).2] at hx; exact hx
theorem Tp.rep {c c' : Nat} (ha : Tp w Γ ta (tyL k n lo hi)) (hb : Tp w Γ tb (tyI c c')) (hm : hi * c' ≤ 10000 := by decide) (hc : c' ≤ 10000 := by decide) : Tp w Γ (tOp rRep ta tb) (tyL k n (lo * c) (hi * c')) := fun σ H Q o f q => ha σ H _ o f fun v H1 o1 s1 t1 => hb σ H1 _ o1 (f.same s1) fun u H2 o2 s2 ⟨y, e2, a2, b2⟩ => by
  obtain ⟨a, vs, e1, g1, l1, m1, r1⟩ := (tyL k n lo hi).mo s2 t1
  have hy : y.toNat ≤ c' := by omega
  have hz : c ≤ y.toNat := by omega
  refine ⟨a, y, vs, e1, e2, w.out g1, by omega, by omega, small_line (Nat.le_trans (Nat.mul_le_mul m1 hy) hm), fun p hp => ?_⟩
  obtain ⟨o3, s3, e3⟩ := w.new (.lst (List.replicate y.toNat vs).flatten) o2 hp
  refine q (.ref p) _ o3 (s1.trans (s2.trans s3)) ⟨p, _, rfl, e3, by rw [len_rep, Nat.mul_comm lo]; exact Nat.mul_le_mul hz l1, by rw [len_rep, Nat.mul_comm hi]; exact Nat.mul_le_mul hy m1, fun x hx => (r1 x (mem_rep hx)).same s3⟩
theorem TpO.none : TpO w Γ tNoPart := fun σ H Q o f q => q _ H o (Same.refl _)
theorem TpO.some (h : Tp w Γ te (tyI i j)) : TpO w Γ (tPart te) := fun σ H Q o f q => h σ H _ o f fun v H1 o1 s1 ⟨x, e, _⟩ => ⟨x, e, q _ H1 o1 s1⟩
theorem cutV_sub (vs : List V) (lo hi : Option Int) : (∀ v ∈ cutV vs lo hi, v ∈ vs) ∧ (cutV vs lo hi).length ≤ vs.length := by
  unfold cutV
  refine ⟨fun v hv => List.mem_of_mem_drop (List.mem_of_mem_take hv), ?_⟩
  rw [List.length_take, List.length_drop]
  omega
theorem Tp.sl {tl tu : TO} {T : Ty} (h : Tp w Γ te (tyLof T lo hi)) (hl : TpO w Γ tl) (hu : TpO w Γ tu) : Tp w Γ (tSl (rSlL K) te tl tu) (tyLof T 0 hi) := fun σ H Q o f q => h σ H _ o f fun v H1 o1 s1 t1 => hl σ H1 _ o1 (f.same s1) fun x H2 o2 s2 => hu σ H2 _ o2 ((f.same s1).same s2) fun y H3 o3 s3 => by
  obtain ⟨a, vs, e1, g1, l1, m1, r1⟩ := (tyLof T lo hi).mo (s2.trans s3) t1
  refine ⟨a, vs, e1, SqL.of (w.out g1), fun p hp => ?_⟩
  obtain ⟨o4, s4, e4⟩ := w.new (.lst (cutV vs x y)) o3 hp
  exact q (.ref p) _ o4 (s1.trans (s2.trans (s3.trans s4))) ⟨p, _, rfl, e4, Nat.zero_le _, Nat.le_trans (cutV_sub vs x y).2 m1, fun u hu => T.mo s4 (r1 u ((cutV_sub vs x y).1 u hu))⟩
theorem Tp.rev {T : Ty} (h : Tp w Γ te (tyLof T lo hi)) : Tp w Γ (rRevS K te) (tyLof T lo hi) := fun σ H Q o f q => h σ H _ o f fun v H1 o1 s1 ⟨a, vs, e1, g1, l1, m1, r1⟩ => ⟨a, vs, e1, SqL.of (w.out g1), fun p hp => by
  obtain ⟨o4, s4, e4⟩ := w.new (.lst vs.reverse) o1 hp
  exact q (.ref p) _ o4 (s1.trans s4) ⟨p, _, rfl, e4, by rw [List.length_reverse]; exact l1, by rw [List.length_reverse]; exact m1, fun u hu => T.mo s4 (r1 u (List.mem_reverse.mp hu))⟩⟩
theorem Tp.ix {T : Ty} (ha : Tp w Γ ta (tyLof T lo hi)) (hb : Tp w Γ tb (tyI 0 j)) (hj : j < lo := by decide) : Tp w Γ (tOp (rIxL K) ta tb) T := fun σ H Q o f q => ha σ H _ o f fun v H1 o1 s1 t1 => hb σ H1 _ o1 (f.same s1) fun u H2 o2 s2 ⟨y, e2, a2, b2⟩ => by
  obtain ⟨a, vs, e1, g1, l1, m1, r1⟩ := (tyLof T lo hi).mo s2 t1
  have hy : y.toNat < vs.length := by omega
  refine ⟨a, vs, y, vs[y.toNat], e1, e2, SqL.of (w.out g1), ?_, q _ H2 o2 (s1.trans s2) (r1 _ (List.getElem_mem hy))⟩
  have := atI_nat (List.getElem?_eq_getElem hy)
  rwa [show ((y.toNat : Nat) : Int) = y by omega] at this
theorem Tp.len {T : Ty} (h : Tp w Γ te (tyLof T lo hi)) : Tp w Γ (tCB (fun xs H Q => ∃ p ys, xs = [.ref p] ∧ (SqL K H p ys ∨ SqT K H p ys) ∧ Q (.int ys.length) H) (tCons te tNil)) (tyI lo hi) := fun σ H Q o f q => h σ H _ o f fun v H1 o1 s1 ⟨a, vs, e1, g1, l1, m1, r1⟩ => ⟨a, vs, by rw [e1], .inl (SqL.of (w.out g1)), q _ H1 o1 s1 ⟨_, rfl, by omega, by omega⟩⟩
theorem Tp.catT {T : Ty} (ha : Tp w Γ ta (tyLof T lo hi)) (hb : Tp w Γ tb (tyLof T lo' hi')) (hm : hi + hi' ≤ 10000 := by first | decide | omega) : Tp w Γ (tOp rCat ta tb) (tyLof T (lo + lo') (hi + hi')) := fun σ H Q o f q => ha σ H _ o f fun v H1 o1 s1 t1 => hb σ H1 _ o1 (f.same s1) fun u H2 o2 s2 t2 => by
  obtain ⟨a, vs, e1, g1, l1, m1, r1⟩ := (tyLof T lo hi).mo s2 t1
  obtain ⟨b, us, e2, g2, l2, m2, r2⟩ := t2
  refine ⟨a, b, vs, us, e1, e2, w.out g1, w.out g2, small_line (Nat.le_trans (Nat.add_le_add m1 m2) hm), fun p hp => ?_⟩
  obtain ⟨o3, s3, e3⟩ := w.new (.lst (vs ++ us)) o2 hp
  refine q (.ref p) _ o3 (s1.trans (s2.trans s3)) ⟨p, _, rfl, e3, by rw [List.length_append]; omega, by rw [List.length_append]; omega, fun x hx => ?_⟩
  rcases List.mem_append.mp hx with hx | hx
  · exact T.mo s3 (r1 x hx)
  · exact T.mo s3 (r2 x hx)
theorem TpB.nil {T : Ty} : TpB w Γ tNil T 0 := fun σ H Q o f q => q [] H o (Same.refl _) rfl (by simp)
theorem TpB.cons {T : Ty} {t : TA} (h : Tp w Γ te T) (ht : TpB w Γ t T m) : TpB w Γ (tCons te t) T (m + 1) := fun σ H Q o f q => h σ H _ o f fun v H1 o1 s1 t1 => ht σ H1 _ o1 (f.same s1) fun vs H2 o2 s2 e2 t2 => q (v :: vs) H2 o2 (s1.trans s2) (by rw [List.length_cons, e2]) fun u hu => by
  rcases List.mem_cons.mp hu with rfl | hu
  · exact T.mo s2 t1
  · exact t2 u hu
theorem Tp.lstT {T : Ty} {t : TA} (h : TpB w Γ t T m) (hm : m ≤ 10000 := by decide) : Tp w Γ (tLst t) (tyLof T m m) := fun σ H Q o f q => h σ H _ o f fun vs H1 o1 s1 e1 t1 => ⟨small_line (by rw [e1]; exact hm), fun p hp => by
  obtain ⟨o2, s2, e2⟩ := w.new (.lst vs) o1 hp
  exact q (.ref p) _ o2 (s1.trans s2) ⟨p, vs, rfl, e2, Nat.le_of_eq e1.symm, Nat.le_of_eq e1, fun u hu => T.mo s2 (t1 u hu)⟩⟩
theorem Tp.wideL {T T' : Ty} (h : Tp w Γ te (tyLof T lo hi)) (s : ∀ G v, T.p G v → T'.p G v) (h1 : lo' ≤ lo) (h2 : hi ≤ hi') : Tp w Γ te (tyLof T' lo' hi') := h.sub fun G v ⟨a, vs, e, g, l, m, r⟩ => ⟨a, vs, e, g, Nat.le_trans h1 l, Nat.le_trans m h2, fun u hu => s G u (r u hu)⟩
end
def TpS (w : View) (Γ : Cxt) (ts : TS) (Γ' : Cxt) (T : Ty) : Prop := ∀ (D : Ends) (σ : St) (H : Hp), w.ok H → Fits Γ (w.v H) σ → (∀ σ' H', w.ok H' → Same (w.v H) (w.v H') → Fits Γ' (w.v H') σ' → D.nx σ' H') → (∀ v H', w.ok H' → Same (w.v H) (w.v H') → T.p (w.v H') v → D.rt v H') → ts D σ H
section
variable {w : View} {Γ Γ1 Γ2 : Cxt} {te : TE} {t u : TS} {T T1 : Ty}
theorem TpS.seq (h1 : TpS w Γ t Γ1 T) (h2 : TpS w Γ1 u Γ2 T) : TpS w Γ (tSeq t u) Γ2 T := fun D σ H o f qn qr => h1 _ σ H o f (fun σ1 H1 o1 s1 f1 => h2 D σ1 H1 o1 f1 (fun σ2 H2 o2 s2 f2 => qn σ2 H2 o2 (s1.trans s2) f2) (fun v H2 o2 s2 r2 => qr v H2 o2 (s1.trans s2) r2)) qr
theorem TpS.asg {i : Nat} (h : Tp w Γ te T1) : TpS w Γ (tAsg te (gName i)) (Γ.set i (some T1)) T := fun D σ H o f qn qr => h σ H _ o f fun v H1 o1 s1 t1 => qn _ H1 o1 s1 ((f.same s1).set t1)
theorem TpS.weak {Γ' : Cxt} (f : ∀ G σ, Fits Γ G σ → Fits Γ' G σ) (h : TpS w Γ' t Γ2 T) : TpS w Γ t Γ2 T := fun D σ H o g qn qr => h D σ H o (f _ _ g) qn qr
theorem TpS.sub {T' : Ty} (h : TpS w Γ t Γ2 T) (s : ∀ G v, T.p G v → T'.p G v) : TpS w Γ t Γ2 T' := fun D σ H o g qn qr => h D σ H o g qn fun v H1 o1 s1 t1 => qr v H1 o1 s1 (s _ _ t1)
theorem TpS.ret (h : Tp w Γ te T) : TpS w Γ (tRet te) Γ2 T := fun D σ H o f qn qr => h σ H _ o f qr
end
theorem TpS.go {w : View} {Γ Γ' : Cxt} {ts : TS} {T : Ty} {D : Ends} {σ : St} {H : Hp} (h : TpS w Γ ts Γ' T) (o : w.ok H) (f : Fits Γ (w.v H) σ) (qn : ∀ σ' H', w.ok H' → Same (w.v H) (w.v H') → Fits Γ' (w.v H') σ' → D.nx σ' H') (qr : ∀ v H', w.ok H' → Same (w.v H) (w.v H') → T.p (w.v H') v → D.rt v H') : ts D σ H := h D σ H o f qn qr
theorem Tp.asg2 {w : View} {Γ : Cxt} {te : TE} {T1 : Ty} {u : TS} {i : Nat} {D : Ends} {σ : St} {H : Hp} (h : Tp w Γ te T1) (o : w.ok H) (f : Fits Γ (w.v H) σ) (q : ∀ v H', w.ok H' → Same (w.v H) (w.v H') → T1.p (w.v H') v → u D (σ.set i (some v)) H') : tSeq (tAsg te (gName i)) u D σ H := h σ H _ o f q
theorem Fits.any : ∀ {G : Hp} (σ : St), Fits (σ.map fun _ => none) G σ := fun {G} σ => ⟨by rw [List.length_map], fun i T h => by rw [List.getElem?_map] at h; cases e : σ[i]? with | none => rw [e] at h; cases h | some x => rw [e] at h; cases h⟩
def tyNo : Ty := ⟨fun _ _ => False, fun _ h => h⟩
theorem Fits.no {G : Hp} {σ : St} (f : Fits [some tyNo] G σ) : False := let ⟨_, _, h⟩ := f.2 0 tyNo rfl; h
def CSub : Cxt → Cxt → Prop
  | [], [] => True
  | _ :: Γ, none :: Γ' => CSub Γ Γ'
  | some T :: Γ, some T' :: Γ' => (∀ G v, T.p G v → T'.p G v) ∧ CSub Γ Γ'
  | _, _ => False
theorem CSub.fits : ∀ {Γ Γ' : Cxt} {G : Hp} {σ : St}, CSub Γ Γ' → Fits Γ G σ → Fits Γ' G σ
  | [], [], _, _, _, f => f
  | [], _ :: _, _, _, h, _ => by simp [CSub] at h
  | _ :: _, [], _, _, h, _ => by simp [CSub] at h
  | a :: Γ, none :: Γ', G, [], h, f => by have := f.1; simp at this
  | a :: Γ, none :: Γ', G, v :: σ, h, f => Fits.skip (CSub.fits (Γ := Γ) (by rw [CSub] at h; exact h) ⟨by simpa using f.1, fun i T e => f.2 (i + 1) T e⟩)
  | none :: Γ, some T' :: Γ', G, σ, h, f => by simp [CSub] at h
  | some T :: Γ, some T' :: Γ', G, [], h, f => by have := f.1; simp at this
  | some T :: Γ, some T' :: Γ', G, v :: σ, h, f => by
    obtain ⟨u, e, q⟩ := f.2 0 T rfl
    have e : v = some u := by simpa using e
    subst e
    exact Fits.cons (h.1 _ _ q) (CSub.fits (Γ := Γ) h.2 ⟨by simpa using f.1, fun i T e => f.2 (i + 1) T e⟩)
end L2
set_option Elab.async false
set_option linter.all false
set_option maxRecDepth 100000
namespace L2
open PySem PyProof.Rows
def TpE (w : View) (Γ : Cxt) (ta : TA) (vs : List V) : Prop := ∀ (σ : St) (H : Hp) (Q : List V → Hp → Prop), w.ok H → Fits Γ (w.v H) σ → (∀ H', w.ok H' → Same (w.v H) (w.v H') → Q vs H') → ta σ H Q
section
variable {w : View} {Γ : Cxt} {te ta tb : TE} {K : PySem.W.Frag} {vs us : List V}
theorem TpE.nil : TpE w Γ tNil [] := fun σ H Q o f q => q H o (Same.refl _)
theorem TpE.cons {t : TA} {v : V} (h : Tp w Γ te (tyEq v)) (ht : TpE w Γ t vs) : TpE w Γ (tCons te t) (v :: vs) := fun σ H Q o f q => h σ H _ o f fun u H1 o1 s1 e1 => ht σ H1 _ o1 (f.same s1) fun H2 o2 s2 => by
  rw [show u = v from e1]; exact q H2 o2 (s1.trans s2)
end
end L2
set_option Elab.async false
set_option linter.all false
set_option maxRecDepth 100000
namespace L2
open PySem PyProof.Rows
def tyQ (k n : Nat) (P : PyData → Bool) : Ty := ⟨fun G v => ∃ d, ThAt G d v ∧ Fit k n d ∧ P d = true, fun s ⟨d, h, f, p⟩ => ⟨d, h.same s, f, p⟩⟩
section
variable {w : View} {Γ : Cxt} {te ta tb : TE} {K : PySem.W.Frag} {k n m k' n' m' lo hi : Nat} {i j : Int} {P P' : PyData → Bool}
theorem Fit.le {d : PyData} (f : Fit k n d) (hk : k ≤ k') (hn : n ≤ n') : Fit k' n' d := ⟨f.ls, f.sh, Nat.le_trans f.dp hk, Nat.le_trans f.wt hn⟩
theorem Th.q {G : Hp} {v : V} (t : Th G k n v) (h : ∀ d, ThAt G d v → P d = true) : (tyQ k n P).p G v := let ⟨d, a, f⟩ := t; ⟨d, a, f, h d a⟩
theorem tyQ.th {G : Hp} {v : V} (t : (tyQ k n P).p G v) : Th G k n v := let ⟨d, a, f, _⟩ := t; ⟨d, a, f⟩
theorem Tp.qI (h : Tp w Γ te (tyI i j)) (hP : ∀ x, i ≤ x → x ≤ j → P (.int x) = true) (h1 : -(10 ^ 29) ≤ i := by decide) (h2 : j ≤ 10 ^ 29 := by decide) (hn : 100 ≤ n' := by decide) : Tp w Γ te (tyQ k' n' P) := h.sub fun G v ⟨x, e, a, b⟩ => by
  rw [e]
  exact (Th.int (by omega) hn).q fun d t => by
    cases d <;> rw [ThAt] at t <;> first | (obtain ⟨_, _, z, _⟩ := t; cases z; done) | (obtain ⟨_, _, z, _⟩ := t; cases z; done) | (cases t; done) | (injection t with t; rw [← t]; exact hP x a b)
end
end L2
set_option Elab.async false
set_option linter.all false
set_option maxRecDepth 100000
namespace L2
open PySem PyProof.Rows
mutual
theorem ThAt.uniq {H : Hp} : ∀ {d e : PyData} {v : V}, ThAt H d v → ThAt H e v → d = e
  | .none, e, v, h, g => by rw [ThAt] at h; subst h; cases e <;> rw [ThAt] at g <;> first | (obtain ⟨a, ys, z, _⟩ := g; cases z; done) | (obtain ⟨_, a, z, _⟩ := g; cases z; done) | rfl | (cases g; done)
  | .bool b, e, v, h, g => by rw [ThAt] at h; subst h; cases e <;> rw [ThAt] at g <;> first | (obtain ⟨a, ys, z, _⟩ := g; cases z; done) | (obtain ⟨_, a, z, _⟩ := g; cases z; done) | (cases g; rfl) | (cases g; done)
  | .int i, e, v, h, g => by rw [ThAt] at h; subst h; cases e <;> rw [ThAt] at g <;> first | (obtain ⟨a, ys, z, _⟩ := g; cases z; done) | (obtain ⟨_, a, z, _⟩ := g; cases z; done) | (cases g; rfl) | (cases g; done)
  | .str x, e, v, h, g => by rw [ThAt] at h; subst h; cases e <;> rw [ThAt] at g <;> first | (obtain ⟨a, ys, z, _⟩ := g; cases z; done) | (obtain ⟨_, a, z, _⟩ := g; cases z; done) | (cases g; rfl) | (cases g; done)
  | .list xs, e, v, h, g => by
    rw [ThAt] at h
    obtain ⟨a, ys, rfl, h2, h3⟩ := h
    cases e with
    | list xs' =>
      rw [ThAt] at g
      obtain ⟨b, zs, z, g2, g3⟩ := g
      cases z
      rw [h2] at g2; cases g2
      rw [ThsAt.uniq h3 g3]
    | tuple xs' => rw [ThAt] at g; obtain ⟨b, zs, z, g2, g3⟩ := g; cases z; rw [h2] at g2; cases g2
    | dict kvs => rw [ThAt] at g; obtain ⟨_, b, z, g2⟩ := g; cases z; rw [h2] at g2; cases g2
    | none => rw [ThAt] at g; cases g
    | bool _ => rw [ThAt] at g; cases g
    | int _ => rw [ThAt] at g; cases g
    | str _ => rw [ThAt] at g; cases g
  | .tuple xs, e, v, h, g => by
    rw [ThAt] at h
    obtain ⟨a, ys, rfl, h2, h3⟩ := h
    cases e with
    | tuple xs' =>
      rw [ThAt] at g
      obtain ⟨b, zs, z, g2, g3⟩ := g
      cases z
      rw [h2] at g2; cases g2
      rw [ThsAt.uniq h3 g3]
    | list xs' => rw [ThAt] at g; obtain ⟨b, zs, z, g2, g3⟩ := g; cases z; rw [h2] at g2; cases g2
    | dict kvs => rw [ThAt] at g; obtain ⟨_, b, z, g2⟩ := g; cases z; rw [h2] at g2; cases g2
    | none => rw [ThAt] at g; cases g
    | bool _ => rw [ThAt] at g; cases g
    | int _ => rw [ThAt] at g; cases g
    | str _ => rw [ThAt] at g; cases g
  | .dict kvs, e, v, h, g => by
    rw [ThAt] at h
    obtain ⟨h0, a, rfl, h2⟩ := h
    cases e with
    | dict kvs' =>
      rw [ThAt] at g
      obtain ⟨g0, b, z, g2⟩ := g
      cases z
      rw [h2] at g2
      have q : dV (unD kvs) = dV (unD kvs') := by injection (Option.some.inj g2)
      rw [h0, g0, dV_inj q]
    | list xs' => rw [ThAt] at g; obtain ⟨b, zs, z, g2, g3⟩ := g; cases z; rw [h2] at g2; cases g2
    | tuple xs' => rw [ThAt] at g; obtain ⟨b, zs, z, g2, g3⟩ := g; cases z; rw [h2] at g2; cases g2
    | none => rw [ThAt] at g; cases g
    | bool _ => rw [ThAt] at g; cases g
    | int _ => rw [ThAt] at g; cases g
    | str _ => rw [ThAt] at g; cases g
theorem ThsAt.uniq {H : Hp} : ∀ {ds es : List PyData} {ys : List V}, ThsAt H ds ys → ThsAt H es ys → ds = es
  | [], es, ys, h, g => by
    rw [ThsAt] at h; subst h
    cases es with
    | nil => rfl
    | cons e es => rw [ThsAt] at g; obtain ⟨y, zs, z, _⟩ := g; cases z
  | d :: ds, es, ys, h, g => by
    rw [ThsAt] at h
    obtain ⟨y, zs, rfl, h2, h3⟩ := h
    cases es with
    | nil => rw [ThsAt] at g; cases g
    | cons e es =>
      rw [ThsAt] at g
      obtain ⟨y', zs', z, g2, g3⟩ := g
      cases z
      rw [ThAt.uniq h2 g2, ThsAt.uniq h3 g3]
end
theorem Th.fit {H : Hp} {k n : Nat} {v : V} {d : PyData} (t : Th H k n v) (h : ThAt H d v) : Fit k n d := by
  obtain ⟨e, g, f⟩ := t
  rw [h.uniq g]; exact f
theorem ThsAt.map {α : Type} {H : Hp} {f : α → PyData} {g : α → V} : ∀ {xs : List α}, (∀ x ∈ xs, ThAt H (f x) (g x)) → ThsAt H (xs.map f) (xs.map g)
  | [], _ => by rw [List.map_nil, List.map_nil, ThsAt]
  | x :: xs, h => by
    rw [List.map_cons, List.map_cons, ThsAt]
    exact ⟨_, _, rfl, h x (.head _), ThsAt.map fun y hy => h y (.tail _ hy)⟩
theorem ThAt.ints {H : Hp} {a : Addr} {ns : List Int} (h : H a = some (.lst (ns.map V.int))) : ThAt H (.list (ns.map .int)) (.ref a) := by
  rw [ThAt]
  exact ⟨a, _, rfl, h, ThsAt.map fun i _ => by rw [ThAt]⟩
end L2
set_option Elab.async false
set_option linter.all false
set_option maxRecDepth 100000
namespace L2
open PySem PyProof.Rows
def shT : PyData → Nat
  | .none => 0 | .bool _ => 1 | .int _ => 2 | .str _ => 3 | .list _ => 4 | .tuple _ => 5 | .dict _ => 6
def tyS (k n s : Nat) : Ty := ⟨fun G v => ∃ d, ThAt G d v ∧ Fit k n d ∧ shT d = s, fun s ⟨d, h, f, p⟩ => ⟨d, h.same s, f, p⟩⟩
def tyD (d : PyData) : Ty := ⟨fun G v => ThAt G d v, fun s h => h.same s⟩
def tyLx (k n lo hi : Nat) (P : PyData → Bool) : Ty := ⟨fun G v => ∃ a vs, v = .ref a ∧ G a = some (.lst vs) ∧ lo ≤ vs.length ∧ vs.length ≤ hi ∧ (∀ u ∈ vs, Th G k n u) ∧ ∃ u ∈ vs, (tyQ k n P).p G u,
  fun s ⟨a, vs, h1, h2, h3, h4, h5, u, h6, h7⟩ => ⟨a, vs, h1, s _ _ h2, h3, h4, fun u hu => (h5 u hu).same s, u, h6, (tyQ _ _ P).mo s h7⟩⟩
theorem Ths.ofL {H : Hp} {vs : List V} {ds : List PyData} (h : ThsAt H ds vs) : ∀ {j : Nat} {v : V}, vs[j]? = some v → ∃ d, ds[j]? = some d ∧ ThAt H d v := fun e => h.get e
theorem ThsAt.mem {H : Hp} {vs : List V} {ds : List PyData} (h : ThsAt H ds vs) {v : V} (hv : v ∈ vs) : ∃ d ∈ ds, ThAt H d v := by
  obtain ⟨j, hj, rfl⟩ := List.mem_iff_getElem.mp hv
  obtain ⟨d, hd, t⟩ := h.get (List.getElem?_eq_getElem hj)
  exact ⟨d, List.mem_of_getElem? hd, t⟩
theorem ThsAt.back {H : Hp} : ∀ {ds : List PyData} {vs : List V}, ThsAt H ds vs → ∀ d ∈ ds, ∃ v ∈ vs, ThAt H d v
  | [], _, _, d, hd => by cases hd
  | e :: ds, vs, h, d, hd => by
    rw [ThsAt] at h
    obtain ⟨y, zs, rfl, h1, h2⟩ := h
    rcases List.mem_cons.mp hd with rfl | hd
    · exact ⟨y, .head _, h1⟩
    · obtain ⟨v, hv, t⟩ := ThsAt.back h2 d hd
      exact ⟨v, .tail _ hv, t⟩
theorem ThsAt.drop {H : Hp} : ∀ (k : Nat) {ds : List PyData} {vs : List V}, ThsAt H ds vs → ThsAt H (ds.drop k) (vs.drop k)
  | 0, _, _, h => h
  | k + 1, [], vs, h => by rw [ThsAt] at h; subst h; rw [List.drop_nil, List.drop_nil, ThsAt]
  | k + 1, d :: ds, vs, h => by
    rw [ThsAt] at h
    obtain ⟨y, zs, rfl, h1, h2⟩ := h
    exact ThsAt.drop k h2
theorem ThsAt.take {H : Hp} : ∀ (k : Nat) {ds : List PyData} {vs : List V}, ThsAt H ds vs → ThsAt H (ds.take k) (vs.take k)
  | 0, _, _, h => by rw [List.take_zero, List.take_zero, ThsAt]
  | k + 1, [], vs, h => by rw [ThsAt] at h; subst h; rw [List.take_nil, List.take_nil, ThsAt]
  | k + 1, d :: ds, vs, h => by
    rw [ThsAt] at h
    obtain ⟨y, zs, rfl, h1, h2⟩ := h
    rw [List.take_succ_cons, List.take_succ_cons, ThsAt]
    exact ⟨_, _, rfl, h1, ThsAt.take k h2⟩
theorem ThsAt.rev {H : Hp} : ∀ {ds : List PyData} {vs : List V}, ThsAt H ds vs → ThsAt H ds.reverse vs.reverse
  | [], vs, h => by rw [ThsAt] at h; subst h; rw [List.reverse_nil, List.reverse_nil, ThsAt]
  | d :: ds, vs, h => by
    rw [ThsAt] at h
    obtain ⟨y, zs, rfl, h1, h2⟩ := h
    rw [List.reverse_cons, List.reverse_cons]
    exact (ThsAt.rev h2).app (by rw [ThsAt]; exact ⟨_, _, rfl, h1, by rw [ThsAt]⟩)
theorem ThsAt.rep {H : Hp} {ds : List PyData} {vs : List V} : ∀ (c : Nat), ThsAt H ds vs → ThsAt H (List.replicate c ds).flatten (List.replicate c vs).flatten
  | 0, h => by rw [List.replicate_zero, List.replicate_zero, List.flatten_nil, List.flatten_nil, ThsAt]
  | c + 1, h => by
    rw [List.replicate_succ, List.replicate_succ, List.flatten_cons, List.flatten_cons]
    exact h.app (ThsAt.rep c h)
theorem ThAt.lst {H : Hp} {a : Addr} {ds : List PyData} {vs : List V} (h : H a = some (.lst vs)) (t : ThsAt H ds vs) : ThAt H (.list ds) (.ref a) := by rw [ThAt]; exact ⟨a, vs, rfl, h, t⟩
theorem ThAt.list_inv {H : Hp} {a : Addr} {ds : List PyData} {vs : List V} (h : H a = some (.lst vs)) (t : ThAt H (.list ds) (.ref a)) : ThsAt H ds vs := by
  rw [ThAt] at t
  obtain ⟨b, us, e, h1, h2⟩ := t
  cases e
  rw [h] at h1; cases h1
  exact h2
theorem ref_list {H : Hp} {a : Addr} {d : PyData} {vs : List V} (h : H a = some (.lst vs)) (t : ThAt H d (.ref a)) : ∃ ds, d = .list ds ∧ ThsAt H ds vs := by
  cases d with
  | list ds => exact ⟨ds, rfl, t.list_inv h⟩
  | tuple ds => rw [ThAt] at t; obtain ⟨b, us, e, h1, _⟩ := t; cases e; rw [h] at h1; cases h1
  | dict _ => rw [ThAt] at t; obtain ⟨_, b, e, h1⟩ := t; cases e; rw [h] at h1; cases h1
  | none => rw [ThAt] at t; cases t
  | bool _ => rw [ThAt] at t; cases t
  | int _ => rw [ThAt] at t; cases t
  | str _ => rw [ThAt] at t; cases t
theorem ref_tup {H : Hp} {a : Addr} {d : PyData} {vs : List V} (h : H a = some (.tup vs)) (t : ThAt H d (.ref a)) : ∃ ds, d = .tuple ds ∧ ThsAt H ds vs := by
  cases d with
  | tuple ds => rw [ThAt] at t; obtain ⟨b, us, e, h1, h2⟩ := t; cases e; rw [h] at h1; cases h1; exact ⟨ds, rfl, h2⟩
  | list ds => rw [ThAt] at t; obtain ⟨b, us, e, h1, _⟩ := t; cases e; rw [h] at h1; cases h1
  | dict _ => rw [ThAt] at t; obtain ⟨_, b, e, h1⟩ := t; cases e; rw [h] at h1; cases h1
  | none => rw [ThAt] at t; cases t
  | bool _ => rw [ThAt] at t; cases t
  | int _ => rw [ThAt] at t; cases t
  | str _ => rw [ThAt] at t; cases t
section
variable {w : View} {Γ : Cxt} {te ta tb : TE} {K : PySem.W.Frag} {k n m k' n' m' lo hi lo' hi' s : Nat} {i j : Int} {P P' : PyData → Bool} {d e : PyData}
theorem Tp.sQ (h : Tp w Γ te (tyS k n s)) (hP : ∀ d, shT d = s → P d = true) (hk : k ≤ k' := by decide) (hn : n ≤ n' := by decide) : Tp w Γ te (tyQ k' n' P) := h.sub fun G v ⟨d, a, f, p⟩ => ⟨d, a, f.le hk hn, hP d p⟩
theorem Th.sh {G : Hp} {v : V} (t : Th G k n v) (h : ∀ d, ThAt G d v → shT d = s) : (tyS k n s).p G v := let ⟨d, a, f⟩ := t; ⟨d, a, f, h d a⟩
theorem Tp.nonS : Tp w Γ (tC .non) (tyS 0 0 0) := fun σ H Q o f q => q _ H o (Same.refl _) (Th.non.sh fun d t => by rw [t.uniq (e := .none) (by rw [ThAt])]; rfl)
theorem Tp.blS {b : Bool} : Tp w Γ (tC (.bl b)) (tyS 0 0 1) := fun σ H Q o f q => q _ H o (Same.refl _) (Th.bl.sh fun d t => by rw [t.uniq (e := .bool b) (by rw [ThAt])]; rfl)
theorem Tp.strS {x : Str} (h : (x.cps.toList.all fun c => decide (c < 16 ^ 8)) = true) (hn : x.cps.size ≤ 100) : Tp w Γ (tC (.str x)) (tyS 0 100 3) := fun σ H Q o f q => q _ H o (Same.refl _) ((Th.str h hn).sh fun d t => by rw [t.uniq (e := .str x) (by rw [ThAt])]; rfl)
theorem Tp.lS (h : Tp w Γ te (tyL k n lo hi)) : Tp w Γ te (tyS (k + 1) ((n + 1) * hi) 4) := h.sub fun G v ⟨a, vs, e, h1, _, h2, h3⟩ => by
  rw [e]; exact (Th.lst h1 h3 (Nat.mul_le_mul_left _ h2)).sh fun d t => by obtain ⟨_, rfl, _⟩ := ref_list h1 t; rfl
theorem Tp.empS : Tp w Γ tDNewK (tyS 1 0 6) := fun σ H Q o f q p hp => by
  obtain ⟨o2, s2, e2⟩ := w.new (.dK []) o hp
  exact q (.ref p) _ o2 s2 ⟨.dict [], by rw [ThAt]; exact ⟨rfl, p, rfl, e2⟩, Th.fit (Th.emp e2 (Nat.le_refl _)) (by rw [ThAt]; exact ⟨rfl, p, rfl, e2⟩), rfl⟩
theorem Tp.tupQ {t : TA} (h : TpA w Γ t k n m) (hP : ∀ ds : List PyData, ds.length = m → P (.tuple ds) = true) (hk : k + 1 ≤ k' := by decide) (hn : (n + 1) * m ≤ n' := by decide) (hm : m ≤ 10000 := by decide) : Tp w Γ (tTup t) (tyQ k' n' P) := fun σ H Q o f q => h σ H _ o f fun vs H1 o1 s1 e1 t1 => ⟨small_line (by rw [e1]; exact hm), fun p hp => by
  obtain ⟨o2, s2, e2⟩ := w.new (.tup vs) o1 hp
  exact q (.ref p) _ o2 (s1.trans s2) (((Th.tup e2 (fun u hu => (t1 u hu).same s2) (by rw [e1]; exact Nat.le_refl _)).le hk hn).q fun d t => by
    obtain ⟨ds, rfl, hd⟩ := ref_tup e2 t
    exact hP ds (by rw [← hd.len, e1]))⟩
theorem Tp.tupOfS (h : Tp w Γ te (tyL k n lo hi)) : Tp w Γ (tCB (fun xs H Q => ∃ p ys, xs = [.ref p] ∧ ((SqL K H p ys ∧ ∀ l, H l = none → Q (.ref l) (upd H l (.tup ys))) ∨ (SqT K H p ys ∧ Q (.ref p) H))) (tCons te tNil)) (tyS (k + 1) ((n + 1) * hi) 5) := fun σ H Q o f q => h σ H _ o f fun v H1 o1 s1 ⟨a, vs, e1, g1, l1, m1, r1⟩ => ⟨a, vs, by rw [e1], .inl ⟨SqL.of (w.out g1), fun p hp => by
  obtain ⟨o4, s4, e4⟩ := w.new (.tup vs) o1 hp
  exact q (.ref p) _ o4 (s1.trans s4) ((Th.tup e4 (fun u hu => (r1 u hu).same s4) (Nat.mul_le_mul_left _ m1)).sh fun d t => by obtain ⟨_, rfl, _⟩ := ref_tup e4 t; rfl)⟩⟩
theorem Tp.lenQ (h : Tp w Γ te (tyL k n lo hi)) (hP : ∀ ds : List PyData, lo ≤ ds.length → ds.length ≤ hi → P (.list ds) = true) (hk : k + 1 ≤ k' := by decide) (hn : (n + 1) * hi ≤ n' := by decide) : Tp w Γ te (tyQ k' n' P) := h.sub fun G v ⟨a, vs, e, h1, l1, h2, h3⟩ => by
  rw [e]; exact ((Th.lst h1 h3 (Nat.mul_le_mul_left _ h2)).le hk hn).q fun d t => by
    obtain ⟨ds, rfl, hd⟩ := ref_list h1 t
    exact hP ds (by rw [← hd.len]; exact l1) (by rw [← hd.len]; exact h2)
theorem Tp.oneX (h : Tp w Γ te (tyQ k n P)) : Tp w Γ (tLst (tCons te tNil)) (tyLx k n 1 1 P) := fun σ H Q o f q => h σ H _ o f fun v H1 o1 s1 t1 => ⟨small_line (by simp), fun p hp => by
  obtain ⟨o2, s2, e2⟩ := w.new (.lst [v]) o1 hp
  have t2 := (tyQ k n P).mo s2 t1
  exact q (.ref p) _ o2 (s1.trans s2) ⟨p, [v], rfl, e2, Nat.le_refl _, Nat.le_refl _, fun u hu => by rw [List.mem_singleton.mp hu]; exact tyQ.th t2, v, .head _, t2⟩⟩
theorem Tp.catXr (ha : Tp w Γ ta (tyL k n lo hi)) (hb : Tp w Γ tb (tyLx k n lo' hi' P)) (hm : hi + hi' ≤ 10000 := by decide) : Tp w Γ (tOp rCat ta tb) (tyLx k n (lo + lo') (hi + hi') P) := fun σ H Q o f q => ha σ H _ o f fun v H1 o1 s1 t1 => hb σ H1 _ o1 (f.same s1) fun u H2 o2 s2 t2 => by
  obtain ⟨a, vs, e1, g1, l1, m1, r1⟩ := (tyL k n lo hi).mo s2 t1
  obtain ⟨b, us, e2, g2, l2, m2, r2, y, hy, ty⟩ := t2
  refine ⟨a, b, vs, us, e1, e2, w.out g1, w.out g2, small_line (Nat.le_trans (Nat.add_le_add m1 m2) hm), fun p hp => ?_⟩
  obtain ⟨o3, s3, e3⟩ := w.new (.lst (vs ++ us)) o2 hp
  refine q (.ref p) _ o3 (s1.trans (s2.trans s3)) ⟨p, _, rfl, e3, by rw [List.length_append]; omega, by rw [List.length_append]; omega, fun x hx => ?_, y, List.mem_append_right _ hy, (tyQ k n P).mo s3 ty⟩
  rcases List.mem_append.mp hx with hx | hx
  · exact Th.same (r1 x hx) s3
  · exact (r2 x hx).same s3
theorem Tp.catXl (ha : Tp w Γ ta (tyLx k n lo hi P)) (hb : Tp w Γ tb (tyL k n lo' hi')) (hm : hi + hi' ≤ 10000 := by decide) : Tp w Γ (tOp rCat ta tb) (tyLx k n (lo + lo') (hi + hi') P) := fun σ H Q o f q => ha σ H _ o f fun v H1 o1 s1 t1 => hb σ H1 _ o1 (f.same s1) fun u H2 o2 s2 t2 => by
  obtain ⟨a, vs, e1, g1, l1, m1, r1, y, hy, ty⟩ := (tyLx k n lo hi P).mo s2 t1
  obtain ⟨b, us, e2, g2, l2, m2, r2⟩ := t2
  refine ⟨a, b, vs, us, e1, e2, w.out g1, w.out g2, small_line (Nat.le_trans (Nat.add_le_add m1 m2) hm), fun p hp => ?_⟩
  obtain ⟨o3, s3, e3⟩ := w.new (.lst (vs ++ us)) o2 hp
  refine q (.ref p) _ o3 (s1.trans (s2.trans s3)) ⟨p, _, rfl, e3, by rw [List.length_append]; omega, by rw [List.length_append]; omega, fun x hx => ?_, y, List.mem_append_left _ hy, (tyQ k n P).mo s3 ty⟩
  rcases List.mem_append.mp hx with hx | hx
  · exact (r1 x hx).same s3
  · exact Th.same (r2 x hx) s3
theorem Tp.lxQ (h : Tp w Γ te (tyLx k n lo hi P)) (hP : ∀ (ds : List PyData) d, d ∈ ds → P d = true → P' (.list ds) = true) (hk : k + 1 ≤ k' := by decide) (hn : (n + 1) * hi ≤ n' := by decide) : Tp w Γ te (tyQ k' n' P') := h.sub fun G v ⟨a, vs, e, h1, l1, h2, h3, y, hy, dy, ty, fy, py⟩ => by
  rw [e]; exact ((Th.lst h1 h3 (Nat.mul_le_mul_left _ h2)).le hk hn).q fun d t => by
    obtain ⟨ds, rfl, hd⟩ := ref_list h1 t
    obtain ⟨d2, hd2, t2⟩ := hd.mem hy
    exact hP ds d2 hd2 (by rw [t2.uniq ty]; exact py)
theorem Tp.leL (h : Tp w Γ te (tyL k n lo hi)) (hk : k ≤ k' := by decide) (hn : n ≤ n' := by decide) : Tp w Γ te (tyL k' n' lo hi) := h.wideL (fun _ _ t => Th.le t hk hn) (Nat.le_refl _) (Nat.le_refl _)
theorem Tp.dQ (h : Tp w Γ te (tyD d)) (f : Fit k n d) (hP : P d = true) : Tp w Γ te (tyQ k n P) := h.sub fun G v t => ⟨d, t, f, hP⟩
theorem Tp.intD : Tp w Γ (tC (.int i)) (tyD (.int i)) := fun σ H Q o f q => q _ H o (Same.refl _) (by show ThAt _ _ _; rw [ThAt])
def TpD (w : View) (Γ : Cxt) (ta : TA) (ds : List PyData) : Prop := ∀ (σ : St) (H : Hp) (Q : List V → Hp → Prop), w.ok H → Fits Γ (w.v H) σ → (∀ vs H', w.ok H' → Same (w.v H) (w.v H') → ThsAt (w.v H') ds vs → Q vs H') → ta σ H Q
theorem ThsAt.same' {G G' : Hp} {ds : List PyData} {vs : List V} (h : ThsAt G ds vs) (m : Same G G') : ThsAt G' ds vs := ThsAt.same m h
theorem TpD.nil : TpD w Γ tNil [] := fun σ H Q o f q => q [] H o (Same.refl _) (by rw [ThsAt])
theorem TpD.cons {t : TA} {ds : List PyData} (h : Tp w Γ te (tyD d)) (ht : TpD w Γ t ds) : TpD w Γ (tCons te t) (d :: ds) := fun σ H Q o f q => h σ H _ o f fun v H1 o1 s1 t1 => ht σ H1 _ o1 (f.same s1) fun vs H2 o2 s2 t2 => q (v :: vs) H2 o2 (s1.trans s2) (by rw [ThsAt]; exact ⟨_, _, rfl, ThAt.same s2 t1, t2⟩)
theorem Tp.lstD {t : TA} {ds : List PyData} (h : TpD w Γ t ds) (hm : ds.length ≤ 10000 := by first | decide | simp) : Tp w Γ (tLst t) (tyD (.list ds)) := fun σ H Q o f q => h σ H _ o f fun vs H1 o1 s1 t1 => ⟨small_line (by rw [t1.len]; exact hm), fun p hp => by
  obtain ⟨o2, s2, e2⟩ := w.new (.lst vs) o1 hp
  exact q (.ref p) _ o2 (s1.trans s2) (ThAt.lst e2 (t1.same' s2))⟩
theorem Tp.takeD {ds : List PyData} {c : Nat} (h : Tp w Γ te (tyD (.list ds))) : Tp w Γ (tSl (rSlL K) te tNoPart (tPart (tC (.int c)))) (tyD (.list (ds.take c))) := fun σ H Q o f q => h σ H _ o f fun v H1 o1 s1 t1 => ⟨c, rfl, by
  have t1 : ThAt (w.v H1) (.list ds) v := t1
  rw [ThAt] at t1
  obtain ⟨a, vs, e1, g1, r1⟩ := t1
  refine ⟨a, vs, e1, SqL.of (w.out g1), fun p hp => ?_⟩
  rw [cutV_to]
  obtain ⟨o3, s3, e3⟩ := w.new (.lst (vs.take c)) o1 hp
  exact q (.ref p) _ o3 (s1.trans s3) (ThAt.lst e3 (ThsAt.take c (r1.same' s3)))⟩
theorem Tp.dL {ds : List PyData} (h : Tp w Γ te (tyD (.list ds))) (f : ∀ d ∈ ds, Fit k n d) : Tp w Γ te (tyL k n ds.length ds.length) := h.sub fun G v t => by
  have t : ThAt G (.list ds) v := t
  rw [ThAt] at t
  obtain ⟨a, vs, e, h1, h2⟩ := t
  refine ⟨a, vs, e, h1, by rw [h2.len]; exact Nat.le_refl _, by rw [h2.len]; exact Nat.le_refl _, fun u hu => ?_⟩
  obtain ⟨d, hd, td⟩ := h2.mem hu
  exact ⟨d, td, f d hd⟩
theorem Tp.tup2 {tx ty : TE} (hx : Tp w Γ tx (tyQ k n P)) (hy : Tp w Γ ty (tyQ k n P')) {R : PyData → Bool} (hP : ∀ d e, P d = true → P' e = true → R (.tuple [d, e]) = true) (hk : k + 1 ≤ k' := by decide) (hn : (n + 1) * 2 ≤ n' := by decide) : Tp w Γ (tTup (tCons tx (tCons ty tNil))) (tyQ k' n' R) := fun σ H Q o f q => hx σ H _ o f fun x H1 o1 s1 t1 => hy σ H1 _ o1 (f.same s1) fun y H2 o2 s2 t2 => ⟨small_line (by simp), fun p hp => by
  obtain ⟨o4, s4, e4⟩ := w.new (.tup [x, y]) o2 hp
  obtain ⟨d, td, fd, pd⟩ := (tyQ k n P).mo (s2.trans s4) t1
  obtain ⟨e, te, fe, pe⟩ := (tyQ k n P').mo s4 t2
  refine q (.ref p) _ o4 ((s1.trans s2).trans s4) (((Th.tup (n' := (n + 1) * 2) e4 (fun u hu => ?_) (Nat.le_refl _)).le hk hn).q fun dd t => ?_)
  · simp only [List.mem_cons, List.not_mem_nil, or_false] at hu
    rcases hu with rfl | rfl
    · exact ⟨d, td, fd⟩
    · exact ⟨e, te, fe⟩
  · obtain ⟨ds, rfl, hd⟩ := ref_tup e4 t
    have : ds = [d, e] := hd.uniq (by rw [ThsAt]; exact ⟨_, _, rfl, td, by rw [ThsAt]; exact ⟨_, _, rfl, te, by rw [ThsAt]⟩⟩)
    rw [this]; exact hP d e pd pe⟩
theorem fits_capt {G : Hp} {σ : St} {Γ : Cxt} (f : Fits Γ G σ) : ∀ js : List Nat, Fits (js.map fun j => (Γ[j]?).join) G (capt js σ)
  | [] => Fits.nil
  | j :: js => by
    have ih := fits_capt f js
    show Fits ((Γ[j]?).join :: js.map fun j => (Γ[j]?).join) G ((σ[j]?).join :: capt js σ)
    cases e : Γ[j]? with
    | none => exact Fits.skip ih
    | some T =>
      cases T with
      | none => exact Fits.skip ih
      | some T =>
        obtain ⟨v, ev, q⟩ := f.2 j T e
        rw [ev]
        exact Fits.cons q ih
theorem TpS.nil {TR : Ty} : TpS w Γ tNext Γ TR := fun D σ H o f qn qr => qn σ H o (Same.refl _) f
theorem TpS.post {t : TS} {Γ1 Γ2 : Cxt} {TR : Ty} (h : TpS w Γ t Γ1 TR) (c : CSub Γ1 Γ2) : TpS w Γ t Γ2 TR := fun D σ H o f qn qr => h D σ H o f (fun σ' H' o' s' f' => qn σ' H' o' s' (c.fits f')) qr
end
end L2
set_option Elab.async false
set_option linter.all false
set_option maxRecDepth 100000
namespace L2
open PySem PySem.Spec PyProof.Rows
section
variable {X : Cx} {pins : List (Addr × Obj)} {σ : St} {H : Hp} {s : Shared} {h' : Heap} {T : Addr} {o : HO} {t' : Nat} {fp : List Addr}
theorem Inv.turnedL (I : Inv X pins σ H s) (k : ∀ b o, b ∉ fp → s.heap.get? b = some o → h'.get? b = some o) (hf : ∀ b ∈ fp, FpOk X pins H b) : Inv X pins σ H { s with heap := h', toks := t' } := by
  have nf : ∀ b u, H b = some u → b ∉ fp := fun b u e hb => by rw [(hf b hb).1] at e; cases e
  refine I.step (g' := s.gens) (d' := s.drawn) (ch := fp) (fun b hb => ⟨(hf b hb).2.2.2.1, (hf b hb).2.1, (hf b hb).2.2.2.2.1, (hf b hb).2.2.2.2.2⟩) (fun b o _ _ hc q _ => k b o hc q) (fun b o _ _ hc q _ => ⟨o.slots, k b o hc q⟩) (fun _ _ _ _ n => n)
    (fun b o hc q => ⟨o, k b o hc q⟩) (fun _ _ q => q) (fun _ _ _ q => q) (fun b ps q => ⟨#[], by rw [q]; simp⟩) (fun m hm => ?_) (fun b u q => ?_) I.bare
  · obtain ⟨o, es, ep, ho, r⟩ := hm
    exact ⟨o, es, ep, k _ o (fun z => (hf _ z).2.1 rfl) ho, r⟩
  · refine (I.hok b u q).stay (fun c v hc z => k c v ?_ z) (fun _ z => z) fun _ _ z => z
    rcases hc with rfl | hc
    · exact nf _ _ q
    · exact nf _ _ hc
theorem Inv.turnedN (I : Inv X pins σ H s) (k : ∀ b o, b ∉ fp → s.heap.get? b = some o → h'.get? b = some o) (hf : ∀ b ∈ fp, FpOk X pins H b) (hT : s.heap.objs.size ≤ T) (new : ObjOk X.prog X.w (upd H T o) h' T o) :
    Inv X pins σ (upd H T o) { s with heap := h', toks := t' } := by
  have hn : H T = none := I.hok.fresh hT
  have na : ∀ b u, H b = some u → b ≠ T := fun b u e z => by rw [z, hn] at e; cases e
  have nf : ∀ b u, H b = some u → b ∉ fp := fun b u e hb => by rw [(hf b hb).1] at e; cases e
  refine I.step (g' := s.gens) (d' := s.drawn) (ch := fp) (fun b hb => ⟨(hf b hb).2.2.2.1, (hf b hb).2.1, (hf b hb).2.2.2.2.1, (hf b hb).2.2.2.2.2⟩) (fun b o _ _ hc q _ => k b o hc q) (fun b o _ _ hc q _ => ⟨o.slots, k b o hc q⟩) (fun b o hc q n => by rw [upd_ne (Nat.ne_of_lt (Nat.lt_of_lt_of_le (Heap.lt_size q) hT))]; exact n)
    (fun b o hc q => ⟨o, k b o hc q⟩) (fun b xs q => by rw [upd_ne (na b _ q)]; exact q) (fun b o u q => by rw [upd_ne (na b _ q)]; exact q) (fun b ps q => ⟨#[], by rw [upd_ne (na b _ q), q]; simp⟩) (fun m hm => ?_) (fun b u q => ?_) I.bare
  · obtain ⟨o, es, ep, ho, r⟩ := hm
    exact ⟨o, es, ep, k _ o (fun z => (hf _ z).2.1 rfl) ho, r⟩
  · by_cases hb : b = T
    · subst hb
      rw [upd_same] at q
      cases q
      exact new
    · rw [upd_ne hb] at q
      refine (I.hok b u q).stay (fun c v hc z => k c v ?_ z) (fun c z => by rw [upd_ne (na c _ z)]; exact z) fun c xs z => by rw [upd_ne (na c _ z)]; exact z
      rcases hc with rfl | hc
      · exact nf _ _ q
      · exact nf _ _ hc
end
def Itz (K : PySem.W.Frag) (a b : Addr) : It :=
  ⟨fun i H => ∃ xs ys x y, SqL K H a xs ∧ SqL K H b ys ∧ xs[i]? = some x ∧ ys[i]? = some y, fun i H v H' => ∃ T x y, v = .ref T ∧ H T = none ∧ H' = upd H T (.tup [x, y]) ∧ (∀ xs, SqL K H a xs → xs[i]? = some x) ∧ ∀ ys, SqL K H b ys → ys[i]? = some y,
    fun i H => ∃ xs ys, SqL K H a xs ∧ SqL K H b ys ∧ (xs.length ≤ i ∨ ys.length ≤ i)⟩
theorem turn_zip {P : Program} {w : World} {K : PySem.W.Frag} {elts : List Expr} {k : Nat} {tp : Pos} (a b z TI TO i1 i2 : Addr) (D : ZipApart z TI TO i1 i2 a b) : Turn P w K (.Tuple elts k tp) (Itz K a b) [z, TI, TO, i1, i2] z
    (fun i h => IsZip h z TI TO .none ∧ IsPair h TI (.ref i1) (.ref i2) ∧ (∃ u v, IsPair h TO u v) ∧ h.IsListIter i1 a i ∧ h.IsListIter i2 b i) where
  mem := by simp
  obj := fun i h st c hc => by
    obtain ⟨h1, h2, ⟨u, v, h3⟩, ⟨o4, h4, c4, d4⟩, ⟨o5, h5, c5, d5⟩⟩ := st
    simp only [List.mem_cons, List.not_mem_nil, or_false] at hc
    rcases hc with rfl | rfl | rfl | rfl | rfl
    · exact ⟨_, h1, fun v q => by have q' : Data.fields _ = Data.cell v := q; cases q'⟩
    · exact ⟨_, h2, fun v q => by have q' : Data.seq _ _ = Data.cell v := q; cases q'⟩
    · exact ⟨_, h3, fun v q => by have q' : Data.seq _ _ = Data.cell v := q; cases q'⟩
    · exact ⟨o4, h4, fun v q => by rw [d4] at q; cases q⟩
    · exact ⟨o5, h5, fun v q => by rw [d5] at q; cases q⟩
  keep := fun i h h' st kk => by
    obtain ⟨h1, h2, ⟨u, v, h3⟩, h4, h5⟩ := st
    exact ⟨kk z (by simp) _ h1, kk TI (by simp) _ h2, ⟨u, v, kk TO (by simp) _ h3⟩, h4.at fun o q => kk i1 (by simp) o q, h5.at fun o q => kk i2 (by simp) o q⟩
  item := by
    intro X hP hw hK hc i pins s σ H E I hf st hg
    subst hP hw hK
    obtain ⟨xs, ys, x, y, hq1, hq2, hx, hy⟩ := hg
    obtain ⟨its, rv, p, _⟩ := I.list hq1
    obtain ⟨its2, rv2, p2, _⟩ := I.list hq2
    obtain ⟨u, hu, ru⟩ := rv.get hx
    obtain ⟨v, hv, rv'⟩ := rv2.get hy
    obtain ⟨h1, h2, ⟨u0, v0, h3⟩, h4, h5⟩ := st
    refine wpAny_pyNext_zip_item D h1 h2 h3 h4 h5 p.isList p2.isList (x := u) (y := v) (by simpa using hu) (by simpa using hv) fun h' g1 g3 g4 g5 gT hsz hk => ?_
    refine ⟨_, rfl, ?_⟩
    refine wpAny_letOwnedTupleGo_zip (s := { s with heap := h' }) g1 fun h'' g1' hs' => ?_
    have hzl : z < s.heap.objs.size := Heap.lt_size h1
    have gT' : h''.get? s.heap.objs.size = some { cls := .type "tuple", data := .seq #[u, v] } := (hs'.2 _ (Nat.ne_of_gt hzl)).trans gT
    have I1 : Inv X pins σ (upd H s.heap.objs.size (.tup [x, y])) { s with heap := h'', toks := s.toks } := by
      refine I.turnedN (fp := [z, TI, TO, i1, i2]) (fun c o hc q => ?_) hf (Nat.le_refl _) ⟨by show 2 ≤ sizeLine; decide, [u, v], .cons ru (.cons rv' .nil), _, gT', rfl, 0, rfl⟩
      exact (hs'.2 c (fun q => hc (by simp [q]))).trans (hk c o (fun q => hc (by simp [q])) (fun q => hc (by simp [q])) (fun q => hc (by simp [q])) (fun q => hc (by simp [q])) q)
    have hTI : h''.get? TI = some _ := (hs'.2 _ D.TIz).trans (hk _ _ D.TIz D.TITO D.TIi1 D.TIi2 h2)
    refine ⟨.ref s.heap.objs.size, _, I1, rfl, ⟨s.heap.objs.size, x, y, rfl, I.hok.fresh (Nat.le_refl _), rfl, fun zs hz => by rw [I.list_inj hz hq1]; exact hx, fun zs hz => by rw [I.list_inj hz hq2]; exact hy⟩, ⟨g1', hTI, ⟨u, v, (hs'.2 _ D.TOz).trans g3⟩, g4.at fun o q => (hs'.2 _ D.i1z).trans q, g5.at fun o q => (hs'.2 _ D.i2z).trans q⟩, fun c hc => ?_⟩
    have hcl : c < s.heap.objs.size := by
      simp only [List.mem_cons, List.not_mem_nil, or_false] at hc
      obtain ⟨o4, h4, _⟩ := h4
      obtain ⟨o5, h5, _⟩ := h5
      rcases hc with rfl | rfl | rfl | rfl | rfl
      · exact hzl
      · exact Heap.lt_size h2
      · exact Heap.lt_size h3
      · exact Heap.lt_size h4
      · exact Heap.lt_size h5
    rw [upd_ne (Nat.ne_of_lt hcl)]
    exact (hf c hc).1
  done := by
    intro X hP hw hK hc i pins s σ H E I hf st hg
    subst hP hw hK
    obtain ⟨xs, ys, hq1, hq2, hx⟩ := hg
    obtain ⟨its, rv, p, _⟩ := I.list hq1
    obtain ⟨its2, rv2, p2, _⟩ := I.list hq2
    obtain ⟨h1, h2, ⟨u0, v0, h3⟩, h4, h5⟩ := st
    have l1 := rv.length
    have l2 := rv2.length
    refine wpAny_pyNext_zip_end (I.ok.hd hc) D h1 h2 h3 h4 h5 p.isList p2.isList (by
      rcases hx with hx | hx
      · exact .inl (by simp; omega)
      · exact .inr (by simp; omega)) fun h' hk => ⟨rfl, I.turnedL (t' := s.toks) (fp := [z, TI, TO, i1, i2]) (fun c o hc q => ?_) hf⟩
    exact hk c o (fun q => hc (by simp [q])) (fun q => hc (by simp [q])) (fun q => hc (by simp [q])) (fun q => hc (by simp [q])) q
  self := fun _ _ _ _ _ st h => wpAny_pyIter_zip st.1 h
section
variable {X : Cx}
theorem boot_zip : bootBuiltins "zip" = some (.type "zip") := by decide +kernel
def iZip (K : PySem.W.Frag) (tl : TA) : TI := fun σ H R => tl σ H fun vs H1 => ∃ a b, vs = [.ref a, .ref b] ∧ (∃ xs, SqL K H1 a xs) ∧ (∃ ys, SqL K H1 b ys) ∧ R (Itz K a b) H1
theorem pi_zip (K : PySem.W.Frag) {elts : List Expr} {k : Nat} {tp : Pos} {a b : Expr} {ta : TA} {p pos : Pos} (hg : Gl X "zip") (hm : X.mg "zip" = none) (ha : PA X [a, b] ta) (he : starEach [a, b] X.env = (false, eval a X.env) :: starEach [b] X.env := by rfl) (hpl : (backTo pos (starEach [b] X.env)).any (·.1) = false := by rfl) (ek : X.K = K := by rfl) :
    PI X (.Tuple elts k tp) (.Call (.Name "zip" p) [a, b] [] pos) (iZip K ta) := by
  subst ek
  intro pins s σ H R I h
  refine Call_ (ld_blt I hg hm boot_zip (PyProof.Rows.callWith_type1 (thn (ha pos pins s σ H _ I h) fun us s1 ⟨vs, H1, I1, r1, q1⟩ => ?_) he hpl))
  obtain ⟨l1, l2, e, ⟨xs, hq1⟩, ⟨ys, hq2⟩, q⟩ := q1
  subst e
  obtain ⟨u1, u2, rfl, r1, r2⟩ := vals2 r1
  cases r1
  cases r2
  obtain ⟨its, rv, pl, _⟩ := I1.list hq1
  obtain ⟨its2, rv2, pl2, _⟩ := I1.list hq2
  have b1 : l1 < s1.heap.objs.size := by obtain ⟨_, e, _⟩ := pl.isList; exact Heap.lt_size e
  have b2 : l2 < s1.heap.objs.size := by obtain ⟨_, e, _⟩ := pl2.isList; exact Heap.lt_size e
  refine call_zip_2 pl.isList pl2.isList fun h' g1 g2 g3 g4 g5 hsz hk => ?_
  refine wpAny_pyIter_zip (s := { s1 with heap := h' }) g1 ?_
  have I2 : Inv X pins σ H1 { s1 with heap := h' } := I1.kept (t' := s1.toks) fun b o q => hk b o q
  refine ⟨s1.heap.objs.size + 4, [s1.heap.objs.size + 4, s1.heap.objs.size + 2, s1.heap.objs.size + 3, s1.heap.objs.size, s1.heap.objs.size + 1], _, _, H1, rfl, I2, turn_zip l1 l2 _ _ _ _ _ (zipApart_new b1 b2), ⟨g1, g2, ⟨_, _, g3⟩, g4, g5⟩, fun b hb => ?_, q⟩
  have hb2 : s1.heap.objs.size ≤ b := by
    simp only [List.mem_cons, List.not_mem_nil, or_false] at hb
    rcases hb with rfl | rfl | rfl | rfl | rfl <;> first | exact Nat.le_refl _ | exact Nat.le_add_right _ _
  exact I1.fpOk hb2 (I1.hok.fresh hb2)
theorem compT_zip {K : PySem.W.Frag} {a b : Addr} {xs ys : List V} {ns : List Str} {js : List Nat} {g : TG} {tt : TT} {te : TE} {σ : St} {H : Hp} {Q : VK} (Pv : Nat → List V → Hp → Prop) (hlen : xs.length = ys.length) (h0 : Pv 0 [] H) (hl : ∀ i zs H, i ≤ xs.length → Pv i zs H → SqL K H a xs ∧ SqL K H b ys)
    (hs : ∀ i x y zs H T, xs[i]? = some x → ys[i]? = some y → Pv i zs H → H T = none → g (.ref T) (nones ns ++ capt js σ) (upd H T (.tup [x, y])) fun σ' H1 => (∃ vs : St, vs.length = ns.length ∧ σ' = vs ++ capt js σ) ∧ tt σ' H1 fun c H2 => if c = true then te σ' H2 fun v H3 => Pv (i + 1) (zs ++ [v]) H3 else Pv (i + 1) zs H2)
    (hz : ∀ i zs H, i < xs.length → Pv i zs H → zs.length < sizeLine)
    (hd : ∀ zs H, Pv xs.length zs H → ∀ D, H D = none → Q (.ref D) (upd H D (.lst zs))) :
    CompLoopT (Itz K a b) ns js g tt te σ Q H := by
  refine ⟨fun i m zs H => m = xs.length - i ∧ i ≤ xs.length ∧ Pv i zs H, ⟨xs.length, by simp, Nat.zero_le _, h0⟩, ?_⟩
  rintro i m zs H ⟨rfl, hi, p⟩
  obtain ⟨q1, q2⟩ := hl i zs H hi p
  by_cases hlt : i < xs.length
  · have hx : xs[i]? = some xs[i] := List.getElem?_eq_getElem hlt
    have hy : ys[i]? = some (ys[i]'(by omega)) := List.getElem?_eq_getElem (by omega)
    refine .inr ⟨⟨xs, ys, _, _, q1, q2, hx, hy⟩, hz i zs H hlt p, Pv (i + 1), fun zs' H' p' => ⟨xs.length - (i + 1), by omega, rfl, hlt, p'⟩, fun v H' yl => ?_⟩
    obtain ⟨T, x, y, rfl, hT, rfl, k1, k2⟩ := yl
    have e1 := k1 xs q1
    have e2 := k2 ys q2
    rw [hx] at e1
    rw [hy] at e2
    cases e1
    cases e2
    exact hs i _ _ zs H T hx hy p hT
  · have e : i = xs.length := by omega
    subst e
    exact .inl ⟨⟨xs, ys, q1, q2, .inl (Nat.le_refl _)⟩, hd zs H p⟩
end
end L2
set_option Elab.async false
set_option linter.all false
set_option maxRecDepth 100000
namespace L2
open PySem PySem.Spec PyProof.Rows
section
variable {X : Cx}
end
section
variable {X : Cx} {tg : Expr}
end
section
variable {X : Cx} {o e : Expr} {es : List Expr} {to : TE} {t : TA} {name : Str} {apos cpos : Pos} {T id : String} {r : V → List V → Hp → VK → Prop}
end
end L2
set_option linter.all false
namespace Lw
def figs (b n : Nat) : List Int := if h : 2 ≤ b ∧ b ≤ n then figs b (n / b) ++ [((n % b : Nat) : Int)] else [(n : Int)]
termination_by n
decreasing_by exact Nat.div_lt_self (by omega) (by omega)
theorem figs_lt {b n : Nat} (h : n < b) : figs b n = [(n : Int)] := by
  rw [figs, dif_neg (by omega)]
theorem figs_ge {b n : Nat} (h2 : 2 ≤ b) (h : b ≤ n) : figs b n = figs b (n / b) ++ [((n % b : Nat) : Int)] := by
  rw [figs, dif_pos ⟨h2, h⟩]
def ahead (b r : Nat) : List Int := if r = 0 then [] else figs b r
theorem figs_step {b n : Nat} (h2 : 2 ≤ b) : figs b n = ahead b (n / b) ++ [((n % b : Nat) : Int)] := by
  unfold ahead
  by_cases h : n < b
  · rw [figs_lt h, if_pos (Nat.div_eq_of_lt h), Nat.mod_eq_of_lt h]; rfl
  · rw [figs_ge h2 (by omega), if_neg]
    have := Nat.div_pos (a := n) (b := b) (by omega) (by omega)
    omega
theorem ahead_step {b r : Nat} (h2 : 2 ≤ b) (hr : 0 < r) : ahead b r = ahead b (r / b) ++ [((r % b : Nat) : Int)] := by
  rw [← figs_step h2]
  unfold ahead
  rw [if_neg (by omega)]
theorem figs_len {b : Nat} (h2 : 2 ≤ b) : ∀ (m n : Nat), n < 2 ^ m → (figs b n).length ≤ m + 1
  | 0, n, h => by rw [figs_lt (by simp at h; omega)]; simp
  | m + 1, n, h => by
    by_cases hn : n < b
    · rw [figs_lt hn]; simp
    · rw [figs_ge h2 (by omega), List.length_append, List.length_singleton]
      have h3 : n / b ≤ n / 2 := Nat.div_le_div_left h2 (by omega)
      have h4 : n / 2 < 2 ^ m := by rw [Nat.pow_succ] at h; omega
      have := figs_len h2 m (n / b) (by omega)
      omega
end Lw
set_option linter.all false
namespace Lw
structure GoodFs (b : Nat) (ns : List Int) : Prop where
  ne : ns ≠ []
  len : ns.length ≤ 200
  fig : ∀ f ∈ ns, 0 ≤ f ∧ f < b
  first : ns.head? ≠ some 0 ∨ ns.length = 1
end Lw
set_option linter.all false
namespace Lw
def hasS (st fs : List Int) : Bool := (List.range fs.length).any fun k => decide ((fs.drop k).take st.length = st)
theorem hasS_iff {st fs : List Int} (h : st ≠ []) : hasS st fs = true ↔ ∃ k, (fs.drop k).take st.length = st := by
  unfold hasS
  simp only [List.any_eq_true, List.mem_range, decide_eq_true_eq]
  constructor
  · rintro ⟨k, _, e⟩; exact ⟨k, e⟩
  · rintro ⟨k, e⟩
    refine ⟨k, ?_, e⟩
    have hl := congrArg List.length e
    rw [List.length_take, List.length_drop] at hl
    have : 0 < st.length := List.length_pos_iff.mpr h
    omega
theorem hasS_short {st fs : List Int} (h : st ≠ []) : hasS st fs = (List.range ((fs.length : Int) - st.length + 1).toNat).any fun k => decide ((fs.drop k).take st.length = st) := by
  rw [Bool.eq_iff_iff, hasS_iff h]
  simp only [List.any_eq_true, List.mem_range, decide_eq_true_eq]
  constructor
  · rintro ⟨k, e⟩
    refine ⟨k, ?_, e⟩
    have hl := congrArg List.length e
    rw [List.length_take, List.length_drop] at hl
    have : 0 < st.length := List.length_pos_iff.mpr h
    omega
  · rintro ⟨k, _, e⟩; exact ⟨k, e⟩
def lacks (ls : List (List Int)) (fs : List Int) : Bool := !ls.any fun st => hasS st fs
end Lw
set_option linter.all false
namespace Lw
end Lw
set_option linter.all false
namespace Lw
def begs (ls : List (List Int)) (fs : List Int) : Bool := ls.any fun st => decide (st.take fs.length = fs)
def tailS (ls : List (List Int)) : List Int → List Int
  | [] => []
  | x :: fs => if begs ls (x :: fs) then x :: fs else tailS ls fs
theorem tailS_skip {ls : List (List Int)} : ∀ (i : Nat) (fs : List Int), i ≤ fs.length → (∀ k, k < i → begs ls (fs.drop k) = false) → tailS ls fs = tailS ls (fs.drop i)
  | 0, _, _, _ => rfl
  | i + 1, [], h, _ => by simp at h
  | i + 1, x :: fs, h, q => by
    have h0 := q 0 (by omega)
    rw [List.drop_zero] at h0
    rw [tailS, if_neg (by rw [h0]; decide), List.drop_succ_cons]
    exact tailS_skip i fs (by simpa using h) fun k hk => by have := q (k + 1) (by omega); rwa [List.drop_succ_cons] at this
end Lw
set_option Elab.async false
set_option linter.all false
set_option maxRecDepth 100000
namespace L2
open PySem PySem.Spec PyProof.Rows PySem.W
section
variable {P : Program} {w : World} {K : Frag} {mg : Str → Option Value} {base : Heap} {N ps : List Str} {k : Nat} {A : Around} {outer : List Env} {s : Shared} {H : Hp} {us : List Value} {vs : List V} {Q : VK} {E : XK} {f : Addr} {o : Obj}
  {name qual : Str} {params : Arguments} {body : Expr} {scope : Scope} {pm cdv ct : Value} {args : Args}
end
section
variable {X : Cx} {pins : List (Addr × Obj)} {σ : St} {H : Hp} {s : Shared} {params : Arguments} {body : Expr} {scope : Scope} {pos : Pos} {c P : Addr} {Q : Value → Shared → Prop}
end
end L2
set_option Elab.async false
set_option linter.all false
set_option maxRecDepth 100000
namespace HT
def kLess (a b : List Int) : Bool := if a.length = b.length then lexLt a b else decide (a.length < b.length)
end HT
namespace L2
open PySem PySem.Spec PyProof.Rows PySem.W
section
variable {X : Cx} {pins : List (Addr × Obj)} {σ : St} {H : Hp} {s : Shared}
end
end L2
set_option Elab.async false
set_option linter.all false
set_option maxRecDepth 100000
set_option maxHeartbeats 4000000
namespace L2
open PySem PySem.Spec PyProof.Rows PySem.W
section
variable {X : Cx} {pins : List (Addr × Obj)} {σ : St} {H : Hp} {s : Shared}
structure Late (X : Cx) (pins : List (Addr × Obj)) (n : Nat) (a : Addr) : Prop where
  s0 : X.s₀.heap.objs.size ≤ a
  lo : a ≠ X.env.locals
  ce : ∀ x c, X.env.cells.lookup x = some c → c ≠ a
  fs : a ∉ X.fs
  pn : ∀ p ∈ X.pn ++ pins, p.1 ≠ a
  ge : n ≤ a
end
end L2
set_option Elab.async false
set_option linter.all false
set_option maxRecDepth 100000
set_option maxHeartbeats 4000000
namespace L2
open PySem PySem.Spec PyProof.Rows PySem.W
section
variable {X : Cx} {pins : List (Addr × Obj)} {σ : St} {H : Hp} {s : Shared}
end
end L2
set_option Elab.async false
set_option linter.all false
set_option maxRecDepth 100000
set_option maxHeartbeats 4000000
namespace L2
open PySem PySem.Spec PyProof.Rows PySem.W
section
variable {X : Cx} {σ : St} {H : Hp} {s : Shared} {params : Arguments} {body : Expr} {scope : Scope} {pos lpos kpos p : Pos} {c P : Addr} {y : Str} {e : Expr} {te : TE}
end
end L2
set_option Elab.async false
set_option linter.all false
set_option maxRecDepth 100000
set_option maxHeartbeats 4000000
namespace L2
open PySem PySem.Spec PyProof.Rows PySem.W
end L2
set_option linter.all false
namespace Lw
def isSt (ls : List (List Int)) (x : List Int) : Prop := x = [] ∨ ∃ st ∈ ls, ∃ k, 1 ≤ k ∧ k < st.length ∧ x = st.take k ∧ lacks ls x = true
structure StandsL (ls : List (List Int)) (xs : List (List Int)) : Prop where
  mem : ∀ x, x ∈ xs ↔ isSt ls x
  up : xs.Pairwise fun x y => HT.kLess x y = true
end Lw
set_option linter.all false
namespace Lw
theorem begs_init {ls : List (List Int)} {y : List Int} {x : Int} (h : begs ls (y ++ [x]) = true) : begs ls y = true := by
  unfold begs at *
  rw [List.any_eq_true] at h ⊢
  obtain ⟨st, hst, q⟩ := h
  refine ⟨st, hst, decide_eq_true ?_⟩
  have q := of_decide_eq_true q
  have e := congrArg (List.take y.length) q
  rw [List.take_left, List.take_take, List.length_append] at e
  rw [Nat.min_eq_left (by omega)] at e
  exact e
theorem tailS_spec {ls : List (List Int)} : ∀ fs : List Int, ∃ j, j ≤ fs.length ∧ tailS ls fs = fs.drop j ∧ (∀ k, k < j → begs ls (fs.drop k) = false) ∧ (j < fs.length → begs ls (fs.drop j) = true)
  | [] => ⟨0, Nat.le_refl _, rfl, fun k hk => by omega, fun h => by simp at h⟩
  | x :: fs => by
    by_cases h : begs ls (x :: fs) = true
    · exact ⟨0, Nat.zero_le _, by rw [tailS, if_pos h]; rfl, fun k hk => by omega, fun _ => h⟩
    · obtain ⟨j, h1, h2, h3, h4⟩ := tailS_spec (ls := ls) fs
      refine ⟨j + 1, by rw [List.length_cons]; omega, by rw [tailS, if_neg h, h2, List.drop_succ_cons], fun k hk => ?_, fun hj => by rw [List.drop_succ_cons]; exact h4 (by rw [List.length_cons] at hj; omega)⟩
      cases k with
      | zero => rw [List.drop_zero]; simpa using h
      | succ k => rw [List.drop_succ_cons]; exact h3 k (by omega)
theorem tailS_step {ls : List (List Int)} (fs : List Int) (x : Int) : tailS ls (tailS ls fs ++ [x]) = tailS ls (fs ++ [x]) := by
  obtain ⟨j, h1, h2, h3, _⟩ := tailS_spec (ls := ls) fs
  rw [h2, tailS_skip j (fs ++ [x]) (by rw [List.length_append]; omega) (fun k hk => ?_), List.drop_append_of_le_length h1]
  rw [List.drop_append_of_le_length (by omega)]
  cases e : begs ls (fs.drop k ++ [x]) with
  | false => rfl
  | true => rw [← h3 k hk, begs_init e]
theorem hasS_drop {st fs : List Int} (ne : st ≠ []) {j : Nat} (h : hasS st (fs.drop j) = true) : hasS st fs = true := by
  rw [hasS_iff ne] at h ⊢
  obtain ⟨k, e⟩ := h
  exact ⟨j + k, by rw [← List.drop_drop]; exact e⟩
theorem lacks_drop {ls : List (List Int)} (ne : ∀ l ∈ ls, l ≠ []) {fs : List Int} (j : Nat) (h : lacks ls fs = true) : lacks ls (fs.drop j) = true := by
  unfold lacks at *
  rw [Bool.not_eq_true', List.any_eq_false] at h ⊢
  intro st hst q
  exact h st hst (hasS_drop (ne st hst) q)
theorem lacks_step {ls : List (List Int)} (ne : ∀ l ∈ ls, l ≠ []) {fs : List Int} (x : Int) (h : lacks ls fs = true) : lacks ls (tailS ls fs ++ [x]) = lacks ls (fs ++ [x]) := by
  obtain ⟨j, h1, h2, h3, _⟩ := tailS_spec (ls := ls) fs
  rw [h2, ← List.drop_append_of_le_length h1]
  rw [Bool.eq_iff_iff]
  constructor
  · intro q
    unfold lacks at *
    rw [Bool.not_eq_true', List.any_eq_false] at h q ⊢
    intro st hst hs
    rw [hasS_iff (ne st hst)] at hs
    obtain ⟨k, e⟩ := hs
    have hp : 0 < st.length := List.length_pos_iff.mpr (ne st hst)
    have hl := congrArg List.length e
    rw [List.length_take, List.length_drop, List.length_append, List.length_singleton] at hl
    by_cases hin : k + st.length ≤ fs.length
    · refine h st hst ((hasS_iff (ne st hst)).mpr ⟨k, ?_⟩)
      rw [List.drop_append_of_le_length (by omega), List.take_append_of_le_length (by rw [List.length_drop]; omega)] at e
      exact e
    · have hk : k + st.length = fs.length + 1 := by omega
      rw [List.take_of_length_le (by rw [List.length_drop, List.length_append, List.length_singleton]; omega)] at e
      by_cases hkj : j ≤ k
      · refine q st hst ((hasS_iff (ne st hst)).mpr ⟨k - j, ?_⟩)
        rw [List.drop_drop, show j + (k - j) = k by omega, e, List.take_of_length_le (Nat.le_refl _)]
      · have h3k := h3 k (by omega)
        rw [List.drop_append_of_le_length (by omega)] at e
        unfold begs at h3k
        rw [List.any_eq_false] at h3k
        refine h3k st hst (decide_eq_true ?_)
        rw [← e, List.take_left]
  · intro q
    exact lacks_drop ne j q
end Lw
set_option linter.all false
namespace Lw
theorem StandsL.first {ls xs : List (List Int)} (a : StandsL ls xs) : ∃ r, xs = [] :: r := by
  have h0 : ([] : List Int) ∈ xs := (a.mem []).mpr (.inl rfl)
  cases xs with
  | nil => cases h0
  | cons x r =>
    rcases List.mem_cons.mp h0 with e | e
    · exact ⟨r, by rw [e]⟩
    · have := (List.pairwise_cons.mp a.up).1 [] e
      unfold HT.kLess at this
      by_cases hl : x.length = ([] : List Int).length
      · have : x = [] := List.eq_nil_of_length_eq_zero hl
        exact ⟨r, by rw [this]⟩
      · rw [if_neg hl] at this
        have := of_decide_eq_true this
        simp at this
end Lw
set_option linter.all false
namespace Lw
def many (p : Nat → Bool) : Nat → Nat
  | 0 => 0
  | n + 1 => many p n + (if p n = true then 1 else 0)
def gd (ls : List (List Int)) (b n : Nat) : Bool := lacks ls (figs b n)
end Lw
set_option linter.all false
namespace Lw
end Lw
set_option linter.all false
namespace Lw
def Rep (ls : List (List Int)) (b m : Nat) (o : Option (List Int)) : Prop := (m = 0 ∧ o = none) ∨ (1 ≤ m ∧ gd ls b m = true ∧ o = some (tailS ls (figs b m)))
theorem figs_moreN {b m c : Nat} (h2 : 2 ≤ b) (h1 : 1 ≤ m) (hc : c < b) : figs b (m * b + c) = figs b m ++ [(c : Int)] := by
  have hge : b ≤ m * b + c := by
    have : 1 * b ≤ m * b := Nat.mul_le_mul_right b h1
    omega
  rw [figs_ge h2 hge]
  have e1 : (m * b + c) / b = m := by rw [Nat.add_comm, Nat.add_mul_div_right _ _ (by omega), Nat.div_eq_of_lt hc, Nat.zero_add]
  have e2 : (m * b + c) % b = c := by rw [Nat.add_comm, Nat.add_mul_mod_self_right, Nat.mod_eq_of_lt hc]
  rw [e1, e2]
theorem go_on {b m c : Nat} (h2 : 2 ≤ b) (h1 : 1 ≤ m) : 1 ≤ m * b + c := by
  have : 1 * b ≤ m * b := Nat.mul_le_mul_right b h1
  omega
theorem Rep.step {ls : List (List Int)} (ne : ∀ l ∈ ls, l ≠ []) {b m : Nat} {o : Option (List Int)} (h2 : 2 ≤ b) (R : Rep ls b m o) {c : Nat} (hc : c < b) :
    (o = none ∧ c = 0 ∧ Rep ls b (m * b + c) none) ∨ (¬ (o = none ∧ c = 0) ∧ ((lacks ls (o.getD [] ++ [(c : Int)]) = true ∧ Rep ls b (m * b + c) (some (tailS ls (o.getD [] ++ [(c : Int)])))) ∨ (lacks ls (o.getD [] ++ [(c : Int)]) = false ∧ 1 ≤ m * b + c ∧ gd ls b (m * b + c) = false))) := by
  rcases R with ⟨rfl, rfl⟩ | ⟨h1, hg, rfl⟩
  · by_cases h0 : c = 0
    · left; exact ⟨rfl, h0, .inl ⟨by rw [h0]; omega, rfl⟩⟩
    · right
      refine ⟨fun z => h0 z.2, ?_⟩
      rw [Nat.zero_mul, Nat.zero_add]
      show (lacks ls [(c : Int)] = true ∧ _) ∨ (lacks ls [(c : Int)] = false ∧ _)
      have eg : gd ls b c = lacks ls [(c : Int)] := by unfold gd; rw [figs_lt hc]
      cases hl : lacks ls [(c : Int)] with
      | true => left; exact ⟨rfl, .inr ⟨by omega, by rw [eg]; exact hl, by rw [figs_lt hc]; rfl⟩⟩
      | false => right; exact ⟨rfl, by omega, by rw [eg]; exact hl⟩
  · right
    refine ⟨fun z => (nomatch z.1), ?_⟩
    have hm : 1 ≤ m * b + c := go_on h2 h1
    show (lacks ls (tailS ls (figs b m) ++ [(c : Int)]) = true ∧ Rep ls b (m * b + c) (some (tailS ls (tailS ls (figs b m) ++ [(c : Int)])))) ∨ (lacks ls (tailS ls (figs b m) ++ [(c : Int)]) = false ∧ _)
    rw [lacks_step ne _ hg, tailS_step]
    have eg : gd ls b (m * b + c) = lacks ls (figs b m ++ [(c : Int)]) := by unfold gd; rw [figs_moreN h2 h1 hc]
    cases hl : lacks ls (figs b m ++ [(c : Int)]) with
    | true => left; exact ⟨rfl, .inr ⟨hm, by rw [eg]; exact hl, by rw [figs_moreN h2 h1 hc]⟩⟩
    | false => right; exact ⟨rfl, hm, by rw [eg]; exact hl⟩
end Lw
set_option linter.all false
namespace Lw
end Lw
set_option linter.all false
namespace Lw
end Lw
set_option linter.all false
namespace Lw
end Lw
set_option Elab.async false
set_option linter.all false
set_option maxRecDepth 100000
namespace L2
open Lw
def insL (x : List Int) : List (List Int) → List (List Int)
  | [] => [x]
  | y :: ys => if x = y then y :: ys else if HT.lexLt x y = true then x :: y :: ys else y :: insL x ys
def uni (ls : List (List Int)) : List (List Int) := ls.foldr insL []
theorem mem_insL {x l : List Int} : ∀ {ys : List (List Int)}, l ∈ insL x ys ↔ l = x ∨ l ∈ ys
  | [] => by simp [insL]
  | y :: ys => by
    unfold insL
    by_cases h : x = y
    · rw [if_pos h, h]; simp
    · rw [if_neg h]
      split
      · simp
      · rw [List.mem_cons, mem_insL (ys := ys), List.mem_cons]
        constructor <;> (rintro (z | z | z) <;> simp [z])
theorem mem_uni {l : List Int} : ∀ {ls : List (List Int)}, l ∈ uni ls ↔ l ∈ ls
  | [] => by simp [uni]
  | x :: ls => by
    show l ∈ insL x (uni ls) ↔ _
    rw [mem_insL, mem_uni, List.mem_cons]
abbrev LPw (ls : List (List Int)) : Prop := ls.Pairwise fun x y => HT.lexLt x y = true
theorem pw_insL {x : List Int} : ∀ {ys : List (List Int)}, LPw ys → LPw (insL x ys)
  | [], _ => by simp [insL, LPw]
  | y :: ys, h => by
    obtain ⟨h1, h2⟩ := List.pairwise_cons.mp h
    unfold insL
    by_cases e : x = y
    · rw [if_pos e]; exact h
    · rw [if_neg e]
      split
      next q =>
        refine List.pairwise_cons.mpr ⟨fun z hz => ?_, h⟩
        rcases List.mem_cons.mp hz with rfl | hz
        · exact q
        · exact HT.lexLt_trans _ _ _ q (h1 z hz)
      next q =>
        refine List.pairwise_cons.mpr ⟨fun z hz => ?_, pw_insL h2⟩
        rcases mem_insL.mp hz with rfl | hz
        · have f := HT.lexLt_flip z y e
          cases c : HT.lexLt z y with
          | true => exact absurd c q
          | false => rw [c] at f; exact f
        · exact h1 z hz
theorem pw_uni : ∀ {ls : List (List Int)}, LPw (uni ls)
  | [] => .nil
  | x :: ls => pw_insL (pw_uni (ls := ls))
theorem lex_uniq : ∀ {a b : List (List Int)}, LPw a → LPw b → (∀ l, l ∈ a ↔ l ∈ b) → a = b
  | [], [], _, _, _ => rfl
  | [], y :: b, _, _, h => absurd ((h y).mpr (.head _)) (by simp)
  | x :: a, [], _, _, h => absurd ((h x).mp (.head _)) (by simp)
  | x :: a, y :: b, ha, hb, h => by
    obtain ⟨a1, a2⟩ := List.pairwise_cons.mp ha
    obtain ⟨b1, b2⟩ := List.pairwise_cons.mp hb
    have irr : ∀ z : List Int, HT.lexLt z z ≠ true := fun z q => by rw [HT.lexLt_irrefl] at q; cases q
    have e : x = y := by
      rcases List.mem_cons.mp ((h x).mp (.head _)) with z | z
      · exact z
      · rcases List.mem_cons.mp ((h y).mpr (.head _)) with q | q
        · exact q.symm
        · exact absurd (HT.lexLt_trans _ _ _ (a1 y q) (b1 x z)) (irr x)
    subst e
    rw [lex_uniq a2 b2 fun l => ?_]
    constructor
    · intro hl
      rcases List.mem_cons.mp ((h l).mp (.tail _ hl)) with z | z
      · subst z; exact absurd (a1 l hl) (irr l)
      · exact z
    · intro hl
      rcases List.mem_cons.mp ((h l).mpr (.tail _ hl)) with z | z
      · subst z; exact absurd (b1 l hl) (irr l)
      · exact z
theorem uni_of {a ls : List (List Int)} (ha : LPw a) (h : ∀ l, l ∈ a ↔ l ∈ ls) : a = uni ls := lex_uniq ha pw_uni fun l => by rw [h, mem_uni]
def needless (U : List (List Int)) (st : List Int) : Bool := U.any fun o => decide (o ≠ st) && hasS o st
def needed (U : List (List Int)) : List (List Int) := U.filter fun st => !needless U st
abbrev CN := Nat × List (List Int)
def allC (cs : List CN) : List (List Int) := cs.flatMap (·.2)
def needC (cs : List CN) : List (List Int) := needed (uni (allC cs))
def baseC (cs : List CN) : Nat := (cs.headD (0, [])).1
def sameB (cs : List CN) : Bool := cs.all fun c => decide (c.1 = baseC cs)
end L2
set_option Elab.async false
set_option linter.all false
set_option maxRecDepth 100000
namespace L2
open PySem PySem.Spec PyProof.Rows
theorem turn_long {P : Program} {w : World} {K : PySem.W.Frag} {tg : Expr} (it : Addr) (lo : Int) (n : Nat) : Turn P w K tg (Itr lo n) [it] it (fun i h => IsLongIter h it (lo + (i : Nat) * 1) ((n : Int) - (i : Nat)) 1) where
  mem := by simp
  obj := fun i h st b hb => by
    have e : b = it := by simpa using hb
    subst e
    exact ⟨_, st, fun v z => by
      have z' : Data.fields _ = Data.cell v := z
      cases z'⟩
  keep := fun i h h' st k => k it (by simp) _ st
  item := by
    intro X hP hw hK hc i pins s σ H E I hf st hg
    subst hP hw hK
    obtain ⟨f0, f1, f2, f3, f4, f5⟩ := hf it (by simp)
    have W := Walks.longrange (prog := X.prog) (w := X.w) (I.ok.hd hc) it lo 1 n
    refine W.item i s _ _ hg st fun v h' tk hv st' kk => ?_
    obtain ⟨t, rfl⟩ := hv
    have I1 : Inv X pins σ H { s with heap := h', toks := tk } := I.turned (fun b o hb e => kk b o (by simpa using hb) e) f0 f1 f3 f4 f5
    have e1 : lo + (i : Int) * 1 = lo + i := by omega
    exact ⟨_, rfl, go_of (s := { s with heap := h', toks := tk }) (n := "longrange_iterator") st' rfl rfl (by decide) ⟨.int (lo + i), H, I1, ⟨t, by rw [e1]⟩, ⟨rfl, rfl⟩, st', fun b hb => (hf b hb).1⟩⟩
  done := by
    intro X hP hw hK hc i pins s σ H E I hf st hg
    subst hP hw hK
    obtain ⟨f0, f1, f2, f3, f4, f5⟩ := hf it (by simp)
    exact wpAny_pyNext_long_end (I.ok.hd hc) st (by have : n ≤ i := hg; omega) fun h' eb => ⟨rfl, I.turned (t' := s.toks) (fun b o hb e => eb b o hb e) f0 f1 f3 f4 f5⟩
  self := fun _ _ _ _ _ st h => wpAny_pyIter_longiter st h
section
variable {X : Cx} {tg : Expr}
theorem range_itL {pins : List (Addr × Obj)} {σ : St} {H : Hp} {s : Shared} {R : It → Hp → Prop} {E : Value → Shared → Prop} {lo hi : Int} {t u v : Tok} {tk : Nat} (I : Inv X pins σ H s)
    (q : R (Itr lo (hi - lo).toNat) H) : wpAny (model X.prog X.w) X.A (pyIter (.ref s.heap.objs.size)) (PIE X pins σ tg R) E { s with heap := s.heap.push { cls := .type "range", data := .fields #[.int lo t, .int hi u, .int 1 v] }, toks := tk } := by
  have I1 : Inv X pins σ H { s with heap := s.heap.push { cls := .type "range", data := .fields #[.int lo t, .int hi u, .int 1 v] }, toks := tk } := I.kept fun b o e => Heap.get?_push_of_some _ e
  have e1 : lo + ((0 : Nat) : Int) * 1 = lo := by simp
  have e2 : (((hi - lo).toNat : Nat) : Int) - ((0 : Nat) : Int) = Builtin.Range.rangeSize lo hi 1 := by rw [rangeSize_one]; split <;> omega
  have ok : ∀ b ∈ [(s.heap.push { cls := .type "range", data := .fields #[.int lo t, .int hi u, .int 1 v] }).objs.size], FpOk X pins H b := fun b hb => by
    have e : b = (s.heap.push { cls := .type "range", data := .fields #[.int lo t, .int hi u, .int 1 v] }).objs.size := by simpa using hb
    subst e
    exact I1.fpOk (Nat.le_refl _) (I1.hok.fresh (Nat.le_refl _))
  cases hsm : Builtin.Range.small lo hi 1 with
  | true =>
    refine wpAny_pyIter_range (IsRange.new ..) hsm ?_
    refine ⟨_, [(s.heap.push { cls := .type "range", data := .fields #[.int lo t, .int hi u, .int 1 v] }).objs.size], _, _, H, rfl, I1.kept (t' := tk) fun b o e => Heap.get?_push_of_some _ e, turn_range _ lo (hi - lo).toNat, ?_, ok, q⟩
    show IsRangeIter _ _ (lo + ((0 : Nat) : Int) * 1) ((((hi - lo).toNat : Nat) : Int) - ((0 : Nat) : Int)) 1
    rw [e1, e2]
    exact Heap.get?_push_size _ rfl
  | false =>
    refine wpAny_pyIter_longrange (IsRange.new ..) hsm ?_
    refine ⟨_, [(s.heap.push { cls := .type "range", data := .fields #[.int lo t, .int hi u, .int 1 v] }).objs.size], _, _, H, rfl, I1.kept (t' := tk) fun b o e => Heap.get?_push_of_some _ e, turn_long _ lo (hi - lo).toNat, ?_, ok, q⟩
    show IsLongIter _ _ (lo + ((0 : Nat) : Int) * 1) ((((hi - lo).toNat : Nat) : Int) - ((0 : Nat) : Int)) 1
    rw [e1, e2]
    exact Heap.get?_push_size _ rfl
def iRng2L (ta : TA) : TI := fun σ H R => ta σ H fun vs H1 => ∃ i j : Int, vs = [.int i, .int j] ∧ R (Itr i (j - i).toNat) H1
theorem pi_range2L {a b : Expr} {ta : TA} {p pos : Pos} (hg : Gl X "range") (hm : X.mg "range" = none) (ha : PA X [a, b] ta) (hs : starEach [a, b] X.env = [(false, eval a X.env), (false, eval b X.env)] := by rfl) (hs2 : starEach [b] X.env = [(false, eval b X.env)] := by rfl) :
    PI X tg (.Call (.Name "range" p) [a, b] [] pos) (iRng2L ta) := by
  intro pins s σ H R I h
  refine Call_ (ld_blt I hg hm boot_range (PyProof.Rows.callWith_type1 (thn (ha pos pins s σ H _ I h) fun us s1 ⟨vs, H1, I1, r1, q1⟩ => ?_) (by rw [hs, hs2]) (by rw [hs2]; rfl)))
  obtain ⟨i, j, e, q⟩ := q1
  subst e
  cases r1 with
  | cons r rr =>
    cases rr with
    | cons r' rr =>
      cases rr
      obtain ⟨t, rfl⟩ := r
      obtain ⟨t', rfl⟩ := r'
      exact call_range_2 (range_itL I1 q)
end
end L2
namespace PySem.W.Fast
def tw16776192374187626647 := ()
def tw2433664858550254573 := ()
def tw11637454362668539814 := ()
def tw8178767679598243028 := ()
def tw14264991359552554336 := ()
def tw11926401921788120682 := ()
def tw2651371003974547831 := ()
def tw2615410020885823440 := ()
def tw8976429643248068249 := ()
def tw6363297496722421969 := ()
def tw3259947775919147051 := ()
def tw10183300418728870120 := ()
def tw4456637464218037449 := ()
def tw13172961097701745782 := ()
def tw4051665377658558284 := ()
def tw11824184029728264209 := ()
def tw5637636872478673952 := ()
def tw956694043978550256 := ()
def tw11296993956859555343 := ()
def tw6313193762409988851 := ()
def tw17571301589856952553 := ()
def tw5269349400178733154 := ()
def tw13912928718161144943 := ()
def tw8213942955221126403 := ()
def tw15306288353255698068 := ()
def tw8099708085871855687 := ()
def tw12262426246854410746 := ()
def tw14987051308651039894 := ()
def tw15761358672050520151 := ()
def tw6142721956913514509 := ()
def tw8875422069627878719 := ()
def tw7549876021572801996 := ()
def tw2910847011850240695 := ()
def tw2905874063013732319 := ()
def tw16152293399311681241 := ()
def tw3712854727294511690 := ()
def tw14474832099047979233 := ()
def tw1775978258363368340 := ()
def tw10825213456209429721 := ()
def tw6179344109114693745 := ()
def tw1529891104680383967 := ()
def tw7232454411037531529 := ()
def tw11861347100678865529 := ()
def tw4761853152878978735 := ()
def tw11625236085951139122 := ()
def tw6412858182909783050 := ()
def tw17070451165501945459 := ()
def tw5032707103605738709 := ()
def tw12949779676145359800 := ()
def tw2767659698717512658 := ()
def tw7273580224533487592 := ()
def tw15393671423248324205 := ()
def tw11203655708298267225 := ()
def tw10119785375367736455 := ()
def tw14594578042531938009 := ()
def tw7625568082833486785 := ()
def tw15277522539686744304 := ()
def tw6888237462006160799 := ()
def tw9390201842961328727 := ()
def tw12279478781609304031 := ()
def tw14373265290449420853 := ()
def tw11426559158430185626 := ()
def tw10137980391481924447 := ()
def tw14325173037689592526 := ()
def tw7203018059144266062 := ()
def tw7541151354974270039 := ()
def tw7291449197326253772 := ()
def tw15390195413919518548 := ()
def tw17257508908608469367 := ()
def tw8734542697940799156 := ()
def tw11585111982449625220 := ()
def tw12115481191102463321 := ()
def tw1676757169186249648 := ()
def tw16701593135997617923 := ()
def tw7519810751127702972 := ()
def tw12081660111828863515 := ()
def tw12513737514177900019 := ()
def tw14819093319877084134 := ()
def tw16830059388855634042 := ()
def tw1182401427327936449 := ()
def tw1401726814974094543 := ()
def tw16493416842047090318 := ()
def tw316910031686541442 := ()
def tw6972963109522787755 := ()
def tw15250323546860087402 := ()
def tw15250060263319811138 := ()
def tw18173453122997965638 := ()
def tw9891698525985332237 := ()
def tw7690904034537770768 := ()
def tw16048856084396112986 := ()
def tw14077306920828586183 := ()
def tw8109761508725476119 := ()
def tw526651405504308561 := ()
def tw7739892872708005291 := ()
def tw15356788985191808062 := ()
def tw12012590764356062850 := ()
def tw9637756973972665707 := ()
def tw2209437391520904426 := ()
def tw5930667425987367402 := ()
def tw15805247977803912952 := ()
def tw2924822062979110357 := ()
def tw16463412234147301698 := ()
def tw12312573809473747274 := ()
def tw10769882151563532094 := ()
def tw3117675238985760527 := ()
def tw5754085899395888084 := ()
def tw10173449292418233127 := ()
def tw12414549376457525769 := ()
def tw14361413655863238814 := ()
def tw1017081223414166912 := ()
def tw15666025241465662271 := ()
def tw8572944641329607821 := ()
def tw2028311647062899329 := ()
def tw8470056646013309004 := ()
def tw11409824541911192714 := ()
def tw6128747606213471859 := ()
def tw16208453190689326935 := ()
def tw11619050865997675104 := ()
def tw7746959208999900294 := ()
def tw17197935232622288764 := ()
def tw56817794428488029 := ()
def tw9542519470103735414 := ()
def tw7796747687059254008 := ()
def tw5786843260647587706 := ()
def tw2638398355772102237 := ()
def tw13429061817180082800 := ()
def tw9672203687256613019 := ()
def tw12882967457105296934 := ()
def tw18127081771055911679 := ()
def tw4619434247406513902 := ()
def tw1826968822236818936 := ()
def tw11402144742476374352 := ()
def tw11866791337006056293 := ()
def tw10651681923791583648 := ()
def tw10266338160711433267 := ()
def tw4131619089382843571 := ()
def tw16323831231230999539 := ()
def tw16835250710476979065 := ()
def tw13072723865057007396 := ()
def tw6130454789525944831 := ()
def tw11026487215599821423 := ()
def tw10035798115133227199 := ()
def tw11480905483121249791 := ()
def tw12196650030457543104 := ()
def tw6446067792625976552 := ()
def tw12538289971739216509 := ()
def tw15239405508522376870 := ()
def tw15182528771689913212 := ()
def tw1623216173361295240 := ()
def tw18178138803205637150 := ()
def tw18008915361306725251 := ()
def tw17960713562800535568 := ()
def tw8191640307374009625 := ()
def tw15002316277990537707 := ()
def tw11227620916664910830 := ()
def tw15988844511165255885 := ()
def tw7235625520507435513 := ()
def tw984667958416129942 := ()
def tw6251487413348138992 := ()
def tw7405250843096530661 := ()
def tw9821267327107260856 := ()
def tw11649857771383568481 := ()
def tw1324872158021763040 := ()
def tw13548973480982896856 := ()
def tw15323153244596014793 := ()
def tw5962090143726521604 := ()
def tw11779083588527895111 := ()
def tw3820735462465401810 := ()
def tw10920774483250010847 := ()
def tw866386684665679208 := ()
def tw6747253079891372677 := ()
def tw2207749418807656467 := ()
def tw15871564812829866485 := ()
def tw15554651439419699993 := ()
def tw17112764263411287153 := ()
def tw6441146383776555199 := ()
def tw1645812753731812200 := ()
def tw16314739882179850424 := ()
def tw16925982067288970042 := ()
def tw14260145681957402941 := ()
def tw11674893823554621055 := ()
def tw5542701182346691228 := ()
def tw4235204264807193117 := ()
def tw10295233691011322315 := ()
def tw12770960232471463670 := ()
def tw9937498408544035327 := ()
def tw1454669666537579756 := ()
def tw1148273460456140889 := ()
def tw12166113069144528979 := ()
def tw2856512611070599346 := ()
def tw16843693331818460062 := ()
def tw5505008137958268077 := ()
def tw14441435616054511859 := ()
def tw14464927988203646473 := ()
def tw2050904532746265576 := ()
def tw12686306174783903017 := ()
def tw14905609448848979039 := ()
def tw9096054677898830100 := ()
def tw7499269703770482173 := ()
def tw9746785927049101057 := ()
def tw802128756993087050 := ()
def tw8759727654903916587 := ()
def tw4672255524826661508 := ()
def tw1951468965133669181 := ()
def tw12087249444029283486 := ()
def tw12394121166290214359 := ()
def tw8310610852005151747 := ()
def tw10690876050262691604 := ()
def tw308882459845704071 := ()
def tw8319018078149549354 := ()
def tw12033057282714258801 := ()
def tw3885631063682467827 := ()
def tw13173269644741344624 := ()
def tw2050039894617469185 := ()
def tw10319528398290280473 := ()
def tw14044260219516965623 := ()
def tw5141360683050435449 := ()
def tw16583173606659740106 := ()
def tw2639919227446024820 := ()
def tw4860853712341538922 := ()
def tw14119019483150955373 := ()
def tw3002940018854615854 := ()
def tw17994988384794709845 := ()
def tw10666793331683819768 := ()
def tw4091543266557586494 := ()
def tw17139445643347985831 := ()
def tw11430237366493913071 := ()
def tw16453713861045727662 := ()
def tw2721360742083745209 := ()
def tw2975021195619747829 := ()
def tw17226919966715690123 := ()
def tw10457733475305083603 := ()
def tw7423933789317995120 := ()
def tw14630451458452943475 := ()
def tw13185642093854121146 := ()
def tw7361968922090751052 := ()
def tw9859149814917844620 := ()
def tw14159406803269408674 := ()
def tw4106533344810387330 := ()
def tw2831434456590363480 := ()
def tw14139924248291487993 := ()
def tw14758259065262013936 := ()
def tw18355129264496847489 := ()
def tw10975919021418249663 := ()
def tw982218101965883986 := ()
def tw11309238714333920537 := ()
def tw9652292955937897788 := ()
def tw18140960555346548698 := ()
def tw18147925106575349209 := ()
def tw16430855691362185811 := ()
def tw13169829175833014760 := ()
def tw8880525084055331617 := ()
def tw8260395388490054415 := ()
def tw6510768349159689715 := ()
def tw14508765930988829294 := ()
def tw10912421727438497946 := ()
def tw2490538280752848499 := ()
def tw8525870176129088581 := ()
def tw2517812629333282868 := ()
def tw8544277813971562344 := ()
def tw17920244907017859541 := ()
def tw16085511862596789130 := ()
def tw14902115590758981471 := ()
def tw16112427832761815005 := ()
def tw2313098822457175145 := ()
def tw16895176382268183264 := ()
def tw11189125801193757852 := ()
def tw14737171878633599519 := ()
def tw255950394082791591 := ()
def tw5385096923288626989 := ()
def tw313582800409203218 := ()
def tw18334834411289251456 := ()
def tw16819363523689194012 := ()
def tw10059283699883474703 := ()
def tw2251471753845632771 := ()
def tw4858699329525945031 := ()
def tw6439466084041873467 := ()
def tw9627594969625673051 := ()
def tw15750970008829932091 := ()
def tw693539952563613797 := ()
def tw5635518577462359703 := ()
def tw17069786050570495630 := ()
def tw11333333520442267259 := ()
def tw11099293083957599361 := ()
def tw4341041683799891470 := ()
def tw14779409478108765338 := ()
def tw5857971012356150237 := ()
def tw11669912381847851161 := ()
def tw9103400170979818284 := ()
def tw3420304446157889512 := ()
def tw7377391699347496568 := ()
def tw13188430032260821777 := ()
def tw4065119525444409114 := ()
def tw9691526817624339842 := ()
def tw7434934185519537423 := ()
def tw9636039834933977078 := ()
def tw16759158226982760336 := ()
def tw13315785403659098244 := ()
def tw4833079651970476010 := ()
def tw8878609748180714331 := ()
def tw2042302061030248255 := ()
def tw5852815910504857868 := ()
def tw4643644314997356067 := ()
def tw7263670333181631049 := ()
def tw16821861106843942305 := ()
def tw12712402971167613076 := ()
def tw8047275660872102138 := ()
def tw3620897820171790096 := ()
def tw12918517266509701423 := ()
def tw18279364976618465534 := ()
def tw13080956448124535882 := ()
def tw12401570490348835369 := ()
def tw7415776021729751407 := ()
def tw12555673272036768998 := ()
def tw12555970537814623065 := ()
def tw6018062570587912584 := ()
def tw9723542531673896980 := ()
def tw4501194039119567989 := ()
def tw4453944330073331208 := ()
def tw13687670321004251000 := ()
def tw5843906136799211990 := ()
def tw12791160901816851021 := ()
def tw4558977630799237146 := ()
def tw13211487584527929967 := ()
def tw931094181622271998 := ()
def tw12120025388447130465 := ()
def tw16044034866096468075 := ()
def tw11159552529066650533 := ()
def tw7538148402182344354 := ()
def tw16744259787471277230 := ()
def tw6200901636678329769 := ()
def tw17573014530134261194 := ()
def tw8794661959644863385 := ()
def tw15377653006222427508 := ()
def tw1572006582003340939 := ()
def tw7121261631192847468 := ()
def tw8600153901250946911 := ()
def tw3445741441911080711 := ()
def tw7452487358788672753 := ()
def tw7336903949442917938 := ()
def tw7520823875262515749 := ()
def tw4860829608547891141 := ()
def tw16647918383821692295 := ()
def tw6595421719048252367 := ()
def tw13107688655255653343 := ()
def tw946982071479717431 := ()
def tw7576961462433988912 := ()
def tw1683064880024516162 := ()
def tw17872516530752394847 := ()
def tw3025733047534854653 := ()
def tw16593024504822796106 := ()
def tw3547576577405488791 := ()
def tw10344450846602635842 := ()
def tw17085330185426774028 := ()
def tw13443252493333154084 := ()
def tw10654230189691020076 := ()
def tw12816519852131032566 := ()
def tw2647182798646324524 := ()
def tw8238400682694460277 := ()
def tw2845341306930192260 := ()
def tw115466145824983176 := ()
def tw7426816494289632267 := ()
def tw1725215725118628719 := ()
def tw1021148464977472593 := ()
def tw16388442583757225193 := ()
def tw5351358519996736250 := ()
def tw14632223071461560525 := ()
def tw7595741221842640312 := ()
def tw1311415647345997381 := ()
def tw16163140538621054080 := ()
def tw14766483175347342473 := ()
def tw2731938408903456270 := ()
def tw16772476171298774794 := ()
def tw643191440578178117 := ()
def tw925694221854285914 := ()
def tw11621625653562724532 := ()
def tw2936353168684500947 := ()
def tw11744995733717809662 := ()
def tw16048452019028637927 := ()
def tw14872534117931730943 := ()
def tw12206413160397943022 := ()
def tw11135771558018845715 := ()
def tw6906651342321167904 := ()
def tw10179244998142452109 := ()
def tw16952946254475523171 := ()
def tw9727283948425550007 := ()
def tw2772101847828181851 := ()
def tw5739219327828555876 := ()
def tw1993763580906334042 := ()
def tw3353665726052059953 := ()
def tw11487937437809285729 := ()
def tw14025198610282104126 := ()
def tw17725913784251798310 := ()
def tw5525051694170452166 := ()
def tw18178081709149027436 := ()
def tw13218027039815196922 := ()
def tw12668573760351212586 := ()
def tw11001390722179191722 := ()
def tw12384468701454426884 := ()
def tw9037574453268057821 := ()
def tw16291641046570593459 := ()
def tw812899682190375670 := ()
def tw5230654259336018449 := ()
def tw5355568806280836630 := ()
def tw15465984113326915960 := ()
def tw9215809992730372261 := ()
def tw11077565043078893783 := ()
def tw5171091064495753747 := ()
def tw13493284160503566887 := ()
def tw5173461244776808870 := ()
def tw9555919310627378628 := ()
def tw18154269527161172802 := ()
def tw10044642210230482750 := ()
def tw18338995641095588020 := ()
def tw13660107233369054308 := ()
def tw11260614725773609662 := ()
def tw12748756039746920791 := ()
def tw16125665994636572649 := ()
def tw8826217902684327643 := ()
def tw5152544035933196594 := ()
def tw4221077765020024935 := ()
def tw16814297327784321009 := ()
def tw12885587915008301902 := ()
def tw4579649036180484083 := ()
def tw7816745943063294708 := ()
def tw8411914072303826396 := ()
def tw3795177175966726343 := ()
def tw9035002941447843405 := ()
def tw12914425623927353751 := ()
def tw16937162957699181028 := ()
def tw4442425667616957062 := ()
def tw3720121942310782166 := ()
def tw8833337501889646345 := ()
def tw10311274939393436530 := ()
def tw9690784536799248661 := ()
def tw11587338266004239306 := ()
def tw15172366290867124753 := ()
def tw12654667908617308230 := ()
def tw10275019941322679917 := ()
def tw11287893736389307864 := ()
def tw4887205713939772213 := ()
def tw11137287023302415294 := ()
def tw8768421567698968541 := ()
def tw2791914672275465692 := ()
def tw2447172951961404010 := ()
def tw7582843351791414268 := ()
def tw9839433809430341890 := ()
def tw6993620103048733540 := ()
end PySem.W.Fast
set_option Elab.async false
set_option linter.all false
set_option maxRecDepth 100000
namespace Lw
open PySem L2 PyProof.Rows
def top (i : Nat) : Stmt := PySem.Challenge.pw_lackstretch_k30_together_refused.main.body.getD i (.Pass ⟨0, 0, 0, 0⟩)
abbrev s_is_whole : Stmt := top 20
abbrev s_is_number : Stmt := top 21
abbrev s_is_base : Stmt := top 22
abbrev s_is_figure : Stmt := top 23
abbrev s_are_figures : Stmt := top 24
abbrev s_is_stretch : Stmt := top 25
abbrev s_is_rising : Stmt := top 26
abbrev s_is_bad_list : Stmt := top 27
abbrev s_is_rule : Stmt := top 28
abbrev s_check_base : Stmt := top 29
abbrev s_check_number : Stmt := top 30
abbrev s_check_rule : Stmt := top 31
abbrev s_stands_within : Stmt := top 32
abbrev s_lacks_all : Stmt := top 33
abbrev s_figures_of : Stmt := top 34
abbrev s_is_good : Stmt := top 35
abbrev s_are_rules : Stmt := top 40
abbrev s_check_rules : Stmt := top 41
abbrev s_check_bound : Stmt := top 42
abbrev s_is_good_by_each : Stmt := top 43
abbrev s_keeps_all : Stmt := top 44
abbrev s_all_keeping : Stmt := top 45
abbrev s_count_keeping : Stmt := top 46
abbrev s_next_keeping : Stmt := top 47
abbrev s_unlike_stretches : Stmt := top 48
abbrev s_is_needless : Stmt := top 49
abbrev s_one_rule : Stmt := top 50
abbrev s__law_cell : Stmt := top 52
abbrev s__law_store : Stmt := top 53
abbrev s__law_take : Stmt := top 54
abbrev s__law_stretch : Stmt := top 55
abbrev s__law_bad : Stmt := top 56
abbrev s__law_base : Stmt := top 57
abbrev s__law_rules : Stmt := top 60
abbrev s__law_copies : Stmt := top 61
abbrev s__law_kind : Stmt := top 62
abbrev s__law_no_rule : Stmt := top 63
abbrev s__law_no_rules : Stmt := top 64
abbrev s__law_word : Stmt := top 65
abbrev s_law : Stmt := top 66
end Lw
namespace Lw
open PySem L2 PyProof.Rows
end Lw
set_option Elab.async false
set_option linter.all false
set_option maxRecDepth 100000
namespace Lw
open PySem L2 PyProof.Rows
def wholeT : PyData → Bool
  | .int _ => true
  | _ => false
def intT : PyData → Int
  | .int i => i
  | _ => 0
def baseT : PyData → Bool
  | .int i => decide (2 ≤ i ∧ i ≤ 16)
  | _ => false
def figT (b : Int) : PyData → Bool
  | .int i => decide (0 ≤ i ∧ i < b)
  | _ => false
def figsT (b : Int) : PyData → Bool
  | .list xs => xs.all (figT b)
  | _ => false
def eltsT : PyData → List PyData
  | .list xs => xs
  | _ => []
def intsT (d : PyData) : List Int := (eltsT d).map intT
def stretchT (b : Int) (d : PyData) : Bool := figsT b d && decide (1 ≤ (eltsT d).length ∧ (eltsT d).length ≤ 4)
def risingL (ls : List (List Int)) : Bool := (List.range (ls.length - 1)).all fun k => HT.lexLt (ls.getD k []) (ls.getD (k + 1) [])
def badT (b : Int) : PyData → Bool
  | .list xs => decide (xs.length ≤ 4) && (xs.all (stretchT b) && risingL (xs.map intsT))
  | _ => false
def ruleT : PyData → Bool
  | .tuple [d, l] => baseT d && badT (intT d) l
  | _ => false
theorem wholeT_is (d : PyData) : wholeT d = (isT "int" d && !isT "bool" d) := by cases d <;> rfl
theorem wholeT_int {d : PyData} (h : wholeT d = true) : d = .int (intT d) := by cases d <;> first | rfl | cases h
section
variable {P : Program} {w : World} {K : PySem.W.Frag} {mg : Str → Option Value} {base : Heap}
def sp_is_whole : Sp := fun vs H Q _ => ∃ (v : V) (d : PyData), vs = [v] ∧ ThAt H d v ∧ Q (.bl (wholeT d)) H
theorem sc_is_whole : FnScope ["thing"] ["thing"] (defScope s_is_whole) := ⟨rfl, rfl, rfl, by decide +kernel, rfl, by decide +kernel, by decide +kernel⟩
theorem ok_is_whole {f : Addr} {fd : FuncData} (D : Df K mg "is_whole" s_is_whole ["thing"] f fd) (T : Blt mg) : FnOk P w K mg base CX0 1 f fd ["thing"] sp_is_whole := by
  refine D.fn.ok sc_is_whole (fun vs H Q E h => ?_) (fun cdv A outer s H vs Q E hr h => ?_)
  · obtain ⟨v, d, rfl, _⟩ := h; rfl
  · obtain ⟨v, d, rfl, hd, q⟩ := h
    refine ⟨_, (pss_one (ps_ret (pe_and (pe_callB (k_isi K) (by rfl) T.n_isinstance boot_isinstance (pa_cons (pv 0) (pa_cons (pe_bltn (v := .ty "int") rfl T.n_int boot_int rfl) pa_nil))) (pe_one (pe_not (pe_callB (k_isi K) (by rfl) T.n_isinstance boot_isinstance (pa_cons (pv 0) (pa_cons (pe_bltn (v := .ty "bool") rfl T.n_bool boot_bool rfl) pa_nil)))))))), ?_⟩
    rw [wholeT_is] at q
    refine ⟨_, rfl, _, _, _, _, rfl, hd.ty, kit_int d, _, rfl, ?_⟩
    cases h1 : isT "int" d with
    | false => rw [h1] at q; exact iteF q
    | true =>
      rw [h1, Bool.true_and] at q
      exact iteT ⟨_, rfl, _, _, _, _, rfl, hd.ty, kit_bool d, _, rfl, q⟩
def sp_is_base : Sp := fun vs H Q _ => ∃ (v : V) (d : PyData), vs = [v] ∧ ThAt H d v ∧ Q (.bl (baseT d)) H
theorem sc_is_base : FnScope ["thing"] ["thing"] (defScope s_is_base) := ⟨rfl, rfl, rfl, by decide +kernel, rfl, by decide +kernel, by decide +kernel⟩
theorem ok_is_base {f f1 : Addr} {fd fd1 : FuncData} {t1 t2 : Tok} (D : Df K mg "is_base" s_is_base ["thing"] f fd) (Dis_whole : Df K mg "is_whole" s_is_whole ["thing"] f1 fd1) (T : Blt mg) (c_LEAST_BASE : mg "LEAST_BASE" = some (.int 2 t1)) (c_GREATEST_BASE : mg "GREATEST_BASE" = some (.int 16 t2)) :
    FnOk P w K mg base CX0 2 f fd ["thing"] sp_is_base := by
  have Gis_whole : FnOk P w K mg base CX0 1 f1 fd1 ["thing"] sp_is_whole := ok_is_whole Dis_whole T
  refine D.fn.ok sc_is_base (fun vs H Q E h => ?_) (fun cdv A outer s H vs Q E hr h => ?_)
  · obtain ⟨v, d, rfl, _⟩ := h; rfl
  · obtain ⟨v, d, rfl, hd, q⟩ := h
    refine ⟨_, (pss_one (ps_ret (pe_and (pcall Dis_whole Gis_whole (hr.mono (by decide)) (pa_cons (pv 0) pa_nil)) (pe_one (pe_chain op_le op_le (pe_glob (v := .int 2) rfl c_LEAST_BASE ⟨_, rfl⟩) (pv 0) (pe_glob (v := .int 16) rfl c_GREATEST_BASE ⟨_, rfl⟩)))))), ?_⟩
    refine ⟨_, rfl, v, d, rfl, hd, _, rfl, ?_⟩
    cases hw : wholeT d with
    | false =>
      have : baseT d = false := by cases d <;> first | rfl | cases hw
      rw [this] at q
      exact iteF q
    | true =>
      have e := wholeT_int hw
      generalize intT d = i at e
      subst e
      rw [ThAt] at hd
      subst hd
      refine iteT ⟨_, rfl, _, _, rfl, rfl, _, rfl, ?_⟩
      replace q : Q (.bl (decide (2 ≤ i ∧ i ≤ 16))) H := q
      refine ite2 (fun h1 => ?_) (fun h1 => ?_)
      · have h1' : (2 : Int) ≤ i := of_decide_eq_true h1
        refine ⟨_, _, rfl, rfl, ?_⟩
        rw [show decide (2 ≤ i ∧ i ≤ 16) = decide (i ≤ 16) by simp [h1']] at q
        exact q
      · have h1' : ¬ (2 : Int) ≤ i := fun z => h1 (decide_eq_true z)
        rw [show decide (2 ≤ i ∧ i ≤ 16) = false by simp [h1']] at q
        exact q
def sp_is_figure : Sp := fun vs H Q _ => ∃ (b : Int) (v : V) (d : PyData), vs = [.int b, v] ∧ ThAt H d v ∧ Q (.bl (figT b d)) H
theorem sc_is_figure : FnScope ["base", "thing"] ["base", "thing"] (defScope s_is_figure) := ⟨rfl, rfl, rfl, by decide +kernel, rfl, by decide +kernel, by decide +kernel⟩
theorem ok_is_figure {f f1 : Addr} {fd fd1 : FuncData} (D : Df K mg "is_figure" s_is_figure ["base", "thing"] f fd) (Dis_whole : Df K mg "is_whole" s_is_whole ["thing"] f1 fd1) (T : Blt mg) : FnOk P w K mg base CX0 2 f fd ["base", "thing"] sp_is_figure := by
  have Gis_whole : FnOk P w K mg base CX0 1 f1 fd1 ["thing"] sp_is_whole := ok_is_whole Dis_whole T
  refine D.fn.ok sc_is_figure (fun vs H Q E h => ?_) (fun cdv A outer s H vs Q E hr h => ?_)
  · obtain ⟨b, v, d, rfl, _⟩ := h; rfl
  · obtain ⟨b, v, d, rfl, hd, q⟩ := h
    refine ⟨_, (pss_one (ps_ret (pe_and (pcall Dis_whole Gis_whole (hr.mono (by decide)) (pa_cons (pv 1) pa_nil)) (pe_one (pe_chain op_le op_lt pe_int (pv 1) (pv 0)))))), ?_⟩
    refine ⟨_, rfl, v, d, rfl, hd, _, rfl, ?_⟩
    cases hw : wholeT d with
    | false =>
      have : figT b d = false := by cases d <;> first | rfl | cases hw
      rw [this] at q
      exact iteF q
    | true =>
      have e := wholeT_int hw
      generalize intT d = i at e
      subst e
      rw [ThAt] at hd
      subst hd
      refine iteT ⟨_, rfl, _, _, rfl, rfl, _, rfl, ?_⟩
      replace q : Q (.bl (decide (0 ≤ i ∧ i < b))) H := q
      refine ite2 (fun h1 => ?_) (fun h1 => ?_)
      · have h1' : (0 : Int) ≤ i := of_decide_eq_true h1
        refine ⟨_, rfl, _, _, rfl, rfl, ?_⟩
        rw [show decide (0 ≤ i ∧ i < b) = decide (i < b) by simp [h1']] at q
        exact q
      · have h1' : ¬ (0 : Int) ≤ i := fun z => h1 (decide_eq_true z)
        rw [show decide (0 ≤ i ∧ i < b) = false by simp [h1']] at q
        exact q
end
end Lw
set_option Elab.async false
set_option linter.all false
set_option maxRecDepth 100000
namespace Lw
open PySem L2 PyProof.Rows
mutual
def sizT : PyData → Nat
  | .list xs => max xs.length (sizTs xs)
  | .tuple xs => max xs.length (sizTs xs)
  | _ => 0
def sizTs : List PyData → Nat
  | [] => 0
  | d :: ds => max (sizT d) (sizTs ds)
end
theorem sizTs_mem {d : PyData} : ∀ {ds : List PyData}, d ∈ ds → sizT d ≤ sizTs ds
  | e :: ds, h => by
    rw [sizTs]
    rcases List.mem_cons.mp h with rfl | h
    · omega
    · have := sizTs_mem h; omega
theorem figs_ints {H : Hp} {b : Int} : ∀ {xs : List PyData} {ys : List V}, ThsAt H xs ys → xs.all (figT b) = true → ys = (xs.map intT).map V.int
  | [], ys, h, _ => by rw [ThsAt] at h; rw [h]; rfl
  | d :: ds, ys, h, q => by
    rw [ThsAt] at h
    obtain ⟨y, zs, h1, h2, h3⟩ := h
    rw [List.all_cons, Bool.and_eq_true] at q
    have e : d = .int (intT d) := by cases d <;> first | rfl | cases q.1
    rw [e, ThAt] at h2
    rw [h1, h2, figs_ints h3 q.2]
    rfl
theorem ThAt.figs {H : Hp} {b : Int} {d : PyData} {v : V} (h : ThAt H d v) (q : figsT b d = true) : ∃ a, v = .ref a ∧ H a = some (.lst ((intsT d).map V.int)) := by
  cases d with
  | list xs =>
    rw [ThAt] at h
    obtain ⟨a, ys, h1, h2, h3⟩ := h
    exact ⟨a, h1, by rw [h2, figs_ints h3 q]; rfl⟩
  | _ => cases q
theorem isT_list {d : PyData} (h : isT "list" d = true) : ∃ xs, d = .list xs := by
  cases d <;> first | exact ⟨_, rfl⟩ | cases h
theorem isT_tuple {d : PyData} (h : isT "tuple" d = true) : ∃ xs, d = .tuple xs := by
  cases d <;> first | exact ⟨_, rfl⟩ | cases h
theorem all_mapid {α : Type} {p : α → Bool} {l : List α} : (l.map p).all id = l.all p := by rw [List.all_map]; rfl
section
variable {P : Program} {w : World} {K : PySem.W.Frag} {mg : Str → Option Value} {base : Heap}
def sp_are_figures : Sp := fun vs H Q _ => ∃ (b : Int) (v : V) (d : PyData), vs = [.int b, v] ∧ ThAt H d v ∧ sizT d ≤ 100000 ∧ ∀ H', Same H H' → Q (.bl (figsT b d)) H'
theorem sc_are_figures : FnScope ["base", "thing"] ["base", "thing"] (defScope s_are_figures) := ⟨rfl, rfl, rfl, by decide +kernel, rfl, by decide +kernel, by decide +kernel⟩
theorem ok_are_figures {f f1 : Addr} {fd fd1 : FuncData} (D : Df K mg "are_figures" s_are_figures ["base", "thing"] f fd) (Dis_figure : Df K mg "is_figure" s_is_figure ["base", "thing"] f1 fd1) (Gis_figure : FnOk P w K mg base CX0 2 f1 fd1 ["base", "thing"] sp_is_figure) (T : Blt mg) :
    FnOk P w K mg base CX0 3 f fd ["base", "thing"] sp_are_figures := by
  refine D.fn.ok sc_are_figures (fun vs H Q E h => ?_) (fun cdv A outer s H vs Q E hr h => ?_)
  · obtain ⟨b, v, d, rfl, _⟩ := h; rfl
  · obtain ⟨b, v, d, rfl, hd, hs, kk⟩ := h
    refine ⟨_, (pss_one (ps_ret (pe_and (pe_callB (k_isi K) (by rfl) T.n_isinstance boot_isinstance (pa_cons (pv 1) (pa_cons (pe_bltn (v := .ty "list") rfl T.n_list boot_list rfl) pa_nil))) (pe_one (pe_callB (k_all K rfl) (by rfl) T.n_all boot_all (pa_cons (pe_comp (show CScope (defScope s_are_figures) _ "each" ["base", "thing"] ["base"] [0] from ⟨rfl, by decide +kernel, by decide +kernel, rfl, by decide +kernel, rfl, by decide +kernel, by decide +kernel⟩) rfl (k_pi K (pv 1)) (fun _ _ _ _ => pts_nil) (fun _ _ _ _ => (pcall Dis_figure Gis_figure (hr.mono (by decide)) (pa_cons (pv 1) (pa_cons (pv 0) pa_nil))))) pa_nil)))))), ?_⟩
    refine ⟨_, rfl, _, _, _, _, rfl, hd.ty, kit_list d, _, rfl, ?_⟩
    cases hl : isT "list" d with
    | false =>
      have q := kk H (Same.refl _)
      rw [show figsT b d = false by cases d <;> first | rfl | cases hl] at q
      exact iteF q
    | true =>
      obtain ⟨xs, rfl⟩ := isT_list hl
      rw [ThAt] at hd
      obtain ⟨a, ys, rfl, ha, hx⟩ := hd
      rw [sizT] at hs
      refine iteT ⟨_, rfl, a, rfl, ⟨_, SqL.of ha⟩, comp_list (K := K) (a := a) (xs := ys) (fun i us H4 => us = ((xs.take i).map (figT b)).map V.bl ∧ H4 = H) ⟨by simp, rfl⟩ (fun i us H4 _ ⟨_, e⟩ => by rw [e]; exact SqL.of ha) ?_ ?_⟩
      · rintro j x us H4 hj ⟨rfl, rfl⟩
        obtain ⟨d, hdj, hd⟩ := hx.get hj
        refine ⟨?_, ?_⟩
        · rw [List.length_map, List.length_map, List.length_take]
          exact Nat.lt_of_le_of_lt (show min j xs.length ≤ 100000 by omega) (by decide)
        unfold tYes
        dsimp only
        rw [if_pos rfl]
        refine ⟨_, rfl, _, rfl, b, x, d, rfl, hd, ?_, rfl⟩
        rw [List.take_succ, hdj]; simp
      · rintro us H4 ⟨rfl, rfl⟩ Dd hD
        refine ⟨Dd, _, rfl, SqL.of upd_same, ?_⟩
        rw [hx.len, List.take_length, all_mapid]
        exact kk _ (same_upd hD)
def sp_is_stretch : Sp := fun vs H Q _ => ∃ (b : Int) (v : V) (d : PyData), vs = [.int b, v] ∧ ThAt H d v ∧ sizT d ≤ 100000 ∧ ∀ H', Same H H' → Q (.bl (stretchT b d)) H'
theorem sc_is_stretch : FnScope ["base", "thing"] ["base", "thing"] (defScope s_is_stretch) := ⟨rfl, rfl, rfl, by decide +kernel, rfl, by decide +kernel, by decide +kernel⟩
theorem ok_is_stretch {f f1 : Addr} {fd fd1 : FuncData} {t1 : Tok} (D : Df K mg "is_stretch" s_is_stretch ["base", "thing"] f fd) (Dare_figures : Df K mg "are_figures" s_are_figures ["base", "thing"] f1 fd1) (Gare_figures : FnOk P w K mg base CX0 3 f1 fd1 ["base", "thing"] sp_are_figures) (c_LONGEST_STRETCH : mg "LONGEST_STRETCH" = some (.int 4 t1)) (T : Blt mg) :
    FnOk P w K mg base CX0 4 f fd ["base", "thing"] sp_is_stretch := by
  refine D.fn.ok sc_is_stretch (fun vs H Q E h => ?_) (fun cdv A outer s H vs Q E hr h => ?_)
  · obtain ⟨b, v, d, rfl, _⟩ := h; rfl
  · obtain ⟨b, v, d, rfl, hd, hs, kk⟩ := h
    refine ⟨_, (pss_one (ps_ret (pe_and (pcall Dare_figures Gare_figures (hr.mono (by decide)) (pa_cons (pv 0) (pa_cons (pv 1) pa_nil))) (pe_one (pe_chain op_le op_le pe_int (pe_callB (k_len K) (by rfl) T.n_len PySem.boot_len (pa_cons (pv 1) pa_nil)) (pe_glob (v := .int 4) rfl c_LONGEST_STRETCH ⟨_, rfl⟩)))))), ?_⟩
    refine ⟨_, rfl, _, rfl, b, v, d, rfl, hd, hs, fun H1 m1 => ⟨_, rfl, ?_⟩⟩
    have q := kk H1 m1
    unfold stretchT at q
    cases hf : figsT b d with
    | false => rw [hf] at q; exact iteF q
    | true =>
      rw [hf, Bool.true_and] at q
      obtain ⟨a, rfl, ha⟩ := ThAt.figs hd hf
      refine iteT ⟨_, rfl, a, _, rfl, .inl (SqL.of (m1 _ _ ha)), _, _, rfl, rfl, _, rfl, ?_⟩
      have el : (intsT d).length = (eltsT d).length := List.length_map _
      rw [List.length_map, el]
      generalize (eltsT d).length = n at q
      by_cases h1 : 1 ≤ n
      · rw [decide_eq_true (show (1 : Int) ≤ (n : Int) by omega)]
        refine iteT ⟨_, _, rfl, rfl, ?_⟩
        rw [show decide (1 ≤ n ∧ n ≤ 4) = decide ((n : Int) ≤ 4) from decide_eq_decide.mpr ⟨fun z => by omega, fun z => ⟨h1, by omega⟩⟩] at q
        exact q
      · rw [decide_eq_false (show ¬ (1 : Int) ≤ (n : Int) by omega)]
        rw [decide_eq_false (show ¬ (1 ≤ n ∧ n ≤ 4) from fun z => h1 z.1)] at q
        exact iteF q
def sp_is_rising : Sp := fun vs H Q _ => ∃ (bl : Addr) (zs : List (Addr × List Int)), vs = [.ref bl] ∧ H bl = some (.lst (zs.map fun z => V.ref z.1)) ∧ (∀ z ∈ zs, H z.1 = some (.lst (z.2.map V.int))) ∧ zs.length ≤ 4 ∧ ∀ H', Same H H' → Q (.bl (risingL (zs.map (·.2)))) H'
theorem sc_is_rising : FnScope ["stretches"] ["stretches"] (defScope s_is_rising) := ⟨rfl, rfl, rfl, by decide +kernel, rfl, by decide +kernel, by decide +kernel⟩
theorem ok_is_rising {f : Addr} {fd : FuncData} (D : Df K mg "is_rising" s_is_rising ["stretches"] f fd) (T : Blt mg) : FnOk P w K mg base CX0 1 f fd ["stretches"] sp_is_rising := by
  refine D.fn.ok sc_is_rising (fun vs H Q E h => ?_) (fun cdv A outer s H vs Q E hr h => ?_)
  · obtain ⟨bl, zs, rfl, _⟩ := h; rfl
  · obtain ⟨bl, zs, rfl, hb, hz, h4, kk⟩ := h
    have HU := HUof hr
    refine ⟨_, (pss_one (ps_ret (pe_callB (k_all K rfl) (by rfl) T.n_all boot_all (pa_cons (pe_comp (show CScope (defScope s_is_rising) _ "k" ["stretches"] ["stretches"] [0] from ⟨rfl, by decide +kernel, by decide +kernel, rfl, by decide +kernel, rfl, by decide +kernel, by decide +kernel⟩) rfl (pi_range1 rfl T.n_range (pa_cons (pe_op op_sub (pe_callB (k_len K) (by rfl) T.n_len PySem.boot_len (pa_cons (pv 0) pa_nil)) pe_int) pa_nil)) (fun _ _ _ _ => pts_nil) (fun _ _ _ _ => (pe_cmpR (k_ltL K HU) (pe_ix (k_ixL K) (pv 1) (pv 0) (fun _ _ => rfl)) (pe_ix (k_ixL K) (pv 1) (pe_op op_add (pv 0) pe_int) (fun _ _ => rfl)) (nomark _)))) pa_nil)))), ?_⟩
    refine ⟨_, rfl, bl, _, rfl, .inl (SqL.of hb), _, _, rfl, rfl, _, rfl, ?_⟩
    rw [List.length_map]
    refine ⟨by omega, by omega, comp_range (lo := 0) (n := ((zs.length : Int) - 1).toNat) (fun i ys H4 => ys = ((List.range i).map fun k => HT.lexLt ((zs.map (·.2)).getD k []) ((zs.map (·.2)).getD (k + 1) [])).map V.bl ∧ H4 = H) ⟨by simp, rfl⟩ ?_ ?_⟩
    · rintro i ys H4 hi ⟨rfl, rfl⟩
      refine ⟨by rw [List.length_map, List.length_map, List.length_range]; exact Nat.lt_of_lt_of_le (show i < 5 by omega) (by decide), ?_⟩
      unfold tYes
      dsimp only
      rw [if_pos rfl]
      have hi0 : i < zs.length := by omega
      have hi1 : i + 1 < zs.length := by omega
      have g0 : atI (zs.map fun z => V.ref z.1) (0 + (i : Int)) = some (.ref (zs[i]).1) := by rw [Int.zero_add]; exact atI_nat (by rw [List.getElem?_map, List.getElem?_eq_getElem hi0]; rfl)
      have g1 : atI (zs.map fun z => V.ref z.1) (0 + (i : Int) + 1) = some (.ref (zs[i + 1]).1) := by rw [Int.zero_add]; exact atI_nat (j := i + 1) (by rw [List.getElem?_map, List.getElem?_eq_getElem hi1]; rfl)
      refine ⟨_, rfl, _, rfl, bl, _, _, _, rfl, rfl, SqL.of hb, g0, ?_⟩
      refine ⟨_, rfl, _, rfl, _, _, rfl, rfl, bl, _, _, _, rfl, rfl, SqL.of hb, g1, ?_⟩
      refine ⟨_, _, _, _, rfl, rfl, SqL.of (hz _ (List.getElem_mem hi0)), SqL.of (hz _ (List.getElem_mem hi1)), ?_, rfl⟩
      rw [List.range_succ]
      have e0 : (zs.map (·.2)).getD i [] = (zs[i]).2 := by simp [List.getD, List.getElem?_map, List.getElem?_eq_getElem hi0]
      have e1 : (zs.map (·.2)).getD (i + 1) [] = (zs[i + 1]).2 := by simp [List.getD, List.getElem?_map, List.getElem?_eq_getElem hi1]
      rw [List.map_append, List.map_append, List.map_singleton, List.map_singleton, e0, e1]
    · rintro ys H4 ⟨rfl, rfl⟩ Dd hD
      refine ⟨Dd, _, rfl, SqL.of upd_same, ?_⟩
      rw [all_mapid]
      have q := kk _ (same_upd hD (o := .lst (((List.range ((zs.length : Int) - 1).toNat).map fun k => HT.lexLt ((zs.map (·.2)).getD k []) ((zs.map (·.2)).getD (k + 1) [])).map V.bl)))
      unfold risingL at q
      rw [List.length_map, show zs.length - 1 = ((zs.length : Int) - 1).toNat by omega] at q
      exact q
end
end Lw
set_option Elab.async false
set_option linter.all false
set_option maxRecDepth 100000
namespace Lw
open PySem L2 PyProof.Rows
theorem stretches_at {H : Hp} {b : Int} : ∀ {xs : List PyData} {ys : List V}, ThsAt H xs ys → xs.all (stretchT b) = true → ∃ zs : List (Addr × List Int), ys = zs.map (fun z => V.ref z.1) ∧ zs.map (·.2) = xs.map intsT ∧ ∀ z ∈ zs, H z.1 = some (.lst (z.2.map V.int))
  | [], ys, h, _ => by rw [ThsAt] at h; exact ⟨[], h, rfl, by simp⟩
  | d :: ds, ys, h, q => by
    rw [ThsAt] at h
    obtain ⟨y, us, h1, h2, h3⟩ := h
    rw [List.all_cons, Bool.and_eq_true] at q
    obtain ⟨zs, e1, e2, e3⟩ := stretches_at h3 q.2
    have qf : figsT b d = true := by have := q.1; unfold stretchT at this; rw [Bool.and_eq_true] at this; exact this.1
    obtain ⟨a, ea, ha⟩ := ThAt.figs h2 qf
    refine ⟨(a, intsT d) :: zs, by rw [h1, ea, e1]; rfl, by rw [List.map_cons, List.map_cons, e2], fun z hz => ?_⟩
    rcases List.mem_cons.mp hz with rfl | hz
    · exact ha
    · exact e3 z hz
section
variable {P : Program} {w : World} {K : PySem.W.Frag} {mg : Str → Option Value} {base : Heap}
def sp_is_bad_list : Sp := fun vs H Q _ => ∃ (b : Int) (v : V) (d : PyData), vs = [.int b, v] ∧ ThAt H d v ∧ sizT d ≤ 100000 ∧ ∀ H', Same H H' → Q (.bl (badT b d)) H'
theorem sc_is_bad_list : FnScope ["base", "thing"] ["base", "thing"] (defScope s_is_bad_list) := ⟨rfl, rfl, rfl, by decide +kernel, rfl, by decide +kernel, by decide +kernel⟩
theorem ok_is_bad_list {f f1 f2 : Addr} {fd fd1 fd2 : FuncData} {t1 : Tok} (D : Df K mg "is_bad_list" s_is_bad_list ["base", "thing"] f fd) (Dis_stretch : Df K mg "is_stretch" s_is_stretch ["base", "thing"] f1 fd1) (Gis_stretch : FnOk P w K mg base CX0 4 f1 fd1 ["base", "thing"] sp_is_stretch) (Dis_rising : Df K mg "is_rising" s_is_rising ["stretches"] f2 fd2) (c_MOST_STRETCHES : mg "MOST_STRETCHES" = some (.int 4 t1)) (T : Blt mg) :
    FnOk P w K mg base CX0 5 f fd ["base", "thing"] sp_is_bad_list := by
  have Gis_rising : FnOk P w K mg base CX0 1 f2 fd2 ["stretches"] sp_is_rising := ok_is_rising Dis_rising T
  refine D.fn.ok sc_is_bad_list (fun vs H Q E h => ?_) (fun cdv A outer s H vs Q E hr h => ?_)
  · obtain ⟨b, v, d, rfl, _⟩ := h; rfl
  · obtain ⟨b, v, d, rfl, hd, hs, kk⟩ := h
    refine ⟨_, (pss_cons (ps_if (PW.pt (pw_or (pt_not (pt_val (pe_callB (k_isi K) (by rfl) T.n_isinstance boot_isinstance (pa_cons (pv 1) (pa_cons (pe_bltn (v := .ty "list") rfl T.n_list boot_list rfl) pa_nil))))) (pw_or1 (pt_cmpR op_gt (pe_callB (k_len K) (by rfl) T.n_len PySem.boot_len (pa_cons (pv 1) pa_nil)) (pe_glob (v := .int 4) rfl c_MOST_STRETCHES ⟨_, rfl⟩) (nomark _)))))
        (pss_one (ps_ret pe_bl))
        pss_nil)
      (pss_one (ps_ret (pe_and (pe_callB (k_all K rfl) (by rfl) T.n_all boot_all (pa_cons (pe_comp (show CScope (defScope s_is_bad_list) _ "each" ["base", "thing"] ["base"] [0] from ⟨rfl, by decide +kernel, by decide +kernel, rfl, by decide +kernel, rfl, by decide +kernel, by decide +kernel⟩) rfl (k_pi K (pv 1)) (fun _ _ _ _ => pts_nil) (fun _ _ _ _ => (pcall Dis_stretch Gis_stretch (hr.mono (by decide)) (pa_cons (pv 1) (pa_cons (pv 0) pa_nil))))) pa_nil)) (pe_one (pcall Dis_rising Gis_rising (hr.mono (by decide)) (pa_cons (pv 1) pa_nil))))))), ?_⟩
    refine ⟨_, rfl, _, _, _, _, rfl, hd.ty, kit_list d, _, rfl, ?_⟩
    cases hl : isT "list" d with
    | false =>
      have q := kk H (Same.refl _)
      rw [show badT b d = false by cases d <;> first | rfl | cases hl] at q
      exact iteT (iteT q)
    | true =>
      obtain ⟨xs, rfl⟩ := isT_list hl
      rw [ThAt] at hd
      obtain ⟨a, ys, rfl, ha, hx⟩ := hd
      rw [sizT] at hs
      refine iteF ⟨_, rfl, a, _, rfl, .inl (SqL.of ha), _, _, rfl, rfl, _, rfl, ?_⟩
      rw [hx.len]
      have kk' : ∀ H', Same H H' → Q (.bl (decide (xs.length ≤ 4) && (xs.all (stretchT b) && risingL (xs.map intsT)))) H' := kk
      by_cases h4 : xs.length ≤ 4
      case neg =>
        rw [decide_eq_true (show (4 : Int) < (xs.length : Int) by omega)]
        have q := kk' H (Same.refl _)
        rw [decide_eq_false h4, Bool.false_and] at q
        exact iteT q
      rw [decide_eq_false (show ¬ (4 : Int) < (xs.length : Int) by omega)]
      rw [decide_eq_true h4, Bool.true_and] at kk'
      refine iteF ⟨_, rfl, a, rfl, ⟨_, SqL.of ha⟩, comp_list (K := K) (a := a) (xs := ys) (fun i us H4 => us = ((xs.take i).map (stretchT b)).map V.bl ∧ Same H H4) ⟨by simp, Same.refl _⟩ (fun i us H4 _ ⟨_, e⟩ => SqL.of (e _ _ ha)) ?_ ?_⟩
      · rintro j x us H4 hj ⟨rfl, m4⟩
        obtain ⟨d, hdj, hd⟩ := hx.get hj
        refine ⟨?_, ?_⟩
        · rw [List.length_map, List.length_map, List.length_take]
          exact Nat.lt_of_le_of_lt (show min j xs.length ≤ 4 by omega) (by decide)
        unfold tYes
        dsimp only
        rw [if_pos rfl]
        have := sizTs_mem (List.mem_of_getElem? hdj)
        refine ⟨_, rfl, _, rfl, b, x, d, rfl, hd.same m4, by omega, fun H5 m5 => ⟨?_, m4.trans m5⟩⟩
        rw [List.take_succ, hdj]; simp
      · rintro us H4 ⟨rfl, m4⟩ Dd hD
        refine ⟨Dd, _, rfl, SqL.of upd_same, ?_⟩
        have m5 := m4.trans (same_upd hD (o := .lst (((xs.take ys.length).map (stretchT b)).map V.bl)))
        rw [hx.len, List.take_length, all_mapid] at *
        refine ⟨_, rfl, ?_⟩
        cases hst : xs.all (stretchT b) with
        | false =>
          have q := kk' _ m5
          rw [hst, Bool.false_and] at q
          exact iteF q
        | true =>
          rw [hst, Bool.true_and] at kk'
          obtain ⟨zs, e1, e2, e3⟩ := stretches_at hx hst
          refine iteT ⟨_, rfl, a, zs, rfl, by rw [← e1]; exact m5 _ _ ha, fun z hz => m5 _ _ (e3 z hz), ?_, fun H6 m6 => ?_⟩
          · have := congrArg List.length e2; rw [List.length_map, List.length_map] at this; omega
          · rw [e2]; exact kk' H6 (m5.trans m6)
def sp_is_rule : Sp := fun vs H Q _ => ∃ (v : V) (d : PyData), vs = [v] ∧ ThAt H d v ∧ sizT d ≤ 100000 ∧ ∀ H', Same H H' → Q (.bl (ruleT d)) H'
theorem sc_is_rule : FnScope ["thing"] ["thing"] (defScope s_is_rule) := ⟨rfl, rfl, rfl, by decide +kernel, rfl, by decide +kernel, by decide +kernel⟩
theorem ok_is_rule {f f1 f2 : Addr} {fd fd1 fd2 : FuncData} (D : Df K mg "is_rule" s_is_rule ["thing"] f fd) (Dis_base : Df K mg "is_base" s_is_base ["thing"] f1 fd1) (Gis_base : FnOk P w K mg base CX0 2 f1 fd1 ["thing"] sp_is_base) (Dis_bad_list : Df K mg "is_bad_list" s_is_bad_list ["base", "thing"] f2 fd2) (Gis_bad_list : FnOk P w K mg base CX0 5 f2 fd2 ["base", "thing"] sp_is_bad_list) (T : Blt mg) :
    FnOk P w K mg base CX0 6 f fd ["thing"] sp_is_rule := by
  refine D.fn.ok sc_is_rule (fun vs H Q E h => ?_) (fun cdv A outer s H vs Q E hr h => ?_)
  · obtain ⟨v, d, rfl, _⟩ := h; rfl
  · obtain ⟨v, d, rfl, hd, hs, kk⟩ := h
    refine ⟨_, (pss_cons (ps_if (PW.pt (pw_or (pt_not (pt_val (pe_callB (k_isi K) (by rfl) T.n_isinstance boot_isinstance (pa_cons (pv 0) (pa_cons (pe_bltn (v := .ty "tuple") rfl T.n_tuple boot_tuple rfl) pa_nil))))) (pw_or1 (pt_cmpR op_ne (pe_callB (k_len K) (by rfl) T.n_len PySem.boot_len (pa_cons (pv 0) pa_nil)) pe_int (nomark _)))))
        (pss_one (ps_ret pe_bl))
        pss_nil)
      (pss_one (ps_ret (pe_and (pcall Dis_base Gis_base (hr.mono (by decide)) (pa_cons (pe_ix (k_ixT K) (pv 0) pe_int (fun _ _ => rfl)) pa_nil)) (pe_one (pcall Dis_bad_list Gis_bad_list (hr.mono (by decide)) (pa_cons (pe_ix (k_ixT K) (pv 0) pe_int (fun _ _ => rfl)) (pa_cons (pe_ix (k_ixT K) (pv 0) pe_int (fun _ _ => rfl)) pa_nil)))))))), ?_⟩
    refine ⟨_, rfl, _, _, _, _, rfl, hd.ty, kit_tuple d, _, rfl, ?_⟩
    cases hl : isT "tuple" d with
    | false =>
      have q := kk H (Same.refl _)
      rw [show ruleT d = false by cases d <;> first | rfl | cases hl] at q
      exact iteT (iteT q)
    | true =>
      obtain ⟨xs, rfl⟩ := isT_tuple hl
      rw [ThAt] at hd
      obtain ⟨a, ys, rfl, ha, hx⟩ := hd
      rw [sizT] at hs
      refine iteF ⟨_, rfl, a, _, rfl, .inr (SqT.of ha), rfl, _, rfl, ?_⟩
      rw [hx.len]
      match xs, hx, hs, kk with
      | [], hx, hs, kk => exact iteT (kk H (Same.refl _))
      | [_], hx, hs, kk => exact iteT (kk H (Same.refl _))
      | _ :: _ :: _ :: t, hx, hs, kk =>
        have q : Q (.bl false) H := kk H (Same.refl _)
        rename_i d1 d2 d3
        rw [show (!decide (V.int ((d1 :: d2 :: d3 :: t).length : Nat) = V.int 2)) = true by
          rw [decide_eq_false (fun z => by injection z with z; rw [List.length_cons, List.length_cons, List.length_cons] at z; omega)]; rfl]
        exact iteT q
      | [d, e], hx, hs, kk =>
        rw [ThsAt] at hx
        obtain ⟨y, us, rfl, hd, hx⟩ := hx
        rw [ThsAt] at hx
        obtain ⟨z, ws, rfl, he, hx⟩ := hx
        rw [ThsAt] at hx
        subst hx
        rw [sizTs, sizTs, sizTs] at hs
        refine iteF ?_
        refine ⟨_, rfl, a, _, _, y, rfl, rfl, SqT.of ha, rfl, y, d, rfl, hd, _, rfl, ?_⟩
        have kk' : ∀ H', Same H H' → Q (.bl (baseT d && badT (intT d) e)) H' := kk
        cases hb : baseT d with
        | false =>
          have q := kk' H (Same.refl _)
          rw [hb, Bool.false_and] at q
          exact iteF q
        | true =>
          rw [hb, Bool.true_and] at kk'
          have ed : d = .int (intT d) := by cases d <;> first | rfl | cases hb
          have ey : y = .int (intT d) := by rw [ed, ThAt] at hd; exact hd
          subst ey
          exact iteT ⟨_, rfl, a, _, _, V.int (intT d), rfl, rfl, SqT.of ha, rfl, _, rfl, a, _, _, z, rfl, rfl, SqT.of ha, rfl, intT d, z, e, rfl, he, by omega, kk'⟩
end
end Lw
set_option Elab.async false
set_option linter.all false
set_option maxRecDepth 100000
namespace Lw
open PySem L2 PyProof.Rows
structure RuleAt (H : Hp) (r : Addr) (b : Nat) (bl : Addr) (zs : List (Addr × List Int)) : Prop where
  tu : H r = some (.tup [.int b, .ref bl])
  li : H bl = some (.lst (zs.map fun z => V.ref z.1))
  st : ∀ z ∈ zs, H z.1 = some (.lst (z.2.map V.int))
theorem RuleAt.same {H H' : Hp} {r bl : Addr} {b : Nat} {zs : List (Addr × List Int)} (R : RuleAt H r b bl zs) (s : Same H H') : RuleAt H' r b bl zs := ⟨s _ _ R.tu, s _ _ R.li, fun z hz => s _ _ (R.st z hz)⟩
structure GoodSt (b : Nat) (l : List Int) : Prop where
  ne : l ≠ []
  len : l.length ≤ 4
  fig : ∀ f ∈ l, 0 ≤ f ∧ f < b
structure GoodRule (b : Nat) (ls : List (List Int)) : Prop where
  b2 : 2 ≤ b
  b16 : b ≤ 16
  len : ls.length ≤ 4
  st : ∀ l ∈ ls, GoodSt b l
  up : ls.Pairwise fun x y => HT.lexLt x y = true
theorem RuleAt.all {fp : List Addr} {r bl : Addr} {H : Hp} {b : Nat} {zs : List (Addr × List Int)} (R : RuleAt (aw fp H) r b bl zs) : RuleAt H r b bl zs := R.same (aw_same fp H)
theorem tdeps_tInts : ∀ ls : List (List Int), tdeps (ls.map tInts) ≤ 1
  | [] => by simp [tdeps]
  | l :: ls => by rw [List.map_cons, tdeps, tdep_tInts]; have := tdeps_tInts ls; omega
theorem TrsAt.lists {K : PySem.W.Frag} {H : Hp} : ∀ {zs : List (Addr × List Int)}, (∀ z ∈ zs, H z.1 = some (.lst (z.2.map V.int))) → TrsAt K H ((zs.map (·.2)).map tInts) (zs.map fun z => V.ref z.1)
  | [], _ => by rw [List.map_nil, List.map_nil, TrsAt]; rfl
  | z :: zs, h => by
    rw [List.map_cons, List.map_cons, TrsAt]
    exact ⟨_, _, rfl, TrAt.ints (SqL.of (h z List.mem_cons_self)), TrsAt.lists fun z hz => h z (List.mem_cons_of_mem _ hz)⟩
section
variable {P : Program} {w : World} {K : PySem.W.Frag} {mg : Str → Option Value} {base : Heap}
theorem cutV_nat (xs : List V) (k m : Nat) : cutV xs (some (k : Int)) (some (m : Int)) = (xs.drop k).take (m - k) := by
  unfold cutV
  rw [HT.sIx_nat, HT.sIx_nat]
  by_cases hk : k ≤ xs.length
  · rw [Nat.min_eq_left hk]
    by_cases hm : m ≤ xs.length
    · rw [Nat.min_eq_left hm]
    · rw [Nat.min_eq_right (by omega), List.take_of_length_le (by rw [List.length_drop]; omega), List.take_of_length_le (by rw [List.length_drop]; omega)]
  · rw [List.drop_of_length_le (show xs.length ≤ k by omega), Nat.min_eq_right (show xs.length ≤ k by omega), List.drop_of_length_le (Nat.le_refl _)]
    simp
def sp_stands_within : Sp := fun vs H Q _ => ∃ (sa fa : Addr) (st fs : List Int), vs = [.ref sa, .ref fa] ∧ H sa = some (.lst (st.map V.int)) ∧ H fa = some (.lst (fs.map V.int)) ∧ st ≠ [] ∧ st.length ≤ 1000 ∧ fs.length ≤ 1000 ∧ ∀ H', Same H H' → Q (.bl (hasS st fs)) H'
theorem sc_stands_within : FnScope ["stretch", "figures", "size"] ["stretch", "figures"] (defScope s_stands_within) := ⟨rfl, rfl, rfl, by decide +kernel, rfl, by decide +kernel, by decide +kernel⟩
theorem ok_stands_within {f : Addr} {fd : FuncData} (D : Df K mg "stands_within" s_stands_within ["stretch", "figures"] f fd) (T : Blt mg) : FnOk P w K mg base CX0 1 f fd ["stretch", "figures"] sp_stands_within := by
  refine D.fn.ok sc_stands_within (fun vs H Q E h => ?_) (fun cdv A outer s H vs Q E hr h => ?_)
  · obtain ⟨sa, fa, st, fs, rfl, _⟩ := h; rfl
  · obtain ⟨sa, fa, st, fs, rfl, hs, hf, ne, hl1, hl2, kk⟩ := h
    have HU := HUof hr
    refine ⟨_, (pss_cons (ps_set (i := 2) sc_stands_within.nd rfl (Or.inr rfl) (pe_callB (k_len K) (by rfl) T.n_len PySem.boot_len (pa_cons (pv 0) pa_nil)))
      (pss_one (ps_ret (pe_callB (k_any K rfl) (by rfl) T.n_any boot_any (pa_cons (pe_comp (show CScope (defScope s_stands_within) _ "k" ["stretch", "figures", "size"] ["stretch", "figures", "size"] [0, 1, 2] from ⟨rfl, by decide +kernel, by decide +kernel, rfl, by decide +kernel, rfl, by decide +kernel, by decide +kernel⟩) rfl (pi_range1 rfl T.n_range (pa_cons (pe_op op_add (pe_op op_sub (pe_callB (k_len K) (by rfl) T.n_len PySem.boot_len (pa_cons (pv 1) pa_nil)) (pv 2)) pe_int) pa_nil)) (fun _ _ _ _ => pts_nil) (fun _ _ _ _ => (pe_cmpR (k_eqT K HU) (pe_slice (k_slL K) (pv 2) (po_some (pv 0)) (po_some (pe_op op_add (pv 0) (pv 3)))) (pv 1) (nomark _)))) pa_nil))))), ?_⟩
    refine ⟨_, rfl, sa, _, rfl, .inl (SqL.of hs), ?_⟩
    rw [List.length_map]
    refine ⟨_, rfl, fa, _, rfl, .inl (SqL.of hf), _, rfl, _, _, rfl, rfl, _, _, rfl, rfl, _, rfl, ?_⟩
    rw [List.length_map]
    refine ⟨by omega, by omega, comp_range (lo := 0) (n := ((fs.length : Int) - st.length + 1).toNat) (fun i ys H4 => ys = ((List.range i).map fun k => decide ((fs.drop k).take st.length = st)).map V.bl ∧ Same H H4) ⟨by simp, Same.refl _⟩ ?_ ?_⟩
    · rintro i ys H4 hi ⟨rfl, s4⟩
      refine ⟨by rw [List.length_map, List.length_map, List.length_range]; exact Nat.lt_of_lt_of_le (show i < 2000 by omega) (by decide), ?_⟩
      unfold tYes
      dsimp only
      rw [if_pos rfl]
      refine ⟨_, rfl, _, rfl, _, rfl, _, rfl, _, rfl, _, _, rfl, rfl, _, rfl, fa, _, rfl, SqL.of (s4 _ _ hf), fun p hp => ?_⟩
      have e1 : cutV (fs.map V.int) (some (0 + (i : Int))) (some (0 + (i : Int) + (st.length : Int))) = ((fs.drop i).take st.length).map V.int := by
        have e : (0 + (i : Int) + (st.length : Int)) = ((i + st.length : Nat) : Int) := by omega
        rw [e, Int.zero_add, cutV_nat, List.map_take, List.map_drop, Nat.add_sub_cancel_left]
      rw [e1]
      refine ⟨_, rfl, tInts ((fs.drop i).take st.length), tInts st, TrAt.ints (a := p) (SqL.of upd_same), TrAt.ints (a := sa) (SqL.of (same_upd hp _ _ (s4 _ _ hs))), (by rw [tdep_tInts]; decide), ?_, s4.trans (same_upd hp)⟩
      rw [List.range_succ, List.map_append, List.map_append]
      have e2 := teq_ints ((fs.drop i).take st.length) st
      show _ = _ ++ [V.bl (decide ((fs.drop i).take st.length = st))]
      rw [← e2]; rfl
    · rintro ys H4 ⟨rfl, s4⟩ Dd hD
      refine ⟨Dd, _, rfl, SqL.of upd_same, ?_⟩
      have q := kk _ (s4.trans (same_upd hD (o := .lst (((List.range ((fs.length : Int) - st.length + 1).toNat).map fun k => decide ((fs.drop k).take st.length = st)).map V.bl))))
      rw [hasS_short ne] at q
      rw [List.any_map]
      exact q
def sp_lacks_all : Sp := fun vs H Q _ => ∃ (bl fa : Addr) (zs : List (Addr × List Int)) (fs : List Int), vs = [.ref bl, .ref fa] ∧ H bl = some (.lst (zs.map fun z => V.ref z.1)) ∧ (∀ z ∈ zs, H z.1 = some (.lst (z.2.map V.int))) ∧ H fa = some (.lst (fs.map V.int)) ∧ zs.length ≤ 100 ∧ fs.length ≤ 1000 ∧ (∀ z ∈ zs, z.2 ≠ [] ∧ z.2.length ≤ 1000) ∧ ∀ H', Same H H' → Q (.bl (lacks (zs.map (·.2)) fs)) H'
theorem sc_lacks_all : FnScope ["bad", "figures"] ["bad", "figures"] (defScope s_lacks_all) := ⟨rfl, rfl, rfl, by decide +kernel, rfl, by decide +kernel, by decide +kernel⟩
theorem ok_lacks_all {f f1 : Addr} {fd fd1 : FuncData} (D : Df K mg "lacks_all" s_lacks_all ["bad", "figures"] f fd) (Dstands_within : Df K mg "stands_within" s_stands_within ["stretch", "figures"] f1 fd1) (T : Blt mg) : FnOk P w K mg base CX0 2 f fd ["bad", "figures"] sp_lacks_all := by
  have Gstands_within : FnOk P w K mg base CX0 1 f1 fd1 ["stretch", "figures"] sp_stands_within := ok_stands_within Dstands_within T
  refine D.fn.ok sc_lacks_all (fun vs H Q E h => ?_) (fun cdv A outer s H vs Q E hr h => ?_)
  · obtain ⟨bl, fa, zs, fs, rfl, _⟩ := h; rfl
  · obtain ⟨bl, fa, zs, fs, rfl, hb, hz, hf, hl1, hl2, ne, kk⟩ := h
    refine ⟨_, (pss_one (ps_ret (pe_not (pe_callB (k_any K rfl) (by rfl) T.n_any boot_any (pa_cons (pe_comp (show CScope (defScope s_lacks_all) _ "stretch" ["bad", "figures"] ["figures"] [1] from ⟨rfl, by decide +kernel, by decide +kernel, rfl, by decide +kernel, rfl, by decide +kernel, by decide +kernel⟩) rfl (k_pi K (pv 0)) (fun _ _ _ _ => pts_nil) (fun _ _ _ _ => (pcall Dstands_within Gstands_within (hr.mono (by decide)) (pa_cons (pv 0) (pa_cons (pv 1) pa_nil))))) pa_nil))))), ?_⟩
    refine ⟨_, rfl, bl, rfl, ⟨_, SqL.of hb⟩, comp_list (K := K) (a := bl) (xs := zs.map fun z => V.ref z.1) (fun i ys H4 => ys = ((zs.take i).map fun z => hasS z.2 fs).map V.bl ∧ Same H H4) ⟨by simp, Same.refl _⟩ (fun i ys H4 _ ⟨_, e⟩ => SqL.of (e _ _ hb)) ?_ ?_⟩
    · rintro j x ys H4 hx ⟨rfl, s4⟩
      rw [List.getElem?_map] at hx
      obtain ⟨z, hzj, e⟩ := Option.map_eq_some_iff.mp hx
      subst e
      have hzm := List.mem_of_getElem? hzj
      refine ⟨?_, ?_⟩
      · rw [List.length_map, List.length_map, List.length_take]
        exact Nat.lt_of_le_of_lt (Nat.le_trans (Nat.min_le_right _ _) hl1) (by decide)
      unfold tYes
      dsimp only
      rw [if_pos rfl]
      refine ⟨_, rfl, _, rfl, z.1, fa, z.2, fs, rfl, s4 _ _ (hz z hzm), s4 _ _ hf, (ne z hzm).1, (ne z hzm).2, hl2, fun H5 s5 => ⟨?_, s4.trans s5⟩⟩
      rw [List.take_succ, hzj]
      simp
    · rintro ys H4 ⟨rfl, s4⟩ Dd hD
      refine ⟨Dd, _, rfl, SqL.of upd_same, _, rfl, ?_⟩
      have q := kk _ (s4.trans (same_upd hD (o := .lst (((zs.take (zs.map fun z => V.ref z.1).length).map fun z => hasS z.2 fs).map V.bl))))
      rw [List.length_map, List.take_length] at q ⊢
      unfold lacks at q
      rw [List.any_map] at q ⊢
      exact q
end
end Lw
set_option Elab.async false
set_option linter.all false
set_option maxRecDepth 100000
namespace Lw
open PySem L2 PyProof.Rows
theorem ruleT_good {b : Nat} {ls : List (List Int)} (g : GoodRule b ls) : ruleT (.tuple [.int b, .list (ls.map fun l => .list (l.map .int))]) = true := by
  have hb : baseT (.int b) = true := decide_eq_true (by have := g.b2; have := g.b16; omega)
  have hs : ∀ l ∈ ls, stretchT b (.list (l.map .int)) = true := fun l hl => by
    have s := g.st l hl
    have h1 : figsT b (.list (l.map .int)) = true := by
      show (l.map PyData.int).all (figT b) = true
      rw [List.all_eq_true]
      intro x hx
      obtain ⟨i, hi, rfl⟩ := List.mem_map.mp hx
      exact decide_eq_true (s.fig i hi)
    have h2 : (eltsT (.list (l.map .int))).length = l.length := List.length_map ..
    unfold stretchT
    rw [h1, h2, Bool.true_and]
    exact decide_eq_true ⟨List.length_pos_iff.mpr s.ne, s.len⟩
  have hi : (ls.map fun l => PyData.list (l.map .int)).map intsT = ls := by
    rw [List.map_map]
    conv => rhs; rw [← List.map_id ls]
    refine List.map_congr_left fun l _ => ?_
    show (l.map PyData.int).map intT = l
    rw [List.map_map]
    conv => rhs; rw [← List.map_id l]
    rfl
  show (baseT (.int b) && badT b (.list (ls.map fun l => .list (l.map .int)))) = true
  rw [hb, Bool.true_and]
  show (decide ((ls.map fun l => PyData.list (l.map .int)).length ≤ 4) && ((ls.map fun l => PyData.list (l.map .int)).all (stretchT b) && risingL ((ls.map fun l => PyData.list (l.map .int)).map intsT))) = true
  rw [hi, List.length_map, decide_eq_true g.len, Bool.true_and, Bool.and_eq_true]
  refine ⟨?_, ?_⟩
  · rw [List.all_eq_true]
    intro x hx
    obtain ⟨l, hl, rfl⟩ := List.mem_map.mp hx
    exact hs l hl
  · unfold risingL
    rw [List.all_eq_true]
    intro k hk
    have hk := List.mem_range.mp hk
    rw [List.getD_eq_getElem?_getD, List.getD_eq_getElem?_getD, List.getElem?_eq_getElem (show k < ls.length by omega), List.getElem?_eq_getElem (show k + 1 < ls.length by omega)]
    exact List.pairwise_iff_getElem.mp g.up k (k + 1) (by omega) (by omega) (by omega)
theorem RuleAt.th {H : Hp} {r bl : Addr} {b : Nat} {zs : List (Addr × List Int)} (R : RuleAt H r b bl zs) : ThAt H (.tuple [.int b, .list ((zs.map (·.2)).map fun l => .list (l.map .int))]) (.ref r) := by
  rw [ThAt]
  refine ⟨r, _, rfl, R.tu, ?_⟩
  rw [ThsAt]
  refine ⟨_, _, rfl, by rw [ThAt], ?_⟩
  rw [ThsAt]
  refine ⟨_, _, rfl, ?_, by rw [ThsAt]⟩
  rw [ThAt]
  refine ⟨bl, _, rfl, R.li, ?_⟩
  rw [List.map_map]
  exact ThsAt.map fun z hz => ThAt.ints (R.st z hz)
theorem RuleAt.thing {H : Hp} {r bl : Addr} {b : Nat} {zs : List (Addr × List Int)} (R : RuleAt H r b bl zs) (g : GoodRule b (zs.map (·.2))) : ∃ d, ThAt H d (.ref r) ∧ ruleT d = true ∧ Fit 3 5000 d := by
  have h := R.th
  refine ⟨_, h, ruleT_good g, Th.fit ?_ h⟩
  have hl := g.len
  rw [List.length_map] at hl
  have b16 := g.b16
  have hz : ∀ z ∈ zs, Th H 1 404 (.ref z.1) := fun z hz => by
    have s := g.st _ (List.mem_map.mpr ⟨z, hz, rfl⟩)
    refine Th.ints (R.st z hz) (fun i hi => by have := s.fig i hi; omega) (by have := s.len; omega)
  have hb : Th H 2 1620 (.ref bl) := Th.lst R.li (fun v hv => by
    obtain ⟨z, hz', rfl⟩ := List.mem_map.mp hv
    exact hz z hz') (by rw [List.length_map]; omega)
  refine Th.tup (k := 2) (n := 1620) R.tu (fun v hv => ?_) (by show 1621 * 2 ≤ 5000; decide)
  simp only [List.mem_cons, List.not_mem_nil, or_false] at hv
  rcases hv with rfl | rfl
  · exact Th.int (by omega) (by decide)
  · exact hb
theorem stretch_of {b : Int} {d : PyData} (h : stretchT b d = true) : ∃ l : List Int, d = .list (l.map .int) ∧ l ≠ [] ∧ l.length ≤ 4 ∧ ∀ i ∈ l, 0 ≤ i ∧ i < b := by
  unfold stretchT at h
  rw [Bool.and_eq_true] at h
  obtain ⟨h1, h2⟩ := h
  have h2 := of_decide_eq_true h2
  cases d with
  | list xs =>
    have h1 : xs.all (figT b) = true := h1
    rw [List.all_eq_true] at h1
    have h2 : 1 ≤ xs.length ∧ xs.length ≤ 4 := h2
    have hx : ∀ x ∈ xs, x = .int (intT x) ∧ 0 ≤ intT x ∧ intT x < b := fun x hx => by
      have q := h1 x hx
      cases x with
      | int i => exact ⟨rfl, of_decide_eq_true q⟩
      | _ => cases q
    refine ⟨xs.map intT, ?_, fun z => ?_, by rw [List.length_map]; exact h2.2, fun i hi => ?_⟩
    · rw [List.map_map]
      conv => lhs; rw [← List.map_id xs]
      exact congrArg PyData.list (List.map_congr_left fun x hx' => (hx x hx').1)
    · have : xs.length = 0 := by rw [← List.length_map (f := intT), z]; rfl
      omega
    · obtain ⟨x, hx', rfl⟩ := List.mem_map.mp hi
      exact (hx x hx').2
  | _ => cases h1
theorem ths_lists {H : Hp} {b : Int} : ∀ {xs : List PyData} {ys : List V}, ThsAt H xs ys → xs.all (stretchT b) = true → ∃ zs : List (Addr × List Int), ys = zs.map (fun z => V.ref z.1) ∧ xs.map intsT = zs.map (·.2) ∧ (∀ z ∈ zs, H z.1 = some (.lst (z.2.map V.int))) ∧ ∀ z ∈ zs, z.2 ≠ [] ∧ z.2.length ≤ 4 ∧ ∀ i ∈ z.2, 0 ≤ i ∧ i < b
  | [], ys, h, _ => by rw [ThsAt] at h; subst h; exact ⟨[], rfl, rfl, by simp, by simp⟩
  | d :: ds, ys, h, g => by
    rw [ThsAt] at h
    obtain ⟨y, us, rfl, h1, h2⟩ := h
    rw [List.all_cons, Bool.and_eq_true] at g
    obtain ⟨zs, rfl, e, h3, h4⟩ := ths_lists h2 g.2
    obtain ⟨l, rfl, l1, l2, l3⟩ := stretch_of g.1
    rw [ThAt] at h1
    obtain ⟨a, vs, rfl, h5, h6⟩ := h1
    have ev : vs = l.map V.int := by
      clear l1 l2 l3 h5 g
      induction l generalizing vs with
      | nil => rw [List.map_nil, ThsAt] at h6; exact h6
      | cons i l ih =>
        rw [List.map_cons, ThsAt] at h6
        obtain ⟨y, us, rfl, q1, q2⟩ := h6
        rw [ThAt] at q1
        rw [q1, ih us q2]; rfl
    subst ev
    refine ⟨(a, l) :: zs, rfl, ?_, fun z hz => ?_, fun z hz => ?_⟩
    · rw [List.map_cons, List.map_cons, e]
      congr 1
      show (l.map PyData.int).map intT = l
      rw [List.map_map]
      conv => rhs; rw [← List.map_id l]
      rfl
    · rcases List.mem_cons.mp hz with rfl | hz
      · exact h5
      · exact h3 z hz
    · rcases List.mem_cons.mp hz with rfl | hz
      · exact ⟨l1, l2, l3⟩
      · exact h4 z hz
theorem rise_pair : ∀ {ls : List (List Int)}, risingL ls = true → ls.Pairwise fun x y => HT.lexLt x y = true := by
  intro ls h
  unfold risingL at h
  rw [List.all_eq_true] at h
  have nxt : ∀ k, (hk : k + 1 < ls.length) → HT.lexLt (ls[k]'(by omega)) ls[k + 1] = true := fun k hk => by
    have q := h k (List.mem_range.mpr (by omega))
    rwa [List.getD_eq_getElem?_getD, List.getD_eq_getElem?_getD, List.getElem?_eq_getElem (show k < ls.length by omega), List.getElem?_eq_getElem hk] at q
  refine List.pairwise_iff_getElem.mpr fun i j hi hj hij => ?_
  obtain ⟨n, rfl⟩ : ∃ n, j = i + 1 + n := ⟨j - (i + 1), by omega⟩
  induction n with
  | zero => exact nxt i hj
  | succ n ih => exact HT.lexLt_trans _ _ _ (ih (by omega) (by omega)) (nxt (i + 1 + n) hj)
theorem th_rule {H : Hp} {d : PyData} {v : V} (h : ThAt H d v) (hr : ruleT d = true) : ∃ (r : Addr) (b : Nat) (bl : Addr) (zs : List (Addr × List Int)), v = .ref r ∧ RuleAt H r b bl zs ∧ GoodRule b (zs.map (·.2)) := by
  have go : ∀ e l, d = .tuple [e, l] → ∃ (r : Addr) (b : Nat) (bl : Addr) (zs : List (Addr × List Int)), v = .ref r ∧ RuleAt H r b bl zs ∧ GoodRule b (zs.map (·.2)) := by
    rintro e l rfl
    have hr : (baseT e && badT (intT e) l) = true := hr
    rw [Bool.and_eq_true] at hr
    obtain ⟨h1, h2⟩ := hr
    cases e with
    | int i =>
      have h1 : 2 ≤ i ∧ i ≤ 16 := of_decide_eq_true h1
      cases l with
      | list xs =>
        have h2 : (decide (xs.length ≤ 4) && (xs.all (stretchT i) && risingL (xs.map intsT))) = true := h2
        rw [Bool.and_eq_true, Bool.and_eq_true] at h2
        obtain ⟨h3, h4, h5⟩ := h2
        have h3 := of_decide_eq_true h3
        rw [ThAt] at h
        obtain ⟨a, ys, rfl, h6, h7⟩ := h
        rw [ThsAt] at h7
        obtain ⟨y, us, rfl, h8, h7⟩ := h7
        rw [ThAt] at h8
        rw [ThsAt] at h7
        obtain ⟨z, ws, rfl, h9, h7⟩ := h7
        rw [ThsAt] at h7
        subst h7 h8
        rw [ThAt] at h9
        obtain ⟨bl, vs, rfl, g1, g2⟩ := h9
        obtain ⟨zs, rfl, e, g3, g4⟩ := ths_lists g2 h4
        rw [e] at h5
        have hn : ((i.toNat : Nat) : Int) = i := by omega
        refine ⟨a, i.toNat, bl, zs, rfl, ⟨by rw [hn]; exact h6, g1, g3⟩, ⟨by omega, by omega, ?_, fun l hl => ?_, rise_pair h5⟩⟩
        · rw [← e, List.length_map]; exact h3
        · obtain ⟨z, hz, rfl⟩ := List.mem_map.mp hl
          obtain ⟨q1, q2, q3⟩ := g4 z hz
          exact ⟨q1, q2, fun f hf => by rw [hn]; exact q3 f hf⟩
      | _ => cases h2
    | _ => cases h1
  cases d with
  | tuple xs =>
    match xs, hr with
    | [e, l], _ => exact go e l rfl
    | [], hr => cases hr
    | [_], hr => cases hr
    | _ :: _ :: _ :: _, hr => cases hr
  | _ => cases hr
def numT : PyData → Bool
  | .int i => decide (0 ≤ i)
  | _ => false
section
variable {P : Program} {w : World} {K : PySem.W.Frag} {mg : Str → Option Value} {base : Heap}
def sp_is_number : Sp := fun vs H Q _ => ∃ (v : V) (d : PyData), vs = [v] ∧ ThAt H d v ∧ Q (.bl (numT d)) H
theorem sc_is_number : FnScope ["thing"] ["thing"] (defScope s_is_number) := ⟨rfl, rfl, rfl, by decide +kernel, rfl, by decide +kernel, by decide +kernel⟩
theorem ok_is_number {f f1 : Addr} {fd fd1 : FuncData} (D : Df K mg "is_number" s_is_number ["thing"] f fd) (Dis_whole : Df K mg "is_whole" s_is_whole ["thing"] f1 fd1) (T : Blt mg) : FnOk P w K mg base CX0 2 f fd ["thing"] sp_is_number := by
  have Gis_whole : FnOk P w K mg base CX0 1 f1 fd1 ["thing"] sp_is_whole := ok_is_whole Dis_whole T
  refine D.fn.ok sc_is_number (fun vs H Q E h => ?_) (fun cdv A outer s H vs Q E hr h => ?_)
  · obtain ⟨v, d, rfl, _⟩ := h; rfl
  · obtain ⟨v, d, rfl, hd, q⟩ := h
    refine ⟨_, (pss_one (ps_ret (pe_and (pcall Dis_whole Gis_whole (hr.mono (by decide)) (pa_cons (pv 0) pa_nil)) (pe_one (pe_cmpR op_ge (pv 0) pe_int (nomark _)))))), ?_⟩
    refine ⟨_, rfl, v, d, rfl, hd, _, rfl, ?_⟩
    cases hw : wholeT d with
    | false =>
      have : numT d = false := by cases d <;> first | rfl | cases hw
      rw [this] at q
      exact iteF q
    | true =>
      have e := wholeT_int hw
      generalize intT d = i at e
      subst e
      rw [ThAt] at hd
      subst hd
      exact iteT ⟨_, rfl, _, _, rfl, rfl, q⟩
def sp_check_rule (CNoRule : Addr) : Sp := fun vs H Q E => ∃ (v : V) (d : PyData), vs = [v] ∧ ThAt H d v ∧ sizT d ≤ 100000 ∧ (ruleT d = false → ∀ H', Same H H' → E (.ref CNoRule) none H') ∧ (ruleT d = true → ∀ H', Same H H' → Q .non H')
theorem sc_check_rule : FnScope ["thing"] ["thing"] (defScope s_check_rule) := ⟨rfl, rfl, rfl, by decide +kernel, rfl, by decide +kernel, by decide +kernel⟩
theorem ok_check_rule {CNoRule : Addr} {f f1 : Addr} {fd fd1 : FuncData} (D : Df K mg "check_rule" s_check_rule ["thing"] f fd) (Dis_rule : Df K mg "is_rule" s_is_rule ["thing"] f1 fd1) (Gis_rule : FnOk P w K mg base CX0 6 f1 fd1 ["thing"] sp_is_rule) (x_NoRule : ExcC K mg "NoRule" CNoRule) : FnOk P w K mg base (CX1 P w) 7 f fd ["thing"] (sp_check_rule CNoRule) := by
  refine D.fn.ok1 sc_check_rule (fun vs H Q E h => ?_) (fun cdv A outer s H vs Q E hr h => ?_)
  · obtain ⟨v, d, rfl, _⟩ := h; rfl
  · obtain ⟨v, d, rfl, hd, hs, kNo, kOk⟩ := h
    refine ⟨_, (pss_one (ps_if (pt_not (pt_val (pcall Dis_rule Gis_rule (hr.mono (by decide)) (pa_cons (pv 0) pa_nil))))
        (pss_one (ps_raise x_NoRule pass_new rfl (pa_cons pe_str pa_nil)))
        pss_nil)), ?_⟩
    refine ⟨_, rfl, v, d, rfl, hd, hs, fun H1 m1 => ⟨_, rfl, ?_⟩⟩
    cases hr : ruleT d with
    | false => exact iteT ⟨by show 1 ≤ sizeLine; decide, kNo hr _ m1⟩
    | true => exact iteF (kOk hr _ m1)
end
theorem len_wt : ∀ ds : List PyData, ds.length ≤ PyData.weightAll ds
  | [] => Nat.zero_le _
  | d :: ds => by rw [PyData.weightAll, List.length_cons]; have := len_wt ds; omega
mutual
theorem siz_wt : ∀ d : PyData, sizT d ≤ d.weight
  | .none => by rw [sizT.eq_def]; exact Nat.zero_le _
  | .bool _ => by rw [sizT.eq_def]; exact Nat.zero_le _
  | .int _ => by rw [sizT.eq_def]; exact Nat.zero_le _
  | .str _ => by rw [sizT.eq_def]; exact Nat.zero_le _
  | .list xs => by rw [sizT, PyData.weight]; have := len_wt xs; have := sizs_wt xs; omega
  | .tuple xs => by rw [sizT, PyData.weight]; have := len_wt xs; have := sizs_wt xs; omega
  | .dict _ => by rw [sizT.eq_def]; exact Nat.zero_le _
theorem sizs_wt : ∀ ds : List PyData, sizTs ds ≤ PyData.weightAll ds
  | [] => by rw [sizTs]; exact Nat.zero_le _
  | d :: ds => by rw [sizTs, PyData.weightAll]; have := siz_wt d; have := sizs_wt ds; omega
end
end Lw
set_option Elab.async false
set_option linter.all false
set_option maxRecDepth 100000
namespace Lw
open PySem L2 PyProof.Rows
section
variable {P : Program} {w : World} {K : PySem.W.Frag} {mg : Str → Option Value} {base : Heap}
def sp_check_base (CNoBase : Addr) : Sp := fun vs H Q E => ∃ (v : V) (d : PyData), vs = [v] ∧ ThAt H d v ∧ (baseT d = false → E (.ref CNoBase) none H) ∧ (baseT d = true → Q .non H)
theorem sc_check_base : FnScope ["thing"] ["thing"] (defScope s_check_base) := ⟨rfl, rfl, rfl, by decide +kernel, rfl, by decide +kernel, by decide +kernel⟩
theorem ok_check_base {CNoBase : Addr} {f f1 : Addr} {fd fd1 : FuncData} (D : Df K mg "check_base" s_check_base ["thing"] f fd) (Dis_base : Df K mg "is_base" s_is_base ["thing"] f1 fd1) (Gis_base : FnOk P w K mg base CX0 2 f1 fd1 ["thing"] sp_is_base) (x_NoBase : ExcC K mg "NoBase" CNoBase) : FnOk P w K mg base (CX1 P w) 3 f fd ["thing"] (sp_check_base CNoBase) := by
  refine D.fn.ok1 sc_check_base (fun vs H Q E h => ?_) (fun cdv A outer s H vs Q E hr h => ?_)
  · obtain ⟨v, d, rfl, _⟩ := h; rfl
  · obtain ⟨v, d, rfl, hd, kNo, kOk⟩ := h
    refine ⟨_, (pss_one (ps_if (pt_not (pt_val (pcall Dis_base Gis_base (hr.mono (by decide)) (pa_cons (pv 0) pa_nil))))
        (pss_one (ps_raise x_NoBase pass_new rfl (pa_cons pe_str pa_nil)))
        pss_nil)), ?_⟩
    refine ⟨_, rfl, v, d, rfl, hd, _, rfl, ?_⟩
    cases hr : baseT d with
    | false => exact iteT ⟨by show 1 ≤ sizeLine; decide, kNo hr⟩
    | true => exact iteF (kOk hr)
def sp_check_number (CNoNumber : Addr) : Sp := fun vs H Q E => ∃ (v : V) (d : PyData), vs = [v] ∧ ThAt H d v ∧ (numT d = false → E (.ref CNoNumber) none H) ∧ (numT d = true → Q .non H)
theorem sc_check_number : FnScope ["thing"] ["thing"] (defScope s_check_number) := ⟨rfl, rfl, rfl, by decide +kernel, rfl, by decide +kernel, by decide +kernel⟩
theorem ok_check_number {CNoNumber : Addr} {f f1 : Addr} {fd fd1 : FuncData} (D : Df K mg "check_number" s_check_number ["thing"] f fd) (Dis_number : Df K mg "is_number" s_is_number ["thing"] f1 fd1) (Gis_number : FnOk P w K mg base CX0 2 f1 fd1 ["thing"] sp_is_number) (x_NoNumber : ExcC K mg "NoNumber" CNoNumber) : FnOk P w K mg base (CX1 P w) 3 f fd ["thing"] (sp_check_number CNoNumber) := by
  refine D.fn.ok1 sc_check_number (fun vs H Q E h => ?_) (fun cdv A outer s H vs Q E hr h => ?_)
  · obtain ⟨v, d, rfl, _⟩ := h; rfl
  · obtain ⟨v, d, rfl, hd, kNo, kOk⟩ := h
    refine ⟨_, (pss_one (ps_if (pt_not (pt_val (pcall Dis_number Gis_number (hr.mono (by decide)) (pa_cons (pv 0) pa_nil))))
        (pss_one (ps_raise x_NoNumber pass_new rfl (pa_cons pe_str pa_nil)))
        pss_nil)), ?_⟩
    refine ⟨_, rfl, v, d, rfl, hd, _, rfl, ?_⟩
    cases hr : numT d with
    | false => exact iteT ⟨by show 1 ≤ sizeLine; decide, kNo hr⟩
    | true => exact iteF (kOk hr)
theorem base_of {H : Hp} {d : PyData} {v : V} (h : ThAt H d v) (hb : baseT d = true) : ∃ b : Nat, d = .int b ∧ v = .int b ∧ 2 ≤ b ∧ b ≤ 16 := by
  cases d with
  | int i =>
    have hb : 2 ≤ i ∧ i ≤ 16 := of_decide_eq_true hb
    rw [ThAt] at h
    have e : ((i.toNat : Nat) : Int) = i := by omega
    exact ⟨i.toNat, by rw [e], by rw [h, e], by omega, by omega⟩
  | _ => cases hb
theorem num_of {H : Hp} {d : PyData} {v : V} (h : ThAt H d v) (hb : numT d = true) : ∃ n : Nat, d = .int n ∧ v = .int n := by
  cases d with
  | int i =>
    have hb : 0 ≤ i := of_decide_eq_true hb
    rw [ThAt] at h
    have e : ((i.toNat : Nat) : Int) = i := by omega
    exact ⟨i.toNat, by rw [e], by rw [h, e]⟩
  | _ => cases hb
def sp_figures_of (CNoBase CNoNumber : Addr) : Sp := fun vs H Q E => ∃ (v u : V) (d e : PyData), vs = [v, u] ∧ ThAt H d v ∧ ThAt H e u ∧ (baseT d = false → E (.ref CNoBase) none H) ∧ (baseT d = true → numT e = false → E (.ref CNoNumber) none H) ∧
  ∀ b n : Nat, d = .int b → 2 ≤ b → b ≤ 16 → e = .int n → n < 2 ^ 900 ∧ ∀ l H', H l = none → H' l = some (.lst ((figs b n).map V.int)) → Same H H' → Q (.ref l) H'
theorem sc_figures_of : FnScope ["base", "n", "backwards", "rest"] ["base", "n"] (defScope s_figures_of) := ⟨rfl, rfl, rfl, by decide +kernel, rfl, by decide +kernel, by decide +kernel⟩
theorem ok_figures_of {CNoBase CNoNumber : Addr} {f f1 f2 : Addr} {fd fd1 fd2 : FuncData} (D : Df K mg "figures_of" s_figures_of ["base", "n"] f fd) (Dcheck_base : Df K mg "check_base" s_check_base ["thing"] f1 fd1) (Gcheck_base : FnOk P w K mg base (CX1 P w) 3 f1 fd1 ["thing"] (sp_check_base CNoBase))
    (Dcheck_number : Df K mg "check_number" s_check_number ["thing"] f2 fd2) (Gcheck_number : FnOk P w K mg base (CX1 P w) 3 f2 fd2 ["thing"] (sp_check_number CNoNumber)) (T : Blt mg) : FnOk P w K mg base (CX1 P w) 4 f fd ["base", "n"] (sp_figures_of CNoBase CNoNumber) := by
  refine D.fn.ok1 sc_figures_of (fun vs H Q E h => ?_) (fun cdv A outer s H vs Q E hr h => ?_)
  · obtain ⟨v, u, d, e, rfl, _⟩ := h; rfl
  · obtain ⟨v, u, d, e, rfl, hd, he, kB, kN, kOk⟩ := h
    refine ⟨_, (pss_cons (ps_expr (pcallX Dcheck_base Gcheck_base (hr.mono (by decide)) pass_call (pa_cons (pv 0) pa_nil)))
      (pss_cons (ps_expr (pcallX Dcheck_number Gcheck_number (hr.mono (by decide)) pass_call (pa_cons (pv 1) pa_nil)))
      (pss_cons (ps_set (i := 2) sc_figures_of.nd rfl (Or.inl rfl) (pe_lst (pa_cons (pe_op op_mod (pv 1) (pv 0)) pa_nil)))
      (pss_cons (ps_set (i := 3) sc_figures_of.nd rfl (Or.inl rfl) (pe_op op_fdivB (pv 1) (pv 0)))
      (pss_cons (ps_while PassesOwn.leaving (pt_cmpR op_gt (pv 3) pe_int (nomark _))
        (pss_cons (ps_expr (pe_bm PySem.F.plainAttrs_list PySem.F.slot_list_append PySem.F.type_list_append mt_append (pv 2) (pa_cons (pe_op op_mod (pv 3) (pv 0)) pa_nil)))
        (pss_one (ps_set (i := 3) sc_figures_of.nd rfl (Or.inl rfl) (pe_op op_fdivB (pv 3) (pv 0))))))
      (pss_one (ps_ret (pe_listRev rfl rfl T.n_list rfl T.n_reversed (pv 2))))))))), ?_⟩
    refine ⟨_, rfl, v, d, rfl, hd, kB, fun hb => ?_⟩
    refine ⟨_, rfl, u, e, rfl, he, kN hb, fun hn' => ?_⟩
    obtain ⟨b, rfl, rfl, h2, h16⟩ := base_of hd hb
    obtain ⟨n, rfl, rfl⟩ := num_of he hn'
    obtain ⟨hn, k⟩ := kOk b n rfl h2 h16 rfl
    refine ⟨_, rfl, _, rfl, _, _, rfl, rfl, (by omega : (0 : Int) < b), (by decide : 1 ≤ sizeLine), fun l hl => ?_⟩
    refine ⟨_, rfl, _, rfl, _, _, rfl, rfl, ⟨by omega, by omega⟩, ?_⟩
    have hlen := figs_len h2 900 n hn
    refine while_by (fun σ H2 => ∃ (r : Nat) (L : List Int), σ = [some (.int b), some (.int n), some (.ref l), some (.int r)] ∧ H2 l = some (.lst (L.map V.int)) ∧ Same H H2 ∧ figs b n = ahead b r ++ L.reverse)
      (fun σ _ => match σ with | [_, _, _, some (.int r)] => r.toNat | _ => 0) ?_ ?_ ?_
    · refine ⟨n / b, [((n % b : Nat) : Int)], ?_, ?_, same_upd hl, ?_⟩
      · rfl
      · rw [upd_same]; simp
      · rw [figs_step h2]; simp
    · rintro σ H2 ⟨r, L, rfl, hL, sH, he⟩
      refine ⟨_, rfl, _, _, rfl, rfl, _, rfl, ?_⟩
      refine ite2 (fun h1 => ?_) (fun h1 => ?_)
      · have hr0 : 0 < r := by have := of_decide_eq_true h1; omega
        have hLl : L.length ≤ 901 := by
          have := congrArg List.length he
          rw [List.length_append, List.length_reverse] at this
          omega
        refine ⟨_, rfl, .inl ⟨rfl, _, SqL.of hL⟩, _, rfl, _, rfl, _, _, rfl, rfl, (by omega : (0 : Int) < b), l, _, _, rfl, rfl, hL, by rw [List.length_map]; exact Nat.lt_of_le_of_lt hLl (by decide), ?_⟩
        refine ⟨_, rfl, _, rfl, _, _, rfl, rfl, ⟨by omega, by omega⟩, ?_⟩
        refine ⟨⟨r / b, L ++ [((r % b : Nat) : Int)], ?_, ?_, ?_, ?_⟩, ?_⟩
        · simp
        · rw [upd_same]; simp
        · exact fun b' o e => by rw [upd_ne (ne_of_none e hl)]; exact sH b' o e
        · rw [he, ahead_step h2 hr0, List.reverse_append]; simp
        · show ((r : Int) / (b : Int)).toNat < (r : Int).toNat
          have : r / b < r := Nat.div_lt_self hr0 (by omega)
          omega
      · have hr0 : r = 0 := by
          by_cases z : r = 0
          · exact z
          · exact absurd (decide_eq_true (by omega : (0 : Int) < r)) h1
        subst hr0
        refine ⟨_, rfl, l, _, rfl, SqL.of hL, fun q hq => ?_⟩
        have hlq : q ≠ l := fun z => by rw [z, hL] at hq; cases hq
        refine k q _ (sH.free hq) ?_ (sH.trans (same_upd hq))
        rw [upd_same, he]
        simp [ahead]
    · intro σ H2 Q Q' hq
      rintro ⟨v, e, i, j, e1, e2, k, e3, q⟩
      exact ⟨v, e, i, j, e1, e2, k, e3, hq _ _ q⟩
def sp_is_good (CNoRule CNoNumber : Addr) : Sp := fun vs H Q E => ∃ (v u : V) (d e : PyData), vs = [v, u] ∧ ThAt H d v ∧ ThAt H e u ∧ sizT d ≤ 100000 ∧ (ruleT d = false → ∀ H', Same H H' → E (.ref CNoRule) none H') ∧ (ruleT d = true → numT e = false → ∀ H', Same H H' → E (.ref CNoNumber) none H') ∧
  ∀ (r : Addr) (b : Nat) (bl : Addr) (zs : List (Addr × List Int)) (n : Nat), v = .ref r → RuleAt H r b bl zs → GoodRule b (zs.map (·.2)) → ruleT d = true → e = .int n → n < 2 ^ 900 ∧ ∀ H', Same H H' → Q (.bl (lacks (zs.map (·.2)) (figs b n))) H'
theorem sc_is_good : FnScope ["rule", "n"] ["rule", "n"] (defScope s_is_good) := ⟨rfl, rfl, rfl, by decide +kernel, rfl, by decide +kernel, by decide +kernel⟩
theorem ok_is_good {CNoBase CNoRule CNoNumber : Addr} {f f1 f2 f3 : Addr} {fd fd1 fd2 fd3 : FuncData} (D : Df K mg "is_good" s_is_good ["rule", "n"] f fd) (Dcheck_rule : Df K mg "check_rule" s_check_rule ["thing"] f1 fd1) (Gcheck_rule : FnOk P w K mg base (CX1 P w) 7 f1 fd1 ["thing"] (sp_check_rule CNoRule))
    (Dlacks_all : Df K mg "lacks_all" s_lacks_all ["bad", "figures"] f2 fd2) (Glacks_all : FnOk P w K mg base CX0 2 f2 fd2 ["bad", "figures"] sp_lacks_all) (Dfigures_of : Df K mg "figures_of" s_figures_of ["base", "n"] f3 fd3) (Gfigures_of : FnOk P w K mg base (CX1 P w) 4 f3 fd3 ["base", "n"] (sp_figures_of CNoBase CNoNumber)) (T : Blt mg) :
    FnOk P w K mg base (CX1 P w) 8 f fd ["rule", "n"] (sp_is_good CNoRule CNoNumber) := by
  refine D.fn.ok1 sc_is_good (fun vs H Q E h => ?_) (fun cdv A outer s H vs Q E hr h => ?_)
  · obtain ⟨v, u, d, e, rfl, _⟩ := h; rfl
  · obtain ⟨v, u, d, e, rfl, hd, he, hs, kR, kN, kOk⟩ := h
    refine ⟨_, (pss_cons (ps_expr (pcallX Dcheck_rule Gcheck_rule (hr.mono (by decide)) pass_call (pa_cons (pv 0) pa_nil)))
      (pss_one (ps_ret (pcall Dlacks_all Glacks_all (hr.mono (by decide)) (pa_cons (pe_ix (k_ixT K) (pv 0) pe_int (fun _ _ => rfl)) (pa_cons (pcallX Dfigures_of Gfigures_of (hr.mono (by decide)) pass_call (pa_cons (pe_ix (k_ixT K) (pv 0) pe_int (fun _ _ => rfl)) (pa_cons (pv 1) pa_nil))) pa_nil)))))), ?_⟩
    refine ⟨_, rfl, v, d, rfl, hd, hs, kR, fun hr H1 s1 => ?_⟩
    obtain ⟨r, b, bl, zs, rfl, R, g⟩ := th_rule hd hr
    have R1 := R.same s1
    refine ⟨_, rfl, r, _, _, V.ref bl, rfl, rfl, SqT.of R1.tu, rfl, ?_⟩
    refine ⟨_, rfl, r, _, _, V.int b, rfl, rfl, SqT.of R1.tu, rfl, _, rfl, .int b, u, .int b, e, rfl, by rw [ThAt], he.same s1, fun z => ?_, fun _ hn => kN hr hn H1 s1, fun b' n eb h2 h16 en => ?_⟩
    · have q : decide (2 ≤ (b : Int) ∧ (b : Int) ≤ 16) = false := z
      rw [decide_eq_true (by have := g.b2; have := g.b16; omega)] at q; cases q
    obtain rfl : b = b' := by injection eb with eb; omega
    obtain ⟨hn, kk⟩ := kOk r b bl zs n rfl R g hr en
    refine ⟨hn, fun l H2 hl hv s2 => ?_⟩
    have R2 := R1.same s2
    have hfl := figs_len g.b2 900 n hn
    have h4 : zs.length ≤ 4 := by have := g.len; rwa [List.length_map] at this
    exact ⟨bl, l, zs, figs b n, rfl, R2.li, R2.st, hv, by omega, by omega, fun z hz => ⟨(g.st _ (List.mem_map.mpr ⟨z, hz, rfl⟩)).ne, Nat.le_trans (g.st _ (List.mem_map.mpr ⟨z, hz, rfl⟩)).len (by decide)⟩, fun H3 s3 => kk H3 ((s1.trans s2).trans s3)⟩
end
end Lw
set_option Elab.async false
set_option linter.all false
set_option maxRecDepth 100000
namespace Lw
open PySem L2 PyProof.Rows
def Sto (H : Hp) (s : Addr) : Prop := ∃ g x k : Int, H s = some (.lst [.int g, .int x, .int k])
theorem Sto.ne {H : Hp} {s p : Addr} (S : Sto H s) (h : H p = none) : p ≠ s := fun z => by
  obtain ⟨g, x, k, e⟩ := S
  rw [z, e] at h; cases h
structure Stq (s : Addr) (H H' : Hp) : Prop where
  st : Sto H' s
  sm : ∀ b o, b ≠ s → H b = some o → H' b = some o
theorem Stq.refl {s : Addr} {H : Hp} (S : Sto H s) : Stq s H H := ⟨S, fun _ _ _ e => e⟩
theorem Stq.trans {s : Addr} {H H1 H2 : Hp} (a : Stq s H H1) (b : Stq s H1 H2) : Stq s H H2 := ⟨b.st, fun c o h e => b.sm c o h (a.sm c o h e)⟩
theorem Stq.same {s : Addr} {H H1 H2 : Hp} (a : Stq s H H1) (m : Same H1 H2) : Stq s H H2 := ⟨by obtain ⟨g, x, k, e⟩ := a.st; exact ⟨g, x, k, m _ _ e⟩, fun c o h e => m c o (a.sm c o h e)⟩
theorem Stq.of {s : Addr} {H H' : Hp} (S : Sto H s) (m : Same H H') : Stq s H H' := (Stq.refl S).same m
theorem Stq.free {s p : Addr} {H H' : Hp} (a : Stq s H H') (h : H' p = none) : H p = none := by
  cases e : H p with
  | none => rfl
  | some o =>
    have := a.sm p o (a.st.ne h) e
    rw [h] at this; cases this
theorem Stq.new {s p : Addr} {H H' : Hp} {o : HO} (a : Stq s H H') (h : H' p = none) : Stq s H (upd H' p o) := a.same (same_upd h)
theorem Stq.put {s p : Addr} {H H' : Hp} {o : HO} (a : Stq s H H') (hs : p ≠ s) (h : H p = none) : Stq s H (upd H' p o) := ⟨by
  obtain ⟨g, x, k, e⟩ := a.st
  exact ⟨g, x, k, by rw [upd_ne (Ne.symm hs)]; exact e⟩, fun c u hc e => by
    rw [upd_ne (ne_of_none e h)]; exact a.sm c u hc e⟩
section
variable {P : Program} {w : World} {K : PySem.W.Frag} {mg : Str → Option Value} {base : Heap}
def sp__law_cell (K : PySem.W.Frag) : Sp := fun vs H Q _ => ∃ (a : Addr) (ns : List Int) (k : Nat), vs = [.ref a, .int k] ∧ SqL K H a (ns.map V.int) ∧ ns.length ≤ 63 ∧ k ≤ 1000 ∧ ∀ c : Int, Q (.int c) H
theorem sc__law_cell : FnScope ["script", "k"] ["script", "k"] (defScope s__law_cell) := ⟨rfl, rfl, rfl, by decide +kernel, rfl, by decide +kernel, by decide +kernel⟩
theorem ok__law_cell {f : Addr} {fd : FuncData} (D : Df K mg "_law_cell" s__law_cell ["script", "k"] f fd) (T : Blt mg) : FnOk P w K mg base CX0 1 f fd ["script", "k"] (sp__law_cell K) := by
  refine D.fn.ok sc__law_cell (fun vs H Q E h => ?_) (fun cdv A outer s H vs Q E hr h => ?_)
  · obtain ⟨a, ns, k, rfl, _⟩ := h; rfl
  · obtain ⟨a, ns, k, rfl, hS, hlen, hk, kk⟩ := h
    refine ⟨_, (pss_cons (ps_if (pt_cmpR op_lt (pv 1) (pe_callB (k_len K) (by rfl) T.n_len PySem.boot_len (pa_cons (pv 0) pa_nil)) (nomark _))
        (pss_one (ps_ret (pe_ix (k_ixL K) (pv 0) (pv 1) (fun _ _ => rfl))))
        pss_nil)
      (pss_one (ps_ret (pe_op op_add (pe_op op_add (pe_op op_mul (pe_op op_mul pe_int (pv 1)) (pv 1)) (pe_op op_mul pe_int (pv 1))) pe_int)))), ?_⟩
    refine ⟨_, rfl, _, rfl, a, _, rfl, .inl hS, _, _, rfl, rfl, _, rfl, ?_⟩
    refine ite2 (fun hlt => ?_) (fun _ => ?_)
    · have hlt' : k < ns.length := by
        have := of_decide_eq_true hlt
        rw [List.length_map] at this
        omega
      refine ⟨_, rfl, _, rfl, a, _, _, .int (ns[k]), rfl, rfl, hS, ?_, kk _⟩
      exact atI_nat (by rw [List.getElem?_map, List.getElem?_eq_getElem hlt']; rfl)
    · refine ⟨_, rfl, _, _, rfl, rfl, .inl ⟨by decide, by decide⟩, _, rfl, _, _, rfl, rfl, .inr ⟨by omega, by omega⟩, _, rfl, _, _, rfl, rfl, .inl ⟨by decide, by decide⟩, _, _, rfl, rfl, _, _, rfl, rfl, kk _⟩
def sp__law_store : Sp := fun vs H Q _ => ∃ c : Int, vs = [.int c] ∧ ∀ (s : Addr) (H' : Hp), H s = none → Sto H' s → Same H H' → Q (.ref s) H'
theorem sc__law_store : FnScope ["cell", "great"] ["cell"] (defScope s__law_store) := ⟨rfl, rfl, rfl, by decide +kernel, rfl, by decide +kernel, by decide +kernel⟩
theorem ok__law_store {f : Addr} {fd : FuncData} (D : Df K mg "_law_store" s__law_store ["cell"] f fd) (T : Blt mg) : FnOk P w K mg base CX0 1 f fd ["cell"] sp__law_store := by
  refine D.fn.ok sc__law_store (fun vs H Q E h => ?_) (fun cdv A outer s H vs Q E hr h => ?_)
  · obtain ⟨c, rfl, _⟩ := h; rfl
  · obtain ⟨c, rfl, kk⟩ := h
    refine ⟨_, (pss_cons (ps_set (i := 1) sc__law_store.nd rfl (Or.inl rfl) pe_int)
      (pss_cons (ps_if (pt_cmpR op_ge (pv 0) (pe_op op_pow pe_int pe_int) (nomark _))
        (pss_one (ps_set (i := 1) sc__law_store.nd rfl (Or.inl rfl) (pv 0)))
        pss_nil)
      (pss_one (ps_ret (pe_lst (pa_cons (pv 1) (pa_cons (pe_op op_mod (pv 0) pe_int) (pa_cons pe_int pa_nil)))))))), ?_⟩
    refine ⟨_, rfl, _, _, rfl, rfl, ⟨by decide, by decide, by decide⟩, _, _, rfl, rfl, _, rfl, ?_⟩
    generalize decide ((10 : Int) ^ (18 : Int).toNat ≤ c) = bb
    cases bb with
    | true =>
      refine iteT ?_
      refine ⟨_, rfl, _, rfl, _, rfl, _, _, rfl, rfl, (by decide : (0 : Int) < 2147483629), (by decide : 3 ≤ sizeLine), fun l hl => ?_⟩
      exact kk l _ hl ⟨_, _, _, upd_same⟩ (same_upd hl)
    | false =>
      refine iteF ?_
      refine ⟨_, rfl, _, rfl, _, _, rfl, rfl, (by decide : (0 : Int) < 2147483629), (by decide : 3 ≤ sizeLine), fun l hl => ?_⟩
      exact kk l _ hl ⟨_, _, _, upd_same⟩ (same_upd hl)
def sp__law_take : Sp := fun vs H Q _ => ∃ (s : Addr) (m : Int), vs = [.ref s, .int m] ∧ Sto H s ∧ 0 < m ∧ m < 2 ^ 200 ∧ ∀ (r : Nat) (H' : Hp), (r : Int) < m → Stq s H H' → Q (.int r) H'
theorem sc__law_take : FnScope ["store", "many", "told", "one"] ["store", "many"] (defScope s__law_take) := ⟨rfl, rfl, rfl, by decide +kernel, rfl, by decide +kernel, by decide +kernel⟩
theorem ok__law_take {f : Addr} {fd : FuncData} (D : Df K mg "_law_take" s__law_take ["store", "many"] f fd) (T : Blt mg) : FnOk P w K mg base CX0 1 f fd ["store", "many"] sp__law_take := by
  refine D.fn.ok sc__law_take (fun vs H Q E h => ?_) (fun cdv A outer s H vs Q E hr h => ?_)
  · obtain ⟨s, m, rfl, _⟩ := h; rfl
  · obtain ⟨sa, m, rfl, S, hm0, hm1, kk⟩ := h
    obtain ⟨g, x, k, hs⟩ := id S
    refine ⟨_, (pss_cons (ps_if (pt_cmpR op_gt (pe_ix (k_ixL K) (pv 0) pe_int (fun _ _ => rfl)) pe_int (nomark _))
        (pss_cons (ps_set (i := 2) sc__law_take.nd rfl (Or.inl rfl) (pe_op op_mod (pe_ix (k_ixL K) (pv 0) pe_int (fun _ _ => rfl)) (pv 1)))
        (pss_cons (ps_asg (pe_op op_fdivB (pe_ix (k_ixL K) (pv 0) pe_int (fun _ _ => rfl)) (pv 1)) (pg_sub (pv 0) pe_int set_list))
        (pss_one (ps_ret (pv 2)))))
        pss_nil)
      (pss_cons (ps_asg (pe_op op_add (pe_ix (k_ixL K) (pv 0) pe_int (fun _ _ => rfl)) pe_int) (pg_sub (pv 0) pe_int set_list))
      (pss_cons (ps_set (i := 3) sc__law_take.nd rfl (Or.inl rfl) (pe_op op_mod (pe_op op_mul (pe_op op_add (pe_ix (k_ixL K) (pv 0) pe_int (fun _ _ => rfl)) (pe_op op_mul pe_int (pe_ix (k_ixL K) (pv 0) pe_int (fun _ _ => rfl)))) pe_int) pe_int))
      (pss_cons (ps_set (i := 3) sc__law_take.nd rfl (Or.inl rfl) (pe_op op_mod (pe_op op_mul (pv 3) (pv 3)) pe_int))
      (pss_cons (ps_set (i := 3) sc__law_take.nd rfl (Or.inl rfl) (pe_op op_mod (pe_op op_mul (pe_op op_add (pv 3) (pe_op op_mul pe_int (pe_ix (k_ixL K) (pv 0) pe_int (fun _ _ => rfl)))) pe_int) pe_int))
      (pss_one (ps_ret (pe_op op_mod (pe_op op_fdivB (pv 3) pe_int) (pv 1))))))))), ?_⟩
    have fin : ∀ (H' : Hp) (y : Int) (g x k : Int), H' = upd H sa (.lst [.int g, .int x, .int k]) → Q (.int (y % m)) H' := by
      intro H' y g x k e
      subst e
      have h0 : 0 ≤ y % m := Int.emod_nonneg _ (by omega)
      have h1 : y % m < m := Int.emod_lt_of_pos _ hm0
      obtain ⟨r, hr⟩ : ∃ r : Nat, y % m = (r : Int) := ⟨(y % m).toNat, by omega⟩
      rw [hr]
      exact kk r _ (by omega) ⟨⟨_, _, _, upd_same⟩, fun b o hb e => by rw [upd_ne hb]; exact e⟩
    refine ⟨_, rfl, sa, _, _, _, rfl, rfl, SqL.of hs, rfl, _, _, rfl, rfl, _, rfl, ?_⟩
    refine ite2 (fun _ => ?_) (fun _ => ?_)
    · refine ⟨_, rfl, sa, _, _, V.int g, rfl, rfl, SqL.of hs, rfl, _, rfl, _, _, rfl, rfl, hm0, ?_⟩
      refine ⟨_, rfl, sa, _, _, V.int g, rfl, rfl, SqL.of hs, rfl, _, rfl, _, _, rfl, rfl, ⟨hm0, hm1⟩, _, rfl, sa, _, _, 0, rfl, rfl, hs, rfl, ?_⟩
      refine ⟨_, rfl, ?_⟩
      exact fin _ g (g / m) x k rfl
    · refine ⟨_, rfl, sa, _, _, V.int k, rfl, rfl, SqL.of hs, rfl, _, _, rfl, rfl, _, rfl, sa, _, _, 2, rfl, rfl, hs, rfl, ?_⟩
      have hs1 : upd H sa (.lst [V.int g, V.int x, V.int (k + 1)]) sa = some (.lst [V.int g, V.int x, V.int (k + 1)]) := upd_same
      refine ⟨_, rfl, sa, _, _, V.int x, rfl, rfl, SqL.of hs1, rfl, ?_⟩
      refine ⟨_, rfl, sa, _, _, V.int (k + 1), rfl, rfl, SqL.of hs1, rfl, _, _, rfl, rfl, .inl ⟨by decide, by decide⟩, _, _, rfl, rfl, _, _, rfl, rfl, .inr ⟨by decide, by decide⟩, _, _, rfl, rfl, (by decide : (0 : Int) < 2147483647), ?_⟩
      generalize hn1 : (x + 7919 * (k + 1)) * 48271 % 2147483647 = n1
      have n1b : 0 ≤ n1 ∧ n1 < 2147483647 := by rw [← hn1]; exact ⟨Int.emod_nonneg _ (by decide), Int.emod_lt_of_pos _ (by decide)⟩
      refine ⟨_, rfl, _, rfl, _, _, rfl, rfl, .inl ⟨by omega, by omega⟩, _, _, rfl, rfl, (by decide : (0 : Int) < 2147483629), ?_⟩
      generalize hn2 : n1 * n1 % 2147483629 = n2
      refine ⟨_, rfl, _, rfl, sa, _, _, V.int (k + 1), rfl, rfl, SqL.of hs1, rfl, _, _, rfl, rfl, .inl ⟨by decide, by decide⟩, _, _, rfl, rfl, _, _, rfl, rfl, .inr ⟨by decide, by decide⟩, _, _, rfl, rfl, (by decide : (0 : Int) < 2147483587), ?_⟩
      generalize hn3 : (n2 + 40692 * (k + 1)) * 69621 % 2147483587 = n3
      refine ⟨_, rfl, _, _, rfl, rfl, ⟨by decide, by decide⟩, _, rfl, _, _, rfl, rfl, hm0, ?_⟩
      exact fin _ _ _ _ _ rfl
end
section
variable {P : Program} {w : World} {K : PySem.W.Frag} {mg : Str → Option Value} {base : Heap}
def sp__law_base : Sp := fun vs H Q _ => ∃ s : Addr, vs = [.ref s] ∧ Sto H s ∧ ∀ (b : Nat) (H' : Hp), 2 ≤ b → b ≤ 16 → Stq s H H' → Q (.int b) H'
theorem sc__law_base : FnScope ["store"] ["store"] (defScope s__law_base) := ⟨rfl, rfl, rfl, by decide +kernel, rfl, by decide +kernel, by decide +kernel⟩
set_option maxHeartbeats 2000000 in
theorem ok__law_base {f f1 : Addr} {fd fd1 : FuncData} (D : Df K mg "_law_base" s__law_base ["store"] f fd) (D_law_take : Df K mg "_law_take" s__law_take ["store", "many"] f1 fd1) (T : Blt mg) : FnOk P w K mg base CX0 2 f fd ["store"] sp__law_base := by
  have G_law_take : FnOk P w K mg base CX0 1 f1 fd1 ["store", "many"] sp__law_take := ok__law_take D_law_take T
  refine D.fn.ok sc__law_base (fun vs H Q E h => ?_) (fun cdv A outer s H vs Q E hr h => ?_)
  · obtain ⟨s, rfl, _⟩ := h; rfl
  · obtain ⟨sa, rfl, S, kk⟩ := h
    refine ⟨_, (pss_one (ps_ret (pe_ix (k_ixL K) (pe_lst (pa_cons pe_int (pa_cons pe_int (pa_cons pe_int (pa_cons pe_int (pa_cons (pe_op op_add pe_int (pcall D_law_take G_law_take (hr.mono (by decide)) (pa_cons (pv 0) (pa_cons pe_int pa_nil)))) pa_nil)))))) (pcall D_law_take G_law_take (hr.mono (by decide)) (pa_cons (pv 0) (pa_cons pe_int pa_nil))) (fun _ _ => rfl)))), ?_⟩
    refine ⟨_, rfl, ?_⟩
    refine ⟨sa, 15, rfl, S, (by decide), (by decide), fun x1 H1 hx1 S1 => ?_⟩
    refine ⟨2, x1, rfl, rfl, ?_⟩
    refine ⟨(by show 5 ≤ sizeLine; decide), fun l1 hl1 => ?_⟩
    have n1 := S1.st.ne hl1
    have S2 := S1.new hl1 (o := .lst [.int 2, .int 3, .int 10, .int 16, .int (2 + (x1 : Int))])
    refine ⟨_, rfl, sa, _, rfl, S2.st, (by decide), (by decide), fun x2 H3 hx2 S3 => ?_⟩
    obtain ⟨b, hb, hb2, hb16⟩ : ∃ b : Nat, atI [V.int 2, V.int 3, V.int 10, V.int 16, V.int (2 + (x1 : Int))] (x2 : Int) = some (.int b) ∧ 2 ≤ b ∧ b ≤ 16 := by
      have h5 : x2 < 5 := by omega
      match x2, h5 with
      | 0, _ => exact ⟨2, rfl, by omega, by omega⟩
      | 1, _ => exact ⟨3, rfl, by omega, by omega⟩
      | 2, _ => exact ⟨10, rfl, by omega, by omega⟩
      | 3, _ => exact ⟨16, rfl, by omega, by omega⟩
      | 4, _ => exact ⟨2 + x1, rfl, by omega, by omega⟩
    exact ⟨l1, _, _, _, rfl, rfl, SqL.of (S3.sm _ _ n1 upd_same), hb, kk b H3 hb2 hb16 (S2.trans S3)⟩
def sp__law_stretch : Sp := fun vs H Q _ => ∃ (s : Addr) (b few : Nat), vs = [.ref s, .int b, .int few] ∧ Sto H s ∧ 2 ≤ few ∧ few ≤ b ∧ b ≤ 16 ∧ ∀ (l : Addr) (ms : List Int) (H' : Hp), Stq s H H' → H l = none → H' l = some (.lst (ms.map V.int)) → GoodSt b ms → Q (.ref l) H'
theorem sc__law_stretch : FnScope ["store", "base", "few", "many"] ["store", "base", "few"] (defScope s__law_stretch) := ⟨rfl, rfl, rfl, by decide +kernel, rfl, by decide +kernel, by decide +kernel⟩
theorem ok__law_stretch {f f1 : Addr} {fd fd1 : FuncData} (D : Df K mg "_law_stretch" s__law_stretch ["store", "base", "few"] f fd) (D_law_take : Df K mg "_law_take" s__law_take ["store", "many"] f1 fd1) (T : Blt mg) : FnOk P w K mg base CX0 2 f fd ["store", "base", "few"] sp__law_stretch := by
  have G_law_take : FnOk P w K mg base CX0 1 f1 fd1 ["store", "many"] sp__law_take := ok__law_take D_law_take T
  refine D.fn.ok sc__law_stretch (fun vs H Q E h => ?_) (fun cdv A outer s H vs Q E hr h => ?_)
  · obtain ⟨s, b, few, rfl, _⟩ := h; rfl
  · obtain ⟨sa, b, few, rfl, S, hf2, hfb, hb16, kk⟩ := h
    refine ⟨_, (pss_cons (ps_set (i := 3) sc__law_stretch.nd rfl (Or.inl rfl) (pe_op op_add pe_int (pcall D_law_take G_law_take (hr.mono (by decide)) (pa_cons (pv 0) (pa_cons pe_int pa_nil)))))
      (pss_one (ps_ret (pe_comp (show CScope (defScope s__law_stretch) _ "k" ["store", "base", "few", "many"] ["store", "few", "base"] [0, 2, 1] from ⟨rfl, by decide +kernel, by decide +kernel, rfl, by decide +kernel, rfl, by decide +kernel, by decide +kernel⟩) rfl (pi_range1 rfl T.n_range (pa_cons (pv 3) pa_nil)) (fun _ _ _ _ => pts_nil) (fun _ _ _ _ => (pcall D_law_take G_law_take (hr.mono (by decide)) (pa_cons (pv 1) (pa_cons (pe_ix (k_ixL K) (pe_lst (pa_cons (pv 2) (pa_cons (pv 2) (pa_cons (pv 3) pa_nil)))) (pcall D_law_take G_law_take (hr.mono (by decide)) (pa_cons (pv 1) (pa_cons pe_int pa_nil))) (fun _ _ => rfl)) pa_nil)))))))), ?_⟩
    refine ⟨_, rfl, sa, _, rfl, S, (by decide), (by decide), fun x1 H1 hx1 S1 => ⟨_, _, rfl, rfl, ?_⟩⟩
    refine ⟨_, rfl, (1 + (x1 : Int)), rfl, by omega, by omega, comp_range (lo := 0) (n := (1 + (x1 : Int)).toNat) (fun j ys Hc => Stq sa H Hc ∧ ∃ ms : List Int, ys = ms.map V.int ∧ ms.length = j ∧ ∀ f ∈ ms, 0 ≤ f ∧ f < (b : Int)) ⟨S1, [], rfl, rfl, by simp⟩ ?_ ?_⟩
    · rintro j ys Hc hj ⟨Sc, ms, rfl, hml, hmf⟩
      refine ⟨by rw [List.length_map, hml]; exact Nat.lt_of_lt_of_le (show j < 5 by omega) (by decide), ?_⟩
      unfold tYes
      dsimp only
      rw [if_pos rfl]
      refine ⟨_, rfl, _, rfl, _, rfl, _, rfl, (by show 3 ≤ sizeLine; decide), fun l2 hl2 => ?_⟩
      have n2 := Sc.st.ne hl2
      have S3 := Sc.new hl2 (o := .lst [.int few, .int few, .int b])
      refine ⟨_, rfl, sa, _, rfl, S3.st, (by decide), (by decide), fun x2 H4 hx2 S4 => ?_⟩
      obtain ⟨m, hm, hm1, hm2⟩ : ∃ m : Nat, atI [V.int few, V.int few, V.int b] (x2 : Int) = some (.int m) ∧ 2 ≤ m ∧ m ≤ b := by
        have h3 : x2 < 3 := by omega
        match x2, h3 with
        | 0, _ => exact ⟨few, rfl, by omega, by omega⟩
        | 1, _ => exact ⟨few, rfl, by omega, by omega⟩
        | 2, _ => exact ⟨b, rfl, by omega, by omega⟩
      refine ⟨l2, _, _, _, rfl, rfl, SqL.of (S4.sm _ _ n2 upd_same), hm, sa, _, rfl, S4.st, by omega, by omega, fun x3 H5 hx3 S5 => ⟨(S3.trans S4).trans S5, ms ++ [(x3 : Int)], by simp, by simp [hml], fun f hf => ?_⟩⟩
      rcases List.mem_append.mp hf with hf | hf
      · exact hmf f hf
      · have e : f = (x3 : Int) := by simpa using hf
        omega
    · rintro ys Hc ⟨Sc, ms, rfl, hml, hmf⟩ p hp
      exact kk p ms _ (Sc.new hp) (Sc.free hp) upd_same ⟨fun z => by rw [z] at hml; simp at hml; omega, by omega, hmf⟩
structure BadAt (H0 H : Hp) (bl : Addr) (b : Nat) (zs : List (Addr × List Int)) : Prop where
  li : H bl = some (.lst (zs.map fun z => V.ref z.1))
  st : ∀ z ∈ zs, H z.1 = some (.lst (z.2.map V.int))
  nl : H0 bl = none
  ns : ∀ z ∈ zs, H0 z.1 = none
  len : zs.length ≤ 4
  good : ∀ z ∈ zs, GoodSt b z.2
  up : (zs.map (·.2)).Pairwise fun x y => HT.lexLt x y = true
def sp__law_bad : Sp := fun vs H Q _ => ∃ (s : Addr) (b : Nat), vs = [.ref s, .int b] ∧ Sto H s ∧ 2 ≤ b ∧ b ≤ 16 ∧ ∀ (bl : Addr) (zs : List (Addr × List Int)) (H' : Hp), Stq s H H' → BadAt H H' bl b zs → Q (.ref bl) H'
theorem sc__law_bad : FnScope ["store", "base", "few", "known", "k", "one"] ["store", "base"] (defScope s__law_bad) := ⟨rfl, rfl, rfl, by decide +kernel, rfl, by decide +kernel, by decide +kernel⟩
theorem ok__law_bad {f f1 f2 : Addr} {fd fd1 fd2 : FuncData} (D : Df K mg "_law_bad" s__law_bad ["store", "base"] f fd) (D_law_take : Df K mg "_law_take" s__law_take ["store", "many"] f1 fd1) (D_law_stretch : Df K mg "_law_stretch" s__law_stretch ["store", "base", "few"] f2 fd2) (T : Blt mg) : FnOk P w K mg base CX0 3 f fd ["store", "base"] sp__law_bad := by
  have G_law_take : FnOk P w K mg base CX0 1 f1 fd1 ["store", "many"] sp__law_take := ok__law_take D_law_take T
  have G_law_stretch : FnOk P w K mg base CX0 2 f2 fd2 ["store", "base", "few"] sp__law_stretch := ok__law_stretch D_law_stretch D_law_take T
  refine D.fn.ok sc__law_bad (fun vs H Q E h => ?_) (fun cdv A outer s H vs Q E hr h => ?_)
  · obtain ⟨s, b, rfl, _⟩ := h; rfl
  · obtain ⟨sa, b, rfl, S, hb2, hb16, kk⟩ := h
    refine ⟨_, (pss_cons (ps_set (i := 2) sc__law_bad.nd rfl (Or.inl rfl) (pe_callB (call_min2 rfl) (by rfl) T.n_min boot_min (pa_cons (pv 1) (pa_cons (pe_ix (k_ixL K) (pe_lst (pa_cons pe_int (pa_cons pe_int (pa_cons (pv 1) pa_nil)))) (pcall D_law_take G_law_take (hr.mono (by decide)) (pa_cons (pv 0) (pa_cons pe_int pa_nil))) (fun _ _ => rfl)) pa_nil))))
      (pss_cons (ps_set (i := 3) sc__law_bad.nd rfl (Or.inl rfl) pe_dnewT)
      (pss_cons (ps_for PassesOwn.never rfl (pi_range1 rfl T.n_range (pa_cons (pcall D_law_take G_law_take (hr.mono (by decide)) (pa_cons (pv 0) (pa_cons pe_int pa_nil))) pa_nil)) (pg_name (i := 4) sc__law_bad.nd rfl (Or.inl rfl))
        (pss_cons (ps_set (i := 5) sc__law_bad.nd rfl (Or.inl rfl) (pcall D_law_stretch G_law_stretch (hr.mono (by decide)) (pa_cons (pv 0) (pa_cons (pv 1) (pa_cons (pv 2) pa_nil)))))
        (pss_one (ps_dput (hu_of hr) (pv 3) (pe_callTy call_tuple_of (by rfl) T.n_tuple boot_tuple (pa_cons (pv 5) pa_nil)) pe_bl rfl))))
      (pss_one (ps_ret (pe_comp (show CScope (defScope s__law_bad) _ "one" ["store", "base", "few", "known", "k", "one"] [] [] from ⟨rfl, by decide +kernel, by decide +kernel, rfl, by decide +kernel, rfl, by decide +kernel, by decide +kernel⟩) rfl (k_pi K (pe_callB k_sortD (by rfl) T.n_sorted boot_sorted (pa_cons (pv 3) pa_nil))) (fun _ _ _ _ => pts_nil) (fun _ _ _ _ => (pe_callTy (k_listOf K) (by rfl) T.n_list boot_list (pa_cons (pv 0) pa_nil))))))))), ?_⟩
    refine ⟨_, rfl, _, rfl, (by show 3 ≤ sizeLine; decide), fun l1 hl1 => ?_⟩
    have n1 := S.ne hl1
    have S1 := (Stq.refl S).new hl1 (o := .lst [.int 2, .int 3, .int b])
    refine ⟨_, rfl, sa, _, rfl, S1.st, (by decide), (by decide), fun x1 H2 hx1 S2 => ?_⟩
    obtain ⟨m, hm, hm2⟩ : ∃ m : Nat, atI [V.int 2, V.int 3, V.int b] (x1 : Int) = some (.int m) ∧ 2 ≤ m := by
      have h3 : x1 < 3 := by omega
      match x1, h3 with
      | 0, _ => exact ⟨2, rfl, by omega⟩
      | 1, _ => exact ⟨3, rfl, by omega⟩
      | 2, _ => exact ⟨b, rfl, by omega⟩
    refine ⟨l1, _, _, _, rfl, rfl, SqL.of (S2.sm _ _ n1 upd_same), hm, _, _, rfl, ?_⟩
    obtain ⟨few, hfew, hfew1, hfew2⟩ : ∃ few : Nat, (if (m : Int) < (b : Int) then (m : Int) else (b : Int)) = (few : Int) ∧ 2 ≤ few ∧ few ≤ b := by
      by_cases z : m < b
      · exact ⟨m, by rw [if_pos (by omega)], by omega, by omega⟩
      · exact ⟨b, by rw [if_neg (by omega)], by omega, by omega⟩
    rw [hfew]
    have S12 := S1.trans S2
    intro kd hkd
    have nkd := S12.st.ne hkd
    have hkd0 := S12.free hkd
    have S3 := S12.new hkd (o := .dT [])
    refine ⟨_, rfl, sa, _, rfl, S3.st, (by decide), (by decide), fun x2 H4 hx2 S4 => ?_⟩
    refine ⟨_, rfl, by omega, by omega, for_range (lo := 0) (n := (x2 : Int).toNat) (fun i σ H5 => ∃ (v1 v2 : Option V) (kvs : List (List Key × V)) (ls : List (List Int)), σ = [some (.ref sa), some (.int b), some (.int few), some (.ref kd), v1, v2] ∧ Stq sa H H5 ∧ H5 kd = some (.dT kvs) ∧ kvs.map (·.1) = ls.map kI ∧ ls.length ≤ i ∧ ∀ l ∈ ls, GoodSt b l)
      ⟨none, none, [], [], rfl, S3.trans S4, S4.sm _ _ nkd upd_same, rfl, Nat.le_refl _, by simp⟩ ?_ ?_⟩
    · rintro i σ H5 hi ⟨v1, v2, kvs, ls, rfl, S5, hk5, hks, hll, hgd⟩
      refine ⟨_, rfl, _, rfl, _, rfl, sa, b, few, rfl, S5.st, hfew1, hfew2, hb16, fun l ms H6 S6 hl0 hl6 gms => ?_⟩
      have hk6 := S6.sm _ _ nkd hk5
      refine ⟨_, rfl, _, rfl, l, _, rfl, .inl ⟨SqL.of hl6, fun tp htp => ?_⟩⟩
      have hk7 : upd H6 tp (.tup (ms.map V.int)) kd = some (.dT kvs) := same_upd htp _ _ hk6
      have hkl : kvs.length = ls.length := by have := congrArg List.length hks; rwa [List.length_map, List.length_map] at this
      refine ⟨kd, _, rfl, DPut.t (k := kI ms) hk7 (by rw [kI_V]; exact upd_same) (Nat.lt_of_le_of_lt (show kvs.length ≤ 4 by omega) (by decide)), ?_⟩
      have S7 := ((S5.trans S6).new htp (o := .tup (ms.map V.int))).put (p := kd) (o := .dT (putK kvs (kI ms) (.bl true))) nkd hkd0
      by_cases hin : ms ∈ ls
      · refine ⟨_, _, putK kvs (kI ms) (.bl true), ls, rfl, S7, upd_same, ?_, by omega, hgd⟩
        unfold putK
        rw [if_pos (by
          rw [List.any_eq_true]
          have : kI ms ∈ kvs.map (·.1) := by rw [hks]; exact List.mem_map.mpr ⟨ms, hin, rfl⟩
          obtain ⟨kv, h1, h2⟩ := List.mem_map.mp this
          exact ⟨kv, h1, decide_eq_true h2⟩), List.map_map, ← hks]
        refine List.map_congr_left fun kv _ => ?_
        show (if kv.1 = kI ms then (kv.1, V.bl true) else kv).1 = kv.1
        split <;> rfl
      · refine ⟨_, _, putK kvs (kI ms) (.bl true), ls ++ [ms], rfl, S7, upd_same, ?_, by rw [List.length_append, List.length_singleton]; omega, fun l hl => ?_⟩
        · unfold putK
          rw [if_neg (by
            rw [List.any_eq_true]
            rintro ⟨kv, h1, h2⟩
            have h3 : kI ms ∈ kvs.map (·.1) := List.mem_map.mpr ⟨kv, h1, of_decide_eq_true h2⟩
            rw [hks] at h3
            obtain ⟨l, h4, h5⟩ := List.mem_map.mp h3
            exact hin (kI_inj h5 ▸ h4)), List.map_append, List.map_append, hks]
          rfl
        · rcases List.mem_append.mp hl with hl | hl
          · exact hgd l hl
          · have e : l = ms := by simpa using hl
            rw [e]; exact gms
    · rintro σ H5 ⟨v1, v2, kvs, ls, rfl, S5, hk5, hks, hll, hgd⟩
      refine ⟨_, rfl, kd, kvs, ls, rfl, hk5, hks, by omega, fun l hl => (hgd l hl).ne, fun p zs hp pm pw hz => ?_⟩
      have hzl : zs.length = ls.length := by have := pm.length_eq; rwa [List.length_map] at this
      have S6 := S5.new hp (o := .lst (zs.map fun z => V.ref z.1))
      refine ⟨p, rfl, ⟨_, SqL.of upd_same⟩, comp_list (K := K) (a := p) (xs := zs.map fun z => V.ref z.1) (fun i ys H7 => Same (upd H5 p (.lst (zs.map fun z => V.ref z.1))) H7 ∧ ∃ ws : List (Addr × List Int), ys = ws.map (fun z => V.ref z.1) ∧ ws.map (·.2) = (zs.take i).map (·.2) ∧ ∀ z ∈ ws, H z.1 = none ∧ H7 z.1 = some (.lst (z.2.map V.int))) ⟨Same.refl _, [], rfl, by simp, by simp⟩ (fun i ys H7 _ ⟨m7, _⟩ => SqL.of (m7 _ _ upd_same)) ?_ ?_⟩
      · rintro j x ys H7 hx ⟨m7, ws, rfl, hw2, hws⟩
        rw [List.getElem?_map] at hx
        obtain ⟨z, hzj, e⟩ := Option.map_eq_some_iff.mp hx
        subst e
        have hzm := List.mem_of_getElem? hzj
        have hj : j < zs.length := (List.getElem?_eq_some_iff.mp hzj).1
        have hwl : ws.length ≤ j := by have := congrArg List.length hw2; rw [List.length_map, List.length_map, List.length_take] at this; omega
        refine ⟨by rw [List.length_map]; exact Nat.lt_of_le_of_lt (show ws.length ≤ 4 by omega) (by decide), ?_⟩
        unfold tYes
        dsimp only
        rw [if_pos rfl]
        refine ⟨_, rfl, z.1, _, rfl, .inr (SqT.of (m7 _ _ (same_upd hp _ _ (hz z hzm)))), fun q hq => ⟨m7.trans (same_upd hq), ws ++ [(q, z.2)], by simp, ?_, fun y hy => ?_⟩⟩
        · rw [List.map_append, hw2, List.take_succ, hzj]; simp
        · rcases List.mem_append.mp hy with hy | hy
          · exact ⟨(hws y hy).1, same_upd hq _ _ (hws y hy).2⟩
          · have e : y = (q, z.2) := by simpa using hy
            subst e
            exact ⟨S6.free (m7.free hq), upd_same⟩
      · rintro ys H7 ⟨m7, ws, rfl, hw2, hws⟩ bl hbl
        rw [List.length_map, List.take_length] at hw2
        have hwl : ws.length = zs.length := by have := congrArg List.length hw2; rwa [List.length_map, List.length_map] at this
        have m8 := same_upd hbl (o := .lst (ws.map fun z => V.ref z.1))
        refine kk bl ws _ (S6.same (m7.trans m8)) ⟨upd_same, fun z hz' => m8 _ _ (hws z hz').2, S6.free (m7.free hbl), fun z hz' => (hws z hz').1, by omega, fun z hz' => ?_, ?_⟩
        · refine hgd _ ?_
          have : z.2 ∈ zs.map (·.2) := by rw [← hw2]; exact List.mem_map.mpr ⟨z, hz', rfl⟩
          exact pm.mem_iff.mp this
        · rw [hw2, List.pairwise_map]; exact pw
end
theorem Stq.aw {s : Addr} {H H' : Hp} (a : Stq s H H') : Same (aw [s] H) (aw [s] H') := fun b o e => by
  have hb : b ∉ [s] := fun hb => by rw [aw_in hb] at e; cases e
  rw [aw_out hb] at e ⊢
  exact a.sm b o (fun z => hb (by simp [z])) e
structure RL where
  r : Addr
  b : Nat
  bl : Addr
  zs : List (Addr × List Int)
def RL.con (x : RL) : Nat × List (List Int) := (x.b, x.zs.map (·.2))
structure RulesAt (H : Hp) (l : Addr) (rs : List RL) : Prop where
  li : H l = some (.lst (rs.map fun x => V.ref x.r))
  ru : ∀ x ∈ rs, RuleAt H x.r x.b x.bl x.zs
theorem RulesAt.same {H H' : Hp} {l : Addr} {rs : List RL} (R : RulesAt H l rs) (s : Same H H') : RulesAt H' l rs := ⟨s _ _ R.li, fun x hx => (R.ru x hx).same s⟩
theorem RulesAt.all {H : Hp} {l : Addr} {rs : List RL} {fp : List Addr} (R : RulesAt (aw fp H) l rs) : RulesAt H l rs := R.same (aw_same fp H)
structure GoodRs (rs : List RL) : Prop where
  ne : rs ≠ []
  len : rs.length ≤ 3
  good : ∀ x ∈ rs, GoodRule x.b (x.zs.map (·.2))
theorem GoodRs.z4 {rs : List RL} (g : GoodRs rs) {x : RL} (hx : x ∈ rs) : x.zs.length ≤ 4 := by have := (g.good x hx).len; rwa [List.length_map] at this
section
variable {P : Program} {w : World} {K : PySem.W.Frag} {mg : Str → Option Value} {base : Heap}
def sp__law_rules : Sp := fun vs H Q _ => ∃ s : Addr, vs = [.ref s] ∧ Sto H s ∧ ∀ (l : Addr) (rs : List RL) (H' : Hp), Stq s H H' → RulesAt (aw [s] H') l rs → GoodRs rs → Q (.ref l) H'
theorem sc__law_rules : FnScope ["store", "base", "found", "k", "own"] ["store"] (defScope s__law_rules) := ⟨rfl, rfl, rfl, by decide +kernel, rfl, by decide +kernel, by decide +kernel⟩
theorem ok__law_rules {f f1 f2 f3 f4 : Addr} {fd fd1 fd2 fd3 fd4 : FuncData} (D : Df K mg "_law_rules" s__law_rules ["store"] f fd) (D_law_take : Df K mg "_law_take" s__law_take ["store", "many"] f1 fd1) (D_law_stretch : Df K mg "_law_stretch" s__law_stretch ["store", "base", "few"] f2 fd2) (D_law_base : Df K mg "_law_base" s__law_base ["store"] f3 fd3) (D_law_bad : Df K mg "_law_bad" s__law_bad ["store", "base"] f4 fd4) (T : Blt mg) : FnOk P w K mg base CX0 4 f fd ["store"] sp__law_rules := by
  have G_law_take : FnOk P w K mg base CX0 1 f1 fd1 ["store", "many"] sp__law_take := ok__law_take D_law_take T
  have G_law_base : FnOk P w K mg base CX0 2 f3 fd3 ["store"] sp__law_base := ok__law_base D_law_base D_law_take T
  have G_law_bad : FnOk P w K mg base CX0 3 f4 fd4 ["store", "base"] sp__law_bad := ok__law_bad D_law_bad D_law_take D_law_stretch T
  refine D.fn.ok sc__law_rules (fun vs H Q E h => ?_) (fun cdv A outer s H vs Q E hr h => ?_)
  · obtain ⟨s, rfl, _⟩ := h; rfl
  · obtain ⟨sa, rfl, S, kk⟩ := h
    refine ⟨_, (pss_cons (ps_set (i := 1) sc__law_rules.nd rfl (Or.inl rfl) (pcall D_law_base G_law_base (hr.mono (by decide)) (pa_cons (pv 0) pa_nil)))
      (pss_cons (ps_set (i := 2) sc__law_rules.nd rfl (Or.inl rfl) (pe_lst pa_nil))
      (pss_cons (ps_for PassesOwn.never rfl (pi_range1 rfl T.n_range (pa_cons (pe_op op_add pe_int (pcall D_law_take G_law_take (hr.mono (by decide)) (pa_cons (pv 0) (pa_cons pe_int pa_nil)))) pa_nil)) (pg_name (i := 3) sc__law_rules.nd rfl (Or.inl rfl))
        (pss_cons (ps_set (i := 4) sc__law_rules.nd rfl (Or.inl rfl) (pe_ix (k_ixL K) (pe_lst (pa_cons (pv 1) (pa_cons (pv 1) (pa_cons (pcall D_law_base G_law_base (hr.mono (by decide)) (pa_cons (pv 0) pa_nil)) pa_nil)))) (pcall D_law_take G_law_take (hr.mono (by decide)) (pa_cons (pv 0) (pa_cons pe_int pa_nil))) (fun _ _ => rfl)))
        (pss_one (ps_expr (pe_bm PySem.F.plainAttrs_list PySem.F.slot_list_append PySem.F.type_list_append mt_append (pv 2) (pa_cons (pe_tup (pa_cons (pv 4) (pa_cons (pcall D_law_bad G_law_bad (hr.mono (by decide)) (pa_cons (pv 0) (pa_cons (pv 4) pa_nil))) pa_nil))) pa_nil))))))
      (pss_one (ps_ret (pv 2)))))), ?_⟩
    refine ⟨_, rfl, sa, rfl, S, fun b H1 hb2 hb16 S1 => ?_⟩
    refine ⟨(by decide : 0 ≤ sizeLine), fun fl hfl => ?_⟩
    have nfl := S1.st.ne hfl
    have hfl0 := S1.free hfl
    have S2 := S1.new hfl (o := .lst [])
    refine ⟨_, rfl, sa, _, rfl, S2.st, (by decide), (by decide), fun x1 H3 hx1 S3 => ⟨_, _, rfl, rfl, ?_⟩⟩
    refine ⟨_, rfl, by omega, by omega, for_range (lo := 0) (n := (1 + (x1 : Int)).toNat) (fun i σ H4 => ∃ (v1 v2 : Option V) (rs : List RL), σ = [some (.ref sa), some (.int b), some (.ref fl), v1, v2] ∧ Stq sa H H4 ∧ rs.length = i ∧ H4 fl = some (.lst (rs.map fun x => V.ref x.r)) ∧ (∀ x ∈ rs, RuleAt (aw [sa, fl] H4) x.r x.b x.bl x.zs ∧ GoodRule x.b (x.zs.map (·.2))))
      ⟨none, none, [], rfl, S2.trans S3, rfl, S3.sm _ _ nfl upd_same, by simp⟩ ?_ ?_⟩
    · rintro i σ H4 hi ⟨v1, v2, rs, rfl, S4, hrl, hf4, hru⟩
      refine ⟨_, rfl, _, rfl, _, rfl, sa, rfl, S4.st, fun b2 H5 hc2 hc16 S5 => ?_⟩
      refine ⟨(by show 3 ≤ sizeLine; decide), fun l1 hl1 => ?_⟩
      have n1 := S5.st.ne hl1
      have S6 := S5.new hl1 (o := .lst [.int b, .int b, .int b2])
      refine ⟨_, rfl, sa, _, rfl, S6.st, (by decide), (by decide), fun x2 H7 hx2 S7 => ?_⟩
      obtain ⟨m, hm, hm2, hm16⟩ : ∃ m : Nat, atI [V.int b, V.int b, V.int b2] (x2 : Int) = some (.int m) ∧ 2 ≤ m ∧ m ≤ 16 := by
        have h3 : x2 < 3 := by omega
        match x2, h3 with
        | 0, _ => exact ⟨b, rfl, by omega, by omega⟩
        | 1, _ => exact ⟨b, rfl, by omega, by omega⟩
        | 2, _ => exact ⟨b2, rfl, by omega, by omega⟩
      refine ⟨l1, _, _, _, rfl, rfl, SqL.of (S7.sm _ _ n1 upd_same), hm, ?_⟩
      have S57 := S6.trans S7
      have hf7 := S57.sm _ _ nfl hf4
      refine ⟨_, rfl, .inl ⟨rfl, _, SqL.of hf7⟩, ?_⟩
      refine ⟨_, rfl, _, rfl, _, rfl, sa, m, rfl, S57.st, hm2, hm16, fun bl zs H8 S8 B => ⟨(by show 2 ≤ sizeLine; decide), fun tp htp => ?_⟩⟩
      have hf8 := S8.sm _ _ nfl hf7
      have nbl : bl ≠ fl := fun z => by have := B.nl; rw [z, hf7] at this; cases this
      have nblS : bl ≠ sa := S57.st.ne B.nl
      have ntp : tp ≠ fl := fun z => by rw [z, hf8] at htp; cases htp
      have ntpS : tp ≠ sa := S8.st.ne htp
      have hf9 := same_upd htp (o := .tup [.int m, .ref bl]) _ _ hf8
      refine ⟨fl, _, _, rfl, rfl, hf9, by rw [List.length_map, hrl]; exact Nat.lt_of_lt_of_le (show i < 4 by omega) (by decide), ?_⟩
      have S49 := (S4.trans S57).trans (S8.new htp (o := .tup [.int m, .ref bl]))
      have m2 : Same (aw [sa, fl] H4) (aw [sa, fl] (upd (upd H8 tp (.tup [.int m, .ref bl])) fl (.lst (rs.map (fun x => V.ref x.r) ++ [.ref tp])))) := fun c o e => by
        have hc : c ∉ [sa, fl] := fun hc => by rw [aw_in hc] at e; cases e
        have hc1 : c ≠ sa := fun z => hc (by simp [z])
        have hc2' : c ≠ fl := fun z => hc (by simp [z])
        rw [aw_out hc] at e ⊢
        rw [upd_ne hc2']
        exact (S57.trans (S8.new htp)).sm c o hc1 e
      refine ⟨_, _, rs ++ [⟨tp, m, bl, zs⟩], rfl, S49.put nfl hfl0, by rw [List.length_append, List.length_singleton, hrl], by rw [upd_same]; simp, fun x hx => ?_⟩
      rcases List.mem_append.mp hx with hx | hx
      · exact ⟨(hru x hx).1.same m2, (hru x hx).2⟩
      · have e : x = ⟨tp, m, bl, zs⟩ := by simpa using hx
        subst e
        refine ⟨⟨?_, ?_, fun z hz => ?_⟩, ⟨hm2, hm16, by rw [List.length_map]; exact B.len, fun l hl => ?_, B.up⟩⟩
        · rw [aw_out (by simp [ntp, ntpS]), upd_ne ntp, upd_same]
        · rw [aw_out (by simp [nbl, nblS]), upd_ne nbl]; exact same_upd htp _ _ B.li
        · have nz : z.1 ≠ fl := fun q => by have := B.ns z hz; rw [q, hf7] at this; cases this
          have nzS : z.1 ≠ sa := S57.st.ne (B.ns z hz)
          rw [aw_out (by simp [nz, nzS]), upd_ne nz]; exact same_upd htp _ _ (B.st z hz)
        · obtain ⟨z, hz, rfl⟩ := List.mem_map.mp hl
          exact B.good z hz
    · rintro σ H4 ⟨v1, v2, rs, rfl, S4, hrl, hf4, hru⟩
      refine ⟨_, rfl, kk fl rs H4 S4 ⟨by rw [aw_out (by simp [nfl])]; exact hf4, fun x hx => (hru x hx).1.same fun c o e => ?_⟩ ⟨fun z => by rw [z] at hrl; simp at hrl; omega, by omega, fun x hx => (hru x hx).2⟩⟩
      have hc : c ∉ [sa, fl] := fun hc => by rw [aw_in hc] at e; cases e
      rw [aw_out hc] at e
      rw [aw_out (fun z => hc (by simp at z; simp [z]))]; exact e
def sp__law_copies : Sp := fun vs H Q _ => ∃ (l : Addr) (rs : List RL), vs = [.ref l] ∧ RulesAt H l rs ∧ rs.length ≤ 3 ∧ (∀ x ∈ rs, x.zs.length ≤ 4) ∧
  ∀ (l' : Addr) (rs' : List RL) (H' : Hp), Same H H' → RulesAt H' l' rs' → rs'.map RL.con = rs.map RL.con → H l' = none → (∀ x ∈ rs', H x.r = none ∧ H x.bl = none ∧ ∀ z ∈ x.zs, H z.1 = none) → (rs'.map (·.bl)).Nodup → Q (.ref l') H'
theorem sc__law_copies : FnScope ["rules"] ["rules"] (defScope s__law_copies) := ⟨rfl, rfl, rfl, by decide +kernel, rfl, by decide +kernel, by decide +kernel⟩
theorem ok__law_copies {f : Addr} {fd : FuncData} (D : Df K mg "_law_copies" s__law_copies ["rules"] f fd) (T : Blt mg) : FnOk P w K mg base CX0 1 f fd ["rules"] sp__law_copies := by
  refine D.fn.ok sc__law_copies (fun vs H Q E h => ?_) (fun cdv A outer s H vs Q E hr h => ?_)
  · obtain ⟨l, rs, rfl, _⟩ := h; rfl
  · obtain ⟨l, rs, rfl, R, h3, h4, kk⟩ := h
    refine ⟨_, (pss_one (ps_ret (pe_compT (show CScopeT (defScope s__law_copies) _ ["base", "bad"] ["rules"] [] [] from ⟨rfl, by decide +kernel, by decide +kernel, by decide +kernel, by decide +kernel, rfl, by decide +kernel, by decide +kernel⟩) rfl (k_pi K (pv 0)) (fun _ _ _ _ => (k_gtup K 2 rfl (pgs_cons (pg_name (i := 0) (show List.Nodup (α := Str) ["base", "bad"] by decide) rfl (.inl (lookup_relabel_local rfl)) (.inr (lookup_relabel_local rfl))) (pgs_cons (pg_name (i := 1) (show List.Nodup (α := Str) ["base", "bad"] by decide) rfl (.inl (lookup_relabel_local rfl)) (.inr (lookup_relabel_local rfl))) pgs_nil)))) (fun _ _ _ _ => pts_nil) (fun _ _ _ _ => (pe_tup (pa_cons (pv 0) (pa_cons (pe_comp (CScope.nofree rfl (by decide +kernel) (by decide +kernel) rfl (by decide +kernel)) rfl (k_pi K (pv 1)) (fun _ _ _ _ => pts_nil) (fun _ _ _ _ => (pe_callTy (k_listOf K) (by rfl) T.n_list boot_list (pa_cons (pv 0) pa_nil)))) pa_nil))))))), ?_⟩
    refine ⟨_, rfl, l, rfl, ⟨_, SqL.of R.li⟩, compT_list (K := K) (a := l) (xs := rs.map fun x => V.ref x.r) (fun i ys H4 => Same H H4 ∧ ∃ ws : List RL, ys = ws.map (fun x => V.ref x.r) ∧ ws.map RL.con = (rs.take i).map RL.con ∧ (∀ x ∈ ws, RuleAt H4 x.r x.b x.bl x.zs ∧ H x.r = none ∧ H x.bl = none ∧ ∀ z ∈ x.zs, H z.1 = none) ∧ (ws.map (·.bl)).Nodup) ⟨Same.refl _, [], rfl, by simp, by simp, by simp⟩ (fun i ys H4 _ ⟨m4, _⟩ => SqL.of (m4 _ _ R.li)) ?_ ?_⟩
    · rintro j y ys H4 hx ⟨m4, ws, rfl, hw2, hws, hnd⟩
      rw [List.getElem?_map] at hx
      obtain ⟨x, hxj, e⟩ := Option.map_eq_some_iff.mp hx
      subst e
      have hxm := List.mem_of_getElem? hxj
      have hj : j < rs.length := (List.getElem?_eq_some_iff.mp hxj).1
      have hwl : ws.length ≤ j := by have := congrArg List.length hw2; rw [List.length_map, List.length_map, List.length_take] at this; omega
      have R4 := (R.ru x hxm).same m4
      have h4x := h4 x hxm
      refine ⟨by rw [List.length_map]; exact Nat.lt_of_le_of_lt (show ws.length ≤ 4 by omega) (by decide), ?_⟩
      refine ⟨x.r, _, rfl, SqT.of R4.tu, rfl, _, _, rfl, _, _, rfl, rfl, ⟨[some (.int x.b), some (.ref x.bl)], rfl, rfl⟩, ?_⟩
      unfold tYes
      dsimp only
      rw [if_pos rfl]
      refine ⟨_, rfl, _, rfl, x.bl, rfl, ⟨_, SqL.of R4.li⟩, comp_list (K := K) (a := x.bl) (xs := x.zs.map fun z => V.ref z.1) (fun i ys H5 => Same H4 H5 ∧ ∃ vs : List (Addr × List Int), ys = vs.map (fun z => V.ref z.1) ∧ vs.map (·.2) = (x.zs.take i).map (·.2) ∧ ∀ z ∈ vs, H z.1 = none ∧ H5 z.1 = some (.lst (z.2.map V.int))) ⟨Same.refl _, [], rfl, by simp, by simp⟩ (fun i ys H5 _ ⟨m5, _⟩ => SqL.of (m5 _ _ R4.li)) ?_ ?_⟩
      · rintro k y ys H5 hx ⟨m5, vs, rfl, hv2, hvs⟩
        rw [List.getElem?_map] at hx
        obtain ⟨z, hzj, e⟩ := Option.map_eq_some_iff.mp hx
        subst e
        have hzm := List.mem_of_getElem? hzj
        have hvl : vs.length ≤ k := by have := congrArg List.length hv2; rw [List.length_map, List.length_map, List.length_take] at this; omega
        have hk : k < x.zs.length := (List.getElem?_eq_some_iff.mp hzj).1
        refine ⟨by rw [List.length_map]; exact Nat.lt_of_le_of_lt (show vs.length ≤ 4 by omega) (by decide), ?_⟩
        try unfold tYes
        try dsimp only
        rw [if_pos rfl]
        refine ⟨_, rfl, z.1, _, rfl, .inl (SqL.of (m5 _ _ (R4.st z hzm))), fun q hq => ⟨m5.trans (same_upd hq), vs ++ [(q, z.2)], by simp, ?_, fun y hy => ?_⟩⟩
        · rw [List.map_append, hv2, List.take_succ, hzj]; simp
        · rcases List.mem_append.mp hy with hy | hy
          · exact ⟨(hvs y hy).1, same_upd hq _ _ (hvs y hy).2⟩
          · have e : y = (q, z.2) := by simpa using hy
            subst e
            exact ⟨(m4.trans m5).free hq, upd_same⟩
      · rintro ys H5 ⟨m5, vs, rfl, hv2, hvs⟩ bl hbl
        rw [List.length_map, List.take_length] at hv2
        have m6 := same_upd hbl (o := .lst (vs.map fun z => V.ref z.1))
        refine ⟨(by show 2 ≤ sizeLine; decide), fun tp htp => ?_⟩
        have m7 := same_upd htp (o := .tup [.int x.b, .ref bl])
        have m67 := m6.trans m7
        have m57 := m5.trans m67
        refine ⟨m4.trans m57, ws ++ [⟨tp, x.b, bl, vs⟩], by simp, ?_, fun y hy => ?_, ?_⟩
        · rw [List.map_append, hw2, List.take_succ, hxj, List.map_append]
          show _ ++ [(x.b, vs.map (·.2))] = _ ++ [(x.b, x.zs.map (·.2))]
          rw [hv2]
        · rcases List.mem_append.mp hy with hy | hy
          · exact ⟨(hws y hy).1.same m57, (hws y hy).2⟩
          · have e : y = ⟨tp, x.b, bl, vs⟩ := by simpa using hy
            subst e
            exact ⟨⟨upd_same, m7 _ _ upd_same, fun z hz => m67 _ _ (hvs z hz).2⟩, (m4.trans (m5.trans m6)).free htp, (m4.trans m5).free hbl, fun z hz => (hvs z hz).1⟩
        · rw [List.map_append]
          refine List.nodup_append.mpr ⟨hnd, by simp, fun a ha c hc => ?_⟩
          have e : c = bl := by simpa using hc
          obtain ⟨y, hy, rfl⟩ := List.mem_map.mp ha
          rw [e]
          exact ne_of_none (m5 _ _ (hws y hy).1.li) hbl
    · rintro ys H4 ⟨m4, ws, rfl, hw2, hws, hnd⟩ l' hl'
      rw [List.length_map, List.take_length] at hw2
      exact kk l' ws _ (m4.trans (same_upd hl')) ⟨upd_same, fun x hx => (hws x hx).1.same (same_upd hl')⟩ hw2 (m4.free hl') (fun x hx => (hws x hx).2) hnd
end
end Lw
set_option Elab.async false
set_option linter.all false
set_option maxRecDepth 100000
namespace Lw
open PySem L2 PyProof.Rows
def rulesT : PyData → Bool
  | .list xs => decide (1 ≤ xs.length ∧ xs.length ≤ 3) && xs.all ruleT
  | _ => false
theorem rules_at {H : Hp} : ∀ {xs : List PyData} {ys : List V}, ThsAt H xs ys → xs.all ruleT = true → ∃ rs : List RL, ys = rs.map (fun x => V.ref x.r) ∧ rs.length = xs.length ∧ ∀ x ∈ rs, RuleAt H x.r x.b x.bl x.zs ∧ GoodRule x.b (x.zs.map (·.2))
  | [], ys, h, _ => by rw [ThsAt] at h; exact ⟨[], h, rfl, by simp⟩
  | d :: ds, ys, h, q => by
    rw [ThsAt] at h
    obtain ⟨y, us, h1, h2, h3⟩ := h
    rw [List.all_cons, Bool.and_eq_true] at q
    obtain ⟨rs, e1, e2, e3⟩ := rules_at h3 q.2
    obtain ⟨r, b, bl, zs, e, R, g⟩ := th_rule h2 q.1
    refine ⟨⟨r, b, bl, zs⟩ :: rs, by rw [h1, e, e1]; rfl, by rw [List.length_cons, List.length_cons, e2], fun x hx => ?_⟩
    rcases List.mem_cons.mp hx with rfl | hx
    · exact ⟨R, g⟩
    · exact e3 x hx
theorem th_rules {H : Hp} {d : PyData} {v : V} (h : ThAt H d v) (q : rulesT d = true) : ∃ (l : Addr) (rs : List RL), v = .ref l ∧ RulesAt H l rs ∧ GoodRs rs := by
  cases d with
  | list xs =>
    have q : (decide (1 ≤ xs.length ∧ xs.length ≤ 3) && xs.all ruleT) = true := q
    rw [Bool.and_eq_true] at q
    have hl := of_decide_eq_true q.1
    rw [ThAt] at h
    obtain ⟨a, ys, h1, h2, h3⟩ := h
    obtain ⟨rs, e1, e2, e3⟩ := rules_at h3 q.2
    exact ⟨a, rs, h1, ⟨by rw [h2, e1], fun x hx => (e3 x hx).1⟩, ⟨fun z => by rw [z] at e2; simp at e2; omega, by omega, fun x hx => (e3 x hx).2⟩⟩
  | _ => cases q
theorem RulesAt.th {H : Hp} {l : Addr} {rs : List RL} (R : RulesAt H l rs) : ThAt H (.list (rs.map fun x => .tuple [.int x.b, .list ((x.zs.map (·.2)).map fun l => .list (l.map .int))])) (.ref l) := by
  rw [ThAt]
  exact ⟨l, _, rfl, R.li, ThsAt.map fun x hx => (R.ru x hx).th⟩
theorem rulesT_good {rs : List RL} (g : GoodRs rs) : rulesT (.list (rs.map fun x => .tuple [.int x.b, .list ((x.zs.map (·.2)).map fun l => .list (l.map .int))])) = true := by
  show (decide (1 ≤ (rs.map _).length ∧ (rs.map _).length ≤ 3) && (rs.map _).all ruleT) = true
  have h0 : 0 < rs.length := List.length_pos_iff.mpr g.ne
  rw [List.length_map, decide_eq_true ⟨h0, g.len⟩, Bool.true_and, List.all_eq_true]
  intro y hy
  obtain ⟨x, hx, rfl⟩ := List.mem_map.mp hy
  exact ruleT_good (g.good x hx)
section
variable {P : Program} {w : World} {K : PySem.W.Frag} {mg : Str → Option Value} {base : Heap}
def sp_are_rules : Sp := fun vs H Q _ => ∃ (v : V) (d : PyData), vs = [v] ∧ ThAt H d v ∧ sizT d ≤ 100000 ∧ ∀ H', Same H H' → Q (.bl (rulesT d)) H'
theorem sc_are_rules : FnScope ["thing"] ["thing"] (defScope s_are_rules) := ⟨rfl, rfl, rfl, by decide +kernel, rfl, by decide +kernel, by decide +kernel⟩
theorem ok_are_rules {f f1 : Addr} {fd fd1 : FuncData} {t1 : Tok} (D : Df K mg "are_rules" s_are_rules ["thing"] f fd) (Dis_rule : Df K mg "is_rule" s_is_rule ["thing"] f1 fd1) (Gis_rule : FnOk P w K mg base CX0 6 f1 fd1 ["thing"] sp_is_rule) (c_MOST_RULES : mg "MOST_RULES" = some (.int 3 t1)) (T : Blt mg) : FnOk P w K mg base CX0 7 f fd ["thing"] sp_are_rules := by
  refine D.fn.ok sc_are_rules (fun vs H Q E h => ?_) (fun cdv A outer s H vs Q E hr h => ?_)
  · obtain ⟨v, d, rfl, _⟩ := h; rfl
  · obtain ⟨v, d, rfl, hd, hs, kk⟩ := h
    refine ⟨_, (pss_cons (ps_if (PW.pt (pw_or (pt_not (pt_val (pe_callB (k_isi K) (by rfl) T.n_isinstance boot_isinstance (pa_cons (pv 0) (pa_cons (pe_bltn (v := .ty "list") rfl T.n_list boot_list rfl) pa_nil))))) (pw_or1 (pt_not (pt_chain op_le op_le pe_int (pe_callB (k_len K) (by rfl) T.n_len PySem.boot_len (pa_cons (pv 0) pa_nil)) (pe_glob (v := .int 3) rfl c_MOST_RULES ⟨_, rfl⟩))))))
        (pss_one (ps_ret pe_bl))
        pss_nil)
      (pss_one (ps_ret (pe_callB (k_all K rfl) (by rfl) T.n_all boot_all (pa_cons (pe_comp (show CScope (defScope s_are_rules) _ "each" ["thing"] [] [] from ⟨rfl, by decide +kernel, by decide +kernel, rfl, by decide +kernel, rfl, by decide +kernel, by decide +kernel⟩) rfl (k_pi K (pv 0)) (fun _ _ _ _ => pts_nil) (fun _ _ _ _ => (pcall Dis_rule Gis_rule (hr.mono (by decide)) (pa_cons (pv 0) pa_nil)))) pa_nil))))), ?_⟩
    refine ⟨_, rfl, _, _, _, _, rfl, hd.ty, kit_list d, _, rfl, ?_⟩
    cases hl : isT "list" d with
    | false =>
      have q := kk H (Same.refl _)
      rw [show rulesT d = false by cases d <;> first | rfl | cases hl] at q
      exact iteT (iteT q)
    | true =>
      obtain ⟨xs, rfl⟩ := isT_list hl
      rw [ThAt] at hd
      obtain ⟨a, ys, rfl, ha, hx⟩ := hd
      rw [sizT] at hs
      have kk' : ∀ H', Same H H' → Q (.bl (decide (1 ≤ xs.length ∧ xs.length ≤ 3) && xs.all ruleT)) H' := kk
      refine iteF ⟨_, rfl, a, _, rfl, .inl (SqL.of ha), _, _, rfl, rfl, _, rfl, ?_⟩
      rw [hx.len]
      by_cases h1 : 1 ≤ xs.length
      case neg =>
        rw [decide_eq_false (show ¬ (1 : Int) ≤ (xs.length : Int) by omega)]
        have q := kk' H (Same.refl _)
        rw [decide_eq_false (fun z => h1 z.1), Bool.false_and] at q
        exact iteF ⟨_, rfl, iteT q⟩
      rw [decide_eq_true (show (1 : Int) ≤ (xs.length : Int) by omega)]
      refine iteT ⟨_, _, rfl, rfl, _, rfl, ?_⟩
      by_cases h3 : xs.length ≤ 3
      case neg =>
        rw [decide_eq_false (show ¬ (xs.length : Int) ≤ 3 by omega)]
        have q := kk' H (Same.refl _)
        rw [decide_eq_false (fun z => h3 z.2), Bool.false_and] at q
        exact iteT q
      rw [decide_eq_true (show (xs.length : Int) ≤ 3 by omega)]
      rw [decide_eq_true ⟨h1, h3⟩, Bool.true_and] at kk'
      refine iteF ⟨_, rfl, a, rfl, ⟨_, SqL.of ha⟩, comp_list (K := K) (a := a) (xs := ys) (fun i us H4 => us = ((xs.take i).map ruleT).map V.bl ∧ Same H H4) ⟨by simp, Same.refl _⟩ (fun i us H4 _ ⟨_, e⟩ => SqL.of (e _ _ ha)) ?_ ?_⟩
      · rintro j x us H4 hj ⟨rfl, m4⟩
        obtain ⟨d, hdj, hd⟩ := hx.get hj
        refine ⟨?_, ?_⟩
        · rw [List.length_map, List.length_map, List.length_take]
          exact Nat.lt_of_le_of_lt (show min j xs.length ≤ 3 by omega) (by decide)
        unfold tYes
        dsimp only
        rw [if_pos rfl]
        have := sizTs_mem (List.mem_of_getElem? hdj)
        refine ⟨_, rfl, x, d, rfl, hd.same m4, by omega, fun H5 m5 => ⟨?_, m4.trans m5⟩⟩
        rw [List.take_succ, hdj]; simp
      · rintro us H4 ⟨rfl, m4⟩ Dd hD
        refine ⟨Dd, _, rfl, SqL.of upd_same, ?_⟩
        have q := kk' _ (m4.trans (same_upd hD (o := .lst (((xs.take ys.length).map ruleT).map V.bl))))
        rw [hx.len, List.take_length] at q ⊢
        rw [all_mapid]
        exact q
def sp_check_rules (CNoRules : Addr) : Sp := fun vs H Q E => ∃ (v : V) (d : PyData), vs = [v] ∧ ThAt H d v ∧ sizT d ≤ 100000 ∧ (rulesT d = false → ∀ H', Same H H' → E (.ref CNoRules) none H') ∧ (rulesT d = true → ∀ H', Same H H' → Q .non H')
theorem sc_check_rules : FnScope ["thing"] ["thing"] (defScope s_check_rules) := ⟨rfl, rfl, rfl, by decide +kernel, rfl, by decide +kernel, by decide +kernel⟩
theorem ok_check_rules {CNoRules : Addr} {f f1 : Addr} {fd fd1 : FuncData} (D : Df K mg "check_rules" s_check_rules ["thing"] f fd) (Dare_rules : Df K mg "are_rules" s_are_rules ["thing"] f1 fd1) (Gare_rules : FnOk P w K mg base CX0 7 f1 fd1 ["thing"] sp_are_rules) (x_NoRules : ExcC K mg "NoRules" CNoRules) : FnOk P w K mg base (CX1 P w) 8 f fd ["thing"] (sp_check_rules CNoRules) := by
  refine D.fn.ok1 sc_check_rules (fun vs H Q E h => ?_) (fun cdv A outer s H vs Q E hr h => ?_)
  · obtain ⟨v, d, rfl, _⟩ := h; rfl
  · obtain ⟨v, d, rfl, hd, hs, kNo, kOk⟩ := h
    refine ⟨_, (pss_one (ps_if (pt_not (pt_val (pcall Dare_rules Gare_rules (hr.mono (by decide)) (pa_cons (pv 0) pa_nil))))
        (pss_one (ps_raise x_NoRules pass_new rfl (pa_cons pe_str pa_nil)))
        pss_nil)), ?_⟩
    refine ⟨_, rfl, v, d, rfl, hd, hs, fun H1 m1 => ⟨_, rfl, ?_⟩⟩
    cases hr : rulesT d with
    | false => exact iteT ⟨by show 1 ≤ sizeLine; decide, kNo hr H1 m1⟩
    | true => exact iteF (kOk hr H1 m1)
def sp_is_good_by_each (CNoNumber : Addr) : Sp := fun vs H Q E => ∃ (l : Addr) (rs : List RL) (u : V) (e : PyData), vs = [.ref l, u] ∧ RulesAt H l rs ∧ GoodRs rs ∧ ThAt H e u ∧ (numT e = false → ∀ H', Same H H' → E (.ref CNoNumber) none H') ∧ ∀ n : Nat, e = .int n → n < 2 ^ 900 ∧ ∀ (b : Bool) (H' : Hp), Same H H' → Q (.bl b) H'
theorem sc_is_good_by_each : FnScope ["rules", "n"] ["rules", "n"] (defScope s_is_good_by_each) := ⟨rfl, rfl, rfl, by decide +kernel, rfl, by decide +kernel, by decide +kernel⟩
theorem ok_is_good_by_each {CNoRule CNoNumber : Addr} {f f1 : Addr} {fd fd1 : FuncData} (D : Df K mg "is_good_by_each" s_is_good_by_each ["rules", "n"] f fd) (Dis_good : Df K mg "is_good" s_is_good ["rule", "n"] f1 fd1) (Gis_good : FnOk P w K mg base (CX1 P w) 8 f1 fd1 ["rule", "n"] (sp_is_good CNoRule CNoNumber)) (T : Blt mg) : FnOk P w K mg base (CX1 P w) 9 f fd ["rules", "n"] (sp_is_good_by_each CNoNumber) := by
  refine D.fn.ok1 sc_is_good_by_each (fun vs H Q E h => ?_) (fun cdv A outer s H vs Q E hr h => ?_)
  · obtain ⟨l, rs, u, e, rfl, _⟩ := h; rfl
  · obtain ⟨l, rs, u, e, rfl, R, g, he, kN, kk⟩ := h
    have h3 := g.len
    refine ⟨_, (pss_one (ps_ret (pe_callB (k_all K rfl) (by rfl) T.n_all boot_all (pa_cons (pe_compX (show CScope (defScope s_is_good_by_each) _ "rule" ["rules", "n"] ["n"] [1] from ⟨rfl, by decide +kernel, by decide +kernel, rfl, by decide +kernel, rfl, by decide +kernel, by decide +kernel⟩) rfl pass_comp (k_pi K (pv 0)) (fun _ _ _ _ => pts_nil) (fun _ _ _ _ => (pcallX Dis_good Gis_good (hr.mono (by decide)) pass_x (pa_cons (pv 0) (pa_cons (pv 1) pa_nil))))) pa_nil)))), ?_⟩
    refine ⟨_, rfl, l, rfl, ⟨_, SqL.of R.li⟩, comp_list (K := K) (a := l) (xs := rs.map fun x => V.ref x.r) (fun i ys H4 => (∃ bs : List Bool, bs.length = i ∧ ys = bs.map V.bl) ∧ (i ≠ 0 → numT e = true) ∧ Same H H4) ⟨⟨[], rfl, rfl⟩, fun z => absurd rfl z, Same.refl _⟩ (fun i ys H4 _ ⟨_, _, m4⟩ => SqL.of (m4 _ _ R.li)) ?_ ?_⟩
    · rintro j y ys H4 hx ⟨⟨bs, hbs, rfl⟩, _, m4⟩
      have hj : j < rs.length := by have := (List.getElem?_eq_some_iff.mp hx).1; rwa [List.length_map] at this
      rw [List.getElem?_map] at hx
      obtain ⟨x, hxj, ee⟩ := Option.map_eq_some_iff.mp hx
      subst ee
      have hxm := List.mem_of_getElem? hxj
      refine ⟨?_, ?_⟩
      · rw [List.length_map, hbs]
        exact Nat.lt_of_lt_of_le (show j < 4 by omega) (by decide)
      unfold tYes
      dsimp only
      rw [if_pos rfl]
      have Rx := (R.ru x hxm).same m4
      obtain ⟨d, hd, hdr, fd⟩ := Rx.thing (g.good x hxm)
      refine ⟨_, rfl, _, rfl, .ref x.r, u, d, e, rfl, hd, he.same m4, Nat.le_trans (siz_wt d) (Nat.le_trans fd.wt (by decide)), fun z => ?_, fun _ hn H5 m5 => kN hn H5 (m4.trans m5), fun r b bl zs n er _ _ _ en => ⟨(kk n en).1, fun H5 m5 => ⟨⟨bs ++ [_], by rw [List.length_append, hbs]; rfl, by rw [List.map_append]; rfl⟩, fun _ => ?_, m4.trans m5⟩⟩⟩
      · rw [hdr] at z; cases z
      · rw [en]; exact decide_eq_true (Int.natCast_nonneg n)
    · rintro ys H4 ⟨⟨bs, hbs, rfl⟩, hnum, m4⟩ Dd hD
      have hn := hnum (by rw [List.length_map]; have := List.length_pos_iff.mpr g.ne; omega)
      obtain ⟨n, rfl, rfl⟩ := num_of he hn
      exact ⟨Dd, _, rfl, SqL.of upd_same, (kk n rfl).2 _ _ (m4.trans (same_upd hD))⟩
def sp_keeps_all (CNoRules CNoNumber : Addr) : Sp := fun vs H Q E => ∃ (v u : V) (d e : PyData), vs = [v, u] ∧ ThAt H d v ∧ ThAt H e u ∧ sizT d ≤ 100000 ∧ (rulesT d = false → ∀ H', Same H H' → E (.ref CNoRules) none H') ∧ (rulesT d = true → numT e = false → ∀ H', Same H H' → E (.ref CNoNumber) none H') ∧ (rulesT d = true → ∀ n : Nat, e = .int n → n < 2 ^ 900 ∧ ∀ (x : V) (H' : Hp), Same H H' → Q x H')
theorem sc_keeps_all : FnScope ["rules", "n"] ["rules", "n"] (defScope s_keeps_all) := ⟨rfl, rfl, rfl, by decide +kernel, rfl, by decide +kernel, by decide +kernel⟩
theorem ok_keeps_all {CNoRules CNoNumber : Addr} {f f1 f2 : Addr} {fd fd1 fd2 : FuncData} (D : Df K mg "keeps_all" s_keeps_all ["rules", "n"] f fd) (Dcheck_rules : Df K mg "check_rules" s_check_rules ["thing"] f1 fd1) (Gcheck_rules : FnOk P w K mg base (CX1 P w) 8 f1 fd1 ["thing"] (sp_check_rules CNoRules)) (Dis_good_by_each : Df K mg "is_good_by_each" s_is_good_by_each ["rules", "n"] f2 fd2) (Gis_good_by_each : FnOk P w K mg base (CX1 P w) 9 f2 fd2 ["rules", "n"] (sp_is_good_by_each CNoNumber)) : FnOk P w K mg base (CX1 P w) 10 f fd ["rules", "n"] (sp_keeps_all CNoRules CNoNumber) := by
  refine D.fn.ok1 sc_keeps_all (fun vs H Q E h => ?_) (fun cdv A outer s H vs Q E hr h => ?_)
  · obtain ⟨v, u, d, e, rfl, _⟩ := h; rfl
  · obtain ⟨v, u, d, e, rfl, hd, he, hs, kR, kN, kk⟩ := h
    refine ⟨_, (pss_cons (ps_expr (pcallX Dcheck_rules Gcheck_rules (hr.mono (by decide)) pass_call (pa_cons (pv 0) pa_nil)))
      (pss_one (ps_ret (pcallX Dis_good_by_each Gis_good_by_each (hr.mono (by decide)) pass_call (pa_cons (pv 0) (pa_cons (pv 1) pa_nil)))))), ?_⟩
    refine ⟨_, rfl, v, d, rfl, hd, hs, kR, fun hr H1 m1 => ?_⟩
    obtain ⟨l, rs, rfl, R, g⟩ := th_rules hd hr
    exact ⟨_, rfl, _, rfl, l, rs, u, e, rfl, R.same m1, g, he.same m1, fun hn H2 m2 => kN hr hn H2 (m1.trans m2), fun n en => ⟨(kk hr n en).1, fun b H2 m2 => (kk hr n en).2 _ H2 (m1.trans m2)⟩⟩
end
end Lw
set_option Elab.async false
set_option linter.all false
set_option maxRecDepth 100000
namespace Lw
open PySem L2 PyProof.Rows
theorem FnOk.calm {P : Program} {w : World} {K : PySem.W.Frag} {mg : Str → Option Value} {base : Heap} {k : Nat} {f : Addr} {fd : FuncData} {ps : List Str} {sp : Sp} (F : FnOk P w K mg base (CX1 P w) k f fd ps sp) : FnOk P w K mg base CX0 k f fd ps (fun vs H Q _ => sp vs H Q fun _ _ _ => False) :=
  ⟨fun vs H Q E h => F.len vs H Q _ h, fun A outer s H args us vs Q E hr e0 hb hv hs => codeAny_mono (F.run A outer s H args us vs Q (fun _ _ _ => False) hr e0 hb hv hs) fun r s' q => by
    cases r with
    | error e => obtain ⟨_, _, _, _, _, _, _, _, _, _, _, hE⟩ := q; exact hE.elim
    | ok fl => cases fl <;> exact q⟩
def boundT : PyData → Bool
  | .int i => decide (0 ≤ i ∧ i ≤ 2000)
  | _ => false
theorem bound_of {H : Hp} {d : PyData} {v : V} (h : ThAt H d v) (hb : boundT d = true) : ∃ n : Nat, d = .int n ∧ v = .int n ∧ n ≤ 2000 := by
  cases d with
  | int i =>
    have hb : 0 ≤ i ∧ i ≤ 2000 := of_decide_eq_true hb
    rw [ThAt] at h
    have e : ((i.toNat : Nat) : Int) = i := by omega
    exact ⟨i.toNat, by rw [e], by rw [h, e], by omega⟩
  | _ => cases hb
section
variable {P : Program} {w : World} {K : PySem.W.Frag} {mg : Str → Option Value} {base : Heap}
def sp_check_bound (CNoNumber : Addr) : Sp := fun vs H Q E => ∃ (v : V) (d : PyData), vs = [v] ∧ ThAt H d v ∧ (boundT d = false → E (.ref CNoNumber) none H) ∧ (boundT d = true → Q .non H)
theorem sc_check_bound : FnScope ["thing"] ["thing"] (defScope s_check_bound) := ⟨rfl, rfl, rfl, by decide +kernel, rfl, by decide +kernel, by decide +kernel⟩
theorem ok_check_bound {CNoNumber : Addr} {f f1 : Addr} {fd fd1 : FuncData} {t1 : Tok} (D : Df K mg "check_bound" s_check_bound ["thing"] f fd) (Dis_number : Df K mg "is_number" s_is_number ["thing"] f1 fd1) (Gis_number : FnOk P w K mg base CX0 2 f1 fd1 ["thing"] sp_is_number) (x_NoNumber : ExcC K mg "NoNumber" CNoNumber) (c_GREATEST_BOUND : mg "GREATEST_BOUND" = some (.int 2000 t1)) : FnOk P w K mg base (CX1 P w) 3 f fd ["thing"] (sp_check_bound CNoNumber) := by
  refine D.fn.ok1 sc_check_bound (fun vs H Q E h => ?_) (fun cdv A outer s H vs Q E hr h => ?_)
  · obtain ⟨v, d, rfl, _⟩ := h; rfl
  · obtain ⟨v, d, rfl, hd, kNo, kOk⟩ := h
    refine ⟨_, (pss_one (ps_if (PW.pt (pw_or (pt_not (pt_val (pcall Dis_number Gis_number (hr.mono (by decide)) (pa_cons (pv 0) pa_nil)))) (pw_or1 (pt_cmpR op_gt (pv 0) (pe_glob (v := .int 2000) rfl c_GREATEST_BOUND ⟨_, rfl⟩) (nomark _)))))
        (pss_one (ps_raise x_NoNumber pass_new rfl (pa_cons pe_str pa_nil)))
        pss_nil)), ?_⟩
    refine ⟨_, rfl, v, d, rfl, hd, _, rfl, ?_⟩
    have no : boundT d = false → 1 ≤ sizeLine ∧ E (.ref CNoNumber) none H := fun z => ⟨by decide, kNo z⟩
    cases hn : numT d with
    | false => exact iteT (iteT (no (by
        cases d with
        | int i => exact decide_eq_false fun z => by rw [show numT (.int i) = true from decide_eq_true z.1] at hn; cases hn
        | _ => rfl)))
    | true =>
      obtain ⟨n, rfl, rfl⟩ := num_of hd hn
      refine iteF ⟨_, rfl, _, _, rfl, rfl, _, rfl, ?_⟩
      by_cases h : n ≤ 2000
      · rw [decide_eq_false (show ¬ (2000 : Int) < n by omega)]
        exact iteF (kOk (decide_eq_true ⟨by omega, by omega⟩))
      · rw [decide_eq_true (show (2000 : Int) < n by omega)]
        exact iteT (no (decide_eq_false fun z => by omega))
def sp_all_keeping (CNoRules CNoNumber : Addr) : Sp := fun vs H Q E => ∃ (v u : V) (d e : PyData), vs = [v, u] ∧ ThAt H d v ∧ ThAt H e u ∧ sizT d ≤ 100000 ∧ (rulesT d = false → ∀ H', Same H H' → E (.ref CNoRules) none H') ∧ (rulesT d = true → boundT e = false → ∀ H', Same H H' → E (.ref CNoNumber) none H') ∧
  (rulesT d = true → boundT e = true → ∀ (p : Addr) (vs : List V) (H' : Hp), H' p = some (.lst vs) → Same H H' → Q (.ref p) H')
theorem sc_all_keeping : FnScope ["rules", "n"] ["rules", "n"] (defScope s_all_keeping) := ⟨rfl, rfl, rfl, by decide +kernel, rfl, by decide +kernel, by decide +kernel⟩
theorem ok_all_keeping {CNoRules CNoNumber : Addr} {f f1 f2 f3 : Addr} {fd fd1 fd2 fd3 : FuncData} (D : Df K mg "all_keeping" s_all_keeping ["rules", "n"] f fd) (Dcheck_rules : Df K mg "check_rules" s_check_rules ["thing"] f1 fd1) (Gcheck_rules : FnOk P w K mg base (CX1 P w) 8 f1 fd1 ["thing"] (sp_check_rules CNoRules)) (Dcheck_bound : Df K mg "check_bound" s_check_bound ["thing"] f2 fd2) (Gcheck_bound : FnOk P w K mg base (CX1 P w) 3 f2 fd2 ["thing"] (sp_check_bound CNoNumber))
    (Dis_good_by_each : Df K mg "is_good_by_each" s_is_good_by_each ["rules", "n"] f3 fd3) (Xis_good_by_each : FnOk P w K mg base (CX1 P w) 9 f3 fd3 ["rules", "n"] (sp_is_good_by_each CNoNumber)) (T : Blt mg) : FnOk P w K mg base (CX1 P w) 10 f fd ["rules", "n"] (sp_all_keeping CNoRules CNoNumber) := by
  have Gis_good_by_each := FnOk.calm Xis_good_by_each
  refine D.fn.ok1 sc_all_keeping (fun vs H Q E h => ?_) (fun cdv A outer s H vs Q E hr h => ?_)
  · obtain ⟨v, u, d, e, rfl, _⟩ := h; rfl
  · obtain ⟨v, u, d, e, rfl, hd, he, hs, kR, kN, kk⟩ := h
    refine ⟨_, (pss_cons (ps_expr (pcallX Dcheck_rules Gcheck_rules (hr.mono (by decide)) pass_call (pa_cons (pv 0) pa_nil)))
      (pss_cons (ps_expr (pcallX Dcheck_bound Gcheck_bound (hr.mono (by decide)) pass_call (pa_cons (pv 1) pa_nil)))
      (pss_one (ps_ret (pe_comp (show CScope (defScope s_all_keeping) _ "each" ["rules", "n"] ["rules"] [0] from ⟨rfl, by decide +kernel, by decide +kernel, rfl, by decide +kernel, rfl, by decide +kernel, by decide +kernel⟩) rfl (pi_range1 rfl T.n_range (pa_cons (pv 1) pa_nil)) (fun _ _ _ _ => (pts_one (pt_val (pcall Dis_good_by_each Gis_good_by_each (hr.mono (by decide)) (pa_cons (pv 1) (pa_cons (pv 0) pa_nil)))))) (fun _ _ _ _ => (pv 0))))))), ?_⟩
    refine ⟨_, rfl, v, d, rfl, hd, hs, kR, fun hr H1 m1 => ?_⟩
    obtain ⟨l, rs, rfl, R, g⟩ := th_rules hd hr
    refine ⟨_, rfl, u, e, rfl, he.same m1, fun hb => kN hr hb H1 m1, fun hb => ?_⟩
    obtain ⟨n, rfl, rfl, hn⟩ := bound_of he hb
    refine ⟨_, rfl, (n : Int), rfl, by omega, by omega, comp_range (lo := 0) (n := (n : Int).toNat) (fun i ys H4 => ys.length ≤ i ∧ Same H H4) ⟨Nat.le_refl _, m1⟩ ?_ ?_⟩
    · rintro i ys H4 hi ⟨hy, m4⟩
      refine ⟨Nat.lt_of_le_of_lt (show ys.length ≤ 2000 by omega) (by decide), ?_⟩
      refine ⟨_, rfl, _, rfl, l, rs, .int i, .int i, by rw [Int.zero_add]; rfl, R.same m4, g, by rw [ThAt], fun z => ?_, fun m em => ⟨?_, fun b H5 m5 => ⟨_, rfl, ?_⟩⟩⟩
      · rw [show numT (.int i) = true from decide_eq_true (Int.natCast_nonneg i)] at z; cases z
      · injection em with em
        exact Nat.lt_of_le_of_lt (show m ≤ 2000 by omega) (by decide +kernel)
      cases b with
      | true =>
        refine iteT ⟨_, rfl, ?_, m4.trans m5⟩
        rw [List.length_append, List.length_singleton]; omega
      | false => exact iteF ⟨by omega, m4.trans m5⟩
    · rintro ys H4 ⟨_, m4⟩ p hp
      exact kk hr hb p ys _ upd_same (m4.trans (same_upd hp))
def sp_count_keeping (CNoRules CNoNumber : Addr) : Sp := fun vs H Q E => ∃ (v u : V) (d e : PyData), vs = [v, u] ∧ ThAt H d v ∧ ThAt H e u ∧ sizT d ≤ 100000 ∧ (rulesT d = false → ∀ H', Same H H' → E (.ref CNoRules) none H') ∧ (rulesT d = true → boundT e = false → ∀ H', Same H H' → E (.ref CNoNumber) none H') ∧
  (rulesT d = true → boundT e = true → ∀ (x : V) (H' : Hp), Same H H' → Q x H')
theorem sc_count_keeping : FnScope ["rules", "n"] ["rules", "n"] (defScope s_count_keeping) := ⟨rfl, rfl, rfl, by decide +kernel, rfl, by decide +kernel, by decide +kernel⟩
theorem ok_count_keeping {CNoRules CNoNumber : Addr} {f f1 : Addr} {fd fd1 : FuncData} (D : Df K mg "count_keeping" s_count_keeping ["rules", "n"] f fd) (Dall_keeping : Df K mg "all_keeping" s_all_keeping ["rules", "n"] f1 fd1) (Gall_keeping : FnOk P w K mg base (CX1 P w) 10 f1 fd1 ["rules", "n"] (sp_all_keeping CNoRules CNoNumber)) (T : Blt mg) : FnOk P w K mg base (CX1 P w) 11 f fd ["rules", "n"] (sp_count_keeping CNoRules CNoNumber) := by
  refine D.fn.ok1 sc_count_keeping (fun vs H Q E h => ?_) (fun cdv A outer s H vs Q E hr h => ?_)
  · obtain ⟨v, u, d, e, rfl, _⟩ := h; rfl
  · obtain ⟨v, u, d, e, rfl, hd, he, hs, kR, kN, kk⟩ := h
    refine ⟨_, (pss_one (ps_ret (pe_callB (k_len K) (by rfl) T.n_len PySem.boot_len (pa_cons (pcallX Dall_keeping Gall_keeping (hr.mono (by decide)) pass_call (pa_cons (pv 0) (pa_cons (pv 1) pa_nil))) pa_nil)))), ?_⟩
    exact ⟨_, rfl, _, rfl, v, u, d, e, rfl, hd, he, hs, kR, kN, fun hr hb p vs H1 hv m1 => ⟨p, _, rfl, .inl (SqL.of hv), kk hr hb _ H1 m1⟩⟩
def sp_next_keeping (CNoRules CNoNumber : Addr) : Sp := fun vs H Q E => ∃ (v u : V) (d e : PyData), vs = [v, u] ∧ ThAt H d v ∧ ThAt H e u ∧ sizT d ≤ 100000 ∧ (rulesT d = false → ∀ H', Same H H' → E (.ref CNoRules) none H') ∧ (rulesT d = true → numT e = false → ∀ H', Same H H' → E (.ref CNoNumber) none H') ∧
  (rulesT d = true → ∀ n : Nat, e = .int n → n < 2 ^ 199 ∧ ∀ (x : V) (H' : Hp), Same H H' → Q x H')
theorem sc_next_keeping : FnScope ["rules", "n", "each"] ["rules", "n"] (defScope s_next_keeping) := ⟨rfl, rfl, rfl, by decide +kernel, rfl, by decide +kernel, by decide +kernel⟩
theorem ok_next_keeping {CNoRules CNoNumber : Addr} {f f1 f2 f3 : Addr} {fd fd1 fd2 fd3 : FuncData} {t1 : Tok} (D : Df K mg "next_keeping" s_next_keeping ["rules", "n"] f fd) (Dcheck_rules : Df K mg "check_rules" s_check_rules ["thing"] f1 fd1) (Gcheck_rules : FnOk P w K mg base (CX1 P w) 8 f1 fd1 ["thing"] (sp_check_rules CNoRules)) (Dis_good_by_each : Df K mg "is_good_by_each" s_is_good_by_each ["rules", "n"] f2 fd2) (Xis_good_by_each : FnOk P w K mg base (CX1 P w) 9 f2 fd2 ["rules", "n"] (sp_is_good_by_each CNoNumber))
    (Dcheck_number : Df K mg "check_number" s_check_number ["thing"] f3 fd3) (Gcheck_number : FnOk P w K mg base (CX1 P w) 3 f3 fd3 ["thing"] (sp_check_number CNoNumber)) (c_REACH : mg "REACH" = some (.int 500 t1)) (T : Blt mg) : FnOk P w K mg base (CX1 P w) 10 f fd ["rules", "n"] (sp_next_keeping CNoRules CNoNumber) := by
  have Gis_good_by_each := FnOk.calm Xis_good_by_each
  refine D.fn.ok1 sc_next_keeping (fun vs H Q E h => ?_) (fun cdv A outer s H vs Q E hr h => ?_)
  · obtain ⟨v, u, d, e, rfl, _⟩ := h; rfl
  · obtain ⟨v, u, d, e, rfl, hd, he, hs, kR, kN, kk⟩ := h
    refine ⟨_, (pss_cons (ps_expr (pcallX Dcheck_rules Gcheck_rules (hr.mono (by decide)) pass_call (pa_cons (pv 0) pa_nil)))
      (pss_cons (ps_expr (pcallX Dcheck_number Gcheck_number (hr.mono (by decide)) pass_call (pa_cons (pv 1) pa_nil)))
      (pss_cons (ps_for PassesOwn.leaving rfl (pi_range2L rfl T.n_range (pa_cons (pv 1) (pa_cons (pe_op op_add (pv 1) (pe_glob (v := .int 500) rfl c_REACH ⟨_, rfl⟩)) pa_nil))) (pg_name (i := 2) sc_next_keeping.nd rfl (Or.inl rfl))
        (pss_one (ps_if (pt_val (pcall Dis_good_by_each Gis_good_by_each (hr.mono (by decide)) (pa_cons (pv 0) (pa_cons (pv 2) pa_nil))))
          (pss_one (ps_ret (pv 2)))
          pss_nil)))
      (pss_one (ps_ret pe_non))))), ?_⟩
    refine ⟨_, rfl, v, d, rfl, hd, hs, kR, fun hr H1 m1 => ?_⟩
    obtain ⟨l, rs, rfl, R, g⟩ := th_rules hd hr
    refine ⟨_, rfl, u, e, rfl, he.same m1, fun hn => kN hr hn H1 m1, fun hn => ?_⟩
    obtain ⟨n, rfl, rfl⟩ := num_of he hn
    obtain ⟨hn2, kq⟩ := kk hr n rfl
    have p199 : (2 : Nat) ^ 199 + 500 < 2 ^ 900 := by decide +kernel
    refine ⟨_, rfl, _, rfl, _, _, rfl, rfl, (n : Int), _, rfl, ?_⟩
    rw [show ((n : Int) + 500 - n).toNat = 500 by omega]
    refine for_range (lo := (n : Int)) (n := 500) (fun i σ H2 => ∃ v1 : Option V, σ = [some (.ref l), some (.int n), v1] ∧ Same H H2) ⟨none, rfl, m1⟩ ?_ ?_
    · rintro i σ H2 hi ⟨v1, rfl, m2⟩
      refine ⟨_, rfl, _, rfl, l, rs, .int ((n + i : Nat) : Int), .int ((n + i : Nat) : Int), by rw [Int.natCast_add]; rfl, R.same m2, g, by rw [ThAt], fun z => ?_, fun m em => ⟨?_, fun b H3 m3 => ⟨_, rfl, ?_⟩⟩⟩
      · rw [show numT (.int ((n + i : Nat) : Int)) = true from decide_eq_true (Int.natCast_nonneg (n + i))] at z; cases z
      · injection em with em
        have : m = n + i := by omega
        omega
      cases b with
      | true => exact iteT ⟨_, rfl, kq _ H3 (m2.trans m3)⟩
      | false => exact iteF ⟨_, rfl, m2.trans m3⟩
    · rintro σ H2 ⟨v1, rfl, m2⟩
      exact kq _ H2 m2
end
end Lw
set_option Elab.async false
set_option linter.all false
set_option maxRecDepth 100000
namespace Lw
open PySem L2 PyProof.Rows
section
variable {P : Program} {w : World} {K : PySem.W.Frag} {mg : Str → Option Value} {base : Heap}
theorem any_in {ls : List (List Int)} {x : List Int} : ((ls.map tInts).any fun t => teq t (tInts x)) = decide (x ∈ ls) := by
  rw [List.any_map, Bool.eq_iff_iff, List.any_eq_true, decide_eq_true_iff]
  constructor
  · rintro ⟨y, hy, q⟩
    have q' : teq (tInts y) (tInts x) = true := q
    rw [teq_ints] at q'
    rw [← of_decide_eq_true q']; exact hy
  · intro h
    refine ⟨x, h, ?_⟩
    show teq (tInts x) (tInts x) = true
    rw [teq_ints]; exact decide_eq_true rfl
structure NewL (H H' : Hp) (l : Addr) (ws : List (Addr × List Int)) : Prop where
  sm : Same H H'
  nl : H l = none
  li : H' l = some (.lst (ws.map fun z => V.ref z.1))
  st : ∀ z ∈ ws, H z.1 = none ∧ z.1 ≠ l ∧ H' z.1 = some (.lst (z.2.map V.int))
theorem NewL.more {H H' : Hp} {l q : Addr} {ws : List (Addr × List Int)} {ms : List Int} (N : NewL H H' l ws) (hq : H' q = none) : NewL H (upd (upd H' q (.lst (ms.map V.int))) l (.lst (ws.map (fun z => V.ref z.1) ++ [.ref q]))) l (ws ++ [(q, ms)]) := by
  have nq : q ≠ l := fun z => by rw [z, N.li] at hq; cases hq
  refine ⟨fun b o e => ?_, N.nl, by rw [upd_same]; simp, fun z hz => ?_⟩
  · rw [upd_ne (ne_of_none e N.nl)]; exact same_upd hq _ _ (N.sm b o e)
  · rcases List.mem_append.mp hz with hz | hz
    · obtain ⟨h1, h2, h3⟩ := N.st z hz
      exact ⟨h1, h2, by rw [upd_ne h2]; exact same_upd hq _ _ h3⟩
    · have e : z = (q, ms) := by simpa using hz
      subst e
      exact ⟨N.sm.free hq, nq, by rw [upd_ne nq, upd_same]⟩
def sp_unlike_stretches : Sp := fun vs H Q _ => ∃ (l : Addr) (rs : List RL), vs = [.ref l] ∧ RulesAt H l rs ∧ GoodRs rs ∧ ∀ (p : Addr) (zs : List (Addr × List Int)) (H' : Hp), Same H H' → H p = none → (∀ z ∈ zs, H z.1 = none ∧ H' z.1 = some (.lst (z.2.map V.int))) → H' p = some (.lst (zs.map fun z => V.ref z.1)) → zs.map (·.2) = uni (allC (rs.map RL.con)) → zs.length ≤ 12 → Q (.ref p) H'
theorem sc_unlike_stretches : FnScope ["rules", "found", "rule", "stretch"] ["rules"] (defScope s_unlike_stretches) := ⟨rfl, rfl, rfl, by decide +kernel, rfl, by decide +kernel, by decide +kernel⟩
theorem ok_unlike_stretches {f : Addr} {fd : FuncData} (D : Df K mg "unlike_stretches" s_unlike_stretches ["rules"] f fd) (T : Blt mg) : FnOk P w K mg base CX0 1 f fd ["rules"] sp_unlike_stretches := by
  refine D.fn.ok sc_unlike_stretches (fun vs H Q E h => ?_) (fun cdv A outer s H vs Q E hr h => ?_)
  · obtain ⟨l, rs, rfl, _⟩ := h; rfl
  · obtain ⟨l, rs, rfl, R, g, kk⟩ := h
    have HU := HUof hr
    have h3 := g.len
    refine ⟨_, (pss_cons (ps_set (i := 1) sc_unlike_stretches.nd rfl (Or.inl rfl) (pe_lst pa_nil))
      (pss_cons (ps_for PassesOwn.never rfl (k_pi K (pv 0)) (pg_name (i := 2) sc_unlike_stretches.nd rfl (Or.inl rfl))
        (pss_one (ps_for PassesOwn.never rfl (k_pi K (pe_ix (k_ixT K) (pv 2) pe_int (fun _ _ => rfl))) (pg_name (i := 3) sc_unlike_stretches.nd rfl (Or.inl rfl))
          (pss_one (ps_if (pt_cmpR (k_notInT K HU) (pv 3) (pv 1) (by with_unfolding_all rfl))
            (pss_one (ps_expr (pe_bm PySem.F.plainAttrs_list PySem.F.slot_list_append PySem.F.type_list_append mt_append (pv 1) (pa_cons (pe_callTy (k_listOf K) (by rfl) T.n_list boot_list (pa_cons (pv 3) pa_nil)) pa_nil))))
            pss_nil)))))
      (pss_one (ps_ret (pe_callB (k_sortM K HU) (by rfl) T.n_sorted boot_sorted (pa_cons (pv 1) pa_nil)))))), ?_⟩
    refine ⟨(by decide : 0 ≤ sizeLine), fun fl hfl => ?_⟩
    have m1 := same_upd hfl (o := .lst [])
    refine ⟨_, rfl, l, rfl, ⟨_, SqL.of (m1 _ _ R.li)⟩, for_list (K := K) (a := l) (xs := rs.map fun x => V.ref x.r) (fun j σ H2 => ∃ (v1 v2 : Option V) (ws : List (Addr × List Int)), σ = [some (.ref l), some (.ref fl), v1, v2] ∧ NewL H H2 fl ws ∧ (ws.map (·.2)).Nodup ∧ (∀ y, y ∈ ws.map (·.2) ↔ y ∈ allC ((rs.take j).map RL.con)) ∧ ws.length ≤ 4 * j)
      ⟨none, none, [], rfl, ⟨m1, hfl, upd_same, by simp⟩, by simp, by simp [allC], Nat.zero_le _⟩ (fun j σ H2 _ ⟨_, _, _, _, N, _⟩ => SqL.of (N.sm _ _ R.li)) ?_ ?_⟩
    · rintro j y σ H2 hx ⟨v1, v2, ws, rfl, N2, hnd, hmem, hwl⟩
      rw [List.getElem?_map] at hx
      obtain ⟨x, hxj, e⟩ := Option.map_eq_some_iff.mp hx
      subst e
      have hxm := List.mem_of_getElem? hxj
      have hj : j < rs.length := (List.getElem?_eq_some_iff.mp hxj).1
      have h4 := g.z4 hxm
      have Rx := R.ru x hxm
      have R2 := Rx.same N2.sm
      refine ⟨_, rfl, x.r, _, _, V.ref x.bl, rfl, rfl, SqT.of R2.tu, rfl, x.bl, rfl, ⟨_, SqL.of R2.li⟩, for_list (K := K) (a := x.bl) (xs := x.zs.map fun z => V.ref z.1) (fun k σ H3 => ∃ (v2 : Option V) (ws : List (Addr × List Int)), σ = [some (.ref l), some (.ref fl), some (.ref x.r), v2] ∧ NewL H H3 fl ws ∧ (ws.map (·.2)).Nodup ∧ (∀ y, y ∈ ws.map (·.2) ↔ y ∈ allC ((rs.take j).map RL.con) ∨ y ∈ (x.zs.take k).map (·.2)) ∧ ws.length ≤ 4 * j + k)
        ⟨_, ws, rfl, N2, hnd, fun y => by rw [hmem]; simp, by omega⟩ (fun k σ H3 _ ⟨_, _, _, N, _⟩ => SqL.of (N.sm _ _ Rx.li)) ?_ ?_⟩
      · rintro k y σ H3 hx ⟨v2, ws, rfl, N3, hnd, hmem, hwl⟩
        rw [List.getElem?_map] at hx
        obtain ⟨z, hzk, e⟩ := Option.map_eq_some_iff.mp hx
        subst e
        have hzm := List.mem_of_getElem? hzk
        have hk : k < x.zs.length := (List.getElem?_eq_some_iff.mp hzk).1
        have hz3 := N3.sm _ _ (Rx.st z hzm)
        have hstep : ∀ y, (y ∈ allC ((rs.take j).map RL.con) ∨ y ∈ (x.zs.take (k + 1)).map (·.2)) ↔ (y ∈ allC ((rs.take j).map RL.con) ∨ y ∈ (x.zs.take k).map (·.2)) ∨ y = z.2 := fun y => by
          rw [List.take_succ, hzk, List.map_append, List.mem_append]
          simp [or_assoc]
        refine ⟨_, rfl, _, rfl, fl, _, (ws.map (·.2)).map tInts, tInts z.2, rfl, SqL.of N3.li, TrsAt.lists fun z hz => (N3.st z hz).2.2, TrAt.ints (SqL.of hz3), Nat.le_trans (tdeps_tInts _) (by decide), _, rfl, ?_⟩
        rw [any_in]
        by_cases hin : z.2 ∈ ws.map (·.2)
        · rw [decide_eq_true hin]
          refine iteF ⟨_, ws, rfl, N3, hnd, fun y => ?_, by omega⟩
          rw [hstep, ← hmem]
          exact ⟨.inl, fun q => q.elim id fun e => by rw [e]; exact hin⟩
        · rw [decide_eq_false hin]
          refine iteT ⟨_, rfl, .inl ⟨rfl, _, SqL.of N3.li⟩, _, rfl, z.1, _, rfl, .inl (SqL.of hz3), fun q hq => ?_⟩
          refine ⟨fl, _, _, rfl, rfl, same_upd hq _ _ N3.li, by rw [List.length_map]; exact Nat.lt_of_le_of_lt (show ws.length ≤ 16 by omega) (by decide), ?_⟩
          refine ⟨_, ws ++ [(q, z.2)], rfl, N3.more hq, ?_, fun y => ?_, by rw [List.length_append, List.length_singleton]; omega⟩
          · rw [List.map_append]
            refine List.nodup_append.mpr ⟨hnd, by simp, fun a ha c hc => ?_⟩
            have e : c = z.2 := by simpa using hc
            rw [e]; exact fun e2 => hin (by rw [← e2]; exact ha)
          · rw [hstep, ← hmem, List.map_append, List.mem_append]
            simp
      · rintro σ H3 ⟨v2, ws, rfl, N3, hnd, hmem, hwl⟩
        refine ⟨_, _, ws, rfl, N3, hnd, fun y => ?_, by rw [List.length_map] at hwl; omega⟩
        rw [hmem, List.length_map, List.take_length, List.take_succ, hxj]
        unfold allC
        rw [List.map_append, List.flatMap_append, List.mem_append]
        simp [RL.con]
    · rintro σ H2 ⟨v1, v2, ws, rfl, N2, hnd, hmem, hwl⟩
      rw [List.length_map] at hmem hwl
      rw [List.take_length] at hmem
      refine ⟨_, rfl, fl, ws, rfl, SqL.of N2.li, by omega, fun z hz => SqL.of (N2.st z hz).2.2, hnd, fun p zs hp pm pw => ?_⟩
      refine kk p zs _ (N2.sm.trans (same_upd hp)) (N2.sm.free hp) (fun z hz => ?_) upd_same (uni_of ?_ fun y => ?_) (by have := pm.length_eq; omega)
      · obtain ⟨h1, _, h2⟩ := N2.st z (pm.mem_iff.mp hz)
        exact ⟨h1, same_upd hp _ _ h2⟩
      · rw [LPw, List.pairwise_map]; exact pw
      · rw [(pm.map (·.2)).mem_iff]; exact hmem y
def sp_is_needless : Sp := fun vs H Q _ => ∃ (bl sa : Addr) (zs : List (Addr × List Int)) (st : List Int), vs = [.ref bl, .ref sa] ∧ H bl = some (.lst (zs.map fun z => V.ref z.1)) ∧ (∀ z ∈ zs, H z.1 = some (.lst (z.2.map V.int)) ∧ z.2 ≠ [] ∧ z.2.length ≤ 1000) ∧ H sa = some (.lst (st.map V.int)) ∧ zs.length ≤ 100 ∧ st.length ≤ 1000 ∧ ∀ H', Same H H' → Q (.bl (needless (zs.map (·.2)) st)) H'
theorem sc_is_needless : FnScope ["stretches", "stretch"] ["stretches", "stretch"] (defScope s_is_needless) := ⟨rfl, rfl, rfl, by decide +kernel, rfl, by decide +kernel, by decide +kernel⟩
theorem ok_is_needless {f f1 : Addr} {fd fd1 : FuncData} (D : Df K mg "is_needless" s_is_needless ["stretches", "stretch"] f fd) (Dstands_within : Df K mg "stands_within" s_stands_within ["stretch", "figures"] f1 fd1) (T : Blt mg) : FnOk P w K mg base CX0 2 f fd ["stretches", "stretch"] sp_is_needless := by
  have Gstands_within : FnOk P w K mg base CX0 1 f1 fd1 ["stretch", "figures"] sp_stands_within := ok_stands_within Dstands_within T
  refine D.fn.ok sc_is_needless (fun vs H Q E h => ?_) (fun cdv A outer s H vs Q E hr h => ?_)
  · obtain ⟨bl, sa, zs, st, rfl, _⟩ := h; rfl
  · obtain ⟨bl, sa, zs, st, rfl, hb, hz, hs, hl1, hl2, kk⟩ := h
    have HU := HUof hr
    refine ⟨_, (pss_one (ps_ret (pe_callB (k_any K rfl) (by rfl) T.n_any boot_any (pa_cons (pe_comp (show CScope (defScope s_is_needless) _ "other" ["stretches", "stretch"] ["stretch"] [1] from ⟨rfl, by decide +kernel, by decide +kernel, rfl, by decide +kernel, rfl, by decide +kernel, by decide +kernel⟩) rfl (k_pi K (pv 0)) (fun _ _ _ _ => pts_nil) (fun _ _ _ _ => (pe_and (pe_cmpR (k_neT K HU) (pv 0) (pv 1) (nomark _)) (pe_one (pcall Dstands_within Gstands_within (hr.mono (by decide)) (pa_cons (pv 0) (pa_cons (pv 1) pa_nil))))))) pa_nil)))), ?_⟩
    refine ⟨_, rfl, bl, rfl, ⟨_, SqL.of hb⟩, comp_list (K := K) (a := bl) (xs := zs.map fun z => V.ref z.1) (fun i ys H4 => ys = ((zs.take i).map fun z => decide (z.2 ≠ st) && hasS z.2 st).map V.bl ∧ Same H H4) ⟨by simp, Same.refl _⟩ (fun i ys H4 _ ⟨_, e⟩ => SqL.of (e _ _ hb)) ?_ ?_⟩
    · rintro j x ys H4 hx ⟨rfl, s4⟩
      rw [List.getElem?_map] at hx
      obtain ⟨z, hzj, e⟩ := Option.map_eq_some_iff.mp hx
      subst e
      have hzm := List.mem_of_getElem? hzj
      obtain ⟨h1, h2, h3⟩ := hz z hzm
      refine ⟨?_, ?_⟩
      · rw [List.length_map, List.length_map, List.length_take]
        exact Nat.lt_of_le_of_lt (Nat.le_trans (Nat.min_le_right _ _) hl1) (by decide)
      unfold tYes
      dsimp only
      rw [if_pos rfl]
      refine ⟨_, rfl, _, rfl, tInts z.2, tInts st, TrAt.ints (SqL.of (s4 _ _ h1)), TrAt.ints (SqL.of (s4 _ _ hs)), (by rw [tdep_tInts]; decide), _, rfl, ?_⟩
      have hlast : ∀ {b : Bool}, (decide (z.2 ≠ st) && hasS z.2 st) = b → ((zs.take (j + 1)).map fun z => decide (z.2 ≠ st) && hasS z.2 st).map V.bl = ((zs.take j).map fun z => decide (z.2 ≠ st) && hasS z.2 st).map V.bl ++ [V.bl b] := fun {b} hb => by
        rw [List.take_succ, hzj, List.map_append, List.map_append, ← hb]; rfl
      show if (!teq (tInts z.2) (tInts st)) = true then _ else _
      rw [teq_ints]
      by_cases hq : z.2 = st
      · rw [decide_eq_true hq]
        exact iteF ⟨(hlast (by simp [hq])).symm, s4⟩
      · rw [decide_eq_false hq]
        refine iteT ⟨_, rfl, _, rfl, z.1, sa, z.2, st, rfl, s4 _ _ h1, s4 _ _ hs, h2, h3, hl2, fun H5 s5 => ⟨(hlast (by simp [hq])).symm, s4.trans s5⟩⟩
    · rintro ys H4 ⟨rfl, s4⟩ Dd hD
      refine ⟨Dd, _, rfl, SqL.of upd_same, ?_⟩
      have q := kk _ (s4.trans (same_upd hD (o := .lst (((zs.take (zs.map fun z => V.ref z.1).length).map fun z => decide (z.2 ≠ st) && hasS z.2 st).map V.bl))))
      rw [List.length_map, List.take_length] at q ⊢
      unfold needless at q
      rw [List.any_map] at q ⊢
      exact q
def sp_one_rule (CNo CMa : Addr) : Sp := fun vs H Q E => ∃ (v : V) (d : PyData), vs = [v] ∧ ThAt H d v ∧ sizT d ≤ 100000 ∧ (rulesT d = false → ∀ H', Same H H' → E (.ref CNo) none H') ∧ (rulesT d = true → ∀ (l : Addr) (rs : List RL), v = .ref l → RulesAt H l rs → GoodRs rs → (sameB (rs.map RL.con) = false → ∀ H', Same H H' → E (.ref CNo) none H') ∧
  (sameB (rs.map RL.con) = true → 4 < (needC (rs.map RL.con)).length → ∀ H', Same H H' → E (.ref CMa) none H') ∧
  (sameB (rs.map RL.con) = true → (needC (rs.map RL.con)).length ≤ 4 → ∀ (r nl : Addr) (zs : List (Addr × List Int)) (H' : Hp), Same H H' → RuleAt H' r (baseC (rs.map RL.con)) nl zs → zs.map (·.2) = needC (rs.map RL.con) → H r = none → H nl = none → (∀ z ∈ zs, H z.1 = none) → Q (.ref r) H'))
theorem sc_one_rule : FnScope ["rules", "base", "stretches", "needed"] ["rules"] (defScope s_one_rule) := ⟨rfl, rfl, rfl, by decide +kernel, rfl, by decide +kernel, by decide +kernel⟩
theorem ok_one_rule {CNoRules CTooMany : Addr} {t1 : Tok} {f f1 f2 f3 f4 : Addr} {fd fd1 fd2 fd3 fd4 : FuncData} (D : Df K mg "one_rule" s_one_rule ["rules"] f fd) (Dcheck_rules : Df K mg "check_rules" s_check_rules ["thing"] f1 fd1) (Gcheck_rules : FnOk P w K mg base (CX1 P w) 8 f1 fd1 ["thing"] (sp_check_rules CNoRules))
    (Dunlike_stretches : Df K mg "unlike_stretches" s_unlike_stretches ["rules"] f2 fd2) (Dis_needless : Df K mg "is_needless" s_is_needless ["stretches", "stretch"] f3 fd3) (Dstands_within : Df K mg "stands_within" s_stands_within ["stretch", "figures"] f4 fd4) (x_NoRules : ExcC K mg "NoRules" CNoRules) (x_TooMany : ExcC K mg "TooMany" CTooMany)
    (c_MOST_STRETCHES : mg "MOST_STRETCHES" = some (.int 4 t1)) (T : Blt mg) : FnOk P w K mg base (CX1 P w) 9 f fd ["rules"] (sp_one_rule CNoRules CTooMany) := by
  have Gunlike_stretches : FnOk P w K mg base CX0 1 f2 fd2 ["rules"] sp_unlike_stretches := ok_unlike_stretches Dunlike_stretches T
  have Gis_needless : FnOk P w K mg base CX0 2 f3 fd3 ["stretches", "stretch"] sp_is_needless := ok_is_needless Dis_needless Dstands_within T
  refine D.fn.ok1 sc_one_rule (fun vs H Q E h => ?_) (fun cdv A outer s H vs Q E hr h => ?_)
  · obtain ⟨v, d, rfl, _⟩ := h; rfl
  · obtain ⟨v, d, rfl, hd, hs, kR, kG⟩ := h
    refine ⟨_, (pss_cons (ps_expr (pcallX Dcheck_rules Gcheck_rules (hr.mono (by decide)) pass_call (pa_cons (pv 0) pa_nil)))
      (pss_cons (ps_set (i := 1) sc_one_rule.nd rfl (Or.inr rfl) (pe_ix (k_ixT K) (pe_ix (k_ixL K) (pv 0) pe_int (fun _ _ => rfl)) pe_int (fun _ _ => rfl)))
      (pss_cons (ps_if (pt_val (pe_callB (k_any K rfl) (by rfl) T.n_any boot_any (pa_cons (pe_comp (show CScope (defScope s_one_rule) _ "rule" ["rules", "base", "stretches", "needed"] ["base"] [1] from ⟨rfl, by decide +kernel, by decide +kernel, rfl, by decide +kernel, rfl, by decide +kernel, by decide +kernel⟩) rfl (k_pi K (pv 0)) (fun _ _ _ _ => pts_nil) (fun _ _ _ _ => (pe_cmpR op_ne (pe_ix (k_ixT K) (pv 0) pe_int (fun _ _ => rfl)) (pv 1) (nomark _)))) pa_nil)))
        (pss_one (ps_raise x_NoRules pass_new rfl (pa_cons pe_str pa_nil)))
        pss_nil)
      (pss_cons (ps_set (i := 2) sc_one_rule.nd rfl (Or.inr rfl) (pcall Dunlike_stretches Gunlike_stretches (hr.mono (by decide)) (pa_cons (pv 0) pa_nil)))
      (pss_cons (ps_setComp (i := 3) (show CScope (defScope s_one_rule) _ "stretch" ["rules", "base", "stretches", "needed"] ["stretches"] [2] from ⟨rfl, by decide +kernel, by decide +kernel, rfl, by decide +kernel, rfl, by decide +kernel, by decide +kernel⟩) rfl sc_one_rule.nd rfl (Or.inl rfl) (k_pi K (pv 2)) (fun _ _ _ _ => (pts_one (pt_not (pt_val (pcall Dis_needless Gis_needless (hr.mono (by decide)) (pa_cons (pv 1) (pa_cons (pv 0) pa_nil))))))) (fun _ _ _ _ => (pv 0)))
      (pss_cons (ps_if (pt_cmpR op_gt (pe_callB (k_len K) (by rfl) T.n_len PySem.boot_len (pa_cons (pv 3) pa_nil)) (pe_glob (v := .int 4) rfl c_MOST_STRETCHES ⟨_, rfl⟩) (nomark _))
        (pss_one (ps_raise x_TooMany pass_new rfl (pa_cons pe_str pa_nil)))
        pss_nil)
      (pss_one (ps_ret (pe_tup (pa_cons (pv 1) (pa_cons (pv 3) pa_nil))))))))))), ?_⟩
    refine ⟨_, rfl, v, d, rfl, hd, hs, kR, fun hr H1 m1 => ?_⟩
    obtain ⟨l, rs, rfl, R, g⟩ := th_rules hd hr
    obtain ⟨kNo, kMa, kOk⟩ := kG hr l rs rfl R g
    have h3 := g.len
    obtain ⟨x0, xr, hrs⟩ : ∃ x0 xr, rs = x0 :: xr := by
      cases rs with
      | nil => exact absurd rfl g.ne
      | cons a b => exact ⟨a, b, rfl⟩
    have hb0 : baseC (rs.map RL.con) = x0.b := by rw [hrs]; rfl
    have hx0 : x0 ∈ rs := by rw [hrs]; exact .head _
    have R1 := R.same m1
    refine ⟨_, rfl, l, _, _, V.ref x0.r, rfl, rfl, SqL.of R1.li, ?_, x0.r, _, _, V.int x0.b, rfl, rfl, SqT.of (R1.ru x0 hx0).tu, rfl, ?_⟩
    · exact atI_nat (j := 0) (by rw [List.getElem?_map, hrs]; rfl)
    refine ⟨_, rfl, l, rfl, ⟨_, SqL.of R1.li⟩, comp_list (K := K) (a := l) (xs := rs.map fun x => V.ref x.r) (fun i ys H4 => ys = ((rs.take i).map fun x => !decide (x.b = x0.b)).map V.bl ∧ H4 = H1) ⟨by simp, rfl⟩ (fun i ys H4 _ ⟨_, e⟩ => by rw [e]; exact SqL.of R1.li) ?_ ?_⟩
    · rintro j y ys H4 hx ⟨rfl, rfl⟩
      rw [List.getElem?_map] at hx
      obtain ⟨x, hxj, e⟩ := Option.map_eq_some_iff.mp hx
      subst e
      have hxm := List.mem_of_getElem? hxj
      refine ⟨?_, ?_⟩
      · rw [List.length_map, List.length_map, List.length_take]
        exact Nat.lt_of_le_of_lt (show min j rs.length ≤ 3 by omega) (by decide)
      unfold tYes
      dsimp only
      rw [if_pos rfl]
      refine ⟨_, rfl, x.r, _, _, V.int x.b, rfl, rfl, SqT.of (R1.ru x hxm).tu, rfl, _, rfl, rfl, ?_, rfl⟩
      rw [List.take_succ, hxj, List.map_append, List.map_append]
      have e : decide (V.int (x.b : Int) = V.int (x0.b : Int)) = decide (x.b = x0.b) := decide_eq_decide.mpr ⟨fun z => by injection z with z; omega, fun z => by rw [z]⟩
      rw [e]; rfl
    · rintro ys H4 ⟨rfl, rfl⟩ Dd hD
      rw [List.length_map, List.take_length]
      refine ⟨Dd, _, rfl, SqL.of upd_same, _, rfl, ?_⟩
      have m2 := m1.trans (same_upd hD (o := .lst ((rs.map fun x => !decide (x.b = x0.b)).map V.bl)))
      have hany : ((rs.map fun x => !decide (x.b = x0.b)).any id) = !sameB (rs.map RL.con) := by
        rw [Bool.eq_iff_iff, List.any_eq_true, Bool.not_eq_true']
        unfold sameB
        rw [hb0, List.all_eq_false]
        constructor
        · rintro ⟨v, hv, q⟩
          obtain ⟨x, hx, rfl⟩ := List.mem_map.mp hv
          refine ⟨x.con, List.mem_map.mpr ⟨x, hx, rfl⟩, ?_⟩
          have q' : (!decide (x.b = x0.b)) = true := q
          show ¬ decide (x.b = x0.b) = true
          intro z
          rw [z] at q'; cases q'
        · rintro ⟨c, hc, q⟩
          obtain ⟨x, hx, rfl⟩ := List.mem_map.mp hc
          refine ⟨_, List.mem_map.mpr ⟨x, hx, rfl⟩, ?_⟩
          have q' : ¬ decide (x.b = x0.b) = true := q
          show (!decide (x.b = x0.b)) = true
          cases z : decide (x.b = x0.b)
          · rfl
          · exact absurd z q'
      rw [hany]
      cases hsb : sameB (rs.map RL.con) with
      | false => exact iteT ⟨by decide, kNo hsb _ m2⟩
      | true =>
        refine iteF ?_
        refine ⟨_, rfl, l, rs, rfl, R.same m2, g, fun p zs H3 m3 hp hz hp3 hU hl12 => ?_⟩
        have gz : ∀ z ∈ zs, z.2 ≠ [] ∧ z.2.length ≤ 4 := fun z hzm => by
          have q : z.2 ∈ uni (allC (rs.map RL.con)) := by rw [← hU]; exact List.mem_map.mpr ⟨z, hzm, rfl⟩
          rw [mem_uni] at q
          obtain ⟨c, hc, hq⟩ := List.mem_flatMap.mp q
          obtain ⟨x, hx, rfl⟩ := List.mem_map.mp hc
          have gs := (g.good x hx).st _ hq
          exact ⟨gs.ne, gs.len⟩
        refine ⟨_, rfl, p, rfl, ⟨_, SqL.of hp3⟩, comp_list (K := K) (a := p) (xs := zs.map fun z => V.ref z.1) (fun i ys H4 => ys = ((zs.take i).filter fun z => !needless (zs.map (·.2)) z.2).map (fun z => V.ref z.1) ∧ Same H3 H4) ⟨by simp, Same.refl _⟩ (fun i ys H4 _ ⟨_, e⟩ => SqL.of (e _ _ hp3)) ?_ ?_⟩
        · rintro j y ys H4 hx ⟨rfl, m4⟩
          rw [List.getElem?_map] at hx
          obtain ⟨z, hzj, e⟩ := Option.map_eq_some_iff.mp hx
          subst e
          have hzm := List.mem_of_getElem? hzj
          refine ⟨?_, ?_⟩
          · rw [List.length_map]
            exact Nat.lt_of_le_of_lt (Nat.le_trans (List.length_filter_le _ _) (show (zs.take j).length ≤ 12 by rw [List.length_take]; omega)) (by decide)
          refine ⟨_, rfl, _, rfl, p, z.1, zs, z.2, rfl, m4 _ _ hp3, fun z hzm => ⟨m4 _ _ (hz z hzm).2, (gz z hzm).1, Nat.le_trans (gz z hzm).2 (by decide)⟩, m4 _ _ (hz z hzm).2, by omega, Nat.le_trans (gz z hzm).2 (by decide), fun H5 m5 => ⟨_, rfl, ?_⟩⟩
          cases hn : needless (zs.map (·.2)) z.2 with
          | true =>
            refine iteF ⟨?_, m4.trans m5⟩
            rw [List.take_succ, hzj, List.filter_append]
            simp [hn]
          | false =>
            refine iteT ⟨_, rfl, ?_, m4.trans m5⟩
            rw [List.take_succ, hzj, List.filter_append]
            simp [hn]
        · rintro ys H4 ⟨rfl, m4⟩ nl hnl
          rw [List.length_map, List.take_length]
          generalize hws : (zs.filter fun z => !needless (zs.map (·.2)) z.2) = ws
          have hw2 : ws.map (·.2) = needC (rs.map RL.con) := by
            unfold needC needed
            rw [← hU, ← hws, List.filter_map]
            rfl
          have hwl : ws.length = (needC (rs.map RL.con)).length := by rw [← hw2, List.length_map]
          have m14 := (m2.trans m3).trans m4
          have m5 := same_upd hnl (o := .lst (ws.map fun z => V.ref z.1))
          refine ⟨_, rfl, nl, _, rfl, .inl (SqL.of upd_same), _, _, rfl, rfl, _, rfl, ?_⟩
          rw [List.length_map, hwl]
          by_cases h4 : 4 < (needC (rs.map RL.con)).length
          · rw [decide_eq_true (show (4 : Int) < ((needC (rs.map RL.con)).length : Int) by omega)]
            exact iteT ⟨by decide, kMa hsb h4 _ (m14.trans m5)⟩
          · rw [decide_eq_false (show ¬ (4 : Int) < ((needC (rs.map RL.con)).length : Int) by omega)]
            refine iteF ⟨_, rfl, _, rfl, (by show 2 ≤ sizeLine; decide), fun tp htp => ?_⟩
            have hwm : ∀ z ∈ ws, z ∈ zs := fun z hzm => by rw [← hws] at hzm; exact (List.mem_filter.mp hzm).1
            have m6 := same_upd htp (o := .tup [.int x0.b, .ref nl])
            refine kOk hsb (by omega) tp nl ws _ ((m14.trans m5).trans m6) ⟨?_, m6 _ _ upd_same, fun z hzm => m6 _ _ (m5 _ _ (m4 _ _ (hz z (hwm z hzm)).2))⟩ hw2 ((m14.trans m5).free htp) (m14.free hnl) fun z hzm => m2.free (hz z (hwm z hzm)).1
            rw [hb0, upd_same]
end
end Lw
set_option Elab.async false
set_option linter.all false
set_option maxRecDepth 100000
namespace Lw
open PySem L2 PyProof.Rows
structure XNames (mg : Str → Option Value) (CNoBase CNoNumber CNoFigures CNoRule CNoStand CNoGood CEndless CNoRules CNoStretch CTooMany CNoText CNoName CNoRow : Addr) : Prop where
  g_NoBase : mg "NoBase" = some (.ref CNoBase)
  g_NoNumber : mg "NoNumber" = some (.ref CNoNumber)
  g_NoFigures : mg "NoFigures" = some (.ref CNoFigures)
  g_NoRule : mg "NoRule" = some (.ref CNoRule)
  g_NoStand : mg "NoStand" = some (.ref CNoStand)
  g_NoGood : mg "NoGood" = some (.ref CNoGood)
  g_Endless : mg "Endless" = some (.ref CEndless)
  g_NoRules : mg "NoRules" = some (.ref CNoRules)
  g_NoStretch : mg "NoStretch" = some (.ref CNoStretch)
  g_TooMany : mg "TooMany" = some (.ref CTooMany)
  g_NoText : mg "NoText" = some (.ref CNoText)
  g_NoName : mg "NoName" = some (.ref CNoName)
  g_NoRow : mg "NoRow" = some (.ref CNoRow)
structure KindK (K : PySem.W.Frag) (C CNoBase CNoNumber CNoFigures CNoRule CNoStand CNoGood CEndless CNoRules CNoStretch CTooMany CNoText CNoName CNoRow : Addr) (k : Nat) : Prop where
  i : ExcI K C
  v : PySem.W.kitOne K (.ref C) (.type "ValueError") = some true
  k0 : PySem.W.kitOne K (.ref C) (.ref CNoBase) = some (decide (0 = k))
  k1 : PySem.W.kitOne K (.ref C) (.ref CNoNumber) = some (decide (1 = k))
  k2 : PySem.W.kitOne K (.ref C) (.ref CNoFigures) = some (decide (2 = k))
  k3 : PySem.W.kitOne K (.ref C) (.ref CNoRule) = some (decide (3 = k))
  k4 : PySem.W.kitOne K (.ref C) (.ref CNoStand) = some (decide (4 = k))
  k5 : PySem.W.kitOne K (.ref C) (.ref CNoGood) = some (decide (5 = k))
  k6 : PySem.W.kitOne K (.ref C) (.ref CEndless) = some (decide (6 = k))
  k7 : PySem.W.kitOne K (.ref C) (.ref CNoRules) = some (decide (7 = k))
  k8 : PySem.W.kitOne K (.ref C) (.ref CNoStretch) = some (decide (8 = k))
  k9 : PySem.W.kitOne K (.ref C) (.ref CTooMany) = some (decide (9 = k))
  k10 : PySem.W.kitOne K (.ref C) (.ref CNoText) = some (decide (10 = k))
  k11 : PySem.W.kitOne K (.ref C) (.ref CNoName) = some (decide (11 = k))
  k12 : PySem.W.kitOne K (.ref C) (.ref CNoRow) = some (decide (12 = k))
def wordL : List Str := ["base", "number", "figures", "rule", "stand", "good", "endless", "rules", "stretch", "many", "text", "name", "row"]
theorem boot_ValueError : bootBuiltins "ValueError" = some (.type "ValueError") := by decide +kernel
section
variable {P : Program} {w : World} {K : PySem.W.Frag} {mg : Str → Option Value} {base : Heap}
def sp__law_kind (K : PySem.W.Frag) (CNoBase CNoNumber CNoFigures CNoRule CNoStand CNoGood CEndless CNoRules CNoStretch CTooMany CNoText CNoName CNoRow : Addr) : Sp := fun vs H Q _ => ∃ (e C : Addr) (k : Nat) (dk d : Str), vs = [.ref e, .str d] ∧ H e = some (excO e C) ∧ KindK K C CNoBase CNoNumber CNoFigures CNoRule CNoStand CNoGood CEndless CNoRules CNoStretch CTooMany CNoText CNoName CNoRow k ∧ wordL[k]? = some dk ∧ ∀ H', Same H H' → Q (.bl (decide (dk = d))) H'
theorem sc__law_kind : FnScope ["e", "due", "kinds", "words", "found"] ["e", "due"] (defScope s__law_kind) := ⟨rfl, rfl, rfl, by decide +kernel, rfl, by decide +kernel, by decide +kernel⟩
set_option maxHeartbeats 2000000 in
theorem ok__law_kind {CNoBase CNoNumber CNoFigures CNoRule CNoStand CNoGood CEndless CNoRules CNoStretch CTooMany CNoText CNoName CNoRow : Addr} {f : Addr} {fd : FuncData} (D : Df K mg "_law_kind" s__law_kind ["e", "due"] f fd) (XN : XNames mg CNoBase CNoNumber CNoFigures CNoRule CNoStand CNoGood CEndless CNoRules CNoStretch CTooMany CNoText CNoName CNoRow) (n_ValueError : mg "ValueError" = none) (T : Blt mg) (U : Blt2 mg) : FnOk P w K mg base CX0 1 f fd ["e", "due"] (sp__law_kind K CNoBase CNoNumber CNoFigures CNoRule CNoStand CNoGood CEndless CNoRules CNoStretch CTooMany CNoText CNoName CNoRow) := by
  obtain ⟨g_NoBase, g_NoNumber, g_NoFigures, g_NoRule, g_NoStand, g_NoGood, g_Endless, g_NoRules, g_NoStretch, g_TooMany, g_NoText, g_NoName, g_NoRow⟩ := XN
  refine D.fn.ok sc__law_kind (fun vs H Q E h => ?_) (fun cdv A outer s H vs Q E hr h => ?_)
  · obtain ⟨e, C, k, dk, d, rfl, _⟩ := h; rfl
  · obtain ⟨e, C, k, dk, d, rfl, he, Kd, hd, kk⟩ := h
    have HU := HUof hr
    have hk : k < 13 := (List.getElem?_eq_some_iff.mp hd).1
    refine ⟨_, (pss_cons (ps_set (i := 2) sc__law_kind.nd rfl (Or.inl rfl) (pe_lst (pa_cons (pe_callB (k_isiX K) (by rfl) T.n_isinstance boot_isinstance (pa_cons (pv 0) (pa_cons (pe_glob (v := .ref CNoBase) rfl g_NoBase rfl) pa_nil))) (pa_cons (pe_callB (k_isiX K) (by rfl) T.n_isinstance boot_isinstance (pa_cons (pv 0) (pa_cons (pe_glob (v := .ref CNoNumber) rfl g_NoNumber rfl) pa_nil))) (pa_cons (pe_callB (k_isiX K) (by rfl) T.n_isinstance boot_isinstance (pa_cons (pv 0) (pa_cons (pe_glob (v := .ref CNoFigures) rfl g_NoFigures rfl) pa_nil))) (pa_cons (pe_callB (k_isiX K) (by rfl) T.n_isinstance boot_isinstance (pa_cons (pv 0) (pa_cons (pe_glob (v := .ref CNoRule) rfl g_NoRule rfl) pa_nil))) pa_nil))))))
      (pss_cons (ps_set (i := 2) sc__law_kind.nd rfl (Or.inl rfl) (pe_op op_cat (pv 2) (pe_lst (pa_cons (pe_callB (k_isiX K) (by rfl) T.n_isinstance boot_isinstance (pa_cons (pv 0) (pa_cons (pe_glob (v := .ref CNoStand) rfl g_NoStand rfl) pa_nil))) (pa_cons (pe_callB (k_isiX K) (by rfl) T.n_isinstance boot_isinstance (pa_cons (pv 0) (pa_cons (pe_glob (v := .ref CNoGood) rfl g_NoGood rfl) pa_nil))) (pa_cons (pe_callB (k_isiX K) (by rfl) T.n_isinstance boot_isinstance (pa_cons (pv 0) (pa_cons (pe_glob (v := .ref CEndless) rfl g_Endless rfl) pa_nil))) (pa_cons (pe_callB (k_isiX K) (by rfl) T.n_isinstance boot_isinstance (pa_cons (pv 0) (pa_cons (pe_glob (v := .ref CNoRules) rfl g_NoRules rfl) pa_nil))) pa_nil)))))))
      (pss_cons (ps_set (i := 2) sc__law_kind.nd rfl (Or.inl rfl) (pe_op op_cat (pv 2) (pe_lst (pa_cons (pe_callB (k_isiX K) (by rfl) T.n_isinstance boot_isinstance (pa_cons (pv 0) (pa_cons (pe_glob (v := .ref CNoStretch) rfl g_NoStretch rfl) pa_nil))) (pa_cons (pe_callB (k_isiX K) (by rfl) T.n_isinstance boot_isinstance (pa_cons (pv 0) (pa_cons (pe_glob (v := .ref CTooMany) rfl g_TooMany rfl) pa_nil))) (pa_cons (pe_callB (k_isiX K) (by rfl) T.n_isinstance boot_isinstance (pa_cons (pv 0) (pa_cons (pe_glob (v := .ref CNoText) rfl g_NoText rfl) pa_nil))) pa_nil))))))
      (pss_consJ (ps_set (i := 2) sc__law_kind.nd rfl (Or.inl rfl) (pe_op op_cat (pv 2) (pe_lst (pa_cons (pe_callB (k_isiX K) (by rfl) T.n_isinstance boot_isinstance (pa_cons (pv 0) (pa_cons (pe_glob (v := .ref CNoName) rfl g_NoName rfl) pa_nil))) (pa_cons (pe_callB (k_isiX K) (by rfl) T.n_isinstance boot_isinstance (pa_cons (pv 0) (pa_cons (pe_glob (v := .ref CNoRow) rfl g_NoRow rfl) pa_nil))) pa_nil)))))
      (pssI_set (i := 3) sc__law_kind.nd rfl (Or.inl rfl) (pai_str (pai_str (pai_str (pai_str (pai_str (pai_str (pai_str (pai_str (pai_str (pai_str (pai_str pai_nil)))))))))))
      (pss_cons (ps_setCompT (i := 4) (show CScopeT (defScope s__law_kind) _ ["word", "kind"] ["e", "due", "kinds", "words", "found"] [] [] from ⟨rfl, by decide +kernel, by decide +kernel, by decide +kernel, by decide +kernel, rfl, by decide +kernel, by decide +kernel⟩) rfl sc__law_kind.nd rfl (Or.inl rfl) (pi_zip K rfl U.n_zip (pa_cons (pe_op op_cat (pv 3) (pe_lst (pa_str (pa_str pa_nil)))) (pa_cons (pv 2) pa_nil))) (fun _ _ _ _ => (k_gtup K 2 rfl (pgs_cons (pg_name (i := 0) (show List.Nodup (α := Str) ["word", "kind"] by decide) rfl (.inl (lookup_relabel_local rfl)) (.inr (lookup_relabel_local rfl))) (pgs_cons (pg_name (i := 1) (show List.Nodup (α := Str) ["word", "kind"] by decide) rfl (.inl (lookup_relabel_local rfl)) (.inr (lookup_relabel_local rfl))) pgs_nil)))) (fun _ _ _ _ => (pts_one (pt_val (pv 1)))) (fun _ _ _ _ => (pv 0)))
      (pss_one (ps_ret (pe_and (pe_callB (k_isiX K) (by rfl) T.n_isinstance boot_isinstance (pa_cons (pv 0) (pa_cons (pe_bltn (v := .ty "ValueError") rfl n_ValueError boot_ValueError rfl) pa_nil))) (pe_one (pe_cmpR (k_eqT K HU) (pv 4) (pe_lst (pa_cons (pv 1) pa_nil)) (nomark _)))))))))))), ?_⟩
    refine ⟨_, rfl, e, C, _, _, _, rfl, rfl, (fun _ h => h), he, Kd.i, Kd.k0, _, rfl, e, C, _, _, _, rfl, rfl, (fun _ h => h), he, Kd.i, Kd.k1, _, rfl, e, C, _, _, _, rfl, rfl, (fun _ h => h), he, Kd.i, Kd.k2, _, rfl, e, C, _, _, _, rfl, rfl, (fun _ h => h), he, Kd.i, Kd.k3, (by show 4 ≤ sizeLine; decide), fun l0 hl0 => ?_⟩
    have m0 := same_upd hl0 (o := .lst [V.bl (decide (0 = k)), V.bl (decide (1 = k)), V.bl (decide (2 = k)), V.bl (decide (3 = k))])
    have h0 : upd H l0 (.lst [V.bl (decide (0 = k)), V.bl (decide (1 = k)), V.bl (decide (2 = k)), V.bl (decide (3 = k))]) l0 = some (.lst [V.bl (decide (0 = k)), V.bl (decide (1 = k)), V.bl (decide (2 = k)), V.bl (decide (3 = k))]) := upd_same
    generalize hG0 : upd H l0 (.lst [V.bl (decide (0 = k)), V.bl (decide (1 = k)), V.bl (decide (2 = k)), V.bl (decide (3 = k))]) = G0 at m0 h0
    refine ⟨_, rfl, _, rfl, e, C, _, _, _, rfl, rfl, (fun _ h => h), (m0 _ _ he), Kd.i, Kd.k4, _, rfl, e, C, _, _, _, rfl, rfl, (fun _ h => h), (m0 _ _ he), Kd.i, Kd.k5, _, rfl, e, C, _, _, _, rfl, rfl, (fun _ h => h), (m0 _ _ he), Kd.i, Kd.k6, _, rfl, e, C, _, _, _, rfl, rfl, (fun _ h => h), (m0 _ _ he), Kd.i, Kd.k7, (by show 4 ≤ sizeLine; decide), fun a1 ha1 => ?_⟩
    have n1 := same_upd ha1 (o := .lst [V.bl (decide (4 = k)), V.bl (decide (5 = k)), V.bl (decide (6 = k)), V.bl (decide (7 = k))])
    refine ⟨l0, a1, _, _, rfl, rfl, n1 _ _ h0, upd_same, (by show 4 + 4 ≤ sizeLine; decide), fun l1 hl1 => ?_⟩
    rw [show ([V.bl (decide (0 = k)), V.bl (decide (1 = k)), V.bl (decide (2 = k)), V.bl (decide (3 = k))] ++ [V.bl (decide (4 = k)), V.bl (decide (5 = k)), V.bl (decide (6 = k)), V.bl (decide (7 = k))] : List V) = [V.bl (decide (0 = k)), V.bl (decide (1 = k)), V.bl (decide (2 = k)), V.bl (decide (3 = k)), V.bl (decide (4 = k)), V.bl (decide (5 = k)), V.bl (decide (6 = k)), V.bl (decide (7 = k))] from rfl]
    have m1 := m0.trans (n1.trans (same_upd hl1 (o := .lst [V.bl (decide (0 = k)), V.bl (decide (1 = k)), V.bl (decide (2 = k)), V.bl (decide (3 = k)), V.bl (decide (4 = k)), V.bl (decide (5 = k)), V.bl (decide (6 = k)), V.bl (decide (7 = k))])))
    have h1 : upd (upd G0 a1 (.lst [V.bl (decide (4 = k)), V.bl (decide (5 = k)), V.bl (decide (6 = k)), V.bl (decide (7 = k))])) l1 (.lst [V.bl (decide (0 = k)), V.bl (decide (1 = k)), V.bl (decide (2 = k)), V.bl (decide (3 = k)), V.bl (decide (4 = k)), V.bl (decide (5 = k)), V.bl (decide (6 = k)), V.bl (decide (7 = k))]) l1 = some (.lst [V.bl (decide (0 = k)), V.bl (decide (1 = k)), V.bl (decide (2 = k)), V.bl (decide (3 = k)), V.bl (decide (4 = k)), V.bl (decide (5 = k)), V.bl (decide (6 = k)), V.bl (decide (7 = k))]) := upd_same
    generalize hG1 : upd (upd G0 a1 (.lst [V.bl (decide (4 = k)), V.bl (decide (5 = k)), V.bl (decide (6 = k)), V.bl (decide (7 = k))])) l1 (.lst [V.bl (decide (0 = k)), V.bl (decide (1 = k)), V.bl (decide (2 = k)), V.bl (decide (3 = k)), V.bl (decide (4 = k)), V.bl (decide (5 = k)), V.bl (decide (6 = k)), V.bl (decide (7 = k))]) = G1 at m1 h1
    refine ⟨_, rfl, _, rfl, e, C, _, _, _, rfl, rfl, (fun _ h => h), (m1 _ _ he), Kd.i, Kd.k8, _, rfl, e, C, _, _, _, rfl, rfl, (fun _ h => h), (m1 _ _ he), Kd.i, Kd.k9, _, rfl, e, C, _, _, _, rfl, rfl, (fun _ h => h), (m1 _ _ he), Kd.i, Kd.k10, (by show 3 ≤ sizeLine; decide), fun a2 ha2 => ?_⟩
    have n2 := same_upd ha2 (o := .lst [V.bl (decide (8 = k)), V.bl (decide (9 = k)), V.bl (decide (10 = k))])
    refine ⟨l1, a2, _, _, rfl, rfl, n2 _ _ h1, upd_same, (by show 8 + 3 ≤ sizeLine; decide), fun l2 hl2 => ?_⟩
    rw [show ([V.bl (decide (0 = k)), V.bl (decide (1 = k)), V.bl (decide (2 = k)), V.bl (decide (3 = k)), V.bl (decide (4 = k)), V.bl (decide (5 = k)), V.bl (decide (6 = k)), V.bl (decide (7 = k))] ++ [V.bl (decide (8 = k)), V.bl (decide (9 = k)), V.bl (decide (10 = k))] : List V) = [V.bl (decide (0 = k)), V.bl (decide (1 = k)), V.bl (decide (2 = k)), V.bl (decide (3 = k)), V.bl (decide (4 = k)), V.bl (decide (5 = k)), V.bl (decide (6 = k)), V.bl (decide (7 = k)), V.bl (decide (8 = k)), V.bl (decide (9 = k)), V.bl (decide (10 = k))] from rfl]
    have m2 := m1.trans (n2.trans (same_upd hl2 (o := .lst [V.bl (decide (0 = k)), V.bl (decide (1 = k)), V.bl (decide (2 = k)), V.bl (decide (3 = k)), V.bl (decide (4 = k)), V.bl (decide (5 = k)), V.bl (decide (6 = k)), V.bl (decide (7 = k)), V.bl (decide (8 = k)), V.bl (decide (9 = k)), V.bl (decide (10 = k))])))
    have h2 : upd (upd G1 a2 (.lst [V.bl (decide (8 = k)), V.bl (decide (9 = k)), V.bl (decide (10 = k))])) l2 (.lst [V.bl (decide (0 = k)), V.bl (decide (1 = k)), V.bl (decide (2 = k)), V.bl (decide (3 = k)), V.bl (decide (4 = k)), V.bl (decide (5 = k)), V.bl (decide (6 = k)), V.bl (decide (7 = k)), V.bl (decide (8 = k)), V.bl (decide (9 = k)), V.bl (decide (10 = k))]) l2 = some (.lst [V.bl (decide (0 = k)), V.bl (decide (1 = k)), V.bl (decide (2 = k)), V.bl (decide (3 = k)), V.bl (decide (4 = k)), V.bl (decide (5 = k)), V.bl (decide (6 = k)), V.bl (decide (7 = k)), V.bl (decide (8 = k)), V.bl (decide (9 = k)), V.bl (decide (10 = k))]) := upd_same
    generalize hG2 : upd (upd G1 a2 (.lst [V.bl (decide (8 = k)), V.bl (decide (9 = k)), V.bl (decide (10 = k))])) l2 (.lst [V.bl (decide (0 = k)), V.bl (decide (1 = k)), V.bl (decide (2 = k)), V.bl (decide (3 = k)), V.bl (decide (4 = k)), V.bl (decide (5 = k)), V.bl (decide (6 = k)), V.bl (decide (7 = k)), V.bl (decide (8 = k)), V.bl (decide (9 = k)), V.bl (decide (10 = k))]) = G2 at m2 h2
    refine ⟨_, rfl, _, rfl, e, C, _, _, _, rfl, rfl, (fun _ h => h), (m2 _ _ he), Kd.i, Kd.k11, _, rfl, e, C, _, _, _, rfl, rfl, (fun _ h => h), (m2 _ _ he), Kd.i, Kd.k12, (by show 2 ≤ sizeLine; decide), fun a3 ha3 => ?_⟩
    have n3 := same_upd ha3 (o := .lst [V.bl (decide (11 = k)), V.bl (decide (12 = k))])
    refine ⟨l2, a3, _, _, rfl, rfl, n3 _ _ h2, upd_same, (by show 11 + 2 ≤ sizeLine; decide), fun l3 hl3 => ?_⟩
    rw [show ([V.bl (decide (0 = k)), V.bl (decide (1 = k)), V.bl (decide (2 = k)), V.bl (decide (3 = k)), V.bl (decide (4 = k)), V.bl (decide (5 = k)), V.bl (decide (6 = k)), V.bl (decide (7 = k)), V.bl (decide (8 = k)), V.bl (decide (9 = k)), V.bl (decide (10 = k))] ++ [V.bl (decide (11 = k)), V.bl (decide (12 = k))] : List V) = [V.bl (decide (0 = k)), V.bl (decide (1 = k)), V.bl (decide (2 = k)), V.bl (decide (3 = k)), V.bl (decide (4 = k)), V.bl (decide (5 = k)), V.bl (decide (6 = k)), V.bl (decide (7 = k)), V.bl (decide (8 = k)), V.bl (decide (9 = k)), V.bl (decide (10 = k)), V.bl (decide (11 = k)), V.bl (decide (12 = k))] from rfl]
    have m3 := m2.trans (n3.trans (same_upd hl3 (o := .lst [V.bl (decide (0 = k)), V.bl (decide (1 = k)), V.bl (decide (2 = k)), V.bl (decide (3 = k)), V.bl (decide (4 = k)), V.bl (decide (5 = k)), V.bl (decide (6 = k)), V.bl (decide (7 = k)), V.bl (decide (8 = k)), V.bl (decide (9 = k)), V.bl (decide (10 = k)), V.bl (decide (11 = k)), V.bl (decide (12 = k))])))
    have h3 : upd (upd G2 a3 (.lst [V.bl (decide (11 = k)), V.bl (decide (12 = k))])) l3 (.lst [V.bl (decide (0 = k)), V.bl (decide (1 = k)), V.bl (decide (2 = k)), V.bl (decide (3 = k)), V.bl (decide (4 = k)), V.bl (decide (5 = k)), V.bl (decide (6 = k)), V.bl (decide (7 = k)), V.bl (decide (8 = k)), V.bl (decide (9 = k)), V.bl (decide (10 = k)), V.bl (decide (11 = k)), V.bl (decide (12 = k))]) l3 = some (.lst [V.bl (decide (0 = k)), V.bl (decide (1 = k)), V.bl (decide (2 = k)), V.bl (decide (3 = k)), V.bl (decide (4 = k)), V.bl (decide (5 = k)), V.bl (decide (6 = k)), V.bl (decide (7 = k)), V.bl (decide (8 = k)), V.bl (decide (9 = k)), V.bl (decide (10 = k)), V.bl (decide (11 = k)), V.bl (decide (12 = k))]) := upd_same
    generalize hG3 : upd (upd G2 a3 (.lst [V.bl (decide (11 = k)), V.bl (decide (12 = k))])) l3 (.lst [V.bl (decide (0 = k)), V.bl (decide (1 = k)), V.bl (decide (2 = k)), V.bl (decide (3 = k)), V.bl (decide (4 = k)), V.bl (decide (5 = k)), V.bl (decide (6 = k)), V.bl (decide (7 = k)), V.bl (decide (8 = k)), V.bl (decide (9 = k)), V.bl (decide (10 = k)), V.bl (decide (11 = k)), V.bl (decide (12 = k))]) = G3 at m3 h3
    refine ⟨(by show 11 ≤ sizeLine; decide), fun wl hwl => ?_⟩
    have m4 := m3.trans (same_upd hwl (o := .lst [V.str "base", V.str "number", V.str "figures", V.str "rule", V.str "stand", V.str "good", V.str "endless", V.str "rules", V.str "stretch", V.str "many", V.str "text"]))
    have h34 := same_upd hwl (o := .lst [V.str "base", V.str "number", V.str "figures", V.str "rule", V.str "stand", V.str "good", V.str "endless", V.str "rules", V.str "stretch", V.str "many", V.str "text"]) _ _ h3
    refine ⟨_, rfl, (by show 2 ≤ sizeLine; decide), fun w2 hw2 => ?_⟩
    have n5 := same_upd hw2 (o := .lst [V.str "name", V.str "row"])
    refine ⟨wl, w2, _, _, rfl, rfl, n5 _ _ upd_same, upd_same, (by show 11 + 2 ≤ sizeLine; decide), fun w3 hw3 => ?_⟩
    rw [show ([V.str "base", V.str "number", V.str "figures", V.str "rule", V.str "stand", V.str "good", V.str "endless", V.str "rules", V.str "stretch", V.str "many", V.str "text"] ++ [V.str "name", V.str "row"] : List V) = [V.str "base", V.str "number", V.str "figures", V.str "rule", V.str "stand", V.str "good", V.str "endless", V.str "rules", V.str "stretch", V.str "many", V.str "text", V.str "name", V.str "row"] from rfl]
    have n6 := same_upd hw3 (o := .lst [V.str "base", V.str "number", V.str "figures", V.str "rule", V.str "stand", V.str "good", V.str "endless", V.str "rules", V.str "stretch", V.str "many", V.str "text", V.str "name", V.str "row"])
    have m6 := m4.trans (n5.trans n6)
    have h36 := n6 _ _ (n5 _ _ h34)
    have hw36 : upd (upd (upd G3 wl (.lst [V.str "base", V.str "number", V.str "figures", V.str "rule", V.str "stand", V.str "good", V.str "endless", V.str "rules", V.str "stretch", V.str "many", V.str "text"])) w2 (.lst [V.str "name", V.str "row"])) w3 (.lst [V.str "base", V.str "number", V.str "figures", V.str "rule", V.str "stand", V.str "good", V.str "endless", V.str "rules", V.str "stretch", V.str "many", V.str "text", V.str "name", V.str "row"]) w3 = some (.lst (wordL.map V.str)) := upd_same
    have e36 : [V.bl (decide (0 = k)), V.bl (decide (1 = k)), V.bl (decide (2 = k)), V.bl (decide (3 = k)), V.bl (decide (4 = k)), V.bl (decide (5 = k)), V.bl (decide (6 = k)), V.bl (decide (7 = k)), V.bl (decide (8 = k)), V.bl (decide (9 = k)), V.bl (decide (10 = k)), V.bl (decide (11 = k)), V.bl (decide (12 = k))] = (List.range 13).map fun j => V.bl (decide (j = k)) := rfl
    rw [e36] at h36
    generalize hG6 : upd (upd (upd G3 wl (.lst [V.str "base", V.str "number", V.str "figures", V.str "rule", V.str "stand", V.str "good", V.str "endless", V.str "rules", V.str "stretch", V.str "many", V.str "text"])) w2 (.lst [V.str "name", V.str "row"])) w3 (.lst [V.str "base", V.str "number", V.str "figures", V.str "rule", V.str "stand", V.str "good", V.str "endless", V.str "rules", V.str "stretch", V.str "many", V.str "text", V.str "name", V.str "row"]) = G6 at m6 h36 hw36
    refine ⟨_, rfl, w3, l3, rfl, ⟨_, SqL.of hw36⟩, ⟨_, SqL.of h36⟩, compT_zip (K := K) (a := w3) (b := l3) (xs := wordL.map V.str) (ys := (List.range 13).map fun j => V.bl (decide (j = k))) (fun i zs G7 => zs = (if k < i then [V.str dk] else []) ∧ Same G6 G7) rfl ⟨by rw [if_neg (by omega)], Same.refl _⟩ (fun i zs G7 _ ⟨_, m7⟩ => ⟨SqL.of (m7 _ _ hw36), SqL.of (m7 _ _ h36)⟩) ?_ (fun i zs G7 _ ⟨e, _⟩ => by rw [e]; split; exact (by decide : 1 < sizeLine); exact (by decide : 0 < sizeLine)) ?_⟩
    · rintro i x y zs G7 Tp hx hy ⟨rfl, m7⟩ hT
      rw [List.getElem?_map] at hx hy
      obtain ⟨wd, hwd, e1⟩ := Option.map_eq_some_iff.mp hx
      obtain ⟨j, hj, e2⟩ := Option.map_eq_some_iff.mp hy
      have ej : j = i := by
        have q := List.getElem?_eq_some_iff.mp hj
        obtain ⟨_, q⟩ := q
        rw [List.getElem_range] at q
        exact q.symm
      subst e1 e2 ej
      have m8 := m7.trans (same_upd hT (o := .tup [V.str wd, V.bl (decide (j = k))]))
      refine ⟨Tp, _, rfl, SqT.of upd_same, rfl, _, _, rfl, _, _, rfl, rfl, ⟨[some (.str wd), some (.bl (decide (j = k)))], rfl, rfl⟩, ?_⟩
      refine ⟨_, rfl, _, rfl, ?_⟩
      by_cases hjk : j = k
      · rw [decide_eq_true hjk] at m8 ⊢
        refine iteT ⟨_, rfl, ?_, m8⟩
        subst hjk
        rw [hd] at hwd
        cases hwd
        rw [if_neg (by omega), if_pos (by omega)]; rfl
      · rw [decide_eq_false hjk] at m8 ⊢
        refine iteF ⟨?_, m8⟩
        by_cases hlt : k < j
        · rw [if_pos hlt, if_pos (by omega)]
        · rw [if_neg hlt, if_neg (by omega)]
    rintro zs G7 ⟨rfl, m7⟩ fd hfd
    rw [if_pos (show k < (wordL.map V.str).length from hk)]
    have m8 := m6.trans (m7.trans (same_upd hfd (o := .lst [V.str dk])))
    refine ⟨_, rfl, e, C, _, _, _, rfl, rfl, (fun _ h => h), m8 _ _ he, Kd.i, Kd.v, _, rfl, iteT ?_⟩
    refine ⟨_, rfl, _, rfl, (by show 1 ≤ sizeLine; decide), fun dl hdl => ?_⟩
    refine ⟨.lst [.str dk], .lst [.str d], ?_, ?_, (by simp [tdep, tdeps]), ?_⟩
    · rw [TrAt]; exact ⟨fd, _, rfl, SqL.of (same_upd hdl _ _ upd_same), by rw [TrsAt]; exact ⟨_, _, rfl, by rw [TrAt], by rw [TrsAt]⟩⟩
    · rw [TrAt]; exact ⟨dl, _, rfl, SqL.of upd_same, by rw [TrsAt]; exact ⟨_, _, rfl, by rw [TrAt], by rw [TrsAt]⟩⟩
    have et : teq (.lst [.str dk]) (.lst [.str d]) = decide (dk = d) := by
      simp only [teq, teqs, Bool.and_true]
      rw [Bool.eq_iff_iff, beq_iff_eq, decide_eq_true_iff]
    have q := kk _ (m8.trans (same_upd hdl (o := .lst [V.str d])))
    rw [← et] at q
    exact q
end
end Lw
set_option Elab.async false
set_option linter.all false
set_option maxRecDepth 100000
namespace Lw
open PySem L2 PyProof.Rows
theorem iteB {c : Bool} {A B : Prop} (hc : c = false) (h : B) : if c = true then A else B := by rw [hc]; exact iteF h
theorem iteA {c : Bool} {A B : Prop} (hc : c = true) (h : A) : if c = true then A else B := by rw [hc]; exact iteT h
theorem dec_ints {i j : Int} (h : ¬ i = j) : decide (V.int i = V.int j) = false := decide_eq_false (fun z => h (by injection z))
section
variable {P : Program} {w : World} {K : PySem.W.Frag} {mg : Str → Option Value} {base : Heap}
def tells (d e : PyData) (door : Nat) : Option Bool := if rulesT d = false then some true else if door = 4 then none else if door < 2 then (if numT e = false then some false else none) else if boundT e = false then some false else none
def wordOf : Option Bool → Str
  | none => ""
  | some true => "rules"
  | some false => "number"
theorem tells_R {d e : PyData} {door : Nat} (h : rulesT d = false) : tells d e door = some true := by unfold tells; rw [if_pos h]
theorem tells_N {d e : PyData} {door : Nat} (h : rulesT d = true) (h2 : door < 2) (hn : numT e = false) : tells d e door = some false := by unfold tells; rw [if_neg (by rw [h]; intro z; cases z), if_neg (by omega), if_pos h2, if_pos hn]
theorem tells_B {d e : PyData} {door : Nat} (h : rulesT d = true) (h2 : ¬ door < 2) (h4 : door ≠ 4) (hn : boundT e = false) : tells d e door = some false := by unfold tells; rw [if_neg (by rw [h]; intro z; cases z), if_neg h4, if_neg h2, if_pos hn]
theorem tells_no1 {d e : PyData} {door : Nat} (h : rulesT d = true) (h2 : door < 2) (hn : numT e = true) : tells d e door = none := by unfold tells; rw [if_neg (by rw [h]; intro z; cases z), if_neg (by omega), if_pos h2, if_neg (by rw [hn]; intro z; cases z)]
theorem tells_no2 {d e : PyData} {door : Nat} (h : rulesT d = true) (h2 : ¬ door < 2) (h4 : door ≠ 4) (hn : boundT e = true) : tells d e door = none := by unfold tells; rw [if_neg (by rw [h]; intro z; cases z), if_neg h4, if_neg h2, if_neg (by rw [hn]; intro z; cases z)]
theorem tells_no4 {d e : PyData} {door : Nat} (h : rulesT d = true) (h4 : door = 4) : tells d e door = none := by unfold tells; rw [if_neg (by rw [h]; intro z; cases z), if_pos h4]
def sp__law_word : Sp := fun vs H Q _ => ∃ (door : Nat) (v u : V) (d e : PyData), vs = [.int door, v, u] ∧ ThAt H d v ∧ ThAt H e u ∧ sizT d ≤ 100000 ∧ door < 5 ∧ (∀ n : Nat, e = .int n → door < 2 → rulesT d = true → n < 2 ^ 199) ∧ (door = 4 → ∀ (l : Addr) (rs : List RL), v = .ref l → RulesAt H l rs → GoodRs rs → sameB (rs.map RL.con) = true ∧ (needC (rs.map RL.con)).length ≤ 4) ∧ ∀ H', Same H H' → Q (.str (wordOf (tells d e door))) H'
theorem sc__law_word : FnScope ["door", "rules", "n", "caught", "e"] ["door", "rules", "n"] (defScope s__law_word) := ⟨rfl, rfl, rfl, by decide +kernel, rfl, by decide +kernel, by decide +kernel⟩
set_option maxHeartbeats 4000000 in
theorem ok__law_word {CNoBase CNoNumber CNoFigures CNoRule CNoStand CNoGood CEndless CNoRules CNoStretch CTooMany CNoText CNoName CNoRow CLackError : Addr} {f f1 f2 f3 f4 f5 f6 : Addr} {fd fd1 fd2 fd3 fd4 fd5 fd6 : FuncData} (D : Df K mg "_law_word" s__law_word ["door", "rules", "n"] f fd) (Dkeeps_all : Df K mg "keeps_all" s_keeps_all ["rules", "n"] f1 fd1) (Gkeeps_all : FnOk P w K mg base (CX1 P w) 10 f1 fd1 ["rules", "n"] (sp_keeps_all CNoRules CNoNumber)) (Dnext_keeping : Df K mg "next_keeping" s_next_keeping ["rules", "n"] f2 fd2) (Gnext_keeping : FnOk P w K mg base (CX1 P w) 10 f2 fd2 ["rules", "n"] (sp_next_keeping CNoRules CNoNumber))
    (Dcount_keeping : Df K mg "count_keeping" s_count_keeping ["rules", "n"] f3 fd3) (Gcount_keeping : FnOk P w K mg base (CX1 P w) 11 f3 fd3 ["rules", "n"] (sp_count_keeping CNoRules CNoNumber)) (Dall_keeping : Df K mg "all_keeping" s_all_keeping ["rules", "n"] f4 fd4) (Gall_keeping : FnOk P w K mg base (CX1 P w) 10 f4 fd4 ["rules", "n"] (sp_all_keeping CNoRules CNoNumber)) (Done_rule : Df K mg "one_rule" s_one_rule ["rules"] f5 fd5) (Gone_rule : FnOk P w K mg base (CX1 P w) 9 f5 fd5 ["rules"] (sp_one_rule CNoRules CTooMany))
    (D_law_kind : Df K mg "_law_kind" s__law_kind ["e", "due"] f6 fd6) (XN : XNames mg CNoBase CNoNumber CNoFigures CNoRule CNoStand CNoGood CEndless CNoRules CNoStretch CTooMany CNoText CNoName CNoRow) (n_ValueError : mg "ValueError" = none) (h_LackError : CatchC K mg "LackError" CLackError)
    (kt_NoRules : PySem.W.kitCls K (.ref CNoRules) (.ref CLackError) = some true) (kt_NoNumber : PySem.W.kitCls K (.ref CNoNumber) (.ref CLackError) = some true) (kt_TooMany : PySem.W.kitCls K (.ref CTooMany) (.ref CLackError) = some true) (kd_NoRules : KindK K CNoRules CNoBase CNoNumber CNoFigures CNoRule CNoStand CNoGood CEndless CNoRules CNoStretch CTooMany CNoText CNoName CNoRow 7) (kd_NoNumber : KindK K CNoNumber CNoBase CNoNumber CNoFigures CNoRule CNoStand CNoGood CEndless CNoRules CNoStretch CTooMany CNoText CNoName CNoRow 1)
    (T : Blt mg) (U : Blt2 mg) : FnOk P w K mg base CX0 12 f fd ["door", "rules", "n"] sp__law_word := by
  have G_law_kind : FnOk P w K mg base CX0 1 f6 fd6 ["e", "due"] (sp__law_kind K CNoBase CNoNumber CNoFigures CNoRule CNoStand CNoGood CEndless CNoRules CNoStretch CTooMany CNoText CNoName CNoRow) := ok__law_kind D_law_kind XN n_ValueError T U
  refine D.fn.ok sc__law_word (fun vs H Q E h => ?_) (fun cdv A outer s H vs Q E hr h => ?_)
  · obtain ⟨door, v, u, d, e, rfl, _⟩ := h; rfl
  · obtain ⟨door, v, u, d, e, rfl, hd, he, hs, h5, hN, h4, kk⟩ := h
    have HU := HUof hr
    refine ⟨_, (pss_cons (ps_set (i := 3) sc__law_word.nd rfl (Or.inr rfl) pe_non)
      (pss_cons (ps_tryAs (i := 4) h_LackError rfl rfl sc__law_word.nd rfl rfl (fun _ _ _ hS =>
        (pss_one (ps_if (pt_cmpR op_eq (pv 0) pe_int (nomark _))
          (pss_one (ps_expr (pcallX Dkeeps_all Gkeeps_all (hr.mono (by decide)) hS (pa_cons (pv 1) (pa_cons (pv 2) pa_nil)))))
          (pss_one (ps_if (pt_cmpR op_eq (pv 0) pe_int (nomark _))
            (pss_one (ps_expr (pcallX Dnext_keeping Gnext_keeping (hr.mono (by decide)) hS (pa_cons (pv 1) (pa_cons (pv 2) pa_nil)))))
            (pss_one (ps_if (pt_cmpR op_eq (pv 0) pe_int (nomark _))
              (pss_one (ps_expr (pcallX Dcount_keeping Gcount_keeping (hr.mono (by decide)) hS (pa_cons (pv 1) (pa_cons (pv 2) pa_nil)))))
              (pss_one (ps_if (pt_cmpR op_eq (pv 0) pe_int (nomark _))
                (pss_one (ps_expr (pcallX Dall_keeping Gall_keeping (hr.mono (by decide)) hS (pa_cons (pv 1) (pa_cons (pv 2) pa_nil)))))
                (pss_one (ps_expr (pcallX Done_rule Gone_rule (hr.mono (by decide)) hS (pa_cons (pv 1) pa_nil))))))))))))) (fun _ =>
        (pss_one (ps_set (i := 3) sc__law_word.nd rfl (Or.inr rfl) (pv 4)))))
      (pss_cons (ps_if (pt_cmpR op_isN (pv 3) pe_non (nomark _))
        (pss_one (ps_ret pe_str))
        pss_nil)
      (pss_one (ps_ret (pe_ix (k_ixL K) (pe_op op_cat (pe_comp (show CScope (defScope s__law_word) _ "word" ["door", "rules", "n", "caught", "e"] ["caught"] [3] from ⟨rfl, by decide +kernel, by decide +kernel, rfl, by decide +kernel, rfl, by decide +kernel, by decide +kernel⟩) rfl (k_pi K (pe_lst (pa_str (pa_str (pa_str pa_nil))))) (fun _ _ _ _ => (pts_one (pt_val (pcall D_law_kind G_law_kind (hr.mono (by decide)) (pa_cons (pv 1) (pa_cons (pv 0) pa_nil)))))) (fun _ _ _ _ => (pv 0))) (pe_lst (pa_str pa_nil))) pe_int (fun _ _ => rfl))))))), ?_⟩
    have eR : ∀ (x : Addr) (H1 : Hp), rulesT d = false → Same H H1 → H1 x = none → ∃ (C : Addr) (k : Nat) (dk : Str), upd H1 x (excO x CNoRules) x = some (excO x C) ∧ KindK K C CNoBase CNoNumber CNoFigures CNoRule CNoStand CNoGood CEndless CNoRules CNoStretch CTooMany CNoText CNoName CNoRow k ∧ wordL[k]? = some dk ∧ (dk = "rules" ∨ dk = "number") ∧ Same H (upd H1 x (excO x CNoRules)) ∧ wordOf (tells d e door) = dk := fun x H1 q m hx =>
      ⟨CNoRules, 7, "rules", upd_same, kd_NoRules, rfl, .inl rfl, m.trans (same_upd hx), by rw [tells_R q]; rfl⟩
    have eN : ∀ (x : Addr) (H1 : Hp), tells d e door = some false → Same H H1 → H1 x = none → ∃ (C : Addr) (k : Nat) (dk : Str), upd H1 x (excO x CNoNumber) x = some (excO x C) ∧ KindK K C CNoBase CNoNumber CNoFigures CNoRule CNoStand CNoGood CEndless CNoRules CNoStretch CTooMany CNoText CNoName CNoRow k ∧ wordL[k]? = some dk ∧ (dk = "rules" ∨ dk = "number") ∧ Same H (upd H1 x (excO x CNoNumber)) ∧ wordOf (tells d e door) = dk := fun x H1 q m hx =>
      ⟨CNoNumber, 1, "number", upd_same, kd_NoNumber, rfl, .inr rfl, m.trans (same_upd hx), by rw [q]; rfl⟩
    have eO : ∀ H1 : Hp, tells d e door = none → Same H H1 → Q (.str "") H1 := fun H1 q m => by
      have z := kk H1 m
      rw [q] at z
      exact z
    have dd : door = 0 ∨ door = 1 ∨ door = 2 ∨ door = 3 ∨ door = 4 := by omega
    rcases dd with rfl | rfl | rfl | rfl | rfl
    case' inl =>
      refine ⟨_, rfl, rfl, _, rfl, iteA (decide_eq_true rfl) ⟨_, rfl, _, rfl, v, u, d, e, rfl, hd, he, hs, fun q H1 m => ⟨_, rfl, kt_NoRules, fun x hx => ?r0⟩, fun q ql H1 m => ⟨_, rfl, kt_NoNumber, fun x hx => ?n0⟩, fun q n en => ⟨Nat.lt_trans (hN n en (by decide) q) (by decide +kernel), fun y H1 m => ⟨_, rfl, rfl, _, rfl, iteT (eO H1 (tells_no1 q (by decide) (by rw [en]; exact decide_eq_true (Int.natCast_nonneg n))) m)⟩⟩⟩⟩
    case' r0 =>
      obtain ⟨C, k, dk, hC, Kd, hw, hdk, m2, hq⟩ := eR x H1 q m hx
      generalize upd H1 x (excO x CNoRules) = H2 at hC m2
    case' n0 =>
      obtain ⟨C, k, dk, hC, Kd, hw, hdk, m2, hq⟩ := eN x H1 (tells_N q (by decide) ql) m hx
      generalize upd H1 x (excO x CNoNumber) = H2 at hC m2
    case' inr.inl =>
      refine ⟨_, rfl, rfl, _, rfl, iteB (dec_ints (by decide)) ⟨_, rfl, rfl, _, rfl, iteA (decide_eq_true rfl) ⟨_, rfl, _, rfl, v, u, d, e, rfl, hd, he, hs, fun q H1 m => ⟨_, rfl, kt_NoRules, fun x hx => ?r1⟩, fun q ql H1 m => ⟨_, rfl, kt_NoNumber, fun x hx => ?n1⟩, fun q n en => ⟨hN n en (by decide) q, fun y H1 m => ⟨_, rfl, rfl, _, rfl, iteT (eO H1 (tells_no1 q (by decide) (by rw [en]; exact decide_eq_true (Int.natCast_nonneg n))) m)⟩⟩⟩⟩⟩
    case' r1 =>
      obtain ⟨C, k, dk, hC, Kd, hw, hdk, m2, hq⟩ := eR x H1 q m hx
      generalize upd H1 x (excO x CNoRules) = H2 at hC m2
    case' n1 =>
      obtain ⟨C, k, dk, hC, Kd, hw, hdk, m2, hq⟩ := eN x H1 (tells_N q (by decide) ql) m hx
      generalize upd H1 x (excO x CNoNumber) = H2 at hC m2
    case' inr.inr.inl =>
      refine ⟨_, rfl, rfl, _, rfl, iteB (dec_ints (by decide)) ⟨_, rfl, rfl, _, rfl, iteB (dec_ints (by decide)) ⟨_, rfl, rfl, _, rfl, iteA (decide_eq_true rfl) ⟨_, rfl, _, rfl, v, u, d, e, rfl, hd, he, hs, fun q H1 m => ⟨_, rfl, kt_NoRules, fun x hx => ?r2⟩, fun q ql H1 m => ⟨_, rfl, kt_NoNumber, fun x hx => ?n2⟩, fun q hb y H1 m => ⟨_, rfl, rfl, _, rfl, iteT (eO H1 (tells_no2 q (by decide) (by decide) hb) m)⟩⟩⟩⟩⟩
    case' r2 =>
      obtain ⟨C, k, dk, hC, Kd, hw, hdk, m2, hq⟩ := eR x H1 q m hx
      generalize upd H1 x (excO x CNoRules) = H2 at hC m2
    case' n2 =>
      obtain ⟨C, k, dk, hC, Kd, hw, hdk, m2, hq⟩ := eN x H1 (tells_B q (by decide) (by decide) ql) m hx
      generalize upd H1 x (excO x CNoNumber) = H2 at hC m2
    case' inr.inr.inr.inl =>
      refine ⟨_, rfl, rfl, _, rfl, iteB (dec_ints (by decide)) ⟨_, rfl, rfl, _, rfl, iteB (dec_ints (by decide)) ⟨_, rfl, rfl, _, rfl, iteB (dec_ints (by decide)) ⟨_, rfl, rfl, _, rfl, iteA (decide_eq_true rfl) ⟨_, rfl, _, rfl, v, u, d, e, rfl, hd, he, hs, fun q H1 m => ⟨_, rfl, kt_NoRules, fun x hx => ?r3⟩, fun q ql H1 m => ⟨_, rfl, kt_NoNumber, fun x hx => ?n3⟩, fun q hb p vs H1 hv m => ⟨_, rfl, rfl, _, rfl, iteT (eO H1 (tells_no2 q (by decide) (by decide) hb) m)⟩⟩⟩⟩⟩⟩
    case' r3 =>
      obtain ⟨C, k, dk, hC, Kd, hw, hdk, m2, hq⟩ := eR x H1 q m hx
      generalize upd H1 x (excO x CNoRules) = H2 at hC m2
    case' n3 =>
      obtain ⟨C, k, dk, hC, Kd, hw, hdk, m2, hq⟩ := eN x H1 (tells_B q (by decide) (by decide) ql) m hx
      generalize upd H1 x (excO x CNoNumber) = H2 at hC m2
    case' inr.inr.inr.inr =>
      refine ⟨_, rfl, rfl, _, rfl, iteB (dec_ints (by decide)) ⟨_, rfl, rfl, _, rfl, iteB (dec_ints (by decide)) ⟨_, rfl, rfl, _, rfl, iteB (dec_ints (by decide)) ⟨_, rfl, rfl, _, rfl, iteB (dec_ints (by decide)) ⟨_, rfl, v, d, rfl, hd, hs, fun q H1 m => ⟨_, rfl, kt_NoRules, fun x hx => ?r4⟩, fun q l rs ev R g => ⟨fun z => absurd (h4 rfl l rs ev R g).1 (by rw [z]; intro z2; cases z2), fun _ z => absurd (h4 rfl l rs ev R g).2 (by omega), fun _ _ r nl zs H1 m _ _ _ _ _ => ⟨_, rfl, rfl, _, rfl, iteT (eO H1 (tells_no4 q rfl) m)⟩⟩⟩⟩⟩⟩⟩
      obtain ⟨C, k, dk, hC, Kd, hw, hdk, m2, hq⟩ := eR x H1 q m hx
      generalize upd H1 x (excO x CNoRules) = H2 at hC m2
    all_goals
      refine ⟨_, rfl, _, rfl, rfl, _, rfl, iteF ?_⟩
      have z := kk
      rw [hq] at z
      refine ⟨(by show 3 ≤ sizeLine; decide), fun li hli => ⟨li, rfl, ⟨_, SqL.of upd_same⟩, comp_list (K := K) (a := li) (xs := (["rules", "number", "many"] : List Str).map V.str) (fun i ys H4 => ys = (((["rules", "number", "many"] : List Str).take i).filter fun z => decide (dk = z)).map V.str ∧ Same (upd H2 li (.lst [V.str "rules", V.str "number", V.str "many"])) H4) ⟨by simp, Same.refl _⟩ (fun i ys H4 _ ⟨_, m4⟩ => SqL.of (m4 _ _ upd_same)) ?_ ?_⟩⟩
      · rintro j y ys H4 hj ⟨rfl, m4⟩
        rw [List.getElem?_map] at hj
        obtain ⟨wd, hwd, rfl⟩ := Option.map_eq_some_iff.mp hj
        refine ⟨?_, ?_⟩
        · rw [List.length_map]
          exact Nat.lt_of_le_of_lt (Nat.le_trans (List.length_filter_le _ _) (by rw [List.length_take]; exact Nat.min_le_right _ _)) (by show 3 < sizeLine; decide)
        refine ⟨_, rfl, _, rfl, x, C, k, dk, wd, rfl, m4 _ _ (same_upd hli _ _ hC), Kd, hw, fun H5 m5 => ⟨_, rfl, ?_⟩⟩
        rw [List.take_succ, hwd, List.filter_append, List.map_append]
        by_cases e : dk = wd
        · rw [decide_eq_true e]
          refine iteT ⟨_, rfl, ?_, m4.trans m5⟩
          simp [e]
        · rw [decide_eq_false e]
          refine iteF ⟨?_, m4.trans m5⟩
          simp [e]
      · rintro ys H4 ⟨rfl, m4⟩ Dd hD
        have hf : (((["rules", "number", "many"] : List Str).take ((["rules", "number", "many"] : List Str).map V.str).length).filter fun z => decide (dk = z)).map V.str = [V.str dk] := by rcases hdk with rfl | rfl <;> rfl
        rw [hf]
        refine ⟨(by show 1 ≤ sizeLine; decide), fun o ho => ⟨Dd, o, _, _, rfl, rfl, same_upd ho _ _ upd_same, upd_same, (by show 1 + 1 ≤ sizeLine; decide), fun r hr => ?_⟩⟩
        exact ⟨r, _, _, .str dk, rfl, rfl, SqL.of upd_same, rfl, z _ ((((m2.trans (same_upd hli)).trans m4).trans (same_upd hD)).trans ((same_upd ho).trans (same_upd hr)))⟩
end
end Lw
set_option Elab.async false
set_option linter.all false
set_option maxRecDepth 100000
namespace L2
open PySem PySem.Spec PyProof.Rows
def rRev3 (K : PySem.W.Frag) (te : TE) : TE := fun σ H Q => te σ H fun x H1 => ∃ a x0 x1 x2 x3 x4 x5, x = .ref a ∧ SqL K H1 a [x0, x1, x2, x3, x4, x5] ∧ ∀ p, H1 p = none → Q (.ref p) (upd H1 p (.lst [x2, x1, x0]))
theorem pick3 (a0 a1 a2 a3 a4 a5 : Value) : slicePick #[a0, a1, a2, a3, a4, a5] (some 2) none (some (-1)) = #[a2, a1, a0] := by rfl
theorem six {x0 x1 x2 x3 x4 x5 : V} {us : List Value} (r : Vals [x0, x1, x2, x3, x4, x5] us) : ∃ u0 u1 u2 u3 u4 u5, us = [u0, u1, u2, u3, u4, u5] ∧ RelV x0 u0 ∧ RelV x1 u1 ∧ RelV x2 u2 := by
  cases r with
  | cons g0 r => cases r with
    | cons g1 r => cases r with
      | cons g2 r => cases r with
        | cons _ r => cases r with
          | cons _ r => cases r with
            | cons _ r => cases r; exact ⟨_, _, _, _, _, _, rfl, g0, g1, g2⟩
theorem pe_rev3 {X : Cx} {e : Expr} {te : TE} {j j2 : Nat} {p0 p1 p2 p3 pos : Pos} (he : PE X e te) : PE X (.Subscript e (.Slice (some (.Constant (.int 2) j2 p0)) none (some (.UnaryOp .USub (.Constant (.int 1) j p1) p2)) p3) pos) (rRev3 X.K te) := by
  intro pins s σ H Q I h
  refine Subscript_ (thn (he pins s σ H _ I h) fun v s1 ⟨x, H1, I1, r1, q1⟩ => ?_)
  obtain ⟨a, x0, x1, x2, x3, x4, x5, rfl, hx, q⟩ := q1
  cases r1
  refine wpAny_Slice ?_
  rw [evalPart_some]
  refine thn (pe_int (X := X) pins s1 σ H1 (fun v H2 => v = .int 2 ∧ H2 = H1) I1 ⟨rfl, rfl⟩) fun u s2 ⟨y, H2, I2, r2, e1, e2⟩ => ?_
  subst e1 e2
  obtain ⟨t2, rfl⟩ := r2
  rw [evalPart_none]
  refine wpAny_pure ?_
  rw [evalPart_some]
  refine thn (pe_un un_neg (pe_int (X := X)) pins s2 σ H2 (fun v H3 => v = .int (-1) ∧ H3 = H2) I2 ⟨1, rfl, rfl, rfl⟩) fun u s3 ⟨y, H3, I3, r3, e1, e2⟩ => ?_
  subst e1 e2
  obtain ⟨t, rfl⟩ := r3
  have I4 : Inv X pins σ H3 { s3 with heap := s3.heap.push { cls := .type "slice", data := .fields #[.int 2 t2, .none, .int (-1) t] } } := I3.kept (t' := s3.toks) fun b ob q => Heap.get?_push_of_some _ q
  obtain ⟨its', r', ht', hz'⟩ := I4.list hx
  have hlen' := r'.length
  show wpAny (model X.prog X.w) X.A (subscriptTail e (.Slice (some _) none (some _) p3) (.ref a) (.ref s3.heap.objs.size)) (EP X pins σ Q) X.xe { s3 with heap := s3.heap.push { cls := .type "slice", data := .fields #[.int 2 t2, .none, .int (-1) t] } }
  refine tail_any (ops := [.ref a, .ref s3.heap.objs.size]) ht'.isList.typeIs slot_list_getitem.lookup ?_ (by with_unfolding_all rfl)
  refine wpAny_getItem_list_slice ht'.isList (Heap.IsSliceOf.new ..) (.int 2 t2) .none (.int (-1) t) (by simp) ?_ (by rw [List.size_toArray] <;> omega)
  have e6 : ∃ u0 u1 u2 u3 u4 u5, its' = [u0, u1, u2, u3, u4, u5] ∧ RelV x0 u0 ∧ RelV x1 u1 ∧ RelV x2 u2 := six r'
  obtain ⟨u0, u1, u2, u3, u4, u5, rfl, g0, g1, g2⟩ := e6
  rw [show slicePick ([u0, u1, u2, u3, u4, u5] : List Value).toArray (some 2) none (some (-1)) = #[u2, u1, u0] from pick3 u0 u1 u2 u3 u4 u5]
  refine ⟨.ref _, _, I4.laid (t' := s3.toks) (o := .lst [x2, x1, x0]) (fun b ob q => Heap.get?_push_of_some _ q) (Nat.le_refl _) ?_, rfl, q _ (I4.hok.fresh (Nat.le_refl _))⟩
  exact ⟨by show 3 ≤ sizeLine; decide, [u2, u1, u0], 0, .cons g2 (.cons g1 (.cons g0 .nil)), Heap.get?_push_size _ rfl⟩
section
variable {w : View} {Γ : Cxt} {te ta tb : TE} {lo hi lo' hi' : Nat} {i j i' j' : Int} {K : PySem.W.Frag}
theorem Tp.rev3D {d0 d1 d2 d3 d4 d5 : PyData} (h : Tp w Γ te (tyD (.list [d0, d1, d2, d3, d4, d5]))) : Tp w Γ (rRev3 K te) (tyD (.list [d2, d1, d0])) := fun σ H Q o f q => h σ H _ o f fun v H1 o1 s1 t1 => by
  have t1 : ThAt (w.v H1) (.list [d0, d1, d2, d3, d4, d5]) v := t1
  rw [ThAt] at t1
  obtain ⟨a, vs, e, ha, hs⟩ := t1
  have hl := hs.len
  match vs, hl, ha, hs with
  | [x0, x1, x2, x3, x4, x5], _, ha, hs =>
    refine ⟨a, x0, x1, x2, x3, x4, x5, e, SqL.of (w.out ha), fun p hp => ?_⟩
    obtain ⟨o3, s3, e3⟩ := w.new (.lst [x2, x1, x0]) o1 hp
    have hr := (hs.take 3).rev
    exact q (.ref p) _ o3 (s1.trans s3) (ThAt.lst (ds := [d2, d1, d0]) e3 (ThsAt.same s3 hr))
theorem Tp.repT {T : Ty} {c c' : Nat} (ha : Tp w Γ ta (tyLof T lo hi)) (hb : Tp w Γ tb (tyI c c')) (hm : hi * c' ≤ 10000 := by decide) (hc : c' ≤ 10000 := by decide) : Tp w Γ (tOp rRep ta tb) (tyLof T (lo * c) (hi * c')) := fun σ H Q o f q => ha σ H _ o f fun v H1 o1 s1 t1 => hb σ H1 _ o1 (f.same s1) fun u H2 o2 s2 ⟨y, e2, a2, b2⟩ => by
  obtain ⟨a, vs, e1, g1, l1, m1, r1⟩ := (tyLof T lo hi).mo s2 t1
  have hy : y.toNat ≤ c' := by omega
  have hz : c ≤ y.toNat := by omega
  refine ⟨a, y, vs, e1, e2, w.out g1, by omega, by omega, small_line (Nat.le_trans (Nat.mul_le_mul m1 hy) hm), fun p hp => ?_⟩
  obtain ⟨o3, s3, e3⟩ := w.new (.lst (List.replicate y.toNat vs).flatten) o2 hp
  exact q (.ref p) _ o3 (s1.trans (s2.trans s3)) ⟨p, _, rfl, e3, by rw [len_rep, Nat.mul_comm lo]; exact Nat.mul_le_mul hz l1, by rw [len_rep, Nat.mul_comm hi]; exact Nat.mul_le_mul hy m1, fun x hx => T.mo s3 (r1 x (mem_rep hx))⟩
theorem Tp.min2 {l : Int} (ha : Tp w Γ ta (tyI i j)) (hb : Tp w Γ tb (tyI i' j')) (h1 : l ≤ i := by first | decide | omega) (h2 : l ≤ i' := by first | decide | omega) : Tp w Γ (tCB (fun xs H Q => ∃ i j, xs = [.int i, .int j] ∧ Q (.int (if j < i then j else i)) H) (tCons ta (tCons tb tNil))) (tyI l j') := fun σ H Q o f q => ha σ H _ o f fun v H1 o1 s1 ⟨x, e1, a1, b1⟩ => hb σ H1 _ o1 (f.same s1) fun u H2 o2 s2 ⟨y, e2, a2, b2⟩ =>
  ⟨x, y, by rw [e1, e2], q _ H2 o2 (s1.trans s2) ⟨_, rfl, by split <;> omega, by split <;> omega⟩⟩
theorem Tp.compL {js : List Nat} {T T' : Ty} (hl : Tp w Γ ta (tyLof T lo hi)) (h : Tp w (some T :: js.map fun j => (Γ[j]?).join) te T') (hc : hi ≤ 10000 := by decide) : Tp w Γ (tComp (iList K ta) js tYes te) (tyLof T' lo hi) := fun σ H Q o f q => hl σ H _ o f fun v H1 o1 s1 ⟨a, vs, e1, g1, l1, m1, r1⟩ => by
  refine ⟨a, e1, ⟨_, SqL.of (w.out g1)⟩, comp_list (K := K) (a := a) (xs := vs) (fun i ys H2 => ys.length = i ∧ w.ok H2 ∧ Same (w.v H1) (w.v H2) ∧ ∀ u ∈ ys, T'.p (w.v H2) u) ⟨rfl, o1, Same.refl _, by simp⟩ (fun i us H2 _ ⟨_, _, s2, _⟩ => SqL.of (w.out (s2 _ _ g1))) ?_ ?_⟩
  · rintro i x ys H2 hx ⟨l2, o2, s2, r2⟩
    have hi2 : i < vs.length := (List.getElem?_eq_some_iff.mp hx).1
    refine ⟨by rw [l2]; exact Nat.lt_of_lt_of_le (show i < hi by omega) (small_line hc), ?_⟩
    show te (some x :: capt js σ) H2 _
    refine h _ H2 _ o2 (Fits.cons (T.mo s2 (r1 x (List.mem_of_getElem? hx))) (fits_capt (f.same (s1.trans s2)) js)) fun v H3 o3 s3 t3 => ⟨by rw [List.length_append, l2]; rfl, o3, s2.trans s3, fun u hu => ?_⟩
    rcases List.mem_append.mp hu with hu | hu
    · exact T'.mo s3 (r2 u hu)
    · rw [List.mem_singleton.mp hu]; exact t3
  · rintro ys H2 ⟨l2, o2, s2, r2⟩ D hD
    obtain ⟨o4, s4, e4⟩ := w.new (.lst ys) o2 hD
    exact q (.ref D) _ o4 (s1.trans (s2.trans s4)) ⟨D, ys, rfl, e4, by omega, by omega, fun u hu => T'.mo s4 (r2 u hu)⟩
theorem Tp.takeT {T : Ty} {c : Nat} (h : Tp w Γ te (tyLof T lo hi)) (hc : c ≤ lo := by decide) : Tp w Γ (tSl (rSlL K) te tNoPart (tPart (tC (.int c)))) (tyLof T c c) := fun σ H Q o f q => h σ H _ o f fun v H1 o1 s1 ⟨a, vs, e1, g1, l1, m1, r1⟩ => ⟨c, rfl, by
  refine ⟨a, vs, e1, SqL.of (w.out g1), fun p hp => ?_⟩
  rw [cutV_to]
  obtain ⟨o3, s3, e3⟩ := w.new (.lst (vs.take c)) o1 hp
  exact q (.ref p) _ o3 (s1.trans s3) ⟨p, _, rfl, e3, by rw [List.length_take]; omega, by rw [List.length_take]; omega, fun u hu => T.mo s3 (r1 u (List.mem_of_mem_take hu))⟩⟩
theorem Tp.takeU {T : Ty} {c : Nat} (h : Tp w Γ te (tyLof T lo hi)) : Tp w Γ (tSl (rSlL K) te tNoPart (tPart (tC (.int c)))) (tyLof T 0 c) := fun σ H Q o f q => h σ H _ o f fun v H1 o1 s1 ⟨a, vs, e1, g1, l1, m1, r1⟩ => ⟨c, rfl, by
  refine ⟨a, vs, e1, SqL.of (w.out g1), fun p hp => ?_⟩
  rw [cutV_to]
  obtain ⟨o3, s3, e3⟩ := w.new (.lst (vs.take c)) o1 hp
  exact q (.ref p) _ o3 (s1.trans s3) ⟨p, _, rfl, e3, Nat.zero_le _, by rw [List.length_take]; omega, fun u hu => T.mo s3 (r1 u (List.mem_of_mem_take hu))⟩⟩
theorem all_app : ∀ {ds es : List PyData} {k : Nat}, PyData.leavesShortAll 40 ds = true ∧ PyData.showableAll ds = true ∧ PyData.depthAll ds ≤ k → PyData.leavesShortAll 40 es = true ∧ PyData.showableAll es = true ∧ PyData.depthAll es ≤ k →
    PyData.leavesShortAll 40 (ds ++ es) = true ∧ PyData.showableAll (ds ++ es) = true ∧ PyData.depthAll (ds ++ es) ≤ k ∧ PyData.weightAll (ds ++ es) = PyData.weightAll ds + PyData.weightAll es
  | [], es, k, _, h => ⟨h.1, h.2.1, h.2.2, by rw [PyData.weightAll, Nat.zero_add]; rfl⟩
  | d :: ds, es, k, h, h' => by
    obtain ⟨h1, h2, h3⟩ := h
    rw [PyData.leavesShortAll, Bool.and_eq_true] at h1
    rw [PyData.showableAll, Bool.and_eq_true] at h2
    rw [PyData.depthAll] at h3
    obtain ⟨g1, g2, g3, g4⟩ := all_app (ds := ds) (es := es) (k := k) ⟨h1.2, h2.2, by omega⟩ h'
    refine ⟨by rw [List.cons_append, PyData.leavesShortAll, h1.1, g1]; rfl, by rw [List.cons_append, PyData.showableAll, h2.1, g2]; rfl, by rw [List.cons_append, PyData.depthAll]; omega, by rw [List.cons_append, PyData.weightAll, PyData.weightAll, g4]; omega⟩
theorem Tp.bent {tx : TE} {k n n' k' W : Nat} {P P' : PyData → Bool} (ha : Tp w Γ ta (tyL k n lo hi)) (hx : Tp w Γ tx (tyQ k n' P)) (hb : Tp w Γ tb (tyL k n lo' hi')) (hP : ∀ (ds : List PyData) d, d ∈ ds → P d = true → P' (.list ds) = true) (hm : hi + 1 + hi' ≤ 10000 := by decide) (hk : k + 1 ≤ k' := by decide) (hn : (n + 1) * hi + (n' + 1) + (n + 1) * hi' ≤ W := by decide) :
    Tp w Γ (tOp rCat (tOp rCat ta (tLst (tCons tx tNil))) tb) (tyQ k' W P') := fun σ H Q o f q => ha σ H _ o f fun v H1 o1 s1 t1 => hx σ H1 _ o1 (f.same s1) fun x H2 o2 s2 t2 => ⟨small_line (by simp), fun p hp => by
  obtain ⟨o3, s3, e3⟩ := w.new (.lst [x]) o2 hp
  obtain ⟨a, vs, e1, g1, l1, m1, r1⟩ := (tyL k n lo hi).mo (s2.trans s3) t1
  refine ⟨a, p, vs, _, e1, rfl, w.out g1, w.out e3, small_line (by show vs.length + 1 ≤ 10000; omega), fun l hl => ?_⟩
  obtain ⟨o4, s4, e4⟩ := w.new (.lst (vs ++ [x])) o3 hl
  refine hb σ _ _ o4 (f.same (((s1.trans s2).trans s3).trans s4)) fun u H5 o5 s5 ⟨b, us, e5, g5, l5, m5, r5⟩ => ?_
  refine ⟨l, b, _, us, rfl, e5, w.out (s5 _ _ e4), w.out g5, small_line (by rw [List.length_append, List.length_singleton]; omega), fun r hr => ?_⟩
  obtain ⟨o6, s6, e6⟩ := w.new (.lst (vs ++ [x] ++ us)) o5 hr
  obtain ⟨ds, a1, a2, a3, a4, a5⟩ := Ths.of fun y hy => Th.same (r1 y hy) ((s4.trans s5).trans s6)
  obtain ⟨es, b1, b2, b3, b4, b5⟩ := Ths.of fun y hy => Th.same (r5 y hy) s6
  obtain ⟨d, c1, c2, c3⟩ := t2
  have c1 := ThAt.same (((s3.trans s4).trans s5).trans s6) c1
  have f1 : PyData.leavesShortAll 40 [d] = true ∧ PyData.showableAll [d] = true ∧ PyData.depthAll [d] ≤ k := ⟨by rw [PyData.leavesShortAll, PyData.leavesShortAll, c2.ls]; rfl, by rw [PyData.showableAll, PyData.showableAll, c2.sh]; rfl, by rw [PyData.depthAll, PyData.depthAll]; have := c2.dp; omega⟩
  have w1 : PyData.weightAll [d] ≤ n' + 1 := by rw [PyData.weightAll, PyData.weightAll]; have := c2.wt; omega
  obtain ⟨y1, y2, y3, y4⟩ := all_app ⟨a2, a3, a4⟩ f1
  obtain ⟨z1, z2, z3, z4⟩ := all_app ⟨y1, y2, y3⟩ ⟨b2, b3, b4⟩
  have ww : (n + 1) * vs.length ≤ (n + 1) * hi := Nat.mul_le_mul_left _ m1
  have wu : (n + 1) * us.length ≤ (n + 1) * hi' := Nat.mul_le_mul_left _ m5
  refine q (.ref r) _ o6 (((((s1.trans s2).trans s3).trans s4).trans s5).trans s6) ⟨.list (ds ++ [d] ++ es), ThAt.lst e6 (ThsAt.app (ThsAt.app a1 (by rw [ThsAt]; exact ⟨_, _, rfl, c1, by rw [ThsAt]⟩)) b1), ⟨by rw [PyData.leavesShort]; exact z1, by rw [PyData.showable]; exact z2, by rw [PyData.depth]; omega, by rw [PyData.weight, z4, y4]; omega⟩, hP _ d (by simp) c3⟩⟩
end
end L2
set_option Elab.async false
set_option linter.all false
set_option maxRecDepth 100000
namespace Lw
open PySem L2 PyProof.Rows
def sV (s : Addr) : View := ⟨aw [s], fun H => Sto H s, fun h => aw_same _ _ _ _ h, fun {H p} o ok hp => by
  refine ⟨?_, (same_upd hp).aw _, ?_⟩
  · obtain ⟨g, x, k, e⟩ := ok
    exact ⟨g, x, k, same_upd hp _ _ e⟩
  rw [aw_out, upd_same]
  intro z
  exact ok.ne hp (List.mem_singleton.mp z)⟩
section
variable {K : PySem.W.Frag} {s : Addr} {Γ : Cxt} {te : TE} {lo hi : Int} {x : Nat}
theorem tp_take (hd : Γ[x]? = some (some (tyEq (.ref s)))) (h : Tp (sV s) Γ te (tyI lo hi)) (h1 : 1 ≤ lo := by first | decide | omega) (h2 : hi ≤ 1000 := by first | decide | omega) : Tp (sV s) Γ (tCall sp__law_take [] E0 (tCons (tVar x) (tCons te tNil))) (tyI 0 (hi - 1)) := fun σ H Q o f q => by
  obtain ⟨v, e, t⟩ := f.2 x _ hd
  refine ⟨v, e, h σ H _ o f fun u H1 o1 s1 ⟨m, e1, a1, b1⟩ => ⟨s, m, by rw [show v = V.ref s from t, e1]; rfl, o1, by omega, Int.lt_of_le_of_lt (Int.le_trans b1 h2) (by decide +kernel), fun r H' hr S => q _ H' S.st (s1.trans S.aw) ⟨r, rfl, by omega, by omega⟩⟩⟩
def badD (ls : List (List Int)) : PyData := .list (ls.map fun l => .list (l.map .int))
def tyRx (b : Nat) (ls : List (List Int)) : Ty := ⟨fun G v => ∃ r bl, v = .ref r ∧ G r = some (.tup [.int b, .ref bl]) ∧ ThAt G (badD ls) (.ref bl), fun s ⟨r, bl, h1, h2, h3⟩ => ⟨r, bl, h1, s _ _ h2, h3.same s⟩⟩
theorem tyRx.of {G : Hp} {r bl : Addr} {b : Nat} {zs : List (Addr × List Int)} (R : RuleAt G r b bl zs) : (tyRx b (zs.map (·.2))).p G (.ref r) := by
  refine ⟨r, bl, rfl, R.tu, ?_⟩
  unfold badD
  rw [List.map_map]
  exact ThAt.lst R.li (ThsAt.map fun z hz => ThAt.ints (R.st z hz))
theorem tp_unpx {w : View} {b i j : Nat} {ls : List (List Int)} {T : Ty} (h : Γ[x]? = some (some (tyRx b ls))) : TpS w Γ (tAsg (tVar x) (gTup K 2 (gCons (gName i) (gCons (gName j) gNil)))) ((Γ.set i (some (tyI b b))).set j (some (tyD (badD ls)))) T := fun D σ H o f qn qr => by
  obtain ⟨v, e, r, bl, e1, h1, h2⟩ := f.2 x _ h
  refine ⟨v, e, r, _, e1, SqT.of (w.out h1), rfl, _, _, rfl, _, _, rfl, rfl, qn _ H o (Same.refl _) ?_⟩
  exact (f.set (T := tyI b b) ⟨b, rfl, Int.le_refl _, Int.le_refl _⟩).set (T := tyD (badD ls)) h2
end
def noFig (b : Int) : PyData → Bool := fun d => !figT b d
def noStr (b : Int) : PyData → Bool := fun d => !stretchT b d
def noBad (b : Int) : PyData → Bool := fun d => !badT b d
def noRul : PyData → Bool := fun d => !ruleT d
def noBas : PyData → Bool := fun d => !baseT d
def noNum : PyData → Bool := fun d => !numT d
def isI (b : Int) : PyData → Bool
  | .int i => decide (i = b)
  | _ => false
section
variable {b : Int} {s : Nat}
theorem noFig_of (hs : s ≠ 2) : ∀ d, shT d = s → noFig b d = true := fun d h => by cases d <;> first | rfl | exact absurd h.symm hs
theorem noStr_of (hs : s ≠ 4) : ∀ d, shT d = s → noStr b d = true := fun d h => by cases d <;> first | rfl | exact absurd h.symm hs
theorem noBad_of (hs : s ≠ 4) : ∀ d, shT d = s → noBad b d = true := fun d h => by cases d <;> first | rfl | exact absurd h.symm hs
theorem noRul_of (hs : s ≠ 5) : ∀ d, shT d = s → noRul d = true := fun d h => by cases d <;> first | rfl | exact absurd h.symm hs
theorem noBas_of (hs : s ≠ 2) : ∀ d, shT d = s → noBas d = true := fun d h => by cases d <;> first | rfl | exact absurd h.symm hs
theorem noNum_of (hs : s ≠ 2) : ∀ d, shT d = s → noNum d = true := fun d h => by cases d <;> first | rfl | exact absurd h.symm hs
theorem noFig_I {x : Int} (h : x < 0 ∨ b ≤ x) : noFig b (.int x) = true := by
  show (!decide (0 ≤ x ∧ x < b)) = true
  rw [decide_eq_false (by omega)]; rfl
theorem noBas_I {x : Int} (h : x < 2 ∨ 16 < x) : noBas (.int x) = true := by
  show (!decide (2 ≤ x ∧ x ≤ 16)) = true
  rw [decide_eq_false (by omega)]; rfl
theorem noNum_I {x : Int} (h : x < 0) : noNum (.int x) = true := by
  show (!decide (0 ≤ x)) = true
  rw [decide_eq_false (by omega)]; rfl
theorem not_t {c : Bool} (h : (!c) = true) : c = false := by cases c <;> first | rfl | cases h
theorem noStr_in (ds : List PyData) (d : PyData) (h : d ∈ ds) (hd : noFig b d = true) : noStr b (.list ds) = true := by
  have : ds.all (figT b) = false := by
    rw [List.all_eq_false]
    exact ⟨d, h, by rw [not_t hd]; intro z; cases z⟩
  show (!(ds.all (figT b) && _)) = true
  rw [this]; rfl
theorem noStr_len {ds : List PyData} (h : ds.length < 1 ∨ 4 < ds.length) : noStr b (.list ds) = true := by
  show (!(ds.all (figT b) && decide (1 ≤ ds.length ∧ ds.length ≤ 4))) = true
  rw [decide_eq_false (by omega), Bool.and_false]; rfl
theorem noBad_in (ds : List PyData) (d : PyData) (h : d ∈ ds) (hd : noStr b d = true) : noBad b (.list ds) = true := by
  have : ds.all (stretchT b) = false := by
    rw [List.all_eq_false]
    exact ⟨d, h, by rw [not_t hd]; intro z; cases z⟩
  show (!(decide (ds.length ≤ 4) && (ds.all (stretchT b) && risingL (ds.map intsT)))) = true
  rw [this, Bool.false_and, Bool.and_false]; rfl
theorem noBad_len {ds : List PyData} (h : 4 < ds.length) : noBad b (.list ds) = true := by
  show (!(decide (ds.length ≤ 4) && _)) = true
  rw [decide_eq_false (by omega), Bool.false_and]; rfl
theorem noBad_rise {ds : List PyData} (h : risingL (ds.map intsT) = false) : noBad b (.list ds) = true := by
  show (!(decide (ds.length ≤ 4) && (ds.all (stretchT b) && risingL (ds.map intsT)))) = true
  rw [h, Bool.and_false, Bool.and_false]; rfl
theorem noRul_1 {b : Int} (d e : PyData) (h : isI b d = true) (he : noBad b e = true) : noRul (.tuple [d, e]) = true := by
  cases d with
  | int i =>
    have h : i = b := of_decide_eq_true h
    subst h
    show (!(baseT (.int i) && badT i e)) = true
    rw [not_t he, Bool.and_false]; rfl
  | _ => cases h
theorem noRul_2 (d e : PyData) (h : noBas d = true) (_ : (fun _ => true) e = true) : noRul (.tuple [d, e]) = true := by
  show (!(baseT d && badT (intT d) e)) = true
  rw [not_t h, Bool.false_and]; rfl
theorem noRul_len {ds : List PyData} (h : ds.length ≠ 2) : noRul (.tuple ds) = true := by
  match ds, h with
  | [], _ => rfl
  | [_], _ => rfl
  | [_, _], h => exact absurd rfl h
  | _ :: _ :: _ :: _, _ => rfl
end
end Lw
set_option Elab.async false
set_option linter.all false
set_option maxRecDepth 100000
namespace Lw
open PySem L2 PyProof.Rows
theorem Fit.lst {k n n' : Nat} {ds : List PyData} (h : ∀ d ∈ ds, Fit k n d) (hn : (n + 1) * ds.length ≤ n') : Fit (k + 1) n' (.list ds) := by
  have go : ∀ ds : List PyData, (∀ d ∈ ds, Fit k n d) → PyData.leavesShortAll 40 ds = true ∧ PyData.showableAll ds = true ∧ PyData.depthAll ds ≤ k ∧ PyData.weightAll ds ≤ (n + 1) * ds.length := by
    intro ds
    induction ds with
    | nil => intro _; exact ⟨by rw [PyData.leavesShortAll], by rw [PyData.showableAll], by rw [PyData.depthAll]; exact Nat.zero_le _, by rw [PyData.weightAll]; exact Nat.zero_le _⟩
    | cons d ds ih =>
      intro h
      obtain ⟨g2, g3, g4, g5⟩ := ih fun d hd => h d (.tail _ hd)
      have f := h d (.head _)
      refine ⟨by rw [PyData.leavesShortAll, f.ls, g2]; rfl, by rw [PyData.showableAll, f.sh, g3]; rfl, ?_, ?_⟩
      · rw [PyData.depthAll]; have := f.dp; omega
      · rw [PyData.weightAll, List.length_cons, Nat.mul_succ]; have := f.wt; omega
  obtain ⟨g2, g3, g4, g5⟩ := go ds h
  exact ⟨by rw [PyData.leavesShort]; exact g2, by rw [PyData.showable]; exact g3, by rw [PyData.depth]; omega, by rw [PyData.weight]; omega⟩
theorem Fit.int {k n : Nat} {i : Int} (h : i.natAbs < 10 ^ 30) (hn : 100 ≤ n) : Fit k n (.int i) := Th.fit (H := fun _ => none) (v := .int i) (Th.int h hn) (by rw [ThAt])
theorem Fit.ints {n : Nat} {l : List Int} (h : ∀ i ∈ l, i.natAbs < 10 ^ 30) (hn : 101 * l.length ≤ n) : Fit 1 n (.list (l.map .int)) := Fit.lst (k := 0) (n := 100) (fun d hd => by
  obtain ⟨i, hi, rfl⟩ := List.mem_map.mp hd
  exact Fit.int (h i hi) (Nat.le_refl _)) (by rw [List.length_map]; exact hn)
theorem bad_fit {b : Nat} {ls : List (List Int)} (g : GoodRule b ls) : ∀ d ∈ ls.map (fun l => PyData.list (l.map .int)), Fit 1 404 d := fun d hd => by
  obtain ⟨l, hl, rfl⟩ := List.mem_map.mp hd
  have st := g.st l hl
  have b16 := g.b16
  exact Fit.ints (fun i hi => by have := st.fig i hi; omega) (by have := st.len; omega)
theorem fitL (ls : List (List Int)) (h1 : ls.length ≤ 6) (h2 : ∀ l ∈ ls, l.length ≤ 4) (h3 : ∀ l ∈ ls, ∀ i ∈ l, i.natAbs < 10 ^ 30) : Fit 3 9856 (.list (ls.map fun l => .list (l.map .int))) :=
  (Fit.lst (k := 1) (n := 404) (n' := 9856) (fun d hd => by
    obtain ⟨l, hl, rfl⟩ := List.mem_map.mp hd
    exact Fit.ints (h3 l hl) (by have := h2 l hl; omega)) (by rw [List.length_map]; omega)).le (by decide) (by decide)
section
variable {P : Program} {w : World} {K : PySem.W.Frag} {mg : Str → Option Value} {base : Heap}
def sp__law_no_rule : Sp := fun vs H Q _ => ∃ (s : Addr) (r : Addr) (b : Nat) (bl : Addr) (zs : List (Addr × List Int)), vs = [.ref s, .ref r] ∧ Sto H s ∧ RuleAt (aw [s] H) r b bl zs ∧ GoodRule b (zs.map (·.2)) ∧ ∀ (v : V) (H' : Hp), Sto H' s → Same (aw [s] H) (aw [s] H') → (tyQ 4 19714 noRul).p (aw [s] H') v → Q v H'
theorem sc__law_no_rule : FnScope ["store", "rule", "base", "bad", "at", "figure", "odd", "spot", "wrong", "few", "rising", "lists", "some"] ["store", "rule"] (defScope s__law_no_rule) := ⟨rfl, rfl, rfl, by decide +kernel, rfl, by decide +kernel, by decide +kernel⟩
set_option maxHeartbeats 4000000 in
theorem ok__law_no_rule {f f1 : Addr} {fd fd1 : FuncData} (D : Df K mg "_law_no_rule" s__law_no_rule ["store", "rule"] f fd) (D_law_take : Df K mg "_law_take" s__law_take ["store", "many"] f1 fd1) (T : Blt mg) : FnOk P w K mg base CX0 2 f fd ["store", "rule"] sp__law_no_rule := by
  have G_law_take : FnOk P w K mg base CX0 1 f1 fd1 ["store", "many"] sp__law_take := ok__law_take D_law_take T
  refine D.fn.ok sc__law_no_rule (fun vs H Q E h => ?_) (fun cdv A outer s H vs Q E hr h => ?_)
  · obtain ⟨s, r, b, bl, zs, rfl, _⟩ := h; rfl
  · obtain ⟨s, r, b, bl, zs, rfl, St, R, g, kk⟩ := h
    have HU := HUof hr
    refine ⟨_, (pss_cons (ps_asg (pv 1) (pg_tup rfl (pgs_cons (pg_name (i := 2) sc__law_no_rule.nd rfl (Or.inl rfl)) (pgs_cons (pg_name (i := 3) sc__law_no_rule.nd rfl (Or.inr rfl)) pgs_nil))))
      (pss_cons (ps_set (i := 4) sc__law_no_rule.nd rfl (Or.inl rfl) (pcall D_law_take G_law_take (hr.mono (by decide)) (pa_cons (pv 0) (pa_cons (pe_op op_add (pe_callB (k_len K) (by rfl) T.n_len PySem.boot_len (pa_cons (pv 3) pa_nil)) pe_int) pa_nil))))
      (pss_cons (ps_set (i := 5) sc__law_no_rule.nd rfl (Or.inl rfl) (pcall D_law_take G_law_take (hr.mono (by decide)) (pa_cons (pv 0) (pa_cons (pv 2) pa_nil))))
      (pss_cons (ps_set (i := 6) sc__law_no_rule.nd rfl (Or.inl rfl) (pe_ixI (k_ixL K) (pei_lst (pai_cons (pei (pv 2)) (pai_cons (pei (pe_un un_neg pe_int)) (pai_cons (pei pe_bl) (pai_cons (pei pe_bl) (pai_cons (pei pe_non) (pai_str (pai_cons (pei_lst (pai_cons pei_int pai_nil)) (pai_cons (pei_tup (pai_cons pei_int pai_nil)) (pai_cons (pei pe_dnewK) (pai_cons (pei (pe_op op_pow pe_int pe_int)) pai_nil))))))))))) (pcall D_law_take G_law_take (hr.mono (by decide)) (pa_cons (pv 0) (pa_cons pe_int pa_nil))) (fun _ _ => rfl)))
      (pss_cons (ps_set (i := 7) sc__law_no_rule.nd rfl (Or.inl rfl) (pcall D_law_take G_law_take (hr.mono (by decide)) (pa_cons (pv 0) (pa_cons pe_int pa_nil))))
      (pss_cons (ps_setI (i := 8) sc__law_no_rule.nd rfl (Or.inl rfl) (pei_lst (pai_cons (pei (pe_op op_cat (pe_op op_rep (pe_lst (pa_cons (pv 5) pa_nil)) (pv 7)) (pe_lst (pa_cons (pv 6) pa_nil)))) (pai_cons (pei_lst pai_nil) (pai_cons (pei (pe_op op_rep (pe_lst (pa_cons (pv 5) pa_nil)) pe_int)) (pai_cons (pei (pe_tup (pa_cons (pv 5) pa_nil))) (pai_cons (pei (pe_op op_cat (pe_op op_cat (pe_op op_rep (pe_lst (pa_cons (pv 5) pa_nil)) (pv 7)) (pe_lst (pa_cons (pv 6) pa_nil))) (pe_op op_rep (pe_lst (pa_cons (pv 5) pa_nil)) (pe_op op_sub pe_int (pv 7))))) pai_nil)))))))
      (pss_cons (ps_set (i := 8) sc__law_no_rule.nd rfl (Or.inl rfl) (pe_ix (k_ixL K) (pe_opJ op_cat (pv 8) (pei_lst (pai_cons (pei pe_non) (pai_cons (pei (pv 5)) (pai_str (pai_cons (pei pe_dnewK) (pai_cons (pei (pe_lst (pa_cons (pe_lst (pa_cons (pv 5) pa_nil)) pa_nil))) (pai_cons (pei pe_bl) pai_nil)))))))) (pcall D_law_take G_law_take (hr.mono (by decide)) (pa_cons (pv 0) (pa_cons pe_int pa_nil))) (fun _ _ => rfl)))
      (pss_cons (ps_set (i := 9) sc__law_no_rule.nd rfl (Or.inl rfl) (pe_slice (k_slL K) (pv 3) po_none (po_some pe_int)))
      (pss_consJ (ps_set (i := 4) sc__law_no_rule.nd rfl (Or.inl rfl) (pe_callB (call_min2 rfl) (by rfl) T.n_min boot_min (pa_cons (pv 4) (pa_cons (pe_callB (k_len K) (by rfl) T.n_len PySem.boot_len (pa_cons (pv 9) pa_nil)) pa_nil))))
      (pssI_set (i := 10) sc__law_no_rule.nd rfl (Or.inl rfl) (pai_cons (pei_lst (pai_cons pei_int pai_nil)) (pai_cons (pei_lst (pai_cons pei_int (pai_cons pei_int pai_nil))) (pai_cons (pei_lst (pai_cons pei_int (pai_cons pei_int pai_nil))) (pai_cons (pei_lst (pai_cons pei_int pai_nil)) (pai_cons (pei_lst (pai_cons pei_int (pai_cons pei_int pai_nil))) (pai_cons (pei_lst (pai_cons pei_int (pai_cons pei_int pai_nil))) pai_nil))))))
      (pss_cons (ps_set (i := 11) sc__law_no_rule.nd rfl (Or.inl rfl) (pe_lst (pa_cons (pe_op op_cat (pe_op op_cat (pe_slice (k_slL K) (pv 9) po_none (po_some (pv 4))) (pe_lst (pa_cons (pv 8) pa_nil))) (pe_slice (k_slL K) (pv 9) (po_some (pv 4)) po_none)) (pa_cons (pe_op op_cat (pe_op op_cat (pe_slice (k_slL K) (pv 9) po_none (po_some (pv 4))) (pe_lst (pa_cons (pv 8) pa_nil))) (pe_slice (k_slL K) (pv 9) (po_some (pv 4)) po_none)) (pa_cons (pe_op op_cat (pe_op op_cat (pe_slice (k_slL K) (pv 9) po_none (po_some (pv 4))) (pe_lst (pa_cons (pv 8) pa_nil))) (pe_slice (k_slL K) (pv 9) (po_some (pe_op op_add (pv 4) pe_int)) po_none)) pa_nil)))))
      (pss_cons (ps_set (i := 11) sc__law_no_rule.nd rfl (Or.inl rfl) (pe_opJ op_cat (pv 11) (pei_lst (pai_cons (pei (pe_slice (k_slL K) (pv 10) po_none (po_some pe_int))) (pai_cons (pei_lst (pai_cons (pei_lst (pai_cons pei_int pai_nil)) (pai_cons (pei_lst (pai_cons pei_int (pai_cons pei_int pai_nil))) pai_nil))) (pai_cons (pei_lst (pai_cons (pei_lst (pai_cons pei_int (pai_cons pei_int pai_nil))) (pai_cons (pei_lst (pai_cons pei_int (pai_cons pei_int pai_nil))) pai_nil))) (pai_cons (pei_lst (pai_cons (pei_lst (pai_cons pei_int pai_nil)) (pai_cons (pei_lst (pai_cons pei_int pai_nil)) pai_nil))) (pai_cons (pei (pe_rev3 (pv 10))) (pai_cons (pei (pe_callTy call_tuple_of (by rfl) T.n_tuple boot_tuple (pa_cons (pv 3) pa_nil))) (pai_cons (pei pe_non) (pai_cons (pei pe_dnewK) (pai_str pai_nil))))))))))))
      (pss_cons (ps_set (i := 12) sc__law_no_rule.nd rfl (Or.inl rfl) (pe_op op_rep (pe_lst (pa_cons (pe_tup (pa_cons (pv 2) (pa_cons (pe_ix (k_ixL K) (pv 11) (pcall D_law_take G_law_take (hr.mono (by decide)) (pa_cons (pv 0) (pa_cons pe_int pa_nil))) (fun _ _ => rfl)) pa_nil))) pa_nil)) pe_int))
      (pss_cons (ps_set (i := 12) sc__law_no_rule.nd rfl (Or.inl rfl) (pe_op op_cat (pv 12) (pe_comp (show CScope (defScope s__law_no_rule) _ "one" ["store", "rule", "base", "bad", "at", "figure", "odd", "spot", "wrong", "few", "rising", "lists", "some"] ["bad"] [3] from ⟨rfl, by decide +kernel, by decide +kernel, rfl, by decide +kernel, rfl, by decide +kernel, by decide +kernel⟩) rfl (k_pi K (pe_lst (pa_cons pe_int (pa_cons pe_int (pa_cons pe_int (pa_cons (pe_un un_neg pe_int) (pa_cons pe_bl (pa_cons pe_non (pa_str (pa_cons (pe_lst (pa_cons pe_int pa_nil)) pa_nil)))))))))) (fun _ _ _ _ => pts_nil) (fun _ _ _ _ => (pe_tup (pa_cons (pv 0) (pa_cons (pe_slice (k_slL K) (pv 1) po_none (po_some pe_int)) pa_nil)))))))
      (pss_cons (ps_set (i := 12) sc__law_no_rule.nd rfl (Or.inl rfl) (pe_opJ op_cat (pv 12) (pei_lst (pai_cons (pei (pe_tup (pa_cons (pv 2) (pa_cons (pv 3) (pa_cons (pe_lst pa_nil) pa_nil))))) (pai_cons (pei (pe_tup (pa_cons (pv 2) pa_nil))) (pai_cons (pei (pe_lst (pa_cons (pv 2) (pa_cons (pv 3) pa_nil)))) (pai_cons (pei (pv 2)) (pai_cons (pei (pv 3)) (pai_cons (pei pe_non) (pai_str (pai_cons (pei pe_dnewK) (pai_cons (pei_tup pai_nil) (pai_cons (pei pe_bl) (pai_cons (pei (pe_op op_pow pe_int pe_int)) pai_nil))))))))))))))
      (pss_one (ps_ret (pe_ix (k_ixL K) (pv 12) (pcall D_law_take G_law_take (hr.mono (by decide)) (pa_cons (pv 0) (pa_cons pe_int pa_nil))) (fun _ _ => rfl))))))))))))))))))), ?_⟩
    have R0 := tyRx.of R
    generalize zs.map (·.2) = ls at g R0
    have b2 := g.b2
    have b16 := g.b16
    have h4 := g.len
    have hb25 : (b : Int) ≤ 10 ^ Int.toNat 25 := Int.le_trans (show (b : Int) ≤ 16 by omega) (by decide)
    have hB : ∀ {Γ : Cxt} {x : Nat}, Γ[x]? = some (some (tyD (badD ls))) → Tp (sV s) Γ (tVar x) (tyL 1 404 0 4) := fun h => Tp.wideL (Tp.dL (Tp.var h) (bad_fit g)) (fun _ _ t => t) (Nat.zero_le _) (by rw [List.length_map]; exact h4)
    refine TpS.go (w := sV s) (Γ := [some (tyEq (.ref s)), some (tyRx b ls), none, none, none, none, none, none, none, none, none, none, none]) (Γ' := [some tyNo]) (T := tyQ 4 19714 noRul) ?ty St (Fits.cons rfl (Fits.cons R0 (Fits.any [none, none, none, none, none, none, none, none, none, none, none]))) (fun _ _ _ _ h => h.no.elim) ?qr
    case ty => exact
      (TpS.seq (tp_unpx rfl)
      (TpS.seq (TpS.asg (T1 := tyI 0 4) (Tp.wide (tp_take rfl (Tp.add (Tp.len (hB rfl)) Tp.int)) (by decide) (by decide)))
      (TpS.seq (TpS.asg (tp_take rfl (Tp.var rfl)))
      (TpS.seq (TpS.asg (Tp.ix (T := tyQ 1 200 (noFig b)) (Tp.lstT (TpB.cons (Tp.qI (Tp.var rfl) (fun x h1 h2 => noFig_I (.inr (by omega))) (by omega) (by omega))
        (TpB.cons (Tp.qI (Tp.neg Tp.int) (fun x h1 h2 => noFig_I (.inl (by omega))))
        (TpB.cons (Tp.sQ Tp.blS (noFig_of (by decide)))
        (TpB.cons (Tp.sQ Tp.blS (noFig_of (by decide)))
        (TpB.cons (Tp.sQ Tp.nonS (noFig_of (by decide)))
        (TpB.cons (Tp.sQ (Tp.strS (by decide +kernel) (by decide +kernel)) (noFig_of (by decide)))
        (TpB.cons (Tp.sQ (Tp.lS (Tp.lst (TpA.cons (Tp.ofI Tp.int) TpA.nil))) (noFig_of (by decide)))
        (TpB.cons (Tp.tupQ (TpA.cons (Tp.ofI Tp.int) TpA.nil) (fun _ _ => rfl))
        (TpB.cons (Tp.sQ Tp.empS (noFig_of (by decide)))
        (TpB.cons (Tp.qI (Tp.pow ⟨by decide, by decide, by decide⟩) (fun x h1 h2 => noFig_I (.inr (Int.le_trans hb25 h1))))
        TpB.nil))))))))))) (tp_take rfl Tp.int) (by decide)))
      (TpS.seq (TpS.asg (T1 := tyI 0 3) (Tp.wide (tp_take rfl Tp.int) (by decide) (by decide)))
      (TpS.seq (TpS.asg (T1 := tyLof (tyQ 2 1407 (noStr b)) 5 5) (Tp.lstT (TpB.cons (Tp.lxQ (Tp.catXr (Tp.leL (Tp.rep (c := 0) (c' := 3) (Tp.lst (TpA.cons (Tp.ofI (Tp.var rfl) (by omega) (by omega)) TpA.nil)) (Tp.wide (Tp.var rfl) (by decide) (by decide)))) (Tp.oneX (Tp.var rfl))) noStr_in)
        (TpB.cons (Tp.lenQ (Tp.lst TpA.nil) (fun ds _ h => noStr_len (.inl (by omega))))
        (TpB.cons (Tp.lenQ (Tp.rep (c := 5) (c' := 5) (Tp.lst (TpA.cons (Tp.ofI (Tp.var rfl) (by omega) (by omega)) TpA.nil)) Tp.int) (fun ds h _ => noStr_len (.inr (by omega))))
        (TpB.cons (Tp.tupQ (TpA.cons (Tp.ofI (Tp.var rfl) (by omega) (by omega)) TpA.nil) (fun _ _ => rfl))
        (TpB.cons (Tp.lxQ (Tp.catXl (Tp.catXr (Tp.leL (Tp.rep (c := 0) (c' := 3) (Tp.lst (TpA.cons (Tp.ofI (Tp.var rfl) (by omega) (by omega)) TpA.nil)) (Tp.wide (Tp.var rfl) (by decide) (by decide)))) (Tp.oneX (Tp.var rfl))) (Tp.leL (Tp.rep (c := 0) (c' := 3) (Tp.lst (TpA.cons (Tp.ofI (Tp.var rfl) (by omega) (by omega)) TpA.nil)) (Tp.wide (Tp.subI Tp.int (Tp.var rfl)) (by decide) (by decide))))) noStr_in)
        TpB.nil)))))))
      (TpS.seq (TpS.asg (T1 := tyQ 2 1407 (noStr b)) (Tp.ix (Tp.catT (Tp.var rfl) (Tp.lstT (TpB.cons (Tp.sQ Tp.nonS (noStr_of (by decide)))
        (TpB.cons (Tp.qI (Tp.var rfl) (fun _ _ _ => rfl) (by omega) (by omega))
        (TpB.cons (Tp.sQ (Tp.strS (by decide +kernel) (by decide +kernel)) (noStr_of (by decide)))
        (TpB.cons (Tp.sQ Tp.empS (noStr_of (by decide)))
        (TpB.cons (Tp.lxQ (Tp.oneX (k := 1) (n := 200) (P := noFig b) (Tp.sQ (Tp.lS (Tp.lst (TpA.cons (Tp.ofI (Tp.var rfl) (by omega) (by omega)) TpA.nil))) (noFig_of (by decide)))) noStr_in)
        (TpB.cons (Tp.sQ Tp.blS (noStr_of (by decide)))
        TpB.nil)))))))) (tp_take rfl Tp.int) (by decide)))
      (TpS.seq (TpS.asg (T1 := tyL 2 1407 0 3) (Tp.leL (Tp.takeU (c := 3) (hB rfl))))
      (TpS.seq (TpS.asg (T1 := tyI 0 3) (Tp.min2 (Tp.var rfl) (Tp.len (Tp.var rfl))))
      (TpS.seq (TpS.asg (T1 := tyD (.list [.list [.int 0], .list [.int 0, .int 0], .list [.int 0, .int 1], .list [.int 1], .list [.int 1, .int 0], .list [.int 1, .int 1]])) (Tp.lstD (TpD.cons (Tp.lstD (TpD.cons Tp.intD TpD.nil)) (TpD.cons (Tp.lstD (TpD.cons Tp.intD (TpD.cons Tp.intD TpD.nil))) (TpD.cons (Tp.lstD (TpD.cons Tp.intD (TpD.cons Tp.intD TpD.nil))) (TpD.cons (Tp.lstD (TpD.cons Tp.intD TpD.nil)) (TpD.cons (Tp.lstD (TpD.cons Tp.intD (TpD.cons Tp.intD TpD.nil))) (TpD.cons (Tp.lstD (TpD.cons Tp.intD (TpD.cons Tp.intD TpD.nil))) TpD.nil))))))))
      (TpS.seq (TpS.asg (T1 := tyLof (tyQ 3 9856 (noBad b)) 3 3) (Tp.lstT (TpB.cons (Tp.lxQ (Tp.catXl (Tp.catXr (Tp.sl (Tp.var rfl) TpO.none (TpO.some (Tp.var rfl))) (Tp.oneX (Tp.var rfl))) (Tp.sl (Tp.var rfl) (TpO.some (Tp.var rfl)) TpO.none)) noBad_in)
        (TpB.cons (Tp.lxQ (Tp.catXl (Tp.catXr (Tp.sl (Tp.var rfl) TpO.none (TpO.some (Tp.var rfl))) (Tp.oneX (Tp.var rfl))) (Tp.sl (Tp.var rfl) (TpO.some (Tp.var rfl)) TpO.none)) noBad_in)
        (TpB.cons (Tp.lxQ (Tp.catXl (Tp.catXr (Tp.sl (Tp.var rfl) TpO.none (TpO.some (Tp.var rfl))) (Tp.oneX (Tp.var rfl))) (Tp.sl (Tp.var rfl) (TpO.some (Tp.add (Tp.var rfl) Tp.int)) TpO.none)) noBad_in)
        TpB.nil)))))
      (TpS.seq (TpS.asg (T1 := tyLof (tyQ 3 9856 (noBad b)) 12 12) (Tp.catT (Tp.var rfl) (Tp.lstT (TpB.cons (Tp.dQ (Tp.takeD (c := 5) (Tp.var rfl)) (fitL [[0], [0, 0], [0, 1], [1], [1, 0]] (by decide) (by decide) (by decide)) (noBad_len (by decide)))
        (TpB.cons (Tp.dQ (Tp.lstD (TpD.cons (Tp.lstD (TpD.cons Tp.intD TpD.nil)) (TpD.cons (Tp.lstD (TpD.cons Tp.intD (TpD.cons Tp.intD TpD.nil))) TpD.nil))) (fitL [[1], [0, 1]] (by decide) (by decide) (by decide)) (noBad_rise (by rfl)))
        (TpB.cons (Tp.dQ (Tp.lstD (TpD.cons (Tp.lstD (TpD.cons Tp.intD (TpD.cons Tp.intD TpD.nil))) (TpD.cons (Tp.lstD (TpD.cons Tp.intD (TpD.cons Tp.intD TpD.nil))) TpD.nil))) (fitL [[0, 1], [0, 1]] (by decide) (by decide) (by decide)) (noBad_rise (by rfl)))
        (TpB.cons (Tp.dQ (Tp.lstD (TpD.cons (Tp.lstD (TpD.cons Tp.intD TpD.nil)) (TpD.cons (Tp.lstD (TpD.cons Tp.intD TpD.nil)) TpD.nil))) (fitL [[0], [0]] (by decide) (by decide) (by decide)) (noBad_rise (by rfl)))
        (TpB.cons (Tp.dQ (Tp.rev3D (Tp.var rfl)) (fitL [[0, 1], [0, 0], [0]] (by decide) (by decide) (by decide)) (noBad_rise (by rfl)))
        (TpB.cons (Tp.sQ (Tp.tupOfS (hB rfl)) (noBad_of (by decide)))
        (TpB.cons (Tp.sQ Tp.nonS (noBad_of (by decide)))
        (TpB.cons (Tp.sQ Tp.empS (noBad_of (by decide)))
        (TpB.cons (Tp.sQ (Tp.strS (by decide +kernel) (by decide +kernel)) (noBad_of (by decide)))
        TpB.nil))))))))))))
      (TpS.seq (TpS.asg (T1 := tyLof (tyQ 4 19714 noRul) 6 6) (Tp.repT (c := 6) (c' := 6) (Tp.lstT (TpB.cons (Tp.tup2 (k := 3) (n := 9856) (P := isI b) (P' := noBad b) (Tp.qI (Tp.var rfl) (fun x h1 h2 => decide_eq_true (by omega)) (by omega) (by omega)) (Tp.ix (Tp.var rfl) (tp_take rfl Tp.int) (by decide)) noRul_1) TpB.nil)) Tp.int))
      (TpS.seq (TpS.asg (T1 := tyLof (tyQ 4 19714 noRul) 14 14) (Tp.catT (Tp.var rfl) (Tp.compL (T := tyQ 3 9856 noBas) (Tp.lstT (TpB.cons (Tp.qI Tp.int (fun x h1 h2 => noBas_I (.inl (by omega))))
        (TpB.cons (Tp.qI Tp.int (fun x h1 h2 => noBas_I (.inr (by omega))))
        (TpB.cons (Tp.qI Tp.int (fun x h1 h2 => noBas_I (.inl (by omega))))
        (TpB.cons (Tp.qI (Tp.neg Tp.int) (fun x h1 h2 => noBas_I (.inl (by omega))))
        (TpB.cons (Tp.sQ Tp.blS (noBas_of (by decide)))
        (TpB.cons (Tp.sQ Tp.nonS (noBas_of (by decide)))
        (TpB.cons (Tp.sQ (Tp.strS (by decide +kernel) (by decide +kernel)) (noBas_of (by decide)))
        (TpB.cons (Tp.sQ (Tp.lS (Tp.lst (TpA.cons (Tp.ofI Tp.int) TpA.nil))) (noBas_of (by decide)))
        TpB.nil))))))))) (Tp.tup2 (k := 3) (n := 9856) (P := noBas) (P' := fun _ => true) (Tp.var rfl) (Tp.lenQ (Tp.sl (hB rfl) TpO.none (TpO.some Tp.int)) (fun _ _ _ => rfl)) noRul_2))))
      (TpS.seq (TpS.asg (T1 := tyLof (tyQ 4 19714 noRul) 25 25) (Tp.catT (Tp.var rfl) (Tp.lstT (TpB.cons (Tp.tupQ (TpA.cons (Tp.ofI (Tp.var rfl) (by omega) (by omega)) (TpA.cons (Tp.ofL (hB rfl)) (TpA.cons (Tp.ofL (Tp.lst TpA.nil)) TpA.nil))) (fun ds h => noRul_len (by omega)))
        (TpB.cons (Tp.tupQ (TpA.cons (Tp.ofI (Tp.var rfl) (by omega) (by omega)) TpA.nil) (fun ds h => noRul_len (by omega)))
        (TpB.cons (Tp.sQ (Tp.lS (Tp.lst (TpA.cons (Tp.ofI (Tp.var rfl) (by omega) (by omega)) (TpA.cons (Tp.ofL (hB rfl)) TpA.nil)))) (noRul_of (by decide)))
        (TpB.cons (Tp.qI (Tp.var rfl) (fun _ _ _ => rfl) (by omega) (by omega))
        (TpB.cons (Tp.sQ (Tp.lS (hB rfl)) (noRul_of (by decide)))
        (TpB.cons (Tp.sQ Tp.nonS (noRul_of (by decide)))
        (TpB.cons (Tp.sQ (Tp.strS (by decide +kernel) (by decide +kernel)) (noRul_of (by decide)))
        (TpB.cons (Tp.sQ Tp.empS (noRul_of (by decide)))
        (TpB.cons (Tp.tupQ TpA.nil (fun ds h => noRul_len (by omega)))
        (TpB.cons (Tp.sQ Tp.blS (noRul_of (by decide)))
        (TpB.cons (Tp.qI (Tp.pow ⟨by decide, by decide, by decide⟩) (fun _ _ _ => rfl))
        TpB.nil))))))))))))))
      (TpS.ret (Tp.ix (Tp.var rfl) (tp_take rfl Tp.int) (by decide))))))))))))))))))
    case qr => exact fun v H' o s t => kk v H' o s t
end
end Lw
set_option Elab.async false
set_option linter.all false
set_option maxRecDepth 100000
namespace Lw
open PySem L2 PyProof.Rows
def noRls : PyData → Bool := fun d => !rulesT d
theorem noRls_of {s : Nat} (hs : s ≠ 4) : ∀ d, shT d = s → noRls d = true := fun d h => by cases d <;> first | rfl | exact absurd h.symm hs
theorem noRls_in (ds : List PyData) (d : PyData) (h : d ∈ ds) (hd : noRul d = true) : noRls (.list ds) = true := by
  have : ds.all ruleT = false := by
    rw [List.all_eq_false]
    exact ⟨d, h, by rw [not_t hd]; intro z; cases z⟩
  show (!(decide (1 ≤ ds.length ∧ ds.length ≤ 3) && ds.all ruleT)) = true
  rw [this, Bool.and_false]; rfl
theorem noRls_len {ds : List PyData} (h : ds.length < 1 ∨ 3 < ds.length) : noRls (.list ds) = true := by
  show (!(decide (1 ≤ ds.length ∧ ds.length ≤ 3) && ds.all ruleT)) = true
  rw [decide_eq_false (by omega), Bool.false_and]; rfl
def tyRs (l : Addr) (rs : List RL) : Ty := ⟨fun G v => v = .ref l ∧ RulesAt G l rs, fun s h => ⟨h.1, h.2.same s⟩⟩
section
variable {P : Program} {w : World} {K : PySem.W.Frag} {mg : Str → Option Value} {base : Heap}
theorem tp_norule {s l : Addr} {rs : List RL} {Γ : Cxt} (g : GoodRs rs) (h0 : Γ[0]? = some (some (tyEq (.ref s)))) (h1 : Γ[1]? = some (some (tyRs l rs))) : Tp (sV s) Γ (tCall sp__law_no_rule [] E0 (tCons (tVar 0) (tCons (tOp (rIxL K) (tVar 1) (tC (.int 0))) tNil))) (tyQ 4 19714 noRul) := fun σ H Q o f q => by
  obtain ⟨v, e, t⟩ := f.2 0 _ h0
  obtain ⟨v1, e1, t1, R⟩ := f.2 1 _ h1
  obtain ⟨x0, xr, hrs⟩ : ∃ x0 xr, rs = x0 :: xr := by
    cases rs with
    | nil => exact absurd rfl g.ne
    | cons a b => exact ⟨a, b, rfl⟩
  have hx0 : x0 ∈ rs := by rw [hrs]; exact .head _
  exact ⟨v, e, v1, e1, l, _, _, .ref x0.r, t1, rfl, SqL.of ((sV s).out R.li), atI_nat (j := 0) (by rw [List.getElem?_map, hrs]; rfl), s, x0.r, x0.b, x0.bl, x0.zs, by rw [show v = V.ref s from t]; rfl, o, R.ru x0 hx0, g.good x0 hx0, fun u H' o' m' t' => q u H' o' m' t'⟩
def sp__law_no_rules : Sp := fun vs H Q _ => ∃ (s l : Addr) (rs : List RL), vs = [.ref s, .ref l] ∧ Sto H s ∧ RulesAt (aw [s] H) l rs ∧ GoodRs rs ∧ ∀ (v : V) (H' : Hp), Sto H' s → Same (aw [s] H) (aw [s] H') → (tyQ 6 50000 noRls).p (aw [s] H') v → Q v H'
theorem sc__law_no_rules : FnScope ["store", "rules", "bad", "at", "two", "some"] ["store", "rules"] (defScope s__law_no_rules) := ⟨rfl, rfl, rfl, by decide +kernel, rfl, by decide +kernel, by decide +kernel⟩
set_option maxHeartbeats 4000000 in
theorem ok__law_no_rules {f f1 f2 : Addr} {fd fd1 fd2 : FuncData} (D : Df K mg "_law_no_rules" s__law_no_rules ["store", "rules"] f fd) (D_law_take : Df K mg "_law_take" s__law_take ["store", "many"] f1 fd1) (D_law_no_rule : Df K mg "_law_no_rule" s__law_no_rule ["store", "rule"] f2 fd2) (G_law_no_rule : FnOk P w K mg base CX0 2 f2 fd2 ["store", "rule"] sp__law_no_rule) (T : Blt mg) : FnOk P w K mg base CX0 3 f fd ["store", "rules"] sp__law_no_rules := by
  have G_law_take : FnOk P w K mg base CX0 1 f1 fd1 ["store", "many"] sp__law_take := ok__law_take D_law_take T
  refine D.fn.ok sc__law_no_rules (fun vs H Q E h => ?_) (fun cdv A outer s H vs Q E hr h => ?_)
  · obtain ⟨s, l, rs, rfl, _⟩ := h; rfl
  · obtain ⟨s, l, rs, rfl, St, R, g, kk⟩ := h
    have HU := HUof hr
    refine ⟨_, (pss_cons (ps_set (i := 2) sc__law_no_rules.nd rfl (Or.inl rfl) (pcall D_law_no_rule G_law_no_rule (hr.mono (by decide)) (pa_cons (pv 0) (pa_cons (pe_ix (k_ixL K) (pv 1) pe_int (fun _ _ => rfl)) pa_nil))))
      (pss_cons (ps_set (i := 3) sc__law_no_rules.nd rfl (Or.inl rfl) (pcall D_law_take G_law_take (hr.mono (by decide)) (pa_cons (pv 0) (pa_cons (pe_op op_add (pe_callB (k_len K) (by rfl) T.n_len PySem.boot_len (pa_cons (pv 1) pa_nil)) pe_int) pa_nil))))
      (pss_cons (ps_set (i := 4) sc__law_no_rules.nd rfl (Or.inl rfl) (pe_slice (k_slL K) (pv 1) po_none (po_some pe_int)))
      (pss_cons (ps_set (i := 3) sc__law_no_rules.nd rfl (Or.inl rfl) (pe_callB (call_min2 rfl) (by rfl) T.n_min boot_min (pa_cons (pv 3) (pa_cons (pe_callB (k_len K) (by rfl) T.n_len PySem.boot_len (pa_cons (pv 4) pa_nil)) pa_nil))))
      (pss_cons (ps_set (i := 5) sc__law_no_rules.nd rfl (Or.inl rfl) (pe_op op_cat (pe_op op_rep (pe_lst (pa_cons (pe_op op_cat (pe_op op_cat (pe_slice (k_slL K) (pv 4) po_none (po_some (pv 3))) (pe_lst (pa_cons (pv 2) pa_nil))) (pe_slice (k_slL K) (pv 4) (po_some (pv 3)) po_none)) pa_nil)) pe_int) (pe_lst (pa_cons (pe_lst (pa_cons (pv 2) pa_nil)) (pa_cons (pe_op op_cat (pe_op op_cat (pe_slice (k_slL K) (pv 1) po_none (po_some (pv 3))) (pe_lst (pa_cons (pv 2) pa_nil))) (pe_slice (k_slL K) (pv 1) (po_some (pe_op op_add (pv 3) pe_int)) po_none)) (pa_cons (pe_lst pa_nil) (pa_cons (pe_slice (k_slL K) (pe_op op_rep (pv 1) pe_int) po_none (po_some pe_int)) pa_nil)))))))
      (pss_one (ps_ret (pe_ix (k_ixL K) (pe_opJ op_cat (pv 5) (pei_lst (pai_cons (pei (pe_callTy call_tuple_of (by rfl) T.n_tuple boot_tuple (pa_cons (pv 1) pa_nil))) (pai_cons (pei pe_non) (pai_cons pei_int (pai_str (pai_cons (pei pe_dnewK) (pai_cons (pei_tup pai_nil) (pai_cons (pei pe_bl) (pai_cons (pei (pe_lst (pa_cons (pv 1) pa_nil))) (pai_cons (pei (pe_ix (k_ixL K) (pv 1) pe_int (fun _ _ => rfl))) pai_nil))))))))))) (pcall D_law_take G_law_take (hr.mono (by decide)) (pa_cons (pv 0) (pa_cons pe_int pa_nil))) (fun _ _ => rfl))))))))), ?_⟩
    have h3 := g.len
    have h0 : 0 < rs.length := List.length_pos_iff.mpr g.ne
    have hR : ∀ {Γ : Cxt}, Γ[1]? = some (some (tyRs l rs)) → Tp (sV s) Γ (tVar 1) (tyL 4 5000 1 3) := fun h => Tp.sub (Tp.var h) fun G v ⟨e, R⟩ => ⟨l, _, e, R.li, by rw [List.length_map]; exact h0, by rw [List.length_map]; exact h3, fun u hu => by
      obtain ⟨x, hx, rfl⟩ := List.mem_map.mp hu
      obtain ⟨d, t, _, ft⟩ := (R.ru x hx).thing (g.good x hx)
      exact ⟨d, t, ft.le (by decide) (by decide)⟩⟩
    have hS : ∀ {Γ : Cxt}, Γ[1]? = some (some (tyRs l rs)) → Tp (sV s) Γ (tVar 1) (tyLof (tyS 4 5000 5) 1 3) := fun h => Tp.sub (Tp.var h) fun G v ⟨e, R⟩ => ⟨l, _, e, R.li, by rw [List.length_map]; exact h0, by rw [List.length_map]; exact h3, fun u hu => by
      obtain ⟨x, hx, rfl⟩ := List.mem_map.mp hu
      obtain ⟨d, t, rt, ft⟩ := (R.ru x hx).thing (g.good x hx)
      exact ⟨d, t, ft.le (by decide) (by decide), by cases d <;> first | rfl | cases rt⟩⟩
    refine TpS.go (w := sV s) (Γ := [some (tyEq (.ref s)), some (tyRs l rs), none, none, none, none]) (Γ' := [some tyNo]) (T := tyQ 6 50000 noRls) ?ty St (Fits.cons rfl (Fits.cons ⟨rfl, R⟩ (Fits.any [none, none, none, none]))) (fun _ _ _ _ h => h.no.elim) ?qr
    case ty => exact
      (TpS.seq (TpS.asg (tp_norule g rfl rfl))
      (TpS.seq (TpS.asg (T1 := tyI 0 3) (Tp.wide (tp_take rfl (Tp.add (Tp.len (hR rfl)) Tp.int)) (by decide) (by decide)))
      (TpS.seq (TpS.asg (T1 := tyL 4 5000 0 2) (Tp.takeU (c := 2) (hR rfl)))
      (TpS.seq (TpS.asg (T1 := tyI 0 2) (Tp.min2 (Tp.var rfl) (Tp.len (Tp.var rfl))))
      (TpS.seq (TpS.asg (T1 := tyLof (tyQ 6 50000 noRls) 8 8) (Tp.catT (Tp.repT (c := 4) (c' := 4) (Tp.lstT (TpB.cons (Tp.bent (Tp.sl (Tp.var rfl) TpO.none (TpO.some (Tp.var rfl))) (Tp.var rfl) (Tp.sl (Tp.var rfl) (TpO.some (Tp.var rfl)) TpO.none) noRls_in) TpB.nil)) Tp.int)
        (Tp.lstT (TpB.cons (Tp.lxQ (Tp.oneX (Tp.var rfl)) noRls_in)
        (TpB.cons (Tp.bent (Tp.sl (hR rfl) TpO.none (TpO.some (Tp.var rfl))) (Tp.var rfl) (Tp.sl (hR rfl) (TpO.some (Tp.add (Tp.var rfl) Tp.int)) TpO.none) noRls_in)
        (TpB.cons (Tp.lenQ (Tp.lst TpA.nil) (fun ds _ h => noRls_len (.inl (by omega))))
        (TpB.cons (Tp.lenQ (Tp.takeT (c := 4) (Tp.repT (c := 4) (c' := 4) (hR rfl) Tp.int)) (fun ds h _ => noRls_len (.inr (by omega))))
        TpB.nil)))))))
      (TpS.ret (Tp.ix (Tp.catT (Tp.var rfl) (Tp.lstT (TpB.cons (Tp.sQ (Tp.tupOfS (hR rfl)) (noRls_of (by decide)))
        (TpB.cons (Tp.sQ Tp.nonS (noRls_of (by decide)))
        (TpB.cons (Tp.qI Tp.int (fun _ _ _ => rfl))
        (TpB.cons (Tp.sQ (Tp.strS (by decide +kernel) (by decide +kernel)) (noRls_of (by decide)))
        (TpB.cons (Tp.sQ Tp.empS (noRls_of (by decide)))
        (TpB.cons (Tp.tupQ TpA.nil (fun _ _ => rfl))
        (TpB.cons (Tp.sQ Tp.blS (noRls_of (by decide)))
        (TpB.cons (Tp.lxQ (Tp.oneX (k := 5) (n := 15003) (P := noRul) (Tp.sQ (Tp.lS (hR rfl)) (noRul_of (by decide)))) noRls_in)
        (TpB.cons (Tp.sQ (Tp.ix (hS rfl) Tp.int (by decide)) (noRls_of (by decide)))
        TpB.nil))))))))))) (tp_take rfl Tp.int) (by decide))))))))
    case qr => exact fun v H' o s t => kk v H' o s t
end
end Lw
set_option Elab.async false
set_option linter.all false
set_option maxRecDepth 100000
namespace Lw
open PySem L2 PyProof.Rows
theorem tdeps_one {α : Type} {f : α → Tr} {d : Nat} (h : ∀ a, tdep (f a) ≤ d) : ∀ l : List α, tdeps (l.map f) ≤ d
  | [] => by simp [tdeps]
  | a :: l => by rw [List.map_cons, tdeps]; have := tdeps_one h l; have := h a; omega
theorem RulesAt.off {H0 H : Hp} {s l : Addr} {rs : List RL} (R : RulesAt H l rs) (S : Sto H0 s) (hl : H0 l = none) (hf : ∀ x ∈ rs, H0 x.r = none ∧ H0 x.bl = none ∧ ∀ z ∈ x.zs, H0 z.1 = none) : RulesAt (aw [s] H) l rs := by
  have o : ∀ p, H0 p = none → p ∉ [s] := fun p hp z => S.ne hp (by simpa using z)
  refine ⟨by rw [aw_out (o _ hl)]; exact R.li, fun x hx => ?_⟩
  obtain ⟨h1, h2, h3⟩ := hf x hx
  have R1 := R.ru x hx
  exact ⟨by rw [aw_out (o _ h1)]; exact R1.tu, by rw [aw_out (o _ h2)]; exact R1.li, fun z hz => by rw [aw_out (o _ (h3 z hz))]; exact R1.st z hz⟩
theorem GoodRs.con {rs gs : List RL} (g : GoodRs rs) (e : gs.map RL.con = rs.map RL.con) : GoodRs gs := by
  have hl : gs.length = rs.length := by have := congrArg List.length e; rwa [List.length_map, List.length_map] at this
  refine ⟨fun z => g.ne (by rw [z] at hl; exact List.length_eq_zero_iff.mp hl.symm), by rw [hl]; exact g.len, fun x hx => ?_⟩
  have : x.con ∈ rs.map RL.con := by rw [← e]; exact List.mem_map.mpr ⟨x, hx, rfl⟩
  obtain ⟨y, hy, hc⟩ := List.mem_map.mp this
  have gy := g.good y hy
  unfold RL.con at hc
  injection hc with h1 h2
  rw [← h1, ← h2]
  exact gy
def noBnd : PyData → Bool := fun d => !boundT d
theorem noBnd_I {x : Int} (h : x < 0 ∨ 2000 < x) : noBnd (.int x) = true := by
  show (!decide (0 ≤ x ∧ x ≤ 2000)) = true
  rw [decide_eq_false (by omega)]; rfl
theorem noNum_bnd {d : PyData} (h : noNum d = true) : noBnd d = true := by
  cases d with
  | int i =>
    have h : (!decide (0 ≤ i)) = true := h
    have := of_decide_eq_false (not_t h)
    exact noBnd_I (.inl (by omega))
  | _ => rfl
theorem pair_w {H : Hp} {q : Addr} {v u : V} {d e : PyData} (hq : H q = none) (hd : ThAt H d v) (fd : Fit 6 50000 d) (he : ThAt H e u) (fe : Fit 9 10000 e) : ThAt (upd H q (.lst [v, u])) (.list [d, e]) (.ref q) ∧ Fit 20 100000 (.list [d, e]) := by
  have m := same_upd hq (o := .lst [v, u])
  refine ⟨ThAt.lst upd_same (by rw [ThsAt]; exact ⟨_, _, rfl, hd.same m, by rw [ThsAt]; exact ⟨_, _, rfl, he.same m, by rw [ThsAt]⟩⟩), ⟨?_, ?_, ?_, ?_⟩⟩
  · rw [PyData.leavesShort, PyData.leavesShortAll, PyData.leavesShortAll, PyData.leavesShortAll, fd.ls, fe.ls]; rfl
  · rw [PyData.showable, PyData.showableAll, PyData.showableAll, PyData.showableAll, fd.sh, fe.sh]; rfl
  · rw [PyData.depth, PyData.depthAll, PyData.depthAll, PyData.depthAll]; have := fd.dp; have := fe.dp; omega
  · rw [PyData.weight, PyData.weightAll, PyData.weightAll, PyData.weightAll]; have := fd.wt; have := fe.wt; omega
structure Now (H0 : Hp) (sa l gl : Addr) (rs gs : List RL) (H : Hp) : Prop where
  st : Sto H sa
  R : RulesAt (aw [sa] H) l rs
  G : RulesAt (aw [sa] H) gl gs
  nn : H0 sa = none
  sm : Same H0 H
theorem Now.on {H0 H H' : Hp} {sa l gl : Addr} {rs gs : List RL} (N : Now H0 sa l gl rs gs H) (st : Sto H' sa) (m : Same (aw [sa] H) (aw [sa] H')) : Now H0 sa l gl rs gs H' := ⟨st, N.R.same m, N.G.same m, N.nn, fun b o e => by
  have nb : b ∉ [sa] := fun z => by rw [List.mem_singleton.mp z, N.nn] at e; cases e
  have q := m b o (by rw [aw_out nb]; exact N.sm b o e)
  rw [aw_out nb] at q; exact q⟩
theorem Now.onS {H0 H H' : Hp} {sa l gl : Addr} {rs gs : List RL} (N : Now H0 sa l gl rs gs H) (m : Same H H') : Now H0 sa l gl rs gs H' := N.on (by obtain ⟨g, x, k, e⟩ := N.st; exact ⟨g, x, k, m _ _ e⟩) (m.aw _)
theorem rules_fit {H : Hp} {l : Addr} {rs : List RL} (R : RulesAt H l rs) (g : GoodRs rs) : sizT (.list (rs.map fun x => .tuple [.int x.b, .list ((x.zs.map (·.2)).map fun l => .list (l.map .int))])) ≤ 100000 := by
  have t := R.th
  have h3 := g.len
  have f : Fit 9 50000 _ := Th.fit (Th.le (Th.lst (k := 3) (n := 5000) (n' := 15003) R.li (fun v hv => by
    obtain ⟨x, hx, rfl⟩ := List.mem_map.mp hv
    obtain ⟨d, td, _, ft⟩ := (R.ru x hx).thing (g.good x hx)
    exact ⟨d, td, ft⟩) (by rw [List.length_map]; omega)) (by decide) (by decide)) t
  exact Nat.le_trans (siz_wt _) (Nat.le_trans f.wt (by decide))
theorem no_rules {H : Hp} {d : PyData} {v : V} {l : Addr} {rs : List RL} (t : ThAt H d v) (e : v = .ref l) (R : RulesAt H l rs) (g : GoodRs rs) (rb : rulesT d = false) : False := by
  rw [e] at t
  have := t.uniq R.th
  rw [this, rulesT_good g] at rb; cases rb
abbrev tenR (z1 z2 t : Addr) : List RL := [⟨t, 10, z2, [(z1, [1])]⟩]
theorem ten_at {G : Hp} {z1 z2 t l : Addr} (h1 : G z1 = some (.lst [.int 1])) (h2 : G z2 = some (.lst [.ref z1])) (h3 : G t = some (.tup [.int 10, .ref z2])) (h4 : G l = some (.lst [.ref t])) : RulesAt G l (tenR z1 z2 t) :=
  ⟨h4, fun x hx => by rw [List.mem_singleton.mp hx]; exact ⟨h3, h2, fun z hz => by rw [List.mem_singleton.mp hz]; exact h1⟩⟩
theorem ten_good {z1 z2 t : Addr} : GoodRs (tenR z1 z2 t) := ⟨by simp, by simp, fun x hx => by
  rw [List.mem_singleton.mp hx]
  show GoodRule 10 [[1]]
  refine ⟨by decide, by decide, by decide, fun l hl => ?_, by simp⟩
  have e : l = [1] := by simpa using hl
  subst e
  exact ⟨by simp, by decide, by decide⟩⟩
theorem ten_uniq {G : Hp} {z1 z2 t l : Addr} {rs : List RL} (h1 : G z1 = some (.lst [.int 1])) (h2 : G z2 = some (.lst [.ref z1])) (h3 : G t = some (.tup [.int 10, .ref z2])) (h4 : G l = some (.lst [.ref t])) (R : RulesAt G l rs) : rs.map RL.con = [(10, [[1]])] := by
  have e := R.th.uniq (ten_at h1 h2 h3 h4).th
  injection e with e
  match rs, e with
  | [x], e =>
    have e : (PyData.tuple [.int x.b, .list ((x.zs.map (·.2)).map fun l => .list (l.map .int))]) = .tuple [.int 10, .list [.list [.int 1]]] := by simpa using e
    obtain ⟨eb, a, ez⟩ : (x.b : Int) = 10 ∧ ∃ a, x.zs = [(a, [1])] := by simpa using e
    show [x.con] = _
    unfold RL.con
    rw [ez, show x.b = 10 by omega]; rfl
  | [], e => exact absurd (congrArg List.length e) (by simp)
  | _ :: _ :: _, e => exact absurd (congrArg List.length e) (by simp)
section
variable {P : Program} {w : World} {K : PySem.W.Frag} {mg : Str → Option Value} {base : Heap}
def tRule (c : Nat × List (List Int)) : Tr := .tup [.int c.1, .lst (c.2.map tInts)]
theorem tRule_dep (c : Nat × List (List Int)) : tdep (tRule c) ≤ 3 := by
  unfold tRule
  rw [tdep, tdeps, tdeps, tdeps, tdep, tdep]
  · have := tdeps_tInts c.2; omega
  all_goals (intros; rename_i z; cases z)
theorem TrAt.rule {H : Hp} {x : RL} (R : RuleAt H x.r x.b x.bl x.zs) : TrAt K H (tRule x.con) (.ref x.r) := by
  unfold tRule RL.con
  rw [TrAt]
  refine ⟨x.r, _, rfl, SqT.of R.tu, ?_⟩
  rw [TrsAt]
  refine ⟨_, _, rfl, by rw [TrAt], ?_⟩
  rw [TrsAt]
  refine ⟨_, _, rfl, ?_, by rw [TrsAt]⟩
  rw [TrAt]
  exact ⟨x.bl, _, rfl, SqL.of R.li, TrsAt.lists R.st⟩
theorem TrsAt.rules {K : PySem.W.Frag} {H : Hp} : ∀ {rs : List RL}, (∀ x ∈ rs, RuleAt H x.r x.b x.bl x.zs) → TrsAt K H ((rs.map RL.con).map tRule) (rs.map fun x => V.ref x.r)
  | [], _ => by rw [List.map_nil, List.map_nil, TrsAt]; rfl
  | x :: rs, h => by
    rw [List.map_cons, List.map_cons, TrsAt]
    exact ⟨_, _, rfl, TrAt.rule (h x List.mem_cons_self), TrsAt.rules fun y hy => h y (List.mem_cons_of_mem _ hy)⟩
def tRules (cs : List (Nat × List (List Int))) : Tr := .lst (cs.map tRule)
theorem tRules_dep (cs : List (Nat × List (List Int))) : tdep (tRules cs) ≤ 8 := by
  unfold tRules
  rw [tdep]
  have := tdeps_one (f := tRule) tRule_dep cs
  omega
theorem TrAt.rules {H : Hp} {l : Addr} {rs : List RL} (R : RulesAt H l rs) : TrAt K H (tRules (rs.map RL.con)) (.ref l) := by
  unfold tRules
  rw [TrAt]
  exact ⟨l, _, rfl, SqL.of R.li, TrsAt.rules R.ru⟩
def sp_law (K : PySem.W.Frag) : Sp := fun vs H Q _ => ∃ (a : Addr) (ns : List Int), vs = [.ref a] ∧ SqL K H a (ns.map V.int) ∧ ns.length ≤ 63 ∧ ∀ H', Q (.bl true) H'
theorem sc_law : FnScope ["script", "at", "store", "rules", "given", "turn", "bad", "odd", "far", "kept", "door", "wrong"] ["script"] (defScope s_law) := ⟨rfl, rfl, rfl, by decide +kernel, rfl, by decide +kernel, by decide +kernel⟩
set_option maxHeartbeats 4000000 in
theorem ok_law {f f1 f2 f3 f4 f5 f6 f7 f8 f9 f10 : Addr} {fd fd1 fd2 fd3 fd4 fd5 fd6 fd7 fd8 fd9 fd10 : FuncData} (D : Df K mg "law" s_law ["script"] f fd) (D_law_cell : Df K mg "_law_cell" s__law_cell ["script", "k"] f1 fd1) (D_law_store : Df K mg "_law_store" s__law_store ["cell"] f2 fd2) (D_law_take : Df K mg "_law_take" s__law_take ["store", "many"] f3 fd3) (D_law_stretch : Df K mg "_law_stretch" s__law_stretch ["store", "base", "few"] f4 fd4) (D_law_bad : Df K mg "_law_bad" s__law_bad ["store", "base"] f5 fd5) (D_law_base : Df K mg "_law_base" s__law_base ["store"] f6 fd6)
    (D_law_rules : Df K mg "_law_rules" s__law_rules ["store"] f7 fd7) (D_law_copies : Df K mg "_law_copies" s__law_copies ["rules"] f8 fd8) (D_law_no_rules : Df K mg "_law_no_rules" s__law_no_rules ["store", "rules"] f9 fd9) (G_law_no_rules : FnOk P w K mg base CX0 3 f9 fd9 ["store", "rules"] sp__law_no_rules) (D_law_word : Df K mg "_law_word" s__law_word ["door", "rules", "n"] f10 fd10) (G_law_word : FnOk P w K mg base CX0 12 f10 fd10 ["door", "rules", "n"] sp__law_word) (T : Blt mg) : FnOk P w K mg base CX0 13 f fd ["script"] (sp_law K) := by
  have G_law_cell : FnOk P w K mg base CX0 1 f1 fd1 ["script", "k"] (sp__law_cell K) := ok__law_cell D_law_cell T
  have G_law_store : FnOk P w K mg base CX0 1 f2 fd2 ["cell"] sp__law_store := ok__law_store D_law_store T
  have G_law_take : FnOk P w K mg base CX0 1 f3 fd3 ["store", "many"] sp__law_take := ok__law_take D_law_take T
  have G_law_rules : FnOk P w K mg base CX0 4 f7 fd7 ["store"] sp__law_rules := ok__law_rules D_law_rules D_law_take D_law_stretch D_law_base D_law_bad T
  have G_law_copies : FnOk P w K mg base CX0 1 f8 fd8 ["rules"] sp__law_copies := ok__law_copies D_law_copies T
  refine D.fn.ok sc_law (fun vs H Q E h => ?_) (fun cdv A outer s H vs Q E hr h => ?_)
  · obtain ⟨a, ns, rfl, _⟩ := h; rfl
  · obtain ⟨a, ns, rfl, hS, hlen, kk⟩ := h
    have HU := HUof hr
    refine ⟨_, (pss_cons (ps_for PassesOwn.never rfl (pi_range1 rfl T.n_range (pa_cons (pe_callB (call_min2 rfl) (by rfl) T.n_min boot_min (pa_cons (pe_callB (call_max2 rfl) (by rfl) T.n_max boot_max (pa_cons (pe_callB (k_len K) (by rfl) T.n_len PySem.boot_len (pa_cons (pv 0) pa_nil)) (pa_cons pe_int pa_nil))) (pa_cons pe_int pa_nil))) pa_nil)) (pg_name (i := 1) sc_law.nd rfl (Or.inl rfl))
        (pss_cons (ps_set (i := 2) sc_law.nd rfl (Or.inl rfl) (pcall D_law_store G_law_store (hr.mono (by decide)) (pa_cons (pcall D_law_cell G_law_cell (hr.mono (by decide)) (pa_cons (pv 0) (pa_cons (pv 1) pa_nil))) pa_nil)))
        (pss_cons (ps_set (i := 3) sc_law.nd rfl (Or.inl rfl) (pcall D_law_rules G_law_rules (hr.mono (by decide)) (pa_cons (pv 2) pa_nil)))
        (pss_cons (ps_set (i := 4) sc_law.nd rfl (Or.inl rfl) (pcall D_law_copies G_law_copies (hr.mono (by decide)) (pa_cons (pv 3) pa_nil)))
        (pss_one (ps_for PassesOwn.never rfl (pi_range1 rfl T.n_range (pa_cons pe_int pa_nil)) (pg_name (i := 5) sc_law.nd rfl (Or.inl rfl))
          (pss_cons (ps_set (i := 6) sc_law.nd rfl (Or.inl rfl) (pcall D_law_no_rules G_law_no_rules (hr.mono (by decide)) (pa_cons (pv 2) (pa_cons (pv 3) pa_nil))))
          (pss_cons (ps_setI (i := 7) sc_law.nd rfl (Or.inl rfl) (pei_lst (pai_cons (pei (pe_un un_neg pe_int)) (pai_cons (pei pe_bl) (pai_cons (pei pe_bl) (pai_cons (pei pe_non) (pai_str (pai_cons (pei_lst (pai_cons pei_int pai_nil)) (pai_cons (pei_tup (pai_cons pei_int pai_nil)) (pai_cons (pei pe_dnewK) (pai_str (pai_cons (pei (pe_op op_sub pe_int (pe_op op_pow pe_int pe_int))) (pai_cons (pei (pe_op op_sub (pe_un un_neg pe_int) (pcall D_law_take G_law_take (hr.mono (by decide)) (pa_cons (pv 2) (pa_cons pe_int pa_nil))))) pai_nil)))))))))))))
          (pss_cons (ps_set (i := 7) sc_law.nd rfl (Or.inl rfl) (pe_ix (k_ixL K) (pv 7) (pcall D_law_take G_law_take (hr.mono (by decide)) (pa_cons (pv 2) (pa_cons pe_int pa_nil))) (fun _ _ => rfl)))
          (pss_cons (ps_set (i := 8) sc_law.nd rfl (Or.inl rfl) (pe_ix (k_ixL K) (pe_lst (pa_cons pe_int (pa_cons (pe_op op_add pe_int (pcall D_law_take G_law_take (hr.mono (by decide)) (pa_cons (pv 2) (pa_cons pe_int pa_nil)))) (pa_cons (pe_op op_pow pe_int pe_int) (pa_cons (pv 7) pa_nil))))) (pcall D_law_take G_law_take (hr.mono (by decide)) (pa_cons (pv 2) (pa_cons pe_int pa_nil))) (fun _ _ => rfl)))
          (pss_cons (ps_set (i := 9) sc_law.nd rfl (Or.inl rfl) (pe_callB (call_reprT hr.gd HU) (by rfl) T.n_repr PyProof.Rows.boot_repr (pa_cons (pe_lst (pa_cons (pv 6) (pa_cons (pv 7) pa_nil))) pa_nil)))
          (pss_cons (ps_for PassesOwn.never rfl (pi_range1 rfl T.n_range (pa_cons pe_int pa_nil)) (pg_name (i := 10) sc_law.nd rfl (Or.inl rfl))
            (pss_cons (ps_set (i := 11) sc_law.nd rfl (Or.inl rfl) (pe_ixI (k_ixL K) (pei_lst (pai_cons (pei (pv 7)) (pai_cons (pei (pv 7)) (pai_cons (pei (pv 8)) (pai_cons (pei (pv 8)) (pai_cons pei_int pai_nil)))))) (pv 10) (fun _ _ => rfl)))
            (pss_cons (ps_if (PW.pt (pw_or (pt_cmpR op_ne (pcall D_law_word G_law_word (hr.mono (by decide)) (pa_cons (pv 10) (pa_cons (pv 6) (pa_cons pe_int pa_nil)))) pe_str (nomark _)) (pw_or1 (pt_cmpR op_ne (pcall D_law_word G_law_word (hr.mono (by decide)) (pa_cons (pv 10) (pa_cons (pv 6) (pa_cons (pv 11) pa_nil)))) pe_str (nomark _)))))
              (pss_one (ps_ret pe_bl))
              pss_nil)
            (pss_cons (ps_if (PW.pt (pw_and (pt_cmpR op_lt (pv 10) pe_int (nomark _)) (pw_and1 (pt_cmpR op_ne (pcall D_law_word G_law_word (hr.mono (by decide)) (pa_cons (pv 10) (pa_cons (pv 4) (pa_cons (pv 11) pa_nil)))) pe_str (nomark _)))))
              (pss_one (ps_ret pe_bl))
              pss_nil)
            (pss_one (ps_if (PW.pt (pw_and (pt_cmpR op_lt (pv 10) pe_int (nomark _)) (pw_and1 (pt_cmpR op_ne (pcall D_law_word G_law_word (hr.mono (by decide)) (pa_cons (pv 10) (pa_cons (pv 4) (pa_cons pe_int pa_nil)))) pe_str (nomark _)))))
              (pss_one (ps_ret pe_bl))
              pss_nil))))))
          (pss_one (ps_if (PW.pt (pw_or (pt_cmpR op_ne (pe_callB (call_reprT hr.gd HU) (by rfl) T.n_repr PyProof.Rows.boot_repr (pa_cons (pe_lst (pa_cons (pv 6) (pa_cons (pv 7) pa_nil))) pa_nil)) (pv 9) (nomark _)) (pw_or1 (pt_cmpR (k_neT K HU) (pv 4) (pv 3) (nomark _)))))
            (pss_one (ps_ret pe_bl))
            pss_nil))))))))))))))
      (pss_one (ps_ret (pe_and (pe_cmpR op_eq (pcall D_law_word G_law_word (hr.mono (by decide)) (pa_cons pe_int (pa_cons (pe_lst (pa_cons (pe_tup (pa_cons pe_int (pa_cons (pe_lst (pa_cons (pe_lst (pa_cons pe_int pa_nil)) pa_nil)) pa_nil))) pa_nil)) (pa_cons pe_int pa_nil)))) pe_str (nomark _)) (pe_one (pe_cmpR op_eq (pcall D_law_word G_law_word (hr.mono (by decide)) (pa_cons pe_int (pa_cons (pe_lst (pa_cons (pe_tup (pa_cons pe_int (pa_cons (pe_lst (pa_cons (pe_lst (pa_cons pe_int pa_nil)) pa_nil)) pa_nil))) pa_nil)) (pa_cons pe_int pa_nil)))) pe_str (nomark _))))))), ?_⟩
    refine ⟨_, rfl, a, _, rfl, .inl hS, _, _, rfl, _, _, rfl, ?_⟩
    generalize hM : (if (10 : Int) < (if (3 : Int) > ((ns.map V.int).length : Int) then 3 else ((ns.map V.int).length : Int)) then (10 : Int) else (if (3 : Int) > ((ns.map V.int).length : Int) then 3 else ((ns.map V.int).length : Int))) = M
    have hM1 : 0 ≤ M ∧ M ≤ 10 := by
      rw [← hM]; split <;> split <;> omega
    refine ⟨M, rfl, by omega, by omega, for_range (lo := 0) (n := M.toNat) (fun i σ H2 => ∃ v1 v2 v3 v4 v5 v6 v7 v8 v9 v10 v11 : Option V, σ = [some (.ref a), v1, v2, v3, v4, v5, v6, v7, v8, v9, v10, v11] ∧ Same H H2) ⟨none, none, none, none, none, none, none, none, none, none, none, rfl, Same.refl _⟩ ?_ ?_⟩
    · rintro i σ H2 hi ⟨v1, v2, v3, v4, v5, v6, v7, v8, v9, v10, v11, rfl, m2⟩
      refine ⟨_, rfl, _, rfl, a, ns, i, by rw [Int.zero_add]; rfl, m2.seq hS, hlen, by omega, fun c => ⟨c, rfl, fun sa H3 hsa St m3 => ?_⟩⟩
      refine ⟨_, rfl, sa, rfl, St, fun l rs H4 S4 R4 g => ?_⟩
      refine ⟨_, rfl, l, rs, rfl, R4.all, g.len, fun x hx => g.z4 hx, fun gl gs H5 m5 G5 hcon n1 n2 _ => ?_⟩
      have gg : GoodRs gs := g.con hcon
      have N5 : Now H sa l gl rs gs H5 := by
        have N4 : Now H sa l l rs rs H4 := ⟨S4.st, R4, R4, m2.free hsa, fun b o e => S4.sm b o (fun z => by rw [z, m2.free hsa] at e; cases e) (m3 b o (m2 b o e))⟩
        have N5 := N4.onS m5
        exact ⟨N5.st, N5.R, G5.off S4.st n1 n2, N5.nn, N5.sm⟩
      have gT := rulesT_good gg
      refine ⟨4, rfl, by decide, by decide, for_range (lo := 0) (n := 4) (fun j σ H6 => ∃ v5 v6 v7 v8 v9 v10 v11 : Option V, σ = [some (.ref a), some (.int (0 + (i : Int))), some (.ref sa), some (.ref l), some (.ref gl), v5, v6, v7, v8, v9, v10, v11] ∧ Now H sa l gl rs gs H6) ⟨_, _, _, _, _, _, _, rfl, N5⟩ ?_ ?_⟩
      · rintro j σ H6 hj ⟨v5, v6, v7, v8, v9, v10, v11, rfl, N6⟩
        refine ⟨_, rfl, _, rfl, sa, l, rs, rfl, N6.st, N6.R, g, fun vb H7 S7 m7 ⟨db, hb, fb, pb⟩ => ?_⟩
        have N7 := N6.on S7 m7
        have rb : rulesT db = false := not_t pb
        refine Tp.asg2 (w := sV sa) (Γ := [none, none, some (tyEq (.ref sa)), none, none, none, none, none, none, none, none, none]) (T1 := tyLof (tyQ 9 10000 noNum) 11 11) (Tp.lstT (TpB.cons (Tp.qI (Tp.neg Tp.int) (fun x h1 h2 => noNum_I (by omega))) (TpB.cons (Tp.sQ Tp.blS (noNum_of (by decide))) (TpB.cons (Tp.sQ Tp.blS (noNum_of (by decide))) (TpB.cons (Tp.sQ Tp.nonS (noNum_of (by decide))) (TpB.cons (Tp.sQ (Tp.strS (by decide +kernel) (by decide +kernel)) (noNum_of (by decide))) (TpB.cons (Tp.sQ (Tp.lS (Tp.lst (TpA.cons (Tp.ofI Tp.int) TpA.nil))) (noNum_of (by decide))) (TpB.cons (Tp.tupQ (TpA.cons (Tp.ofI Tp.int) TpA.nil) (fun _ _ => rfl)) (TpB.cons (Tp.sQ Tp.empS (noNum_of (by decide))) (TpB.cons (Tp.sQ (Tp.strS (by decide +kernel) (by decide +kernel)) (noNum_of (by decide))) (TpB.cons (Tp.qI (Tp.subI Tp.int (Tp.pow ⟨by decide, by decide, by decide⟩)) (fun x h1 h2 => noNum_I (Int.lt_of_le_of_lt h2 (by decide)))) (TpB.cons (Tp.qI (Tp.subI (Tp.neg Tp.int) (tp_take rfl Tp.int)) (fun x h1 h2 => noNum_I (by omega))) TpB.nil)))))))))))) S7 (Fits.skip (Fits.skip (Fits.cons rfl (Fits.any _)))) fun vl H8 S8 m8 t8 => ?_
        refine Tp.asg2 (w := sV sa) (Γ := [none, none, some (tyEq (.ref sa)), none, none, none, none, some (tyLof (tyQ 9 10000 noNum) 11 11), none, none, none, none]) (T1 := tyQ 9 10000 noNum) (Tp.ix (Tp.var rfl) (tp_take rfl Tp.int) (by decide)) S8 (Fits.skip (Fits.skip (Fits.cons rfl (Fits.skip (Fits.skip (Fits.skip (Fits.skip (Fits.cons t8 (Fits.any _))))))))) fun vo H9 S9 m9 t9 => ?_
        refine Tp.asg2 (w := sV sa) (Γ := [none, none, some (tyEq (.ref sa)), none, none, none, none, some (tyQ 9 10000 noNum), none, none, none, none]) (T1 := tyQ 9 10000 noBnd) (Tp.ix (Tp.lstT (TpB.cons (Tp.qI Tp.int (fun x h1 h2 => noBnd_I (.inr (by omega)))) (TpB.cons (Tp.qI (Tp.add Tp.int (tp_take rfl Tp.int)) (fun x h1 h2 => noBnd_I (.inr (by omega)))) (TpB.cons (Tp.qI (Tp.pow ⟨by decide, by decide, by decide⟩) (fun x h1 h2 => noBnd_I (.inr (Int.lt_of_lt_of_le (by decide) h1)))) (TpB.cons (Tp.sub (Tp.var rfl) (fun G v ⟨d, t, f, p⟩ => ⟨d, t, f, noNum_bnd p⟩)) TpB.nil))))) (tp_take rfl Tp.int) (by decide)) S9 (Fits.skip (Fits.skip (Fits.cons rfl (Fits.skip (Fits.skip (Fits.skip (Fits.skip (Fits.cons t9 (Fits.any _))))))))) fun vf H10 S10 m10 t10 => ?_
        have N10 := ((N7.on S8 m8).on S9 m9).on S10 m10
        have hb10 := hb.same ((m8.trans m9).trans m10)
        obtain ⟨eo, ho, fo, po⟩ := (tyQ 9 10000 noNum).mo m10 t9
        obtain ⟨ef, hf, ff, pf⟩ := t10
        have hb10 : ThAt (aw [sa] H10) db vb := hb10
        have ho : ThAt (aw [sa] H10) eo vo := ho
        have hf : ThAt (aw [sa] H10) ef vf := hf
        have nn : numT eo = false := not_t po
        have nb : boundT ef = false := not_t pf
        refine ⟨_, rfl, _, rfl, (by show 2 ≤ sizeLine; decide), fun q hq => ?_⟩
        have mq := same_upd hq (o := .lst [vb, vo])
        obtain ⟨hD, fD⟩ := pair_w hq (hb10.same (aw_same _ _)) fb (ho.same (aw_same _ _)) fo
        refine ⟨_, _, rfl, hD, fD.sh, fD.shown (Nat.le_refl _), Nat.le_trans fD.dp (by decide), ?_⟩
        have N11 := N10.onS mq
        have hb11 := hb10.same (mq.aw [sa])
        have ho11 := ho.same (mq.aw [sa])
        have hf11 := hf.same (mq.aw [sa])
        refine ⟨5, rfl, by decide, by decide, for_range (lo := 0) (n := 5) (fun k σ H12 => ∃ v10 v11 : Option V, σ = [some (.ref a), some (.int (0 + (i : Int))), some (.ref sa), some (.ref l), some (.ref gl), some (.int (0 + (j : Int))), some vb, some vo, some vf, some (.str (PyData.list [db, eo]).shown), v10, v11] ∧ Now H sa l gl rs gs H12 ∧ ThAt (aw [sa] H12) db vb ∧ ThAt (aw [sa] H12) eo vo ∧ ThAt (aw [sa] H12) ef vf) ⟨_, _, rfl, N11, hb11, ho11, hf11⟩ ?_ ?_⟩
        · rintro k σ H12 hk ⟨v10, v11, rfl, N12, hb12, ho12, hf12⟩
          have hk : k < 5 := hk
          have m0 := aw_same [sa] H12
          obtain ⟨val, ev, hat, hv, hN2, hB2⟩ : ∃ (val : V) (ev : PyData), atI [vo, vo, vf, vf, .int 0] (0 + (k : Int)) = some val ∧ ThAt (aw [sa] H12) ev val ∧ (k < 2 → numT ev = false) ∧ (2 ≤ k → k < 4 → boundT ev = false) := by
            rw [Int.zero_add]
            match k, hk with
            | 0, _ => exact ⟨vo, eo, atI_nat rfl, ho12, fun _ => nn, fun z => absurd z (by omega)⟩
            | 1, _ => exact ⟨vo, eo, atI_nat rfl, ho12, fun _ => nn, fun z => absurd z (by omega)⟩
            | 2, _ => exact ⟨vf, ef, atI_nat rfl, hf12, fun z => absurd z (by omega), fun _ _ => nb⟩
            | 3, _ => exact ⟨vf, ef, atI_nat rfl, hf12, fun z => absurd z (by omega), fun _ _ => nb⟩
            | 4, _ => exact ⟨.int 0, .int 0, atI_nat rfl, by rw [ThAt], fun z => absurd z (by omega), fun _ z => absurd z (by omega)⟩
            | n + 5, h => exact absurd h (by omega)
          have dbs : sizT db ≤ 100000 := Nat.le_trans (siz_wt db) (Nat.le_trans fb.wt (by decide))
          have tG : k < 4 → tells (.list (gs.map fun x => .tuple [.int x.b, .list ((x.zs.map (·.2)).map fun l => .list (l.map .int))])) ev k = some false := fun h4 => by
            by_cases h2 : k < 2
            · exact tells_N gT h2 (hN2 h2)
            · exact tells_B gT h2 (by omega) (hB2 (by omega) h4)
          have t50 : k < 4 → tells (.list (gs.map fun x => .tuple [.int x.b, .list ((x.zs.map (·.2)).map fun l => .list (l.map .int))])) (.int 50) k = none := fun h4 => by
            by_cases h2 : k < 2
            · exact tells_no1 gT h2 rfl
            · exact tells_no2 gT h2 (by omega) rfl
          refine ⟨_, rfl, _, rfl, _, rfl, _, rfl, (by show 5 ≤ sizeLine; decide), fun q2 hq2 => ⟨_, rfl, q2, _, _, val, rfl, rfl, SqL.of upd_same, hat, ?_⟩⟩
          have m13 := same_upd hq2 (o := .lst [vo, vo, vf, vf, .int 0])
          generalize upd H12 q2 (.lst [vo, vo, vf, vf, .int 0]) = H13 at m13 ⊢
          refine ⟨_, rfl, _, rfl, k, vb, .int 5, db, .int 5, by rw [Int.zero_add]; rfl, (hb12.same m0).same m13, by rw [ThAt], dbs, hk, fun n _ _ z => absurd z (by rw [rb]; intro z; cases z), fun _ l' rs' e R' g' => (no_rules ((hb12.same m0).same m13) e R' g' rb).elim, fun H14 m14 => ⟨rfl, _, rfl, iteB (by rw [tells_R rb]; rfl) ?_⟩⟩
          have m24 := m13.trans m14
          refine ⟨_, rfl, _, rfl, _, rfl, k, vb, val, db, ev, by rw [Int.zero_add]; rfl, (hb12.same m0).same m24, (hv.same m0).same m24, dbs, hk, fun n _ _ z => absurd z (by rw [rb]; intro z; cases z), fun _ l' rs' e R' g' => (no_rules ((hb12.same m0).same m24) e R' g' rb).elim, fun H15 m15 => ⟨rfl, _, rfl, iteB (by rw [tells_R rb]; rfl) ?_⟩⟩
          have m25 := m24.trans m15
          have done : ∀ {H' : Hp}, Same H12 H' → ∃ v10 v11 : Option V, ([some (.ref a), some (.int (0 + (i : Int))), some (.ref sa), some (.ref l), some (.ref gl), some (.int (0 + (j : Int))), some vb, some vo, some vf, some (.str (PyData.list [db, eo]).shown), some (.int (0 + (k : Int))), some val] : L2.St) = [some (.ref a), some (.int (0 + (i : Int))), some (.ref sa), some (.ref l), some (.ref gl), some (.int (0 + (j : Int))), some vb, some vo, some vf, some (.str (PyData.list [db, eo]).shown), v10, v11] ∧ Now H sa l gl rs gs H' ∧ ThAt (aw [sa] H') db vb ∧ ThAt (aw [sa] H') eo vo ∧ ThAt (aw [sa] H') ef vf := fun m => ⟨_, _, rfl, N12.onS m, hb12.same (m.aw [sa]), ho12.same (m.aw [sa]), hf12.same (m.aw [sa])⟩
          by_cases h4 : k < 4
          · refine ⟨_, rfl, _, _, rfl, rfl, _, rfl, iteA (decide_eq_true (by omega)) ?_⟩
            have G25 := (N12.onS m25).G.all
            refine ⟨_, rfl, _, rfl, _, rfl, k, .ref gl, val, _, ev, by rw [Int.zero_add]; rfl, G25.th, (hv.same m0).same m25, rules_fit G25 gg, hk, fun n en h2 _ => absurd (hN2 h2) (by rw [en, show numT (.int n) = true from decide_eq_true (Int.natCast_nonneg n)]; intro z; cases z), fun z => absurd z (by omega), fun H16 m16 => ⟨rfl, _, rfl, iteB (by rw [tG h4]; rfl) ?_⟩⟩
            have m26 := m25.trans m16
            have G26 := (N12.onS m26).G.all
            refine ⟨_, rfl, _, _, rfl, rfl, _, rfl, iteA (decide_eq_true (by omega)) ?_⟩
            refine ⟨_, rfl, _, rfl, k, .ref gl, .int 50, _, .int 50, by rw [Int.zero_add]; rfl, G26.th, by rw [ThAt], rules_fit G26 gg, hk, fun n en _ _ => ?_, fun z => absurd z (by omega), fun H17 m17 => ⟨rfl, _, rfl, iteB (by rw [t50 h4]; rfl) (done (m26.trans m17))⟩⟩
            injection en with en
            exact Nat.lt_of_le_of_lt (show n ≤ 50 by omega) (by decide +kernel)
          · refine ⟨_, rfl, _, _, rfl, rfl, _, rfl, iteB (decide_eq_false (by omega)) ?_⟩
            exact ⟨_, rfl, _, _, rfl, rfl, _, rfl, iteB (decide_eq_false (by omega)) (done m25)⟩
        · rintro σ H12 ⟨v10, v11, rfl, N12, hb12, ho12, hf12⟩
          refine ⟨_, rfl, _, rfl, (by show 2 ≤ sizeLine; decide), fun q3 hq3 => ⟨_, _, rfl, (pair_w hq3 (hb12.same (aw_same _ _)) fb (ho12.same (aw_same _ _)) fo).1, fD.sh, fD.shown (Nat.le_refl _), Nat.le_trans fD.dp (by decide), _, rfl, rfl, _, rfl, iteB (by rw [decide_eq_true rfl]; rfl) ?_⟩⟩
          have N13 := N12.onS (same_upd hq3 (o := .lst [vb, vo]))
          have t1 := TrAt.rules (K := K) N13.G.all
          have t2 := TrAt.rules (K := K) N13.R.all
          rw [hcon] at t1
          refine ⟨_, rfl, _, rfl, _, _, t1, t2, tRules_dep _, _, rfl, iteB (by rw [teq_refl]; rfl) ?_⟩
          exact ⟨_, _, _, _, _, _, _, rfl, N13⟩
      · rintro σ H6 ⟨v5, v6, v7, v8, v9, v10, v11, rfl, N6⟩
        exact ⟨_, _, _, _, _, _, _, _, _, _, _, rfl, N6.sm⟩
    · rintro σ H2 ⟨v1, v2, v3, v4, v5, v6, v7, v8, v9, v10, v11, rfl, m2⟩
      refine ⟨(by show 1 ≤ sizeLine; decide), fun z1 hz1 => ⟨(by show 1 ≤ sizeLine; decide), fun z2 hz2 => ⟨(by show 2 ≤ sizeLine; decide), fun t ht => ⟨(by show 1 ≤ sizeLine; decide), fun l hl => ?_⟩⟩⟩⟩
      have k4 := same_upd hl (o := .lst [.ref t])
      have k3 := (same_upd ht (o := .tup [.int 10, .ref z2])).trans k4
      have k2 := (same_upd hz2 (o := .lst [.ref z1])).trans k3
      have a1 := k2 _ _ upd_same
      have a2 := k3 _ _ upd_same
      have a3 := k4 _ _ upd_same
      have a4 : upd (upd (upd (upd H2 z1 (.lst [.int 1])) z2 (.lst [.ref z1])) t (.tup [.int 10, .ref z2])) l (.lst [.ref t]) l = some (.lst [.ref t]) := upd_same
      have R1 := ten_at a1 a2 a3 a4
      have tT := rulesT_good (ten_good (z1 := z1) (z2 := z2) (t := t))
      refine ⟨4, .ref l, .int 0, _, .int 0, rfl, R1.th, by rw [ThAt], rules_fit R1 ten_good, by decide, fun n _ z => absurd z (by decide), fun _ l' rs' e R' g' => ?_, fun H5 m5 => ?_⟩
      · injection e with e
        subst e
        rw [ten_uniq a1 a2 a3 a4 R']
        exact ⟨rfl, by decide +kernel⟩
      rw [tells_no4 tT rfl]
      refine ⟨rfl, _, rfl, iteA (decide_eq_true rfl) ?_⟩
      refine ⟨(by show 1 ≤ sizeLine; decide), fun z3 hz3 => ⟨(by show 1 ≤ sizeLine; decide), fun z4 hz4 => ⟨(by show 2 ≤ sizeLine; decide), fun t2 ht2 => ⟨(by show 1 ≤ sizeLine; decide), fun l2 hl2 => ?_⟩⟩⟩⟩
      have j4 := same_upd hl2 (o := .lst [.ref t2])
      have j3 := (same_upd ht2 (o := .tup [.int 10, .ref z4])).trans j4
      have j2 := (same_upd hz4 (o := .lst [.ref z3])).trans j3
      have R2 := ten_at (j2 _ _ upd_same) (j3 _ _ upd_same) (j4 _ _ upd_same) (upd_same : upd (upd (upd (upd H5 z3 (.lst [.int 1])) z4 (.lst [.ref z3])) t2 (.tup [.int 10, .ref z4])) l2 (.lst [.ref t2]) l2 = some (.lst [.ref t2]))
      have tT2 := rulesT_good (ten_good (z1 := z3) (z2 := z4) (t := t2))
      refine ⟨2, .ref l2, .int 2000, _, .int 2000, rfl, R2.th, by rw [ThAt], rules_fit R2 ten_good, by decide, fun n _ z => absurd z (by decide), fun z => absurd z (by decide), fun H6 m6 => ?_⟩
      rw [tells_no2 tT2 (by decide) (by decide) (by decide)]
      refine ⟨rfl, ?_⟩
      have e : decide (V.str (wordOf none) = V.str "") = true := decide_eq_true rfl
      rw [e]
      exact kk _
end
end Lw
set_option Elab.async false
set_option linter.all false
set_option maxRecDepth 100000
namespace Lw
open PySem L2
def FF (K : PySem.W.Frag) (n q : Str) (st : Stmt) (f : Addr) (cd : Value) : Prop := ∃ (od an : Option Addr) (sl : Array (Option Value)) (oc kV dc pm ct : Value), K.lookup f = some ⟨oc, od, .func (PySem.W.fnOf n q (defArgs st) (defBody st) (defScope st) .none kV dc pm an cd ct), sl⟩ ∧ PySem.W.codeIn K cd q = true ∧ PySem.W.keepIn K (.ref f) = true
def FD (K : PySem.W.Frag) (n : Str) (st : Stmt) : Prop := ∃ (f : Addr) (cd : Value), PySem.W.nsIn K mainGlobals n = some (some (.ref f)) ∧ FF K n n st f cd
section
variable {K : PySem.W.Frag} {n q : Str} {st : Stmt} {f C : Addr} {cd : Value} {od an : Option Addr} {sl : Array (Option Value)} {oc kV dc pm ct : Value}
theorem fdm (a : PySem.W.nsIn K mainGlobals n = some (some (.ref f))) (l : K.lookup f = some ⟨oc, od, .func (PySem.W.fnOf n n (defArgs st) (defBody st) (defScope st) .none kV dc pm an cd ct), sl⟩) (e : PySem.W.codeIn K cd n = true) (k : PySem.W.keepIn K (.ref f) = true) : FD K n st := ⟨f, cd, a, od, an, sl, oc, kV, dc, pm, ct, l, e, k⟩
def FB (n q : Str) (st : Stmt) (ps : List Str) : Prop := ∀ (kV doc pm : Value) (an : Option Addr) (cdv ct : Value) (us : List Value), us.length = ps.length → bindArgs (PySem.W.fnOf n q (defArgs st) (defBody st) (defScope st) .none kV doc pm an cdv ct) ⟨us, []⟩ = pure (ps.zip us)
theorem FD.df {h : Heap} {mg : Str → Option Value} {ps : List Str} (x : FD K n st) (X : K.In h) (G : h.Ns mainGlobals mg) (b : FB n n st ps) : ∃ f fd, Df K mg n st ps f fd := by
  obtain ⟨f, cd, a, od, an, sl, oc, kV, dc, pm, ct, l, e, k⟩ := x
  exact ⟨_, _, df_mk X G a l e k b⟩
end
structure CF (K : PySem.W.Frag) (n : Str) (C : Addr) : Prop where
  g : PySem.W.nsIn K mainGlobals n = some (some (.ref C))
  m : PySem.W.mroIn K C (.type "object") = some true
  t : PySem.W.typeIn K (.ref C) = some (.type "type")
theorem CF.cls {K : PySem.W.Frag} {n : Str} {C D : Addr} {b : Bool} (x : CF K n D) (e : PySem.W.mroIn K C (.ref D) = some b) : PySem.W.kitCls K (.ref C) (.ref D) = some b := by
  obtain ⟨cd, h, _⟩ := Option.bind_eq_some_iff.mp x.m
  show (if ((PySem.W.clsIn K D).isSome && PySem.W.typeIn K (.ref D) == some (.type "type")) = true then PySem.W.subIn K (.ref C) (.ref D) else none) = _
  rw [if_pos (by rw [h, x.t, Option.isSome_some, Bool.true_and]; exact beq_self_eq_true _)]
  exact e
theorem CF.no {K : PySem.W.Frag} {n : Str} {C D : Addr} (x : CF K n D) (s : PySem.W.mroIn K C (.ref C) = some true) (e : PySem.W.mroIn K C (.ref D) = some false) : PySem.W.kitOne K (.ref C) (.ref D) = some false := by
  unfold PySem.W.kitOne
  rw [if_neg (fun q => by
    have h : Value.ref C = Value.ref D := eq_of_beq q
    injection h with h
    rw [← h, s] at e
    cases e)]
  exact x.cls e
theorem kit_self {K : PySem.W.Frag} {C : Addr} : PySem.W.kitOne K (.ref C) (.ref C) = some true := by
  unfold PySem.W.kitOne
  rw [if_pos (beq_self_eq_true _)]
theorem kit_ve {K : PySem.W.Frag} {C : Addr} (e : PySem.W.mroIn K C (.type "ValueError") = some true) : PySem.W.kitOne K (.ref C) (.type "ValueError") = some true := by
  unfold PySem.W.kitOne
  split
  · rfl
  · show (if PySem.W.kitMeta "ValueError" = true then PySem.W.subIn K (.ref C) (.type "ValueError") else none) = _
    rw [if_pos (by decide +kernel)]
    exact e
set_option maxHeartbeats 0 in
theorem all_mk {l : PySem.W.OpenLaw} {w : World} {K : PySem.W.Frag} {h : Heap} {mg : Str → Option Value} {fa : Addr} (X : K.In h) (G : h.Ns mainGlobals mg) (hfa : mg "law" = some (.ref fa))
    (x0 : FD K "is_whole" s_is_whole)
    (x1 : FD K "is_number" s_is_number)
    (x2 : FD K "is_base" s_is_base)
    (x3 : FD K "is_figure" s_is_figure)
    (x4 : FD K "are_figures" s_are_figures)
    (x5 : FD K "is_stretch" s_is_stretch)
    (x6 : FD K "is_rising" s_is_rising)
    (x7 : FD K "is_bad_list" s_is_bad_list)
    (x8 : FD K "is_rule" s_is_rule)
    (x9 : FD K "check_base" s_check_base)
    (x10 : FD K "check_number" s_check_number)
    (x11 : FD K "check_rule" s_check_rule)
    (x12 : FD K "stands_within" s_stands_within)
    (x13 : FD K "lacks_all" s_lacks_all)
    (x14 : FD K "figures_of" s_figures_of)
    (x15 : FD K "is_good" s_is_good)
    (x16 : FD K "are_rules" s_are_rules)
    (x17 : FD K "check_rules" s_check_rules)
    (x18 : FD K "check_bound" s_check_bound)
    (x19 : FD K "is_good_by_each" s_is_good_by_each)
    (x20 : FD K "keeps_all" s_keeps_all)
    (x21 : FD K "all_keeping" s_all_keeping)
    (x22 : FD K "count_keeping" s_count_keeping)
    (x23 : FD K "next_keeping" s_next_keeping)
    (x24 : FD K "unlike_stretches" s_unlike_stretches)
    (x25 : FD K "is_needless" s_is_needless)
    (x26 : FD K "one_rule" s_one_rule)
    (x27 : FD K "_law_cell" s__law_cell)
    (x28 : FD K "_law_store" s__law_store)
    (x29 : FD K "_law_take" s__law_take)
    (x30 : FD K "_law_stretch" s__law_stretch)
    (x31 : FD K "_law_bad" s__law_bad)
    (x32 : FD K "_law_base" s__law_base)
    (x33 : FD K "_law_rules" s__law_rules)
    (x34 : FD K "_law_copies" s__law_copies)
    (x35 : FD K "_law_kind" s__law_kind)
    (x36 : FD K "_law_no_rule" s__law_no_rule)
    (x37 : FD K "_law_no_rules" s__law_no_rules)
    (x38 : FD K "_law_word" s__law_word)
    (x39 : FD K "law" s_law)
    {CNoBase : Addr} (qNoBase : CF K "NoBase" CNoBase)
    {CNoNumber : Addr} (qNoNumber : CF K "NoNumber" CNoNumber)
    {CNoFigures : Addr} (qNoFigures : CF K "NoFigures" CNoFigures)
    {CNoRule : Addr} (qNoRule : CF K "NoRule" CNoRule)
    {CNoStand : Addr} (qNoStand : CF K "NoStand" CNoStand)
    {CNoGood : Addr} (qNoGood : CF K "NoGood" CNoGood)
    {CEndless : Addr} (qEndless : CF K "Endless" CEndless)
    {CNoRules : Addr} (qNoRules : CF K "NoRules" CNoRules)
    {CNoStretch : Addr} (qNoStretch : CF K "NoStretch" CNoStretch)
    {CTooMany : Addr} (qTooMany : CF K "TooMany" CTooMany)
    {CNoText : Addr} (qNoText : CF K "NoText" CNoText)
    {CNoName : Addr} (qNoName : CF K "NoName" CNoName)
    {CNoRow : Addr} (qNoRow : CF K "NoRow" CNoRow)
    {CLackError : Addr} (qLackError : CF K "LackError" CLackError)
    (mLE : PySem.W.mroIn K CLackError (.type "BaseException") = some true) (nVE : PySem.W.nsIn K mainGlobals "ValueError" = some none)
    (pNoRules : PySem.W.excIn K CNoRules veT "ValueError.__new__" = true) (iNoRules : ExcI K CNoRules) (vNoRules : PySem.W.mroIn K CNoRules (.type "ValueError") = some true) (lNoRules : PySem.W.mroIn K CNoRules (.ref CLackError) = some true)
    (mNoRules_NoBase : PySem.W.mroIn K CNoRules (.ref CNoBase) = some false)
    (mNoRules_NoNumber : PySem.W.mroIn K CNoRules (.ref CNoNumber) = some false)
    (mNoRules_NoFigures : PySem.W.mroIn K CNoRules (.ref CNoFigures) = some false)
    (mNoRules_NoRule : PySem.W.mroIn K CNoRules (.ref CNoRule) = some false)
    (mNoRules_NoStand : PySem.W.mroIn K CNoRules (.ref CNoStand) = some false)
    (mNoRules_NoGood : PySem.W.mroIn K CNoRules (.ref CNoGood) = some false)
    (mNoRules_Endless : PySem.W.mroIn K CNoRules (.ref CEndless) = some false)
    (mNoRules_NoRules : PySem.W.mroIn K CNoRules (.ref CNoRules) = some true)
    (mNoRules_NoStretch : PySem.W.mroIn K CNoRules (.ref CNoStretch) = some false)
    (mNoRules_TooMany : PySem.W.mroIn K CNoRules (.ref CTooMany) = some false)
    (mNoRules_NoText : PySem.W.mroIn K CNoRules (.ref CNoText) = some false)
    (mNoRules_NoName : PySem.W.mroIn K CNoRules (.ref CNoName) = some false)
    (mNoRules_NoRow : PySem.W.mroIn K CNoRules (.ref CNoRow) = some false)
    (pNoNumber : PySem.W.excIn K CNoNumber veT "ValueError.__new__" = true) (iNoNumber : ExcI K CNoNumber) (vNoNumber : PySem.W.mroIn K CNoNumber (.type "ValueError") = some true) (lNoNumber : PySem.W.mroIn K CNoNumber (.ref CLackError) = some true)
    (mNoNumber_NoBase : PySem.W.mroIn K CNoNumber (.ref CNoBase) = some false)
    (mNoNumber_NoNumber : PySem.W.mroIn K CNoNumber (.ref CNoNumber) = some true)
    (mNoNumber_NoFigures : PySem.W.mroIn K CNoNumber (.ref CNoFigures) = some false)
    (mNoNumber_NoRule : PySem.W.mroIn K CNoNumber (.ref CNoRule) = some false)
    (mNoNumber_NoStand : PySem.W.mroIn K CNoNumber (.ref CNoStand) = some false)
    (mNoNumber_NoGood : PySem.W.mroIn K CNoNumber (.ref CNoGood) = some false)
    (mNoNumber_Endless : PySem.W.mroIn K CNoNumber (.ref CEndless) = some false)
    (mNoNumber_NoRules : PySem.W.mroIn K CNoNumber (.ref CNoRules) = some false)
    (mNoNumber_NoStretch : PySem.W.mroIn K CNoNumber (.ref CNoStretch) = some false)
    (mNoNumber_TooMany : PySem.W.mroIn K CNoNumber (.ref CTooMany) = some false)
    (mNoNumber_NoText : PySem.W.mroIn K CNoNumber (.ref CNoText) = some false)
    (mNoNumber_NoName : PySem.W.mroIn K CNoNumber (.ref CNoName) = some false)
    (mNoNumber_NoRow : PySem.W.mroIn K CNoNumber (.ref CNoRow) = some false)
    (pTooMany : PySem.W.excIn K CTooMany veT "ValueError.__new__" = true) (iTooMany : ExcI K CTooMany) (vTooMany : PySem.W.mroIn K CTooMany (.type "ValueError") = some true) (lTooMany : PySem.W.mroIn K CTooMany (.ref CLackError) = some true)
    (mTooMany_NoBase : PySem.W.mroIn K CTooMany (.ref CNoBase) = some false)
    (mTooMany_NoNumber : PySem.W.mroIn K CTooMany (.ref CNoNumber) = some false)
    (mTooMany_NoFigures : PySem.W.mroIn K CTooMany (.ref CNoFigures) = some false)
    (mTooMany_NoRule : PySem.W.mroIn K CTooMany (.ref CNoRule) = some false)
    (mTooMany_NoStand : PySem.W.mroIn K CTooMany (.ref CNoStand) = some false)
    (mTooMany_NoGood : PySem.W.mroIn K CTooMany (.ref CNoGood) = some false)
    (mTooMany_Endless : PySem.W.mroIn K CTooMany (.ref CEndless) = some false)
    (mTooMany_NoRules : PySem.W.mroIn K CTooMany (.ref CNoRules) = some false)
    (mTooMany_NoStretch : PySem.W.mroIn K CTooMany (.ref CNoStretch) = some false)
    (mTooMany_TooMany : PySem.W.mroIn K CTooMany (.ref CTooMany) = some true)
    (mTooMany_NoText : PySem.W.mroIn K CTooMany (.ref CNoText) = some false)
    (mTooMany_NoName : PySem.W.mroIn K CTooMany (.ref CNoName) = some false)
    (mTooMany_NoRow : PySem.W.mroIn K CTooMany (.ref CNoRow) = some false)
    (pNoRule : PySem.W.excIn K CNoRule veT "ValueError.__new__" = true) (iNoRule : ExcI K CNoRule) (vNoRule : PySem.W.mroIn K CNoRule (.type "ValueError") = some true) (lNoRule : PySem.W.mroIn K CNoRule (.ref CLackError) = some true)
    (mNoRule_NoBase : PySem.W.mroIn K CNoRule (.ref CNoBase) = some false)
    (mNoRule_NoNumber : PySem.W.mroIn K CNoRule (.ref CNoNumber) = some false)
    (mNoRule_NoFigures : PySem.W.mroIn K CNoRule (.ref CNoFigures) = some false)
    (mNoRule_NoRule : PySem.W.mroIn K CNoRule (.ref CNoRule) = some true)
    (mNoRule_NoStand : PySem.W.mroIn K CNoRule (.ref CNoStand) = some false)
    (mNoRule_NoGood : PySem.W.mroIn K CNoRule (.ref CNoGood) = some false)
    (mNoRule_Endless : PySem.W.mroIn K CNoRule (.ref CEndless) = some false)
    (mNoRule_NoRules : PySem.W.mroIn K CNoRule (.ref CNoRules) = some false)
    (mNoRule_NoStretch : PySem.W.mroIn K CNoRule (.ref CNoStretch) = some false)
    (mNoRule_TooMany : PySem.W.mroIn K CNoRule (.ref CTooMany) = some false)
    (mNoRule_NoText : PySem.W.mroIn K CNoRule (.ref CNoText) = some false)
    (mNoRule_NoName : PySem.W.mroIn K CNoRule (.ref CNoName) = some false)
    (mNoRule_NoRow : PySem.W.mroIn K CNoRule (.ref CNoRow) = some false)
    (pNoBase : PySem.W.excIn K CNoBase veT "ValueError.__new__" = true) (iNoBase : ExcI K CNoBase) (vNoBase : PySem.W.mroIn K CNoBase (.type "ValueError") = some true) (lNoBase : PySem.W.mroIn K CNoBase (.ref CLackError) = some true)
    (mNoBase_NoBase : PySem.W.mroIn K CNoBase (.ref CNoBase) = some true)
    (mNoBase_NoNumber : PySem.W.mroIn K CNoBase (.ref CNoNumber) = some false)
    (mNoBase_NoFigures : PySem.W.mroIn K CNoBase (.ref CNoFigures) = some false)
    (mNoBase_NoRule : PySem.W.mroIn K CNoBase (.ref CNoRule) = some false)
    (mNoBase_NoStand : PySem.W.mroIn K CNoBase (.ref CNoStand) = some false)
    (mNoBase_NoGood : PySem.W.mroIn K CNoBase (.ref CNoGood) = some false)
    (mNoBase_Endless : PySem.W.mroIn K CNoBase (.ref CEndless) = some false)
    (mNoBase_NoRules : PySem.W.mroIn K CNoBase (.ref CNoRules) = some false)
    (mNoBase_NoStretch : PySem.W.mroIn K CNoBase (.ref CNoStretch) = some false)
    (mNoBase_TooMany : PySem.W.mroIn K CNoBase (.ref CTooMany) = some false)
    (mNoBase_NoText : PySem.W.mroIn K CNoBase (.ref CNoText) = some false)
    (mNoBase_NoName : PySem.W.mroIn K CNoBase (.ref CNoName) = some false)
    (mNoBase_NoRow : PySem.W.mroIn K CNoBase (.ref CNoRow) = some false)
    {t0 : Tok} (g0 : PySem.W.nsIn K mainGlobals "LEAST_BASE" = some (some (.int 2 t0)))
    {t1 : Tok} (g1 : PySem.W.nsIn K mainGlobals "GREATEST_BASE" = some (some (.int 16 t1)))
    {t2 : Tok} (g2 : PySem.W.nsIn K mainGlobals "MOST_STRETCHES" = some (some (.int 4 t2)))
    {t3 : Tok} (g3 : PySem.W.nsIn K mainGlobals "LONGEST_STRETCH" = some (some (.int 4 t3)))
    {t4 : Tok} (g4 : PySem.W.nsIn K mainGlobals "MOST_RULES" = some (some (.int 3 t4)))
    {t5 : Tok} (g5 : PySem.W.nsIn K mainGlobals "GREATEST_BOUND" = some (some (.int 2000 t5)))
    {t6 : Tok} (g6 : PySem.W.nsIn K mainGlobals "REACH" = some (some (.int 500 t6)))
    (z0 : PySem.W.nsIn K mainGlobals "isinstance" = some none)
    (z1 : PySem.W.nsIn K mainGlobals "int" = some none)
    (z2 : PySem.W.nsIn K mainGlobals "bool" = some none)
    (z3 : PySem.W.nsIn K mainGlobals "list" = some none)
    (z4 : PySem.W.nsIn K mainGlobals "tuple" = some none)
    (z5 : PySem.W.nsIn K mainGlobals "reversed" = some none)
    (z6 : PySem.W.nsIn K mainGlobals "len" = some none)
    (z7 : PySem.W.nsIn K mainGlobals "max" = some none)
    (z8 : PySem.W.nsIn K mainGlobals "min" = some none)
    (z9 : PySem.W.nsIn K mainGlobals "range" = some none)
    (z10 : PySem.W.nsIn K mainGlobals "all" = some none)
    (z11 : PySem.W.nsIn K mainGlobals "any" = some none)
    (z12 : PySem.W.nsIn K mainGlobals "sorted" = some none)
    (z13 : PySem.W.nsIn K mainGlobals "enumerate" = some none)
    (z14 : PySem.W.nsIn K mainGlobals "repr" = some none)
    (z15 : PySem.W.nsIn K mainGlobals "sum" = some none)
    (z16 : PySem.W.nsIn K mainGlobals "abs" = some none)
    (z17 : PySem.W.nsIn K mainGlobals "zip" = some none)
    (z18 : PySem.W.nsIn K mainGlobals "str" = some none)
    : ∃ fd : FuncData, (∀ (s : Shared) (v : Value), BindsTo s fd ⟨[v], []⟩ [("script", v)]) ∧ ∀ base : Heap, K.In base → base.Ns mainGlobals mg → FnOk l.prog w K mg base CX0 13 fa fd ["script"] (sp_law K) := by
  obtain ⟨fL, cd39, aL, od39, an39, sl39, oc39, kV39, dc39, pm39, ct39, lL, eL, kL⟩ := x39
  have e := hfa.symm.trans (PySem.W.mg_of X G aL)
  cases e
  have T : Blt mg := ⟨PySem.W.mg_none_of X G z0, PySem.W.mg_none_of X G z1, PySem.W.mg_none_of X G z2, PySem.W.mg_none_of X G z3, PySem.W.mg_none_of X G z4, PySem.W.mg_none_of X G z5, PySem.W.mg_none_of X G z6, PySem.W.mg_none_of X G z7, PySem.W.mg_none_of X G z8, PySem.W.mg_none_of X G z9, PySem.W.mg_none_of X G z10, PySem.W.mg_none_of X G z11, PySem.W.mg_none_of X G z12, PySem.W.mg_none_of X G z13, PySem.W.mg_none_of X G z14⟩
  have U : Blt2 mg := ⟨PySem.W.mg_none_of X G z15, PySem.W.mg_none_of X G z16, PySem.W.mg_none_of X G z17, PySem.W.mg_none_of X G z18⟩
  have c_LEAST_BASE := PySem.W.mg_of X G g0
  have c_GREATEST_BASE := PySem.W.mg_of X G g1
  have c_MOST_STRETCHES := PySem.W.mg_of X G g2
  have c_LONGEST_STRETCH := PySem.W.mg_of X G g3
  have c_MOST_RULES := PySem.W.mg_of X G g4
  have c_GREATEST_BOUND := PySem.W.mg_of X G g5
  have c_REACH := PySem.W.mg_of X G g6
  obtain ⟨_, _, Dis_whole⟩ := x0.df (ps := ["thing"]) X G fun _ _ _ _ _ _ us hl => match us, hl with | [_], _ => rfl
  obtain ⟨_, _, Dis_number⟩ := x1.df (ps := ["thing"]) X G fun _ _ _ _ _ _ us hl => match us, hl with | [_], _ => rfl
  obtain ⟨_, _, Dis_base⟩ := x2.df (ps := ["thing"]) X G fun _ _ _ _ _ _ us hl => match us, hl with | [_], _ => rfl
  obtain ⟨_, _, Dis_figure⟩ := x3.df (ps := ["base", "thing"]) X G fun _ _ _ _ _ _ us hl => match us, hl with | [_, _], _ => rfl
  obtain ⟨_, _, Dare_figures⟩ := x4.df (ps := ["base", "thing"]) X G fun _ _ _ _ _ _ us hl => match us, hl with | [_, _], _ => rfl
  obtain ⟨_, _, Dis_stretch⟩ := x5.df (ps := ["base", "thing"]) X G fun _ _ _ _ _ _ us hl => match us, hl with | [_, _], _ => rfl
  obtain ⟨_, _, Dis_rising⟩ := x6.df (ps := ["stretches"]) X G fun _ _ _ _ _ _ us hl => match us, hl with | [_], _ => rfl
  obtain ⟨_, _, Dis_bad_list⟩ := x7.df (ps := ["base", "thing"]) X G fun _ _ _ _ _ _ us hl => match us, hl with | [_, _], _ => rfl
  obtain ⟨_, _, Dis_rule⟩ := x8.df (ps := ["thing"]) X G fun _ _ _ _ _ _ us hl => match us, hl with | [_], _ => rfl
  obtain ⟨_, _, Dcheck_base⟩ := x9.df (ps := ["thing"]) X G fun _ _ _ _ _ _ us hl => match us, hl with | [_], _ => rfl
  obtain ⟨_, _, Dcheck_number⟩ := x10.df (ps := ["thing"]) X G fun _ _ _ _ _ _ us hl => match us, hl with | [_], _ => rfl
  obtain ⟨_, _, Dcheck_rule⟩ := x11.df (ps := ["thing"]) X G fun _ _ _ _ _ _ us hl => match us, hl with | [_], _ => rfl
  obtain ⟨_, _, Dstands_within⟩ := x12.df (ps := ["stretch", "figures"]) X G fun _ _ _ _ _ _ us hl => match us, hl with | [_, _], _ => rfl
  obtain ⟨_, _, Dlacks_all⟩ := x13.df (ps := ["bad", "figures"]) X G fun _ _ _ _ _ _ us hl => match us, hl with | [_, _], _ => rfl
  obtain ⟨_, _, Dfigures_of⟩ := x14.df (ps := ["base", "n"]) X G fun _ _ _ _ _ _ us hl => match us, hl with | [_, _], _ => rfl
  obtain ⟨_, _, Dis_good⟩ := x15.df (ps := ["rule", "n"]) X G fun _ _ _ _ _ _ us hl => match us, hl with | [_, _], _ => rfl
  obtain ⟨_, _, Dare_rules⟩ := x16.df (ps := ["thing"]) X G fun _ _ _ _ _ _ us hl => match us, hl with | [_], _ => rfl
  obtain ⟨_, _, Dcheck_rules⟩ := x17.df (ps := ["thing"]) X G fun _ _ _ _ _ _ us hl => match us, hl with | [_], _ => rfl
  obtain ⟨_, _, Dcheck_bound⟩ := x18.df (ps := ["thing"]) X G fun _ _ _ _ _ _ us hl => match us, hl with | [_], _ => rfl
  obtain ⟨_, _, Dis_good_by_each⟩ := x19.df (ps := ["rules", "n"]) X G fun _ _ _ _ _ _ us hl => match us, hl with | [_, _], _ => rfl
  obtain ⟨_, _, Dkeeps_all⟩ := x20.df (ps := ["rules", "n"]) X G fun _ _ _ _ _ _ us hl => match us, hl with | [_, _], _ => rfl
  obtain ⟨_, _, Dall_keeping⟩ := x21.df (ps := ["rules", "n"]) X G fun _ _ _ _ _ _ us hl => match us, hl with | [_, _], _ => rfl
  obtain ⟨_, _, Dcount_keeping⟩ := x22.df (ps := ["rules", "n"]) X G fun _ _ _ _ _ _ us hl => match us, hl with | [_, _], _ => rfl
  obtain ⟨_, _, Dnext_keeping⟩ := x23.df (ps := ["rules", "n"]) X G fun _ _ _ _ _ _ us hl => match us, hl with | [_, _], _ => rfl
  obtain ⟨_, _, Dunlike_stretches⟩ := x24.df (ps := ["rules"]) X G fun _ _ _ _ _ _ us hl => match us, hl with | [_], _ => rfl
  obtain ⟨_, _, Dis_needless⟩ := x25.df (ps := ["stretches", "stretch"]) X G fun _ _ _ _ _ _ us hl => match us, hl with | [_, _], _ => rfl
  obtain ⟨_, _, Done_rule⟩ := x26.df (ps := ["rules"]) X G fun _ _ _ _ _ _ us hl => match us, hl with | [_], _ => rfl
  obtain ⟨_, _, D_law_cell⟩ := x27.df (ps := ["script", "k"]) X G fun _ _ _ _ _ _ us hl => match us, hl with | [_, _], _ => rfl
  obtain ⟨_, _, D_law_store⟩ := x28.df (ps := ["cell"]) X G fun _ _ _ _ _ _ us hl => match us, hl with | [_], _ => rfl
  obtain ⟨_, _, D_law_take⟩ := x29.df (ps := ["store", "many"]) X G fun _ _ _ _ _ _ us hl => match us, hl with | [_, _], _ => rfl
  obtain ⟨_, _, D_law_stretch⟩ := x30.df (ps := ["store", "base", "few"]) X G fun _ _ _ _ _ _ us hl => match us, hl with | [_, _, _], _ => rfl
  obtain ⟨_, _, D_law_bad⟩ := x31.df (ps := ["store", "base"]) X G fun _ _ _ _ _ _ us hl => match us, hl with | [_, _], _ => rfl
  obtain ⟨_, _, D_law_base⟩ := x32.df (ps := ["store"]) X G fun _ _ _ _ _ _ us hl => match us, hl with | [_], _ => rfl
  obtain ⟨_, _, D_law_rules⟩ := x33.df (ps := ["store"]) X G fun _ _ _ _ _ _ us hl => match us, hl with | [_], _ => rfl
  obtain ⟨_, _, D_law_copies⟩ := x34.df (ps := ["rules"]) X G fun _ _ _ _ _ _ us hl => match us, hl with | [_], _ => rfl
  obtain ⟨_, _, D_law_kind⟩ := x35.df (ps := ["e", "due"]) X G fun _ _ _ _ _ _ us hl => match us, hl with | [_, _], _ => rfl
  obtain ⟨_, _, D_law_no_rule⟩ := x36.df (ps := ["store", "rule"]) X G fun _ _ _ _ _ _ us hl => match us, hl with | [_, _], _ => rfl
  obtain ⟨_, _, D_law_no_rules⟩ := x37.df (ps := ["store", "rules"]) X G fun _ _ _ _ _ _ us hl => match us, hl with | [_, _], _ => rfl
  obtain ⟨_, _, D_law_word⟩ := x38.df (ps := ["door", "rules", "n"]) X G fun _ _ _ _ _ _ us hl => match us, hl with | [_, _, _], _ => rfl
  have Dlaw : Df K mg "law" s_law ["script"] _ _ := df_mk X G aL lL eL kL fun _ _ _ _ _ _ us hl => match us, hl with | [_], _ => rfl
  refine ⟨PySem.W.fnOf "law" "law" (defArgs s_law) (defBody s_law) (defScope s_law) .none kV39 dc39 pm39 an39 cd39 ct39, fun s v => .of_eq rfl, fun base _ _ => ?_⟩
  have XN : XNames mg CNoBase CNoNumber CNoFigures CNoRule CNoStand CNoGood CEndless CNoRules CNoStretch CTooMany CNoText CNoName CNoRow := ⟨PySem.W.mg_of X G qNoBase.g, PySem.W.mg_of X G qNoNumber.g, PySem.W.mg_of X G qNoFigures.g, PySem.W.mg_of X G qNoRule.g, PySem.W.mg_of X G qNoStand.g, PySem.W.mg_of X G qNoGood.g, PySem.W.mg_of X G qEndless.g, PySem.W.mg_of X G qNoRules.g, PySem.W.mg_of X G qNoStretch.g, PySem.W.mg_of X G qTooMany.g, PySem.W.mg_of X G qNoText.g, PySem.W.mg_of X G qNoName.g, PySem.W.mg_of X G qNoRow.g⟩
  have n_ValueError : mg "ValueError" = none := PySem.W.mg_none_of X G nVE
  have h_LackError : CatchC K mg "LackError" CLackError := ⟨PySem.W.mg_of X G qLackError.g, mLE⟩
  have x_NoRules : ExcC K mg "NoRules" CNoRules := ⟨PySem.W.mg_of X G qNoRules.g, pNoRules⟩
  have kt_NoRules : PySem.W.kitCls K (.ref CNoRules) (.ref CLackError) = some true := qLackError.cls lNoRules
  have kd_NoRules : KindK K CNoRules CNoBase CNoNumber CNoFigures CNoRule CNoStand CNoGood CEndless CNoRules CNoStretch CTooMany CNoText CNoName CNoRow 7 := ⟨iNoRules, kit_ve vNoRules, qNoBase.no mNoRules_NoRules mNoRules_NoBase, qNoNumber.no mNoRules_NoRules mNoRules_NoNumber, qNoFigures.no mNoRules_NoRules mNoRules_NoFigures, qNoRule.no mNoRules_NoRules mNoRules_NoRule, qNoStand.no mNoRules_NoRules mNoRules_NoStand, qNoGood.no mNoRules_NoRules mNoRules_NoGood, qEndless.no mNoRules_NoRules mNoRules_Endless, kit_self, qNoStretch.no mNoRules_NoRules mNoRules_NoStretch, qTooMany.no mNoRules_NoRules mNoRules_TooMany, qNoText.no mNoRules_NoRules mNoRules_NoText, qNoName.no mNoRules_NoRules mNoRules_NoName, qNoRow.no mNoRules_NoRules mNoRules_NoRow⟩
  have x_NoNumber : ExcC K mg "NoNumber" CNoNumber := ⟨PySem.W.mg_of X G qNoNumber.g, pNoNumber⟩
  have kt_NoNumber : PySem.W.kitCls K (.ref CNoNumber) (.ref CLackError) = some true := qLackError.cls lNoNumber
  have kd_NoNumber : KindK K CNoNumber CNoBase CNoNumber CNoFigures CNoRule CNoStand CNoGood CEndless CNoRules CNoStretch CTooMany CNoText CNoName CNoRow 1 := ⟨iNoNumber, kit_ve vNoNumber, qNoBase.no mNoNumber_NoNumber mNoNumber_NoBase, kit_self, qNoFigures.no mNoNumber_NoNumber mNoNumber_NoFigures, qNoRule.no mNoNumber_NoNumber mNoNumber_NoRule, qNoStand.no mNoNumber_NoNumber mNoNumber_NoStand, qNoGood.no mNoNumber_NoNumber mNoNumber_NoGood, qEndless.no mNoNumber_NoNumber mNoNumber_Endless, qNoRules.no mNoNumber_NoNumber mNoNumber_NoRules, qNoStretch.no mNoNumber_NoNumber mNoNumber_NoStretch, qTooMany.no mNoNumber_NoNumber mNoNumber_TooMany, qNoText.no mNoNumber_NoNumber mNoNumber_NoText, qNoName.no mNoNumber_NoNumber mNoNumber_NoName, qNoRow.no mNoNumber_NoNumber mNoNumber_NoRow⟩
  have x_TooMany : ExcC K mg "TooMany" CTooMany := ⟨PySem.W.mg_of X G qTooMany.g, pTooMany⟩
  have kt_TooMany : PySem.W.kitCls K (.ref CTooMany) (.ref CLackError) = some true := qLackError.cls lTooMany
  have kd_TooMany : KindK K CTooMany CNoBase CNoNumber CNoFigures CNoRule CNoStand CNoGood CEndless CNoRules CNoStretch CTooMany CNoText CNoName CNoRow 9 := ⟨iTooMany, kit_ve vTooMany, qNoBase.no mTooMany_TooMany mTooMany_NoBase, qNoNumber.no mTooMany_TooMany mTooMany_NoNumber, qNoFigures.no mTooMany_TooMany mTooMany_NoFigures, qNoRule.no mTooMany_TooMany mTooMany_NoRule, qNoStand.no mTooMany_TooMany mTooMany_NoStand, qNoGood.no mTooMany_TooMany mTooMany_NoGood, qEndless.no mTooMany_TooMany mTooMany_Endless, qNoRules.no mTooMany_TooMany mTooMany_NoRules, qNoStretch.no mTooMany_TooMany mTooMany_NoStretch, kit_self, qNoText.no mTooMany_TooMany mTooMany_NoText, qNoName.no mTooMany_TooMany mTooMany_NoName, qNoRow.no mTooMany_TooMany mTooMany_NoRow⟩
  have x_NoRule : ExcC K mg "NoRule" CNoRule := ⟨PySem.W.mg_of X G qNoRule.g, pNoRule⟩
  have kt_NoRule : PySem.W.kitCls K (.ref CNoRule) (.ref CLackError) = some true := qLackError.cls lNoRule
  have kd_NoRule : KindK K CNoRule CNoBase CNoNumber CNoFigures CNoRule CNoStand CNoGood CEndless CNoRules CNoStretch CTooMany CNoText CNoName CNoRow 3 := ⟨iNoRule, kit_ve vNoRule, qNoBase.no mNoRule_NoRule mNoRule_NoBase, qNoNumber.no mNoRule_NoRule mNoRule_NoNumber, qNoFigures.no mNoRule_NoRule mNoRule_NoFigures, kit_self, qNoStand.no mNoRule_NoRule mNoRule_NoStand, qNoGood.no mNoRule_NoRule mNoRule_NoGood, qEndless.no mNoRule_NoRule mNoRule_Endless, qNoRules.no mNoRule_NoRule mNoRule_NoRules, qNoStretch.no mNoRule_NoRule mNoRule_NoStretch, qTooMany.no mNoRule_NoRule mNoRule_TooMany, qNoText.no mNoRule_NoRule mNoRule_NoText, qNoName.no mNoRule_NoRule mNoRule_NoName, qNoRow.no mNoRule_NoRule mNoRule_NoRow⟩
  have x_NoBase : ExcC K mg "NoBase" CNoBase := ⟨PySem.W.mg_of X G qNoBase.g, pNoBase⟩
  have kt_NoBase : PySem.W.kitCls K (.ref CNoBase) (.ref CLackError) = some true := qLackError.cls lNoBase
  have kd_NoBase : KindK K CNoBase CNoBase CNoNumber CNoFigures CNoRule CNoStand CNoGood CEndless CNoRules CNoStretch CTooMany CNoText CNoName CNoRow 0 := ⟨iNoBase, kit_ve vNoBase, kit_self, qNoNumber.no mNoBase_NoBase mNoBase_NoNumber, qNoFigures.no mNoBase_NoBase mNoBase_NoFigures, qNoRule.no mNoBase_NoBase mNoBase_NoRule, qNoStand.no mNoBase_NoBase mNoBase_NoStand, qNoGood.no mNoBase_NoBase mNoBase_NoGood, qEndless.no mNoBase_NoBase mNoBase_Endless, qNoRules.no mNoBase_NoBase mNoBase_NoRules, qNoStretch.no mNoBase_NoBase mNoBase_NoStretch, qTooMany.no mNoBase_NoBase mNoBase_TooMany, qNoText.no mNoBase_NoBase mNoBase_NoText, qNoName.no mNoBase_NoBase mNoBase_NoName, qNoRow.no mNoBase_NoBase mNoBase_NoRow⟩
  have Gis_whole : FnOk l.prog w K mg base CX0 1 _ _ ["thing"] sp_is_whole := ok_is_whole Dis_whole T
  have Gis_base : FnOk l.prog w K mg base CX0 2 _ _ ["thing"] sp_is_base := ok_is_base Dis_base Dis_whole T c_LEAST_BASE c_GREATEST_BASE
  have Gis_figure : FnOk l.prog w K mg base CX0 2 _ _ ["base", "thing"] sp_is_figure := ok_is_figure Dis_figure Dis_whole T
  have Gare_figures : FnOk l.prog w K mg base CX0 3 _ _ ["base", "thing"] sp_are_figures := ok_are_figures Dare_figures Dis_figure Gis_figure T
  have Gis_stretch : FnOk l.prog w K mg base CX0 4 _ _ ["base", "thing"] sp_is_stretch := ok_is_stretch Dis_stretch Dare_figures Gare_figures c_LONGEST_STRETCH T
  have Gis_rising : FnOk l.prog w K mg base CX0 1 _ _ ["stretches"] sp_is_rising := ok_is_rising Dis_rising T
  have Gis_bad_list : FnOk l.prog w K mg base CX0 5 _ _ ["base", "thing"] sp_is_bad_list := ok_is_bad_list Dis_bad_list Dis_stretch Gis_stretch Dis_rising c_MOST_STRETCHES T
  have Gis_rule : FnOk l.prog w K mg base CX0 6 _ _ ["thing"] sp_is_rule := ok_is_rule Dis_rule Dis_base Gis_base Dis_bad_list Gis_bad_list T
  have Gstands_within : FnOk l.prog w K mg base CX0 1 _ _ ["stretch", "figures"] sp_stands_within := ok_stands_within Dstands_within T
  have Glacks_all : FnOk l.prog w K mg base CX0 2 _ _ ["bad", "figures"] sp_lacks_all := ok_lacks_all Dlacks_all Dstands_within T
  have Gis_number : FnOk l.prog w K mg base CX0 2 _ _ ["thing"] sp_is_number := ok_is_number Dis_number Dis_whole T
  have Gcheck_rule : FnOk l.prog w K mg base (CX1 l.prog w) 7 _ _ ["thing"] (sp_check_rule CNoRule) := ok_check_rule Dcheck_rule Dis_rule Gis_rule x_NoRule
  have Gcheck_base : FnOk l.prog w K mg base (CX1 l.prog w) 3 _ _ ["thing"] (sp_check_base CNoBase) := ok_check_base Dcheck_base Dis_base Gis_base x_NoBase
  have Gcheck_number : FnOk l.prog w K mg base (CX1 l.prog w) 3 _ _ ["thing"] (sp_check_number CNoNumber) := ok_check_number Dcheck_number Dis_number Gis_number x_NoNumber
  have Gfigures_of : FnOk l.prog w K mg base (CX1 l.prog w) 4 _ _ ["base", "n"] (sp_figures_of CNoBase CNoNumber) := ok_figures_of Dfigures_of Dcheck_base Gcheck_base Dcheck_number Gcheck_number T
  have Gis_good : FnOk l.prog w K mg base (CX1 l.prog w) 8 _ _ ["rule", "n"] (sp_is_good CNoRule CNoNumber) := ok_is_good Dis_good Dcheck_rule Gcheck_rule Dlacks_all Glacks_all Dfigures_of Gfigures_of T
  have G_law_cell : FnOk l.prog w K mg base CX0 1 _ _ ["script", "k"] (sp__law_cell K) := ok__law_cell D_law_cell T
  have G_law_store : FnOk l.prog w K mg base CX0 1 _ _ ["cell"] sp__law_store := ok__law_store D_law_store T
  have G_law_take : FnOk l.prog w K mg base CX0 1 _ _ ["store", "many"] sp__law_take := ok__law_take D_law_take T
  have G_law_base : FnOk l.prog w K mg base CX0 2 _ _ ["store"] sp__law_base := ok__law_base D_law_base D_law_take T
  have G_law_stretch : FnOk l.prog w K mg base CX0 2 _ _ ["store", "base", "few"] sp__law_stretch := ok__law_stretch D_law_stretch D_law_take T
  have G_law_bad : FnOk l.prog w K mg base CX0 3 _ _ ["store", "base"] sp__law_bad := ok__law_bad D_law_bad D_law_take D_law_stretch T
  have G_law_rules : FnOk l.prog w K mg base CX0 4 _ _ ["store"] sp__law_rules := ok__law_rules D_law_rules D_law_take D_law_stretch D_law_base D_law_bad T
  have G_law_copies : FnOk l.prog w K mg base CX0 1 _ _ ["rules"] sp__law_copies := ok__law_copies D_law_copies T
  have Gare_rules : FnOk l.prog w K mg base CX0 7 _ _ ["thing"] sp_are_rules := ok_are_rules Dare_rules Dis_rule Gis_rule c_MOST_RULES T
  have Gcheck_rules : FnOk l.prog w K mg base (CX1 l.prog w) 8 _ _ ["thing"] (sp_check_rules CNoRules) := ok_check_rules Dcheck_rules Dare_rules Gare_rules x_NoRules
  have Gis_good_by_each : FnOk l.prog w K mg base (CX1 l.prog w) 9 _ _ ["rules", "n"] (sp_is_good_by_each CNoNumber) := ok_is_good_by_each Dis_good_by_each Dis_good Gis_good T
  have Gkeeps_all : FnOk l.prog w K mg base (CX1 l.prog w) 10 _ _ ["rules", "n"] (sp_keeps_all CNoRules CNoNumber) := ok_keeps_all Dkeeps_all Dcheck_rules Gcheck_rules Dis_good_by_each Gis_good_by_each
  have Gcheck_bound : FnOk l.prog w K mg base (CX1 l.prog w) 3 _ _ ["thing"] (sp_check_bound CNoNumber) := ok_check_bound Dcheck_bound Dis_number Gis_number x_NoNumber c_GREATEST_BOUND
  have Gall_keeping : FnOk l.prog w K mg base (CX1 l.prog w) 10 _ _ ["rules", "n"] (sp_all_keeping CNoRules CNoNumber) := ok_all_keeping Dall_keeping Dcheck_rules Gcheck_rules Dcheck_bound Gcheck_bound Dis_good_by_each Gis_good_by_each T
  have Gcount_keeping : FnOk l.prog w K mg base (CX1 l.prog w) 11 _ _ ["rules", "n"] (sp_count_keeping CNoRules CNoNumber) := ok_count_keeping Dcount_keeping Dall_keeping Gall_keeping T
  have Gnext_keeping : FnOk l.prog w K mg base (CX1 l.prog w) 10 _ _ ["rules", "n"] (sp_next_keeping CNoRules CNoNumber) := ok_next_keeping Dnext_keeping Dcheck_rules Gcheck_rules Dis_good_by_each Gis_good_by_each Dcheck_number Gcheck_number c_REACH T
  have Gunlike_stretches : FnOk l.prog w K mg base CX0 1 _ _ ["rules"] sp_unlike_stretches := ok_unlike_stretches Dunlike_stretches T
  have Gis_needless : FnOk l.prog w K mg base CX0 2 _ _ ["stretches", "stretch"] sp_is_needless := ok_is_needless Dis_needless Dstands_within T
  have Gone_rule : FnOk l.prog w K mg base (CX1 l.prog w) 9 _ _ ["rules"] (sp_one_rule CNoRules CTooMany) := ok_one_rule Done_rule Dcheck_rules Gcheck_rules Dunlike_stretches Dis_needless Dstands_within x_NoRules x_TooMany c_MOST_STRETCHES T
  have G_law_kind : FnOk l.prog w K mg base CX0 1 _ _ ["e", "due"] (sp__law_kind K CNoBase CNoNumber CNoFigures CNoRule CNoStand CNoGood CEndless CNoRules CNoStretch CTooMany CNoText CNoName CNoRow) := ok__law_kind D_law_kind XN n_ValueError T U
  have G_law_word : FnOk l.prog w K mg base CX0 12 _ _ ["door", "rules", "n"] sp__law_word := ok__law_word D_law_word Dkeeps_all Gkeeps_all Dnext_keeping Gnext_keeping Dcount_keeping Gcount_keeping Dall_keeping Gall_keeping Done_rule Gone_rule D_law_kind XN n_ValueError h_LackError kt_NoRules kt_NoNumber kt_TooMany kd_NoRules kd_NoNumber T U
  have G_law_no_rule : FnOk l.prog w K mg base CX0 2 _ _ ["store", "rule"] sp__law_no_rule := ok__law_no_rule D_law_no_rule D_law_take T
  have G_law_no_rules : FnOk l.prog w K mg base CX0 3 _ _ ["store", "rules"] sp__law_no_rules := ok__law_no_rules D_law_no_rules D_law_take D_law_no_rule G_law_no_rule T
  exact ok_law Dlaw D_law_cell D_law_store D_law_take D_law_stretch D_law_bad D_law_base D_law_rules D_law_copies D_law_no_rules G_law_no_rules D_law_word G_law_word T
theorem walk {l : PySem.W.OpenLaw} {q : Program} {loose : List Str} {XP : (Str → Option Value) → Heap → Prop} {YP : World → Heap → Prop} {d : DefRec} {K : Params → PySem.W.Frag} (hn : l.most = some 63) (hdf : d.params.defaults = [])
    (hY : ∀ (w : World) (h : Heap), YP w h → (K w.params).In h)
    (F : ∀ (w : World) (mg : Str → Option Value) (fa : Addr) (h : Heap), (K w.params).In h → h.Ns mainGlobals mg → mg d.name = some (.ref fa) →
      ∃ fd : FuncData, (∀ (s : Shared) (u : Value), BindsTo s fd ⟨[u], []⟩ [("script", u)]) ∧ ∀ base : Heap, (K w.params).In base → base.Ns mainGlobals mg → FnOk l.prog w (K w.params) mg base CX0 13 fa fd ["script"] (sp_law (K w.params))) :
    PySem.W.WalkO q loose XP YP l.row.toRowW d [] (fun f vs => PySem.call f vs) :=
  L2.walk_of (n := 63) (k := 13) (x := "script") (CX := fun _ => CX0) (sp := fun w => sp_law (K w.params)) hn (by decide) hdf ⟨rfl, by decide, by decide, rfl⟩ hY F (fun _ _ a ns hl _ hS => ⟨a, ns, rfl, hS, hl, fun _ => rfl⟩) fun _ _ _ _ _ z => z
end Lw
open PySem PySem.W PyProof.Rows
set_option maxRecDepth 100000 in
set_option maxHeartbeats 0 in
theorem PySem.Challenge.cw_lackstretch_k30_together_refused_holds : PySem.Challenge.rw_lackstretch_k30_together_refused.Holds := by
  w_on; o_law; k_head; (case hw => w_witness2)
  k_fill
  refine Lw.walk (l := PySem.Challenge.rw_lackstretch_k30_together_refused) rfl rfl (fun w h Y => PySem.W.kIn_of Y) ?F
  case F =>
    intro w mg fa h KX G hmg
    refine' Lw.all_mk KX G hmg ?yyx0 ?yyx1 ?yyx2 ?yyx3 ?yyx4 ?yyx5 ?yyx6 ?yyx7 ?yyx8 ?yyx9 ?yyx10 ?yyx11 ?yyx12 ?yyx13 ?yyx14 ?yyx15 ?yyx16 ?yyx17 ?yyx18 ?yyx19 ?yyx20 ?yyx21 ?yyx22 ?yyx23 ?yyx24 ?yyx25 ?yyx26 ?yyx27 ?yyx28 ?yyx29 ?yyx30 ?yyx31 ?yyx32 ?yyx33 ?yyx34 ?yyx35 ?yyx36 ?yyx37 ?yyx38 ?yyx39 ?yyqNoBase ?yyqNoNumber ?yyqNoFigures ?yyqNoRule ?yyqNoStand ?yyqNoGood ?yyqEndless ?yyqNoRules ?yyqNoStretch ?yyqTooMany ?yyqNoText ?yyqNoName ?yyqNoRow ?yyqLackError ?yymLE ?yynVE ?yypNoRules ?yyiNoRules ?yyvNoRules ?yylNoRules ?yymNoRules_NoBase ?yymNoRules_NoNumber ?yymNoRules_NoFigures ?yymNoRules_NoRule ?yymNoRules_NoStand ?yymNoRules_NoGood ?yymNoRules_Endless ?yymNoRules_NoRules ?yymNoRules_NoStretch ?yymNoRules_TooMany ?yymNoRules_NoText ?yymNoRules_NoName ?yymNoRules_NoRow ?yypNoNumber ?yyiNoNumber ?yyvNoNumber ?yylNoNumber ?yymNoNumber_NoBase ?yymNoNumber_NoNumber ?yymNoNumber_NoFigures ?yymNoNumber_NoRule ?yymNoNumber_NoStand ?yymNoNumber_NoGood ?yymNoNumber_Endless ?yymNoNumber_NoRules ?yymNoNumber_NoStretch ?yymNoNumber_TooMany ?yymNoNumber_NoText ?yymNoNumber_NoName ?yymNoNumber_NoRow ?yypTooMany ?yyiTooMany ?yyvTooMany ?yylTooMany ?yymTooMany_NoBase ?yymTooMany_NoNumber ?yymTooMany_NoFigures ?yymTooMany_NoRule ?yymTooMany_NoStand ?yymTooMany_NoGood ?yymTooMany_Endless ?yymTooMany_NoRules ?yymTooMany_NoStretch ?yymTooMany_TooMany ?yymTooMany_NoText ?yymTooMany_NoName ?yymTooMany_NoRow ?yypNoRule ?yyiNoRule ?yyvNoRule ?yylNoRule ?yymNoRule_NoBase ?yymNoRule_NoNumber ?yymNoRule_NoFigures ?yymNoRule_NoRule ?yymNoRule_NoStand ?yymNoRule_NoGood ?yymNoRule_Endless ?yymNoRule_NoRules ?yymNoRule_NoStretch ?yymNoRule_TooMany ?yymNoRule_NoText ?yymNoRule_NoName ?yymNoRule_NoRow ?yypNoBase ?yyiNoBase ?yyvNoBase ?yylNoBase ?yymNoBase_NoBase ?yymNoBase_NoNumber ?yymNoBase_NoFigures ?yymNoBase_NoRule ?yymNoBase_NoStand ?yymNoBase_NoGood ?yymNoBase_Endless ?yymNoBase_NoRules ?yymNoBase_NoStretch ?yymNoBase_TooMany ?yymNoBase_NoText ?yymNoBase_NoName ?yymNoBase_NoRow ?yyg0 ?yyg1 ?yyg2 ?yyg3 ?yyg4 ?yyg5 ?yyg6 ?yyz0 ?yyz1 ?yyz2 ?yyz3 ?yyz4 ?yyz5 ?yyz6 ?yyz7 ?yyz8 ?yyz9 ?yyz10 ?yyz11 ?yyz12 ?yyz13 ?yyz14 ?yyz15 ?yyz16 ?yyz17 ?yyz18
    (case yyx0 => refine' Lw.fdm ?_ ?_ ?_ ?_ <;> try k_is)
    (case yyx1 => refine' Lw.fdm ?_ ?_ ?_ ?_ <;> try k_is)
    (case yyx2 => refine' Lw.fdm ?_ ?_ ?_ ?_ <;> try k_is)
    (case yyx3 => refine' Lw.fdm ?_ ?_ ?_ ?_ <;> try k_is)
    (case yyx4 => refine' Lw.fdm ?_ ?_ ?_ ?_ <;> try k_is)
    (case yyx5 => refine' Lw.fdm ?_ ?_ ?_ ?_ <;> try k_is)
    (case yyx6 => refine' Lw.fdm ?_ ?_ ?_ ?_ <;> try k_is)
    (case yyx7 => refine' Lw.fdm ?_ ?_ ?_ ?_ <;> try k_is)
    (case yyx8 => refine' Lw.fdm ?_ ?_ ?_ ?_ <;> try k_is)
    (case yyx9 => refine' Lw.fdm ?_ ?_ ?_ ?_ <;> try k_is)
    (case yyx10 => refine' Lw.fdm ?_ ?_ ?_ ?_ <;> try k_is)
    (case yyx11 => refine' Lw.fdm ?_ ?_ ?_ ?_ <;> try k_is)
    (case yyx12 => refine' Lw.fdm ?_ ?_ ?_ ?_ <;> try k_is)
    (case yyx13 => refine' Lw.fdm ?_ ?_ ?_ ?_ <;> try k_is)
    (case yyx14 => refine' Lw.fdm ?_ ?_ ?_ ?_ <;> try k_is)
    (case yyx15 => refine' Lw.fdm ?_ ?_ ?_ ?_ <;> try k_is)
    (case yyx16 => refine' Lw.fdm ?_ ?_ ?_ ?_ <;> try k_is)
    (case yyx17 => refine' Lw.fdm ?_ ?_ ?_ ?_ <;> try k_is)
    (case yyx18 => refine' Lw.fdm ?_ ?_ ?_ ?_ <;> try k_is)
    (case yyx19 => refine' Lw.fdm ?_ ?_ ?_ ?_ <;> try k_is)
    (case yyx20 => refine' Lw.fdm ?_ ?_ ?_ ?_ <;> try k_is)
    (case yyx21 => refine' Lw.fdm ?_ ?_ ?_ ?_ <;> try k_is)
    (case yyx22 => refine' Lw.fdm ?_ ?_ ?_ ?_ <;> try k_is)
    (case yyx23 => refine' Lw.fdm ?_ ?_ ?_ ?_ <;> try k_is)
    (case yyx24 => refine' Lw.fdm ?_ ?_ ?_ ?_ <;> try k_is)
    (case yyx25 => refine' Lw.fdm ?_ ?_ ?_ ?_ <;> try k_is)
    (case yyx26 => refine' Lw.fdm ?_ ?_ ?_ ?_ <;> try k_is)
    (case yyx27 => refine' Lw.fdm ?_ ?_ ?_ ?_ <;> try k_is)
    (case yyx28 => refine' Lw.fdm ?_ ?_ ?_ ?_ <;> try k_is)
    (case yyx29 => refine' Lw.fdm ?_ ?_ ?_ ?_ <;> try k_is)
    (case yyx30 => refine' Lw.fdm ?_ ?_ ?_ ?_ <;> try k_is)
    (case yyx31 => refine' Lw.fdm ?_ ?_ ?_ ?_ <;> try k_is)
    (case yyx32 => refine' Lw.fdm ?_ ?_ ?_ ?_ <;> try k_is)
    (case yyx33 => refine' Lw.fdm ?_ ?_ ?_ ?_ <;> try k_is)
    (case yyx34 => refine' Lw.fdm ?_ ?_ ?_ ?_ <;> try k_is)
    (case yyx35 => refine' Lw.fdm ?_ ?_ ?_ ?_ <;> try k_is)
    (case yyx36 => refine' Lw.fdm ?_ ?_ ?_ ?_ <;> try k_is)
    (case yyx37 => refine' Lw.fdm ?_ ?_ ?_ ?_ <;> try k_is)
    (case yyx38 => refine' Lw.fdm ?_ ?_ ?_ ?_ <;> try k_is)
    (case yyx39 => refine' Lw.fdm ?_ ?_ ?_ ?_ <;> try k_is)
    (case yyqNoBase => refine' ⟨?_, ?_, ?_⟩ <;> try k_is)
    (case yyqNoNumber => refine' ⟨?_, ?_, ?_⟩ <;> try k_is)
    (case yyqNoFigures => refine' ⟨?_, ?_, ?_⟩ <;> try k_is)
    (case yyqNoRule => refine' ⟨?_, ?_, ?_⟩ <;> try k_is)
    (case yyqNoStand => refine' ⟨?_, ?_, ?_⟩ <;> try k_is)
    (case yyqNoGood => refine' ⟨?_, ?_, ?_⟩ <;> try k_is)
    (case yyqEndless => refine' ⟨?_, ?_, ?_⟩ <;> try k_is)
    (case yyqNoRules => refine' ⟨?_, ?_, ?_⟩ <;> try k_is)
    (case yyqNoStretch => refine' ⟨?_, ?_, ?_⟩ <;> try k_is)
    (case yyqTooMany => refine' ⟨?_, ?_, ?_⟩ <;> try k_is)
    (case yyqNoText => refine' ⟨?_, ?_, ?_⟩ <;> try k_is)
    (case yyqNoName => refine' ⟨?_, ?_, ?_⟩ <;> try k_is)
    (case yyqNoRow => refine' ⟨?_, ?_, ?_⟩ <;> try k_is)
    (case yyqLackError => refine' ⟨?_, ?_, ?_⟩ <;> try k_is)
    (case yymLE => k_is)
    (case yynVE => k_is)
    (case yypNoRules => k_exc)
    (case yyiNoRules => refine' ⟨?_, ?_, ?_, ?_, ?_, ?_, ?_⟩ <;> k_is)
    (case yyvNoRules => k_is)
    (case yylNoRules => k_is)
    (case yymNoRules_NoBase => k_is)
    (case yymNoRules_NoNumber => k_is)
    (case yymNoRules_NoFigures => k_is)
    (case yymNoRules_NoRule => k_is)
    (case yymNoRules_NoStand => k_is)
    (case yymNoRules_NoGood => k_is)
    (case yymNoRules_Endless => k_is)
    (case yymNoRules_NoRules => k_is)
    (case yymNoRules_NoStretch => k_is)
    (case yymNoRules_TooMany => k_is)
    (case yymNoRules_NoText => k_is)
    (case yymNoRules_NoName => k_is)
    (case yymNoRules_NoRow => k_is)
    (case yypNoNumber => k_exc)
    (case yyiNoNumber => refine' ⟨?_, ?_, ?_, ?_, ?_, ?_, ?_⟩ <;> k_is)
    (case yyvNoNumber => k_is)
    (case yylNoNumber => k_is)
    (case yymNoNumber_NoBase => k_is)
    (case yymNoNumber_NoNumber => k_is)
    (case yymNoNumber_NoFigures => k_is)
    (case yymNoNumber_NoRule => k_is)
    (case yymNoNumber_NoStand => k_is)
    (case yymNoNumber_NoGood => k_is)
    (case yymNoNumber_Endless => k_is)
    (case yymNoNumber_NoRules => k_is)
    (case yymNoNumber_NoStretch => k_is)
    (case yymNoNumber_TooMany => k_is)
    (case yymNoNumber_NoText => k_is)
    (case yymNoNumber_NoName => k_is)
    (case yymNoNumber_NoRow => k_is)
    (case yypTooMany => k_exc)
    (case yyiTooMany => refine' ⟨?_, ?_, ?_, ?_, ?_, ?_, ?_⟩ <;> k_is)
    (case yyvTooMany => k_is)
    (case yylTooMany => k_is)
    (case yymTooMany_NoBase => k_is)
    (case yymTooMany_NoNumber => k_is)
    (case yymTooMany_NoFigures => k_is)
    (case yymTooMany_NoRule => k_is)
    (case yymTooMany_NoStand => k_is)
    (case yymTooMany_NoGood => k_is)
    (case yymTooMany_Endless => k_is)
    (case yymTooMany_NoRules => k_is)
    (case yymTooMany_NoStretch => k_is)
    (case yymTooMany_TooMany => k_is)
    (case yymTooMany_NoText => k_is)
    (case yymTooMany_NoName => k_is)
    (case yymTooMany_NoRow => k_is)
    (case yypNoRule => k_exc)
    (case yyiNoRule => refine' ⟨?_, ?_, ?_, ?_, ?_, ?_, ?_⟩ <;> k_is)
    (case yyvNoRule => k_is)
    (case yylNoRule => k_is)
    (case yymNoRule_NoBase => k_is)
    (case yymNoRule_NoNumber => k_is)
    (case yymNoRule_NoFigures => k_is)
    (case yymNoRule_NoRule => k_is)
    (case yymNoRule_NoStand => k_is)
    (case yymNoRule_NoGood => k_is)
    (case yymNoRule_Endless => k_is)
    (case yymNoRule_NoRules => k_is)
    (case yymNoRule_NoStretch => k_is)
    (case yymNoRule_TooMany => k_is)
    (case yymNoRule_NoText => k_is)
    (case yymNoRule_NoName => k_is)
    (case yymNoRule_NoRow => k_is)
    (case yypNoBase => k_exc)
    (case yyiNoBase => refine' ⟨?_, ?_, ?_, ?_, ?_, ?_, ?_⟩ <;> k_is)
    (case yyvNoBase => k_is)
    (case yylNoBase => k_is)
    (case yymNoBase_NoBase => k_is)
    (case yymNoBase_NoNumber => k_is)
    (case yymNoBase_NoFigures => k_is)
    (case yymNoBase_NoRule => k_is)
    (case yymNoBase_NoStand => k_is)
    (case yymNoBase_NoGood => k_is)
    (case yymNoBase_Endless => k_is)
    (case yymNoBase_NoRules => k_is)
    (case yymNoBase_NoStretch => k_is)
    (case yymNoBase_TooMany => k_is)
    (case yymNoBase_NoText => k_is)
    (case yymNoBase_NoName => k_is)
    (case yymNoBase_NoRow => k_is)
    (case yyg0 => k_is)
    (case yyg1 => k_is)
    (case yyg2 => k_is)
    (case yyg3 => k_is)
    (case yyg4 => k_is)
    (case yyg5 => k_is)
    (case yyg6 => k_is)
    (case yyz0 => k_is)
    (case yyz1 => k_is)
    (case yyz2 => k_is)
    (case yyz3 => k_is)
    (case yyz4 => k_is)
    (case yyz5 => k_is)
    (case yyz6 => k_is)
    (case yyz7 => k_is)
    (case yyz8 => k_is)
    (case yyz9 => k_is)
    (case yyz10 => k_is)
    (case yyz11 => k_is)
    (case yyz12 => k_is)
    (case yyz13 => k_is)
    (case yyz14 => k_is)
    (case yyz15 => k_is)
    (case yyz16 => k_is)
    (case yyz17 => k_is)
    (case yyz18 => k_is)
