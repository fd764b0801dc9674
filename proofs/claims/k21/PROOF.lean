import PyProof.Rows.All
import Wide.All
import OpenK.AllK
import Wide.FinOn
import Lean
import PyProof.EqAt
import PyProof.EqKinds
import PyProof.TupleCall
import PyProof.NeKinds
import KE.KRevSl
import KE.KRevIter
import PyProof.ConsumeWalk
import KE.KSortAsk
import KE.KLam
import KE.KSortTup
import PyProof.Rows.SumAny
import KE.KDictSum
import PyProof.EnumStmt
import PyProof.EnumMake
import PyProof.Rows.EnumRows
import PyProof.Rows.FactsN_abs
import PyProof.Rows.SeqMore
import PyProof.ListRange
import PyProof.FitsBits
import PyProof.Rows.IntMath
import PySem.Challenge.RW_lackstretch_k21_whole_sums_together
set_option Elab.async false
set_option linter.all false
set_option maxRecDepth 100000
namespace L2
open PySem PySem.Spec PyProof.Rows
abbrev Key := Sum Int Str
def Qu : Key → Value → Bool
  | .inl k, v => Value.isInt k v
  | .inr x, v => Value.isStrOf x v
def zfs (w : World) : Key → Int
  | .inl k => hashInt k
  | .inr x => hashStr w x
theorem wV : ∀ {k : Key} {v : Value}, Qu k v = true → (∃ i t, k = Sum.inl i ∧ v = Value.int i t) ∨ (∃ x t, k = Sum.inr x ∧ v = Value.str x t)
  | .inl i, v, h => by
    obtain ⟨t, e⟩ := Value.isInt_shape (k := i) (v := v) h
    exact .inl ⟨i, t, rfl, e⟩
  | .inr x, v, h => by
    obtain ⟨t, e⟩ := Value.isStrOf_shape (x := x) (v := v) h
    exact .inr ⟨x, t, rfl, e⟩
theorem zb0 (i : Int) (t : Tok) : Qu (.inl i) (.int i t) = true := by simp [Qu, Value.isInt]
theorem zbK (x : Str) (t : Tok) : Qu (.inr x) (.str x t) = true := by simp [Qu, Value.isStrOf]
theorem zd1 (a b : Int) : decide ((Sum.inl a : Key) = Sum.inl b) = (a == b) := by
  by_cases e : a = b
  · subst e; simp
  · have h : ¬ (Sum.inl a : Key) = Sum.inl b := fun q => e (Sum.inl.inj q)
    rw [decide_eq_false h]
    exact (beq_eq_false_iff_ne.mpr e).symm
theorem zee (a b : Str) : decide ((Sum.inr a : Key) = Sum.inr b) = decide (a = b) := by
  by_cases e : a = b
  · subst e; simp
  · have h : ¬ (Sum.inr a : Key) = Sum.inr b := fun q => e (Sum.inr.inj q)
    rw [decide_eq_false h, decide_eq_false e]
theorem zdR (a : Int) (b : Str) : decide ((Sum.inl a : Key) = Sum.inr b) = false := decide_eq_false (fun q => nomatch q)
theorem zeo (a : Str) (b : Int) : decide ((Sum.inr a : Key) = Sum.inl b) = false := decide_eq_false (fun q => nomatch q)
def uA (prog : Program) (w : World) : PySem.KeyKind prog w Key where
  is := Qu
  hash := zfs w
  inj := fun v a b ha hb => by
    rcases wV ha with ⟨i, t, rfl, rfl⟩ | ⟨x, t, rfl, rfl⟩
    · rcases wV hb with ⟨j, u, rfl, e⟩ | ⟨y, u, rfl, e⟩
      · injection e with e1 _; rw [e1]
      · exact nomatch e
    · rcases wV hb with ⟨j, u, rfl, e⟩ | ⟨y, u, rfl, e⟩
      · exact nomatch e
      · injection e with e1 _; rw [e1]
  byValue := fun k v h => by
    rcases wV h with ⟨i, t, rfl, rfl⟩ | ⟨x, t, rfl, rfl⟩ <;> rfl
  pyHash := fun hv h => by
    rcases wV hv with ⟨i, t, rfl, rfl⟩ | ⟨x, t, rfl, rfl⟩
    · exact wpAny_pyHash_int h
    · exact wpAny_pyHash_str h
  eqBool := fun hu hv h => by
    rcases wV hu with ⟨i, t, rfl, rfl⟩ | ⟨x, t, rfl, rfl⟩
    · rcases wV hv with ⟨j, u, rfl, rfl⟩ | ⟨y, u, rfl, rfl⟩
      · rw [zd1] at h; exact wpAny_eqBool_int h
      · rw [zdR] at h; exact SeqAt.EqAt.int_str i t y u _ _ _ _ h
    · rcases wV hv with ⟨j, u, rfl, rfl⟩ | ⟨y, u, rfl, rfl⟩
      · rw [zeo] at h; exact SeqAt.EqAt.str_int x t j u _ _ _ _ h
      · rw [zee] at h; exact wpAny_eqBool_str h
  «strs» := fun k x t v h => by
    rcases wV h with ⟨i, u, rfl, e⟩ | ⟨y, u, rfl, e⟩
    · exact nomatch e
    · injection e with e1 _
      subst e1
      cases v <;> rfl
theorem J3 (prog : Program) (w : World) (i : Int) (t : Tok) : (uA prog w).is (.inl i) (.int i t) = true := zb0 i t
theorem JZ (prog : Program) (w : World) (x : Str) (t : Tok) : (uA prog w).is (.inr x) (.str x t) = true := zbK x t
inductive V where
  | non | bl (b : Bool) | int (i : Int) | str (x : Str) | byt (b : Array UInt8) | flt (b : UInt64) | ref (a : Addr) | ty (n : String)
  deriving DecidableEq
def RelV : V → Value → Prop
  | .non, u => u = Value.none
  | .bl b, u => u = Value.bool b
  | .int i, u => ∃ t, u = Value.int i t
  | .str x, u => ∃ t, u = Value.str x t
  | .byt b, u => ∃ t, u = Value.bytes b t
  | .flt b, u => ∃ t, u = Value.float b t
  | .ref a, u => u = Value.ref a
  | .ty n, u => u = Value.type n
abbrev Vals : List V → List Value → Prop := Paired RelV
theorem Vals.length {xs : List V} {us : List Value} (r : Vals xs us) : xs.length = us.length := Paired.length r
theorem Vals.get : ∀ {xs : List V} {us : List Value} {i : Nat} {x : V}, Vals xs us → xs[i]? = some x → ∃ u, us[i]? = some u ∧ RelV x u
  | _, _, _, _, .nil, e => by simp at e
  | _, _, 0, _, .cons r _, e => by simp at e; subst e; exact ⟨_, rfl, r⟩
  | _, _, i + 1, x, .cons _ t, e => by
    obtain ⟨u, h1, h2⟩ := Vals.get (i := i) (x := x) t (by simpa using e)
    exact ⟨u, by simpa using h1, h2⟩
theorem Vals.set {x : V} {u : Value} (r : RelV x u) : ∀ {xs : List V} {us : List Value} (i : Nat), Vals xs us → Vals (xs.set i x) (us.set i u)
  | _, _, _, .nil => .nil
  | _, _, 0, .cons _ t => .cons r t
  | _, _, i + 1, .cons q t => .cons q (Vals.set r i t)
theorem Vals.append : ∀ {xs ys : List V} {us ws : List Value}, Vals xs us → Vals ys ws → Vals (xs ++ ys) (us ++ ws)
  | _, _, _, _, .nil, s => s
  | _, _, _, _, .cons r t, s => .cons r (Vals.append t s)
theorem Vals.take : ∀ {xs : List V} {us : List Value} (n : Nat), Vals xs us → Vals (xs.take n) (us.take n)
  | _, _, 0, _ => .nil
  | _, _, _ + 1, .nil => .nil
  | _, _, n + 1, .cons r t => .cons r (Vals.take n t)
theorem Vals.drop : ∀ {xs : List V} {us : List Value} (n : Nat), Vals xs us → Vals (xs.drop n) (us.drop n)
  | _, _, 0, r => r
  | _, _, _ + 1, .nil => .nil
  | _, _, n + 1, .cons _ t => Vals.drop n t
theorem Vals.none_of : ∀ {xs : List V} {us : List Value} {i : Nat}, Vals xs us → xs[i]? = none → us[i]? = none := fun {xs us i} r e => by
  have h1 := r.length
  have h2 : xs.length ≤ i := List.getElem?_eq_none_iff.mp e
  exact List.getElem?_eq_none_iff.mpr (by omega)
def RelO : Option V → Option Value → Prop
  | some v, some u => RelV v u
  | none, none => True
  | _, _ => False
def KV {κ : Type} : List (κ × V) → List (κ × Value) → Prop := Paired fun (p : κ × V) (q : κ × Value) => p.1 = q.1 ∧ RelV p.2 q.2
def kV : Key → V
  | .inl i => .int i
  | .inr x => .str x
inductive HO where
  | lst (xs : List V)
  | tup (xs : List V)
  | dK (kvs : List (Key × V)) | dT (kvs : List (List Key × V))
  | set (S : Int → Bool) (n : Nat)
  | ins (C dx : Addr) (fs : List (Str × V))
  | own (x : Addr)
  | xd (fs : List (Str × V))
  | met (f x : Addr)
  | rng (lo hi : Int)
  | frz (o : Obj) (u : HO)
  | tbl (ps : Array Value)
  | ext (φ : Heap → Prop)
abbrev Hp := Addr → Option HO
def upd (H : Hp) (a : Addr) (o : HO) : Hp := fun b => if b = a then some o else H b
theorem zm {H : Hp} {a : Addr} {o : HO} : upd H a o a = some o := by unfold upd; rw [if_pos rfl]
theorem zx {H : Hp} {a b : Addr} {o : HO} (h : b ≠ a) : upd H a o b = H b := by unfold upd; rw [if_neg h]
theorem zdr {H : Hp} {a : Addr} {o u : HO} : upd (upd H a o) a u = upd H a u := by
  funext b; unfold upd; split <;> rfl
theorem ZD {H : Hp} {a b : Addr} {o u : HO} (h : H a = some o) (h' : H b = some u) (d : o ≠ u) : a ≠ b := by
  intro e; subst e; rw [h] at h'; exact d (Option.some.inj h')
theorem zB {H : Hp} {a b : Addr} {o : HO} (h : H a = some o) (h' : H b = none) : a ≠ b := by
  intro e; subst e; rw [h] at h'; cases h'
section
variable (P : Program) (w : World)
def ObjOk (H : Hp) (h : Heap) (a : Addr) : HO → Prop
  | .lst xs => xs.length ≤ sizeLine ∧ ∃ (its : List Value) (n : Nat), Vals xs its ∧ h.get? a = some { cls := .type "list", data := .seq its.toArray n }
  | .tup xs => xs.length ≤ sizeLine ∧ ∃ its : List Value, Vals xs its ∧ IsTup h a its.toArray
  | .dK kvs => kvs.length ≤ sizeLine ∧ (a == sysModules) = false ∧ ∃ vs, KV kvs vs ∧ h.DictOf (uA P w) a vs
  | .dT kvs => kvs.length ≤ sizeLine ∧ (a == sysModules) = false ∧ ∃ xs : List (List Key × Addr × Value),
      Paired (fun (p : List Key × V) (q : List Key × Addr × Value) => p.1 = q.1 ∧ H q.2.1 = some (.tup (p.1.map kV)) ∧ RelV p.2 q.2.2) kvs xs ∧
      ∃ o es ep, h.get? a = some o ∧ o.ExactDict ∧ o.data = .dict es ep ∧ es.toList = xs.map (entryOfKey (tupleKind (uA P w))) ∧ (xs.map (·.1)).Nodup
  | .set S n => h.SetOf (intKind P w) a S n
  | .ins C dx fs => H dx = some (.own a) ∧ fs.length ≤ 1000 ∧ dx ≠ a ∧ h.get? a = some (PySem.W.instObj C dx) ∧
      ∃ mA, h.Ns1 dx mA ∧ (∀ f, RelO (fs.lookup f) (mA f)) ∧ PySem.Within mA (fs.map (·.1))
  | .own _ => ∃ o, h.get? a = some o
  | .xd fs => ∃ mA, h.Ns1 a mA ∧ ∀ f, RelO (fs.lookup f) (mA f)
  | .rng lo hi => ∃ t u v, h.get? a = some { cls := .type "range", data := .fields #[.int lo t, .int hi u, .int 1 v] }
  | .frz o u => h.get? a = some o ∧ ObjOk H h a u
  | .tbl ps => h.get? a = some { cls := .none, data := .fields ps }
  | .met f x => h.get? a = some (PySem.W.methodObj (.ref f) (.ref x))
  | .ext φ => φ h ∧ (∃ o, h.get? a = some o) ∧ ∀ h1 h2 : Heap, φ h1 → (∀ o, h1.get? a = some o → h2.get? a = some o) → φ h2
def HOk (H : Hp) (h : Heap) : Prop := ∀ a o, H a = some o → ObjOk P w H h a o
end
section
variable {P : Program} {w : World} {H H' : Hp} {h h' : Heap} {a : Addr} {o : HO}
theorem ObjOk.lt (x : ObjOk P w H h a o) : a < h.objs.size := by
  cases o with
  | lst xs => obtain ⟨_, _, _, _, e⟩ := x; exact Heap.lt_size e
  | tup xs => obtain ⟨_, _, _, p⟩ := x; exact p.lt
  | dK kvs => obtain ⟨_, _, _, _, o, _, _, e, _⟩ := x; exact Heap.lt_size e
  | dT kvs => obtain ⟨_, _, _, _, o, _, _, e, _⟩ := x; exact Heap.lt_size e
  | set S n => obtain ⟨o, _, _, _, e, _⟩ := x; exact Heap.lt_size e
  | ins C dx fs => obtain ⟨_, _, _, e, _⟩ := x; exact Heap.lt_size e
  | own y => obtain ⟨_, e⟩ := x; exact Heap.lt_size e
  | xd fs => obtain ⟨_, ⟨_, _, _, e, _⟩, _⟩ := x; exact Heap.lt_size e
  | rng lo hi => obtain ⟨_, _, _, e⟩ := x; exact Heap.lt_size e
  | frz ob u => obtain ⟨e, _⟩ := x; exact Heap.lt_size e
  | tbl ps => exact Heap.lt_size (show h.get? a = some _ from x)
  | met f y => exact Heap.lt_size (show h.get? a = some _ from x)
  | ext φ => obtain ⟨_, ⟨_, e⟩, _⟩ := x; exact Heap.lt_size e
theorem Paired.mapP {α β : Type} {F G : α → β → Prop} : ∀ {l₁ : List α} {l₂ : List β}, Paired F l₁ l₂ → (∀ a b, F a b → G a b) → Paired G l₁ l₂
  | _, _, .nil, _ => .nil
  | _, _, .cons r t, f => .cons (f _ _ r) (Paired.mapP t f)
theorem ObjOk.stay (x : ObjOk P w H h a o) (k : ∀ b u, (b = a ∨ H b = some (.own a)) → h.get? b = some u → h'.get? b = some u)
    (ho : ∀ b, H b = some (.own a) → H' b = some (.own a)) (ht : ∀ b xs, H b = some (.tup xs) → H' b = some (.tup xs)) : ObjOk P w H' h' a o := by
  induction o with
  | lst xs => obtain ⟨z, its, n, r, e⟩ := x; exact ⟨z, its, n, r, k _ _ (.inl rfl) e⟩
  | tup xs => obtain ⟨z, its, r, ob, e, c⟩ := x; exact ⟨z, its, r, ob, k _ _ (.inl rfl) e, c⟩
  | dK kvs => obtain ⟨z, y, vs, r, ob, es, ep, e, c⟩ := x; exact ⟨z, y, vs, r, ob, es, ep, k _ _ (.inl rfl) e, c⟩
  | dT kvs =>
    obtain ⟨z, y, xs, r, ob, es, ep, e, c⟩ := x
    exact ⟨z, y, xs, Paired.mapP r fun p q z => ⟨z.1, ht _ _ z.2.1, z.2.2⟩, ob, es, ep, k _ _ (.inl rfl) e, c⟩
  | set S n => obtain ⟨ob, es, ep, t, e, c⟩ := x; exact ⟨ob, es, ep, t, k _ _ (.inl rfl) e, c⟩
  | ins C dx fs =>
    obtain ⟨d, z, ne, e, mA, ⟨od, es, ep, e2, c⟩, r⟩ := x
    exact ⟨ho _ d, z, ne, k _ _ (.inl rfl) e, mA, ⟨od, es, ep, k _ _ (.inr d) e2, c⟩, r⟩
  | own y => obtain ⟨ob, e⟩ := x; exact ⟨ob, k _ _ (.inl rfl) e⟩
  | xd fs => obtain ⟨mA, ⟨od, es, ep, e, c⟩, r⟩ := x; exact ⟨mA, ⟨od, es, ep, k _ _ (.inl rfl) e, c⟩, r⟩
  | rng lo hi => obtain ⟨t, u, v, e⟩ := x; exact ⟨t, u, v, k _ _ (.inl rfl) e⟩
  | frz ob u ih => obtain ⟨e, q⟩ := x; exact ⟨k _ _ (.inl rfl) e, ih q⟩
  | tbl ps =>
    have e : h.get? a = some { cls := .none, data := .fields ps } := x
    show h'.get? a = some { cls := .none, data := .fields ps }
    exact k a _ (.inl rfl) e
  | met f y =>
    have e : h.get? a = some (PySem.W.methodObj (.ref f) (.ref y)) := x
    show h'.get? a = some (PySem.W.methodObj (.ref f) (.ref y))
    exact k a _ (.inl rfl) e
  | ext φ => obtain ⟨p, ⟨o, e⟩, st⟩ := x; exact ⟨st _ _ p fun o q => k _ _ (.inl rfl) q, ⟨o, k _ _ (.inl rfl) e⟩, st⟩
theorem HOk.lt (x : HOk P w H h) (e : H a = some o) : a < h.objs.size := (x a o e).lt
theorem HOk.fresh (x : HOk P w H h) (e : h.objs.size ≤ a) : H a = none := by
  cases q : H a with
  | none => rfl
  | some u => exact absurd (Nat.lt_of_lt_of_le (x.lt q) e) (Nat.lt_irrefl _)
theorem HOk.kept (x : HOk P w H h) (k : ∀ b u, h.get? b = some u → h'.get? b = some u) : HOk P w H h' := fun a o e =>
  (x a o e).stay (fun b u _ q => k b u q) (fun _ q => q) fun _ _ q => q
theorem HOk.laid (x : HOk P w H h) (k : ∀ b u, h.get? b = some u → h'.get? b = some u) (hp : h.objs.size ≤ a) (new : ObjOk P w (upd H a o) h' a o) : HOk P w (upd H a o) h' := fun b u e => by
  have hn := x.fresh hp
  by_cases hb : b = a
  · subst hb; rw [zm] at e; cases e; exact new
  · rw [zx hb] at e
    exact (x b u e).stay (fun c v _ q => k c v q) (fun c q => by rw [zx (zB q hn)]; exact q) fun c xs q => by rw [zx (zB q hn)]; exact q
end
def Rd (H : Hp) (a : Addr) (u : HO) : Prop := H a = some u ∨ ∃ o, H a = some (.frz o u)
theorem Rd.of {H : Hp} {a : Addr} {u : HO} (h : H a = some u) : Rd H a u := .inl h
theorem Rd.ok {P : Program} {w : World} {H : Hp} {h : Heap} {a : Addr} {u : HO} (r : Rd H a u) (x : HOk P w H h) : ObjOk P w H h a u := by
  rcases r with r | ⟨o, r⟩
  · exact x a u r
  · obtain ⟨_, q⟩ := x a _ r
    exact q
def Mut : Option HO → Prop
  | some (.lst _) => True
  | some (.dK _) => True
  | some (.dT _) => True
  | some (.set _ _) => True
  | some (.ins _ _ _) => True
  | some (.ext _) => True
  | _ => False
section
variable {P : Program} {w : World} {H : Hp} {h h' : Heap} {x e : Addr} {o' : HO}
theorem HOk.write (ok : HOk P w H h) (mu : Mut (H x)) (he : e = x ∨ H e = some (.own x)) (k : ∀ b u, b ≠ e → h.get? b = some u → h'.get? b = some u) (heo : ∃ u, h'.get? e = some u)
    (new : ObjOk P w (upd H x o') h' x o') : HOk P w (upd H x o') h' := fun b u q => by
  have nown : ∀ c y, H c = some (.own y) → c ≠ x := fun c y r z => by subst z; rw [r] at mu; exact mu
  have ntup : ∀ c xs, H c = some (.tup xs) → c ≠ x := fun c xs r z => by subst z; rw [r] at mu; exact mu
  by_cases hb : b = x
  · subst hb; rw [zm] at q; cases q; exact new
  · rw [zx hb] at q
    by_cases hbe : b = e
    · have q' : H b = some (.own x) := by
        rcases he with z | z
        · exact absurd (hbe.trans z) hb
        · rw [hbe]; exact z
      rw [q] at q'; cases q'
      obtain ⟨v, hv⟩ := heo
      exact ⟨v, by rw [hbe]; exact hv⟩
    · refine (ok b u q).stay (fun c v hc r => k c v ?_ r) (fun c r => by rw [zx (nown c b r)]; exact r) fun c xs r => by rw [zx (ntup c xs r)]; exact r
      rcases hc with rfl | hc
      · exact hbe
      · rintro rfl
        rcases he with z | z
        · exact nown c b hc z
        · rw [hc] at z; cases z; exact hb rfl
end
structure Un (fs ex : List Addr) (H H' : Hp) (h h' : Heap) : Prop where
  keep : ∀ b o, h.get? b = some o → H b = none → b ∉ fs → b ∉ ex → h'.get? b = some o
  slot : ∀ b o, h.get? b = some o → H b = none → b ∈ fs → b ∉ ex → ∃ sl, h'.get? b = some { o with slots := sl }
  free : ∀ b o, h.get? b = some o → H b = none → b ∉ ex → H' b = none
  there : ∀ b o, h.get? b = some o → b ∉ ex → ∃ o', h'.get? b = some o'
  tups : ∀ b xs, H b = some (.tup xs) → H' b = some (.tup xs)
  frzs : ∀ b o u, H b = some (.frz o u) → H' b = some (.frz o u)
  tbls : ∀ b ps, H b = some (.tbl ps) → ∃ more, H' b = some (.tbl (ps ++ more))
section
variable {fs fs' ex ex' : List Addr} {H H1 H2 : Hp} {h h1 h2 h' : Heap} {a x e : Addr} {o : HO}
theorem Un.any (u : Un fs ex H H1 h h1) {b : Addr} {ob : Obj} (q : h.get? b = some ob) (n : H b = none) (hx : b ∉ ex) : ∃ sl, h1.get? b = some { ob with slots := sl } := by
  by_cases hb : b ∈ fs
  · exact u.slot b ob q n hb hx
  · exact ⟨ob.slots, u.keep b ob q n hb hx⟩
theorem Un.trans (a : Un fs ex H H1 h h1) (b : Un fs ex H1 H2 h1 h2) : Un fs ex H H2 h h2 where
  keep := fun c ob q n hc hx => b.keep c ob (a.keep c ob q n hc hx) (a.free c ob q n hx) hc hx
  slot := fun c ob q n hc hx => by
    obtain ⟨sl, e1⟩ := a.slot c ob q n hc hx
    obtain ⟨sl', e2⟩ := b.slot c _ e1 (a.free c ob q n hx) hc hx
    exact ⟨sl', e2⟩
  free := fun c ob q n hx => by
    obtain ⟨o', e1⟩ := a.there c ob q hx
    exact b.free c o' e1 (a.free c ob q n hx) hx
  there := fun c ob q hx => by
    obtain ⟨o', e1⟩ := a.there c ob q hx
    exact b.there c o' e1 hx
  tups := fun c xs q => b.tups c xs (a.tups c xs q)
  frzs := fun c ob xs q => b.frzs c ob xs (a.frzs c ob xs q)
  tbls := fun c ps q => by
    obtain ⟨m1, e1⟩ := a.tbls c ps q
    obtain ⟨m2, e2⟩ := b.tbls c _ e1
    exact ⟨m1 ++ m2, by rw [e2, Array.append_assoc]⟩
theorem Un.kept (k : ∀ b u, h.get? b = some u → h'.get? b = some u) : Un fs ex H H h h' :=
  ⟨fun b ob q _ _ _ => k b ob q, fun b ob q _ _ _ => ⟨ob.slots, k b ob q⟩, fun _ _ _ n _ => n, fun b ob q _ => ⟨ob, k b ob q⟩, fun _ _ q => q, fun _ _ _ q => q, fun _ ps q => ⟨#[], by rw [q]; simp⟩⟩
theorem Un.refl : Un fs ex H H h h := Un.kept fun _ _ q => q
theorem Un.laid (k : ∀ b u, h.get? b = some u → h'.get? b = some u) (hp : h.objs.size ≤ a) (hn : H a = none) : Un fs ex H (upd H a o) h h' where
  keep := fun b u q _ _ _ => k b u q
  slot := fun b u q _ _ _ => ⟨u.slots, k b u q⟩
  free := fun b u q n _ => by rw [zx (Nat.ne_of_lt (Nat.lt_of_lt_of_le (Heap.lt_size q) hp))]; exact n
  there := fun b u q _ => ⟨u, k b u q⟩
  tups := fun b xs q => by rw [zx (zB q hn)]; exact q
  frzs := fun b u xs q => by rw [zx (zB q hn)]; exact q
  tbls := fun b ps q => ⟨#[], by rw [zx (zB q hn), q]; simp⟩
theorem Un.write (mu : Mut (H x)) (he : e = x ∨ H e = some (.own x)) (k : ∀ b u, b ≠ e → h.get? b = some u → h'.get? b = some u) (heo : ∃ u, h'.get? e = some u) : Un fs ex H (upd H x o) h h' := by
  have hx : ∀ b, H b = none → b ≠ x := fun b n z => by subst z; rw [n] at mu; exact mu
  have hb : ∀ b, H b = none → b ≠ e := fun b n z => by
    subst z
    rcases he with r | r
    · exact hx b n r
    · rw [n] at r; cases r
  have hm : ∀ b u, H b = some u → ¬ Mut (some u) → b ≠ x := fun b u q nm z => by subst z; rw [q] at mu; exact nm mu
  refine ⟨fun b u q n _ _ => k b u (hb b n) q, fun b u q n _ _ => ⟨u.slots, k b u (hb b n) q⟩, fun b u q n _ => by rw [zx (hx b n)]; exact n, fun b u q _ => ?_,
    fun b xs q => by rw [zx (hm b _ q fun z => z)]; exact q, fun b u xs q => by rw [zx (hm b _ q fun z => z)]; exact q, fun b ps q => ⟨#[], by rw [zx (hm b _ q fun z => z), q]; simp⟩⟩
  by_cases hbe : b = e
  · subst hbe; exact heo
  · exact ⟨u, k b u hbe q⟩
theorem Un.mono (u : Un fs ex H H1 h h1) (hs : ∀ b ∈ fs, b ∈ fs') (hx : ∀ b ∈ ex, b ∈ ex') : Un fs' ex' H H1 h h1 :=
  ⟨fun b ob q n hb he => u.keep b ob q n (fun z => hb (hs b z)) fun z => he (hx b z), fun _ _ q n _ he => u.any q n fun z => he (hx _ z), fun b ob q n he => u.free b ob q n fun z => he (hx b z), fun b ob q he => u.there b ob q fun z => he (hx b z), u.tups, u.frzs, u.tbls⟩
end
def trk (h : Heap) (H : Hp) : List Addr := (List.range h.objs.size).filter fun a => (H a).isSome
def Qg (h : Heap) (H : Hp) : Heap := PySem.W.hideAll h (trk h H)
theorem zbN (h : Heap) (H : Hp) : (Qg h H).objs.size = h.objs.size := PySem.W.hideAll_size _ _
theorem zcR {h : Heap} {H : Hp} {b : Addr} {o : Obj} (e : h.get? b = some o) (n : H b = none) : (Qg h H).get? b = some o :=
  PySem.W.hideAll_get _ e fun hm => by
    have q : (H b).isSome = true := (List.mem_filter.mp hm).2
    rw [n] at q; simp at q
theorem zdp {h : Heap} {H : Hp} {b : Addr} {o : Obj} (e : (Qg h H).get? b = some o) : h.get? b = some o ∧ H b = none := by
  have e' : h.get? b = some o := PySem.W.of_hideAll (trk h H) e
  refine ⟨e', ?_⟩
  cases q : H b with
  | none => rfl
  | some x =>
    have hm : b ∈ trk h H := List.mem_filter.mpr ⟨List.mem_range.mpr (Heap.lt_size e'), by simp [q]⟩
    have z : (Qg h H).get? b = none := PySem.W.hideAll_none (trk h H) hm
    rw [z] at e; cases e
def zdl (g h : Heap) (L : Addr) : List (Addr × Obj) := (List.range h.objs.size).filterMap fun a => if a = L ∨ (g.get? a).isSome = true then none else (h.get? a).map fun o => (a, o)
def rest (g h : Heap) (L d : Addr) : List (Addr × Obj) := (zdl g h L).filter fun p => decide (p.1 ≠ d)
structure Mod (K : PySem.W.Frag) (mg : Str → Option Value) (base : Heap) : Prop where
  kin : K.In base
  glob : base.Ns mainGlobals mg
  blt : ∃ mb, base.Ns builtinsNs mb ∧ ∀ x : Str, x ≠ "__name__" → mb x = bootBuiltins x
  nolimit : base.NoLimit
structure Cx where
  prog : Program
  w : World
  K : PySem.W.Frag
  mg : Str → Option Value
  base : Heap
  A : Around
  N : List Str
  s₀ : Shared
  H₀ : Hp
  env : Env
  outer : List Env
  stack : List Env
  ex : List Addr
  fn : Str → Bool
  calm : Bool
  pn : List (Addr × Obj)
  xe : Value → Shared → Prop
def frs (l : List Env) : List Addr := l.filterMap (·.frame)
abbrev Cx.fs (X : Cx) : List Addr := frs X.outer
def Vis (sc : Scope) (x : Str) : Prop := sc.names.lookup x = some .local ∨ sc.names.lookup x = some .cell ∨ sc.names.lookup x = some .free
def Loc (sc : Scope) (x : Str) : Prop := sc.names.lookup x = some .local ∨ sc.names.lookup x = some .cell
def Look (env : Env) (h : Heap) (m : Str → Option Value) (x : Str) (u : Value) : Prop :=
  (env.kindOf x = some .local ∧ m x = some u) ∨ ((env.kindOf x = some .cell ∨ env.kindOf x = some .free) ∧ ∃ c, env.cells.lookup x = some c ∧ h.IsCell c (some u))
structure Cx.Ok (X : Cx) : Prop where
  mod : Mod X.K X.mg X.base
  kind : X.env.scope.kind = .function
  glob : X.env.globals = mainGlobals
  blt : X.env.builtins = builtinsNs
  above : X.s₀.heap.objs.size ≤ X.env.locals
  inj : ∀ x y c, X.env.cells.lookup x = some c → X.env.cells.lookup y = some c → x = y
  has : ∀ x, (X.env.kindOf x = some .cell ∨ X.env.kindOf x = some .free) → ∃ c, X.env.cells.lookup x = some c
  cab : ∀ x c, X.fn x = true → X.env.cells.lookup x = some c → X.s₀.heap.objs.size ≤ c
  hd : X.calm = true → X.A.handled = none
  frames : X.A.frames = some X.stack
  stk : X.stack = X.outer ∨ (X.stack = X.env :: X.outer ∧ X.env.frame = some X.env.locals)
  exf : ∀ b ∈ X.ex, b ≠ X.env.locals ∧ ∀ x c, X.env.cells.lookup x = some c → c ≠ b
  bs : ∀ b o, X.base.get? b = some o → X.s₀.heap.get? b = some o ∧ X.H₀ b = none
  bsz : X.base.objs.size ≤ X.s₀.heap.objs.size
  noex : ∀ b o, X.base.get? b = some o → b ∉ X.ex
  exfs : ∀ b ∈ X.ex, b ∉ X.fs
  funs : X.s₀.heap.FunFrames X.base X.outer
  frf : ∀ b ∈ X.fs, X.H₀ b = none
structure Inv (X : Cx) (pins : List (Addr × Obj)) (σ : List (Option V)) (H : Hp) (s : Shared) : Prop where
  ok : X.Ok
  os : s.os = X.s₀.os
  bare : AllBare s.gens
  base : Un X.fs X.ex X.H₀ H X.s₀.heap s.heap
  loc : ∃ m, s.heap.Ns X.env.locals m ∧ ∀ (i : Nat) (x : Str) (v : V), X.N[i]? = some x → σ[i]? = some (some v) → Vis X.env.scope x → ∃ u, RelV v u ∧ Look X.env s.heap m x u
  cell : ∀ x c, X.env.cells.lookup x = some c → ∃ v, s.heap.IsCell c v
  free : H X.env.locals = none
  freeC : ∀ x c, X.env.cells.lookup x = some c → H c = none
  pin : ∀ p ∈ X.pn ++ pins, s.heap.get? p.1 = some p.2 ∧ H p.1 = none ∧ p.1 ≠ X.env.locals ∧ p.1 ∉ X.fs ∧ ∀ v, p.2.data ≠ .cell v
  hok : HOk X.prog X.w H s.heap
  len : σ.length = X.N.length
section
variable {X : Cx} {pins : List (Addr × Obj)} {σ : List (Option V)} {H H' : Hp} {s : Shared} {h' : Heap}
theorem Cx.Ok.nofr (ok : X.Ok) {b : Addr} {o : Obj} (e : X.base.get? b = some o) : b ∉ X.fs := fun hb => by
  have := (ok.funs.mem hb).1
  rw [e] at this; cases this
theorem Inv.bs (I : Inv X pins σ H s) : ∀ b o, X.base.get? b = some o → s.heap.get? b = some o ∧ H b = none := fun b o e =>
  ⟨I.base.keep b o (I.ok.bs b o e).1 (I.ok.bs b o e).2 (I.ok.nofr e) (I.ok.noex b o e), I.base.free b o (I.ok.bs b o e).1 (I.ok.bs b o e).2 (I.ok.noex b o e)⟩
theorem Inv.bk (I : Inv X pins σ H s) : ∀ b o, X.base.get? b = some o → s.heap.get? b = some o := fun b o e => (I.bs b o e).1
theorem Inv.mod (I : Inv X pins σ H s) : Mod X.K X.mg X.base := I.ok.mod
theorem Inv.kIn (I : Inv X pins σ H s) : X.K.In s.heap := I.ok.mod.kin.keeps I.bk
theorem Inv.nolimit (I : Inv X pins σ H s) : s.heap.NoLimit := I.ok.mod.nolimit.keeps I.bk
theorem Inv.fr (I : Inv X pins σ H s) : ∃ m, Fr X.base X.env.locals s.heap m :=
  let ⟨m, hn, _⟩ := I.loc
  ⟨m, hn, I.bk, Nat.le_trans I.ok.bsz I.ok.above⟩
theorem Inv.lt (I : Inv X pins σ H s) : X.env.locals < s.heap.objs.size := let ⟨_, hn, _⟩ := I.loc; hn.lt
theorem Inv.sz (I : Inv X pins σ H s) : X.s₀.heap.objs.size ≤ s.heap.objs.size := Nat.le_trans I.ok.above (Nat.le_of_lt I.lt)
theorem Inv.nofs (I : Inv X pins σ H s) {a : Addr} (h : s.heap.objs.size ≤ a) : a ∉ X.fs := fun hb => by
  obtain ⟨_, o, ho, _⟩ := I.ok.funs.mem hb
  exact absurd (Nat.lt_of_lt_of_le (Heap.lt_size ho) (Nat.le_trans I.sz h)) (Nat.lt_irrefl _)
theorem Inv.cne (I : Inv X pins σ H s) : ∀ x c, X.env.cells.lookup x = some c → c ≠ X.env.locals := fun x c e z => by
  obtain ⟨v, o, ho, hd⟩ := I.cell x c e
  obtain ⟨m, ⟨o', es, ep, ho', hd', _⟩, _⟩ := I.loc
  rw [z, ho'] at ho; cases ho; rw [hd'] at hd; cases hd
theorem Inv.funs (I : Inv X pins σ H s) : s.heap.FunFrames X.base X.outer := by
  have all : ∀ (l : List Env), (∀ b ∈ frs l, b ∈ X.fs) → X.s₀.heap.FunFrames X.base l → s.heap.FunFrames X.base l := by
    intro l
    induction l with
    | nil => intro _ _; trivial
    | cons env r ih =>
      intro hs hl
      obtain ⟨hk, ⟨L, o, hf, hn, ho, hd⟩, hr⟩ := hl
      have hL : L ∈ X.fs := hs L (by unfold frs; rw [List.filterMap_cons, hf]; exact List.mem_cons_self)
      obtain ⟨sl, e⟩ := I.base.slot L o ho (I.ok.frf L hL) hL fun z => I.ok.exfs L z hL
      exact ⟨hk, ⟨L, _, hf, hn, e, hd⟩, ih (fun b hb => hs b (by unfold frs; rw [List.filterMap_cons, hf]; exact List.mem_cons_of_mem _ hb)) hr⟩
  exact all X.outer (fun _ hb => hb) I.ok.funs
theorem Inv.stack (I : Inv X pins σ H s) : s.heap.FunFrames X.base X.stack := by
  rcases I.ok.stk with e | ⟨e, hf⟩
  · rw [e]; exact I.funs
  · rw [e]
    obtain ⟨m, hn, _⟩ := I.loc
    refine .cons (by rw [I.ok.kind]; decide) hf hn ?_ I.funs
    exact Heap.get?_none_of_le (Nat.le_trans I.ok.bsz I.ok.above)
theorem Inv.stkSub (I : Inv X pins σ H s) : ∀ b ∈ frs X.stack, b ∈ X.env.locals :: X.fs := fun b hb => by
  rcases I.ok.stk with e | ⟨e, hf⟩
  · rw [e] at hb; exact List.mem_cons_of_mem _ hb
  · rw [e] at hb
    unfold frs at hb
    rw [List.filterMap_cons, hf] at hb
    exact hb
theorem Inv.stkFree (I : Inv X pins σ H s) : ∀ b ∈ frs X.stack, H b = none := fun b hb => by
  rcases List.mem_cons.mp (I.stkSub b hb) with e | hb
  · rw [e]; exact I.free
  · obtain ⟨_, o, ho, _⟩ := I.ok.funs.mem hb
    exact I.base.free b o ho (I.ok.frf b hb) fun z => I.ok.exfs b z hb
theorem Inv.step {g' : Array GenState} {t' : Nat} {d' : Drawn} {ch : List Addr} (I : Inv X pins σ H s)
    (hch : ∀ b ∈ ch, (b ∈ X.ex ∨ X.s₀.heap.objs.size ≤ b) ∧ b ≠ X.env.locals ∧ (∀ x c, X.env.cells.lookup x = some c → c ≠ b) ∧ ∀ p ∈ X.pn ++ pins, p.1 ≠ b)
    (keep : ∀ b o, b ≠ X.env.locals → b ∉ X.fs → b ∉ ch → s.heap.get? b = some o → H b = none → h'.get? b = some o)
    (slot : ∀ b o, b ≠ X.env.locals → b ∈ X.fs → b ∉ ch → s.heap.get? b = some o → H b = none → ∃ sl, h'.get? b = some { o with slots := sl }) (free : ∀ b o, b ∉ ch → s.heap.get? b = some o → H b = none → H' b = none)
    (there : ∀ b o, b ∉ ch → s.heap.get? b = some o → ∃ o', h'.get? b = some o')
    (tups : ∀ b xs, H b = some (.tup xs) → H' b = some (.tup xs)) (frzs : ∀ b o u, H b = some (.frz o u) → H' b = some (.frz o u)) (tbls : ∀ b ps, H b = some (.tbl ps) → ∃ more, H' b = some (.tbl (ps ++ more)))
    (ns : ∀ m, s.heap.Ns X.env.locals m → h'.Ns X.env.locals m) (hok : HOk X.prog X.w H' h') (hg : AllBare g') :
    Inv X pins σ H' { s with heap := h', gens := g', drawn := d', toks := t' } := by
  have neL : ∀ b o, X.s₀.heap.get? b = some o → b ≠ X.env.locals := fun b o e => Nat.ne_of_lt (Nat.lt_of_lt_of_le (Heap.lt_size e) I.ok.above)
  have neC : ∀ b o, X.s₀.heap.get? b = some o → b ∉ X.ex → b ∉ ch := fun b o e hx hb => by
    rcases (hch b hb).1 with z | z
    · exact hx z
    · exact absurd (Nat.lt_of_lt_of_le (Heap.lt_size e) z) (Nat.lt_irrefl _)
  have cellK : ∀ x c, X.env.cells.lookup x = some c → ∀ v, s.heap.IsCell c v → h'.IsCell c v := fun x c e v ⟨o, ho, hd⟩ => by
    have nch : c ∉ ch := fun z => (hch c z).2.2.1 x c e rfl
    by_cases hc : c ∈ X.fs
    · obtain ⟨sl, q⟩ := slot c o (I.cne x c e) hc nch ho (I.freeC x c e)
      exact ⟨_, q, hd⟩
    · exact ⟨o, keep c o (I.cne x c e) hc nch ho (I.freeC x c e), hd⟩
  refine ⟨I.ok, I.os, hg, ⟨fun b o e n hb hx => ?_, fun b o e n hb hx => ?_, fun b o e n hx => ?_, fun b o e hx => ?_, fun b xs e => tups b xs (I.base.tups b xs e), fun b o xs e => frzs b o xs (I.base.frzs b o xs e), fun b ps e => ?_⟩, ?_, fun x c e => ?_, ?_, fun x c e => ?_, fun p hp => ?_, hok, I.len⟩
  · exact keep b o (neL b o e) hb (neC b o e hx) (I.base.keep b o e n hb hx) (I.base.free b o e n hx)
  · obtain ⟨sl, e1⟩ := I.base.slot b o e n hb hx
    obtain ⟨sl', e2⟩ := slot b _ (neL b o e) hb (neC b o e hx) e1 (I.base.free b o e n hx)
    exact ⟨sl', e2⟩
  · obtain ⟨o', e1⟩ := I.base.there b o e hx
    exact free b o' (neC b o e hx) e1 (I.base.free b o e n hx)
  · obtain ⟨o', e1⟩ := I.base.there b o e hx
    exact there b o' (neC b o e hx) e1
  · obtain ⟨m1, e1⟩ := I.base.tbls b ps e
    obtain ⟨m2, e2⟩ := tbls b _ e1
    exact ⟨m1 ++ m2, by rw [e2, Array.append_assoc]⟩
  · obtain ⟨m, hn, hl⟩ := I.loc
    refine ⟨m, ns m hn, fun i x v e1 e2 e3 => ?_⟩
    obtain ⟨u, r, l⟩ := hl i x v e1 e2 e3
    refine ⟨u, r, ?_⟩
    rcases l with l | ⟨k, c, e, z⟩
    · exact .inl l
    · exact .inr ⟨k, c, e, cellK x c e _ z⟩
  · obtain ⟨v, z⟩ := I.cell x c e
    exact ⟨v, cellK x c e v z⟩
  · obtain ⟨m, ⟨o, _, _, ho, _⟩, _⟩ := I.loc
    exact free _ o (fun z => (hch _ z).2.1 rfl) ho I.free
  · obtain ⟨v, o, ho, hd⟩ := I.cell x c e
    exact free c o (fun z => (hch c z).2.2.1 x c e rfl) ho (I.freeC x c e)
  · obtain ⟨e, n, ne, nf, d⟩ := I.pin p hp
    have nch : p.1 ∉ ch := fun z => (hch p.1 z).2.2.2 p hp rfl
    exact ⟨keep p.1 p.2 ne nf nch e n, free p.1 p.2 nch e n, ne, nf, d⟩
theorem Inv.un {t' : Nat} (I : Inv X pins σ H s) (u : Un X.fs [] H H' s.heap h') (hok : HOk X.prog X.w H' h') : Inv X pins σ H' { s with heap := h', toks := t' } := by
  obtain ⟨m, ⟨o, es, ep, ho, r⟩, _⟩ := id I.loc
  obtain ⟨sl, hL⟩ := u.any ho I.free (by simp)
  exact I.step (g' := s.gens) (d' := s.drawn) (ch := []) (fun _ z => nomatch z) (fun b o _ hb _ e n => u.keep b o e n hb (by simp)) (fun b o _ hb _ e n => u.slot b o e n hb (by simp)) (fun b o _ e n => u.free b o e n (by simp)) (fun b o _ e => u.there b o e (by simp)) u.tups u.frzs u.tbls (fun m' hm => by
    obtain ⟨o', es', ep', ho', r'⟩ := hm
    rw [ho] at ho'; cases ho'
    exact ⟨_, es', ep', hL, r'⟩) hok I.bare
theorem Inv.call {g' : Array GenState} {t' : Nat} {d' : Drawn} {ch : List Addr} (I : Inv X pins σ H s) (u : Un (frs X.stack) ch H H' s.heap h') (hok : HOk X.prog X.w H' h') (hg : AllBare g')
    (hch : ∀ b ∈ ch, (b ∈ X.ex ∨ X.s₀.heap.objs.size ≤ b) ∧ b ≠ X.env.locals ∧ (∀ x c, X.env.cells.lookup x = some c → c ≠ b) ∧ ∀ p ∈ X.pn ++ pins, p.1 ≠ b) :
    Inv X pins σ H' { s with heap := h', gens := g', drawn := d', toks := t' } := by
  obtain ⟨m, ⟨o, es, ep, ho, r⟩, _⟩ := id I.loc
  obtain ⟨sl, hL⟩ := u.any ho I.free fun z => (hch _ z).2.1 rfl
  exact I.step (ch := ch) hch (fun b o hL hb hc e n => u.keep b o e n (fun z => (List.mem_cons.mp (I.stkSub b z)).elim hL hb) hc) (fun b o _ _ hc e n => u.any e n hc) (fun b o hc e n => u.free b o e n hc) (fun b o hc e => u.there b o e hc) u.tups u.frzs u.tbls (fun m' hm => by
    obtain ⟨o', es', ep', ho', r'⟩ := hm
    rw [ho] at ho'; cases ho'
    exact ⟨_, es', ep', hL, r'⟩) hok hg
theorem Inv.turned {t' : Nat} {it : Addr} (I : Inv X pins σ H s) (k : ∀ b o, b ≠ it → s.heap.get? b = some o → h'.get? b = some o) (hn : H it = none) (hL : it ≠ X.env.locals)
    (h1 : it ∈ X.ex ∨ X.s₀.heap.objs.size ≤ it) (h2 : ∀ x c, X.env.cells.lookup x = some c → c ≠ it) (h3 : ∀ p ∈ X.pn ++ pins, p.1 ≠ it) : Inv X pins σ H { s with heap := h', toks := t' } := by
  have nit : ∀ b u, H b = some u → b ≠ it := fun b u e z => by rw [z, hn] at e; cases e
  refine I.step (g' := s.gens) (d' := s.drawn) (ch := [it]) (fun b hb => ?_) (fun b o _ _ hc e _ => k b o (fun z => hc (by simp [z])) e) (fun b o _ _ hc e _ => ⟨o.slots, k b o (fun z => hc (by simp [z])) e⟩) (fun _ _ _ _ n => n)
    (fun b o hc e => ⟨o, k b o (fun z => hc (by simp [z])) e⟩) (fun _ _ e => e) (fun _ _ _ e => e) (fun b ps e => ⟨#[], by rw [e]; simp⟩) (fun m hm => ?_) (fun b u e => ?_) I.bare
  · have e : b = it := by simpa using hb
    subst e
    exact ⟨h1, hL, h2, h3⟩
  · obtain ⟨o, es, ep, ho, r⟩ := hm
    exact ⟨o, es, ep, k _ o (Ne.symm hL) ho, r⟩
  · refine (I.hok b u e).stay (fun c v hc q => k c v ?_ q) (fun _ q => q) fun _ _ q => q
    rcases hc with z | z
    · rw [z]; exact nit b u e
    · exact nit c _ z
theorem Inv.tok (I : Inv X pins σ H s) (t : Nat) : Inv X pins σ H { s with toks := t } := I.un (h' := s.heap) (t' := t) Un.refl I.hok
theorem Inv.kept {t' : Nat} (I : Inv X pins σ H s) (k : ∀ b u, s.heap.get? b = some u → h'.get? b = some u) : Inv X pins σ H { s with heap := h', toks := t' } := I.un (Un.kept k) (I.hok.kept k)
theorem Inv.laid {a : Addr} {o : HO} {t' : Nat} (I : Inv X pins σ H s) (k : ∀ b u, s.heap.get? b = some u → h'.get? b = some u) (hp : s.heap.objs.size ≤ a) (new : ObjOk X.prog X.w (upd H a o) h' a o) :
    Inv X pins σ (upd H a o) { s with heap := h', toks := t' } := I.un (Un.laid k hp (I.hok.fresh hp)) (I.hok.laid k hp new)
theorem Inv.write {x e : Addr} {o : HO} {t' : Nat} (I : Inv X pins σ H s) (mu : Mut (H x)) (he : e = x ∨ H e = some (.own x)) (k : ∀ b u, b ≠ e → s.heap.get? b = some u → h'.get? b = some u) (heo : ∃ u, h'.get? e = some u)
    (new : ObjOk X.prog X.w (upd H x o) h' x o) : Inv X pins σ (upd H x o) { s with heap := h', toks := t' } := I.un (Un.write mu he k heo) (I.hok.write mu he k heo new)
theorem Inv.weak {σ' : List (Option V)} (I : Inv X pins σ H s) (hl : σ'.length = σ.length) (w : ∀ (i : Nat) v, σ'[i]? = some (some v) → σ[i]? = some (some v)) : Inv X pins σ' H s :=
  ⟨I.ok, I.os, I.bare, I.base, let ⟨m, hn, hl'⟩ := I.loc; ⟨m, hn, fun i x v e1 e2 e3 => hl' i x v e1 (w i v e2) e3⟩, I.cell, I.free, I.freeC, I.pin, I.hok, hl.trans I.len⟩
theorem Inv.pins_of {pins' : List (Addr × Obj)} (I : Inv X pins σ H s) (h : ∀ p ∈ pins', s.heap.get? p.1 = some p.2 ∧ H p.1 = none ∧ p.1 ≠ X.env.locals ∧ p.1 ∉ X.fs ∧ ∀ v, p.2.data ≠ .cell v) : Inv X pins' σ H s :=
  ⟨I.ok, I.os, I.bare, I.base, I.loc, I.cell, I.free, I.freeC, fun p hp => (List.mem_append.mp hp).elim (fun z => I.pin p (List.mem_append_left _ z)) (h p), I.hok, I.len⟩
theorem J7 {N : List Str} (hN : N.Nodup) {i j : Nat} {x : Str} (a : N[i]? = some x) (b : N[j]? = some x) : i = j := by
  obtain ⟨h1, e1⟩ := List.getElem?_eq_some_iff.mp a
  obtain ⟨h2, e2⟩ := List.getElem?_eq_some_iff.mp b
  exact (List.getElem_inj hN).mp (e1.trans e2.symm)
theorem QC {M : Model} {A : Around} {E : Value → Shared → Prop} {i : Nat} {x : Str} {v : V} {u : Value} {Q : Unit → Shared → Prop} (I : Inv X pins σ H s) (hN : X.N.Nodup) (hi : X.N[i]? = some x) (hx : Loc X.env.scope x) (r : RelV v u)
    (h : ∀ s', Inv X pins (σ.set i (some v)) H s' → (∃ a, Heap.SameBut a s.heap s'.heap ∧ (a = X.env.locals ∨ X.env.cells.lookup x = some a)) → Q () s') (hf : X.fn x = true ∨ X.env.scope.names.lookup x = some .local := by first | exact .inl rfl | exact .inr rfl | assumption) : wpAny M A (storeName X.env x u) Q E s := by
  obtain ⟨m, hn, hl⟩ := id I.loc
  have hcls : (X.env.scope.kind == .class || (X.env.scope.kind == .module && X.env.locals != X.env.globals)) = false := by rw [I.ok.kind]; rfl
  have hiσ : i < σ.length := by rw [I.len]; exact (List.getElem?_eq_some_iff.mp hi).1
  have cne := I.cne
  have tracked : ∀ {a : Addr} {h' : Heap}, (∃ o, s.heap.get? a = some o ∧ H a = none) → Heap.SameBut a s.heap h' → HOk X.prog X.w H h' := fun {a h'} ha hs b ob e => by
    obtain ⟨_, _, hfree⟩ := ha
    refine (I.hok b ob e).stay (fun c w' hc q => (hs.2 c ?_).trans q) (fun _ q => q) fun _ _ q => q
    rintro rfl
    rcases hc with rfl | hc
    · rw [hfree] at e; cases e
    · rw [hfree] at hc; cases hc
  rcases hx with hk | hk
  · refine wpAny_storeName_local hk hn (fun h' hn' hs => ?_) hcls
    obtain ⟨oL, _, _, hoL, _⟩ := id hn
    refine h _ ⟨I.ok, I.os, I.bare, ⟨fun b o e n hb hx => ?_, fun b o e n hb hx => ?_, I.base.free, fun b o e hx => ?_, I.base.tups, I.base.frzs, I.base.tbls⟩, ⟨_, hn', fun j y v' e1 e2 e3 => ?_⟩, fun y c e => ?_, I.free, I.freeC, fun p hp => ?_, tracked ⟨oL, hoL, I.free⟩ hs, by simpa using I.len⟩ ⟨_, hs, .inl rfl⟩
    · exact (hs.2 b (Nat.ne_of_lt (Nat.lt_of_lt_of_le (Heap.lt_size e) I.ok.above))).trans (I.base.keep b o e n hb hx)
    · obtain ⟨sl, e1⟩ := I.base.slot b o e n hb hx
      exact ⟨sl, (hs.2 b (Nat.ne_of_lt (Nat.lt_of_lt_of_le (Heap.lt_size e) I.ok.above))).trans e1⟩
    · obtain ⟨o', e1⟩ := I.base.there b o e hx
      exact ⟨o', (hs.2 b (Nat.ne_of_lt (Nat.lt_of_lt_of_le (Heap.lt_size e) I.ok.above))).trans e1⟩
    · by_cases hj : j = i
      · subst hj
        rw [hi] at e1; cases e1
        rw [List.getElem?_set_self hiσ] at e2
        cases e2
        exact ⟨u, r, .inl ⟨hk, by simp⟩⟩
      · rw [List.getElem?_set_ne (Ne.symm hj)] at e2
        obtain ⟨u', r', q⟩ := hl j y v' e1 e2 e3
        refine ⟨u', r', ?_⟩
        rcases q with ⟨k, e⟩ | ⟨k, c, e, z⟩
        · refine .inl ⟨k, ?_⟩
          have : y ≠ x := fun e => hj (J7 hN e1 (e ▸ hi))
          simp [this, e]
        · exact .inr ⟨k, c, e, z.sameBut hs (cne y c e)⟩
    · obtain ⟨w', z⟩ := I.cell y c e
      exact ⟨w', z.sameBut hs (cne y c e)⟩
    · obtain ⟨e, n, ne, nf, d⟩ := I.pin p hp
      exact ⟨(hs.2 p.1 ne).trans e, n, ne, nf, d⟩
  · have hfn : X.fn x = true := by
      rcases hf with z | z
      · exact z
      · rw [z] at hk; cases hk
    obtain ⟨c, hc⟩ := I.ok.has x (.inl hk)
    obtain ⟨w', z⟩ := I.cell x c hc
    refine wpAny_storeName_cell I.ok.kind hk hc z (fun h' hc' hs => ?_)
    obtain ⟨oc, hoc, hocd⟩ := id z
    refine h { s with heap := h' } ⟨I.ok, I.os, I.bare, ⟨fun b o e n hb hx => ?_, fun b o e n hb hx => ?_, I.base.free, fun b o e hx => ?_, I.base.tups, I.base.frzs, I.base.tbls⟩, ⟨m, hn.sameBut hs (Ne.symm (cne x c hc)), fun j y v' e1 e2 e3 => ?_⟩, fun y c' e => ?_, I.free, I.freeC, fun p hp => ?_, tracked ⟨oc, hoc, I.freeC x c hc⟩ hs, by simpa using I.len⟩ ⟨c, hs, .inr hc⟩
    · exact (hs.2 b (Nat.ne_of_lt (Nat.lt_of_lt_of_le (Heap.lt_size e) (I.ok.cab x c hfn hc)))).trans (I.base.keep b o e n hb hx)
    · obtain ⟨sl, e1⟩ := I.base.slot b o e n hb hx
      exact ⟨sl, (hs.2 b (Nat.ne_of_lt (Nat.lt_of_lt_of_le (Heap.lt_size e) (I.ok.cab x c hfn hc)))).trans e1⟩
    · obtain ⟨o', e1⟩ := I.base.there b o e hx
      exact ⟨o', (hs.2 b (Nat.ne_of_lt (Nat.lt_of_lt_of_le (Heap.lt_size e) (I.ok.cab x c hfn hc)))).trans e1⟩
    · by_cases hj : j = i
      · subst hj
        rw [hi] at e1; cases e1
        rw [List.getElem?_set_self hiσ] at e2
        cases e2
        exact ⟨u, r, .inr ⟨.inl hk, c, hc, hc'⟩⟩
      · rw [List.getElem?_set_ne (Ne.symm hj)] at e2
        obtain ⟨u', r', q⟩ := hl j y v' e1 e2 e3
        refine ⟨u', r', ?_⟩
        rcases q with q | ⟨k, c', e, z'⟩
        · exact .inl q
        · refine .inr ⟨k, c', e, z'.sameBut hs ?_⟩
          rintro rfl
          exact hj (J7 hN e1 (I.ok.inj _ _ _ e hc ▸ hi))
    · by_cases hcc : c' = c
      · subst hcc; exact ⟨_, hc'⟩
      · obtain ⟨w2, z2⟩ := I.cell y c' e
        exact ⟨w2, z2.sameBut hs hcc⟩
    · obtain ⟨e, n, ne, nf, d⟩ := I.pin p hp
      refine ⟨(hs.2 p.1 ?_).trans e, n, ne, nf, d⟩
      intro q
      rw [q, hoc] at e
      have q' : oc = p.2 := Option.some.inj e
      exact d w' (by rw [← q']; exact hocd)
theorem Ur {M : Model} {A : Around} {E : Value → Shared → Prop} {i : Nat} {x : Str} {v : V} {u : Value} {Q : Unit → Shared → Prop} (I : Inv X pins σ H s) (hN : X.N.Nodup) (hi : X.N[i]? = some x) (hx : Loc X.env.scope x) (r : RelV v u)
    (h : ∀ s', Inv X pins (σ.set i (some v)) H s' → Q () s') (hf : X.fn x = true ∨ X.env.scope.names.lookup x = some .local := by first | exact .inl rfl | exact .inr rfl | assumption) : wpAny M A (storeName X.env x u) Q E s :=
  QC I hN hi hx r (fun s' I' _ => h s' I') hf
theorem Inv.call' {s' : Shared} {ch : List Addr} (I : Inv X pins σ H s) (ho : s'.os = s.os) (u : Un (frs X.stack) ch H H' s.heap s'.heap) (hok : HOk X.prog X.w H' s'.heap) (hg : AllBare s'.gens)
    (hch : ∀ b ∈ ch, (b ∈ X.ex ∨ X.s₀.heap.objs.size ≤ b) ∧ b ≠ X.env.locals ∧ (∀ x c, X.env.cells.lookup x = some c → c ≠ b) ∧ ∀ p ∈ X.pn ++ pins, p.1 ≠ b) : Inv X pins σ H' s' := by
  obtain ⟨h', g', d', t', o'⟩ := s'
  have e : o' = s.os := ho
  subst e
  exact I.call (g' := g') (t' := t') (d' := d') u hok hg hch
end
abbrev XK := Value → Option Addr → Hp → Prop
abbrev St := List (Option V)
abbrev VK := V → Hp → Prop
abbrev TE := St → Hp → VK → Prop
abbrev TT := St → Hp → (Bool → Hp → Prop) → Prop
abbrev TA := St → Hp → (List V → Hp → Prop) → Prop
structure Ends where
  nx : St → Hp → Prop
  rt : VK
  bk : St → Hp → Prop := fun _ _ => False
  ct : St → Hp → Prop := fun _ _ => False
abbrev TS := Ends → St → Hp → Prop
def EP (X : Cx) (pins : List (Addr × Obj)) (σ : St) (Q : VK) (u : Value) (s' : Shared) : Prop := ∃ v H', Inv X pins σ H' s' ∧ RelV v u ∧ Q v H'
def TP (X : Cx) (pins : List (Addr × Obj)) (σ : St) (Q : Bool → Hp → Prop) (b : Bool) (s' : Shared) : Prop := ∃ H', Inv X pins σ H' s' ∧ Q b H'
def AP (X : Cx) (pins : List (Addr × Obj)) (σ : St) (Q : List V → Hp → Prop) (us : List Value) (s' : Shared) : Prop := ∃ vs H', Inv X pins σ H' s' ∧ Vals vs us ∧ Q vs H'
def SP (X : Cx) (pins : List (Addr × Obj)) (D : Ends) (f : Flow) (s' : Shared) : Prop :=
  match f with
  | .next => ∃ σ' H', Inv X pins σ' H' s' ∧ D.nx σ' H'
  | .brk => ∃ σ' H', Inv X pins σ' H' s' ∧ D.bk σ' H'
  | .cont => ∃ σ' H', Inv X pins σ' H' s' ∧ D.ct σ' H'
  | .ret u => ∃ v σ' H', Inv X pins σ' H' s' ∧ RelV v u ∧ D.rt v H'
def PE (X : Cx) (e : Expr) (t : TE) : Prop :=
  ∀ (pins : List (Addr × Obj)) (s : Shared) (σ : St) (H : Hp) (Q : VK), Inv X pins σ H s → t σ H Q → wpAny (model X.prog X.w) X.A (eval e X.env) (EP X pins σ Q) X.xe s
def PT (X : Cx) (e : Expr) (t : TT) : Prop :=
  ∀ (pins : List (Addr × Obj)) (s : Shared) (σ : St) (H : Hp) (Q : Bool → Hp → Prop), Inv X pins σ H s → t σ H Q → wpAny (model X.prog X.w) X.A (isTrue e X.env (eval e X.env)) (TP X pins σ Q) X.xe s
def PW (X : Cx) (e : Expr) (t : TT) : Prop :=
  ∀ (whole : Sem Value) (pins : List (Addr × Obj)) (s : Shared) (σ : St) (H : Hp) (Q : Bool → Hp → Prop), Inv X pins σ H s → t σ H Q → wpAny (model X.prog X.w) X.A (isTrue e X.env whole) (TP X pins σ Q) X.xe s
theorem PW.pt {X : Cx} {e : Expr} {t : TT} (h : PW X e t) : PT X e t := h _
def PA (X : Cx) (es : List Expr) (t : TA) : Prop :=
  ∀ (pos : Pos) (pins : List (Addr × Obj)) (s : Shared) (σ : St) (H : Hp) (Q : List V → Hp → Prop), Inv X pins σ H s → t σ H Q → wpAny (model X.prog X.w) X.A (spliced (backTo pos (starEach es X.env))) (AP X pins σ Q) X.xe s
def PS (X : Cx) (st : Stmt) (t : TS) : Prop :=
  ∀ (pins : List (Addr × Obj)) (s : Shared) (σ : St) (H : Hp) (D : Ends), Inv X pins σ H s → t D σ H → wpAny (model X.prog X.w) X.A (exec st X.env) (SP X pins D) X.xe s
def PSs (X : Cx) (st : List Stmt) (t : TS) : Prop :=
  ∀ (pins : List (Addr × Obj)) (s : Shared) (σ : St) (H : Hp) (D : Ends), Inv X pins σ H s → t D σ H → wpAny (model X.prog X.w) X.A (execs st X.env) (SP X pins D) X.xe s
theorem thn {α : Type} {t : Sem α} {Q Q' : α → Shared → Prop} {M : Model} {A : Around} {E : Value → Shared → Prop} {s : Shared} (h : wpAny M A t Q E s) (hQ : ∀ a s, Q a s → Q' a s) : wpAny M A t Q' E s := wpAny_mono h hQ fun _ _ x => x
section
variable {X : Cx}
def zfd (i : Nat) : TE := fun σ H Q => ∃ v, σ[i]? = some (some v) ∧ Q v H
def tC (v : V) : TE := fun _ H Q => Q v H
theorem zdS {i : Nat} {x : Str} {pos : Pos} (hN : X.N[i]? = some x) (hv : Vis X.env.scope x) (hd : (x == ("__debug__" : Str)) = false := by decide) (hcd : (x == ("__classdict__" : Str)) = false := by decide) : PE X (.Name x pos) (zfd i) := by
  intro pins s σ H Q I h
  obtain ⟨v, e, h⟩ := h
  obtain ⟨m, hn, hl⟩ := I.loc
  obtain ⟨u, r, l⟩ := hl i x v hN e hv
  have fin : EP X pins σ Q u s := ⟨v, H, I, r, h⟩
  rcases l with ⟨hk, hm⟩ | ⟨hk, c, hc, hcell⟩
  · exact wpAny_Name (wpAny_loadName_local I.ok.kind hk hn hm fin) hd
  · rcases hk with hk | hk
    · exact wpAny_Name (wpAny_loadName_cell I.ok.kind hk hc hcell fin) hd
    · exact wpAny_Name (wpAny_loadName_free I.ok.kind hk hc hcell fin hcd) hd
theorem zj {i j pos} : PE X (.Constant (.int i) j pos) (tC (.int i)) := fun _ _ _ H _ I h => wpAny_Constant_int ⟨.int i, H, I.tok _, ⟨_, rfl⟩, h⟩
theorem jA {b j pos} : PE X (.Constant (.bool b) j pos) (tC (.bl b)) := fun _ _ _ H _ I h => Constant_bool ⟨.bl b, H, I, rfl, h⟩
theorem tY {j pos} : PE X (.Constant .none j pos) (tC .non) := fun _ _ _ H _ I h => Constant_none ⟨.non, H, I, rfl, h⟩
def Gl (X : Cx) (x : Str) : Prop := X.env.kindOf x = some .globalImplicit
theorem Q6 {E : Value → Shared → Prop} {pins : List (Addr × Obj)} {s : Shared} {σ : St} {H : Hp} {x : Str} {u : Value} {pos : Pos} {Q : Value → Shared → Prop} (I : Inv X pins σ H s) (hg : Gl X x) (hm : X.mg x = some u) (h : Q u s)
    (hd : (x == ("__debug__" : Str)) = false := by decide) : wpAny (model X.prog X.w) X.A (eval (.Name x pos) X.env) Q E s :=
  Calls.Name_function_global I.ok.kind hg (Calls.loadGlobal_global (by rw [I.ok.glob]; exact I.mod.glob.keeps I.bk) hm h) hd
theorem jt {E : Value → Shared → Prop} {pins : List (Addr × Obj)} {s : Shared} {σ : St} {H : Hp} {x : Str} {u : Value} {pos : Pos} {Q : Value → Shared → Prop} (I : Inv X pins σ H s) (hg : Gl X x) (hm : X.mg x = none) (hv : bootBuiltins x = some u) (h : Q u s)
    (hn : x ≠ "__name__" := by decide) (hd : (x == ("__debug__" : Str)) = false := by decide) : wpAny (model X.prog X.w) X.A (eval (.Name x pos) X.env) Q E s := by
  obtain ⟨mb, h1, h2⟩ := I.mod.blt
  exact Calls.Name_function_global I.ok.kind hg (Calls.loadGlobal_builtin (by rw [I.ok.glob]; exact I.mod.glob.keeps I.bk) hm (by rw [I.ok.blt]; exact h1.keeps I.bk) ((h2 x hn).trans hv) h) hd
theorem Ws {x : Str} {v : V} {u : Value} {pos : Pos} (hg : Gl X x) (hm : X.mg x = some u) (r : RelV v u) (hd : (x == ("__debug__" : Str)) = false := by decide) : PE X (.Name x pos) (tC v) :=
  fun _ _ _ H _ I h => Q6 I hg hm ⟨v, H, I, r, h⟩ hd
theorem Wg {x : Str} {v : V} {u : Value} {pos : Pos} (hg : Gl X x) (hm : X.mg x = none) (hv : bootBuiltins x = some u) (r : RelV v u) (hn : x ≠ "__name__" := by decide) (hd : (x == ("__debug__" : Str)) = false := by decide) : PE X (.Name x pos) (tC v) :=
  fun _ _ _ H _ I h => jt I hg hm hv ⟨v, H, I, r, h⟩ hn hd
variable {a b : Expr} {ta tb : TE} {pos : Pos}
def tB (t : TE) : TT := fun σ H Q => t σ H fun x H1 => ∃ c, x = .bl c ∧ Q c H1
theorem uE {e : Expr} {t : TE} (h : PE X e t) (he : ∀ whole, isTrue e X.env whole = (do let v ← whole; standAt e.pos; holding [v] (truthy v)) := by intro _; rfl) : PT X e (tB t) := by
  intro pins s σ H Q I hw
  refine isTrue_plain (thn (h pins s σ H _ I hw) fun v s1 ⟨x, H1, I1, r1, q1⟩ => ?_) (he _)
  obtain ⟨d, rfl, q⟩ := q1
  cases r1
  exact wpAny_truthy_bool ⟨H1, I1, q⟩
variable {tA tB' : TT} {rest : List Expr}
def zfp (t u : TT) : TT := fun σ H Q => t σ H fun c H1 => if c = true then u σ H1 Q else Q false H1
def tOr (t u : TT) : TT := fun σ H Q => t σ H fun c H1 => if c = true then Q true H1 else u σ H1 Q
def zfo (t : TT) : TT := fun σ H Q => t σ H fun c H1 => Q (!c) H1
theorem za6 (ha : PT X a tA) : PW X (.BoolOp .And [a] pos) tA := by
  intro wh pins s σ H Q I h
  refine isTrue_and (thn (ha pins s σ H Q I h) fun c s1 e => ?_)
  cases c with
  | true => exact isTrue_and_nil e
  | false => exact e
theorem W9 (ha : PT X a tA) : PW X (.BoolOp .Or [a] pos) tA := by
  intro wh pins s σ H Q I h
  refine isTrue_or (thn (ha pins s σ H Q I h) fun c s1 e => ?_)
  cases c with
  | false => exact isTrue_or_nil e
  | true => exact e
theorem zch (ha : PT X a tA) (hb : PW X (.BoolOp .And (b :: rest) pos) tB') : PW X (.BoolOp .And (a :: b :: rest) pos) (zfp tA tB') := by
  intro wh pins s σ H Q I h
  refine isTrue_and (thn (ha pins s σ H _ I h) fun c s1 ⟨H1, I1, q1⟩ => ?_)
  cases c with
  | true => exact hb wh pins s1 σ H1 Q I1 q1
  | false => exact ⟨H1, I1, q1⟩
theorem Qv (ha : PT X a tA) (hb : PW X (.BoolOp .Or (b :: rest) pos) tB') : PW X (.BoolOp .Or (a :: b :: rest) pos) (tOr tA tB') := by
  intro wh pins s σ H Q I h
  refine isTrue_or (thn (ha pins s σ H _ I h) fun c s1 ⟨H1, I1, q1⟩ => ?_)
  cases c with
  | true => exact ⟨H1, I1, q1⟩
  | false => exact hb wh pins s1 σ H1 Q I1 q1
theorem tX (ha : PT X a tA) : PT X (.UnaryOp .Not a pos) (zfo tA) := by
  intro pins s σ H Q I h
  exact isTrue_not (ha pins s σ H (fun c H1 => Q (!c) H1) I h)
def zeZ (ta tb : TE) : TE := fun σ H Q => ta σ H fun x H1 => ∃ c, x = .bl c ∧ if c = true then tb σ H1 Q else Q (.bl false) H1
def zes (ta : TE) : TE := fun σ H Q => ta σ H fun x H1 => ∃ c, x = .bl c ∧ Q (.bl (!c)) H1
theorem jq {op} {t : TE} (h : PE X a t) : PE X (.BoolOp op [a] pos) t := fun pins s σ H Q I hw => BoolOp_one (h pins s σ H Q I hw)
theorem jk (ha : PE X a ta) (hb : PE X (.BoolOp .And (b :: rest) pos) tb) : PE X (.BoolOp .And (a :: b :: rest) pos) (zeZ ta tb) := by
  intro pins s σ H Q I h
  refine BoolOp_and (thn (ha pins s σ H _ I h) fun v s1 ⟨x, H1, I1, r1, q1⟩ => ?_)
  obtain ⟨c, rfl, q1⟩ := q1
  cases r1
  refine wpAny_truthy_bool ?_
  cases c with
  | true => exact hb pins s1 σ H1 Q I1 q1
  | false => exact ⟨.bl false, H1, I1, rfl, q1⟩
theorem zcP (ha : PE X a ta) : PE X (.UnaryOp .Not a pos) (zes ta) := by
  intro pins s σ H Q I h
  refine UnaryOp_ (thn (ha pins s σ H _ I h) fun v s1 ⟨x, H1, I1, r1, q1⟩ => ?_)
  obtain ⟨c, rfl, q1⟩ := q1
  cases r1
  exact not_of (wpAny_truthy_bool ⟨.bl (!c), H1, I1, rfl, q1⟩)
def tIf (t : TT) (ta tb : TE) : TE := fun σ H Q => t σ H fun c H1 => if c = true then ta σ H1 Q else tb σ H1 Q
theorem zak {c : Expr} (hc : PT X c tA) (ha : PE X a ta) (hb : PE X b tb) : PE X (.IfExp c a b pos) (tIf tA ta tb) := by
  intro pins s σ H Q I h
  refine wpAny_IfExp (thn (hc pins s σ H _ I h) fun d s1 ⟨H1, I1, q1⟩ => ?_)
  cases d with
  | true => exact ha pins s1 σ H1 Q I1 q1
  | false => exact hb pins s1 σ H1 Q I1 q1
end
def SqL (K : PySem.W.Frag) (H : Hp) (a : Addr) (xs : List V) : Prop :=
  Rd H a (.lst xs) ∨
    ∃ (o : Obj) (its : Array Value) (n : Nat), K.lookup a = some o ∧ o.cls = .type "list" ∧ o.dict = none ∧ o.data = .seq its n ∧ its.size ≤ sizeLine ∧ Vals xs its.toList
def SqT (K : PySem.W.Frag) (H : Hp) (a : Addr) (xs : List V) : Prop :=
  Rd H a (.tup xs) ∨
    ∃ (o : Obj) (its : Array Value) (n : Nat), K.lookup a = some o ∧ o.cls = .type "tuple" ∧ o.data = .seq its n ∧ its.size ≤ sizeLine ∧ Vals xs its.toList
def zfu : Value → Option V
  | .none => some .non
  | .bool b => some (.bl b)
  | .int i _ => some (.int i)
  | .str x _ => some (.str x)
  | .bytes b _ => some (.byt b)
  | .float b _ => some (.flt b)
  | .ref a => some (.ref a)
  | .type n => some (.ty n)
  | _ => none
theorem RelV.abs {x : V} {u : Value} (r : RelV x u) : zfu u = some x := by
  cases x with
  | non => cases r; rfl
  | bl _ => cases r; rfl
  | int _ => obtain ⟨t, rfl⟩ := r; rfl
  | str _ => obtain ⟨t, rfl⟩ := r; rfl
  | byt _ => obtain ⟨t, rfl⟩ := r; rfl
  | flt _ => obtain ⟨t, rfl⟩ := r; rfl
  | ref _ => cases r; rfl
  | ty _ => cases r; rfl
theorem RelV.inj {x y : V} {u : Value} (r : RelV x u) (q : RelV y u) : x = y := Option.some.inj (r.abs.symm.trans q.abs)
theorem Vals.inj : ∀ {xs ys : List V} {us : List Value}, Vals xs us → Vals ys us → xs = ys
  | _, _, _, .nil, .nil => rfl
  | _, _, _, .cons r t, .cons r' t' => by rw [r.inj r', Vals.inj t t']
section
variable {X : Cx} {pins : List (Addr × Obj)} {σ : St} {H : Hp} {s : Shared} {a : Addr} {xs ys : List V}
theorem SqL.of {K : PySem.W.Frag} (h : H a = some (.lst xs)) : SqL K H a xs := .inl (.inl h)
theorem SqT.of {K : PySem.W.Frag} (h : H a = some (.tup xs)) : SqT K H a xs := .inl (.inl h)
theorem Inv.list (I : Inv X pins σ H s) (h : SqL X.K H a xs) : ∃ its : List Value, Vals xs its ∧ PlainL s.heap a its.toArray ∧ xs.length ≤ sizeLine := by
  rcases h with h | ⟨o, its, n, hk, hc, hd, hs, hz, r⟩
  · obtain ⟨z, its, n, r, e⟩ := h.ok I.hok
    exact ⟨its, r, ⟨_, n, e, rfl, rfl, rfl⟩, z⟩
  · refine ⟨its.toList, r, ⟨o, n, I.kIn a o hk, hc, hd, by simpa using hs⟩, ?_⟩
    have e := r.length
    simp only [Array.length_toList] at e
    omega
theorem Inv.tuple (I : Inv X pins σ H s) (h : SqT X.K H a xs) : ∃ its : List Value, Vals xs its ∧ IsTup s.heap a its.toArray ∧ xs.length ≤ sizeLine := by
  rcases h with h | ⟨o, its, n, hk, hc, hs, hz, r⟩
  · obtain ⟨z, its, r, p⟩ := h.ok I.hok
    exact ⟨its, r, p, z⟩
  · refine ⟨its.toList, r, ⟨o, I.kIn a o hk, hc, n, by simpa using hs⟩, ?_⟩
    have e := r.length
    simp only [Array.length_toList] at e
    omega
theorem Inv.list_inj (I : Inv X pins σ H s) (h : SqL X.K H a xs) (h' : SqL X.K H a ys) : xs = ys := by
  obtain ⟨its, r, ⟨o, n, e, _, _, d⟩, _⟩ := I.list h
  obtain ⟨its', r', ⟨o', n', e', _, _, d'⟩, _⟩ := I.list h'
  rw [e] at e'; cases e'
  rw [d] at d'
  injection d' with d1 _
  have : its = its' := by simpa using congrArg Array.toList d1
  subst this
  exact r.inj r'
theorem Inv.tuple_inj (I : Inv X pins σ H s) (h : SqT X.K H a xs) (h' : SqT X.K H a ys) : xs = ys := by
  obtain ⟨its, r, ⟨o, e, _, n, d⟩, _⟩ := I.tuple h
  obtain ⟨its', r', ⟨o', e', _, n', d'⟩, _⟩ := I.tuple h'
  rw [e] at e'; cases e'
  rw [d] at d'
  injection d' with d1 _
  have : its = its' := by simpa using congrArg Array.toList d1
  subst this
  exact r.inj r'
end
abbrev Cx.wish (X : Cx) (E : Value → Shared → Prop) : Cx := { X with xe := E }
abbrev Cx.nox (X : Cx) : Cx := X.wish fun _ _ => False
theorem Cx.Ok.wish {X : Cx} (ok : X.Ok) (E : Value → Shared → Prop) : (X.wish E).Ok :=
  ⟨ok.mod, ok.kind, ok.glob, ok.blt, ok.above, ok.inj, ok.has, ok.cab, ok.hd, ok.frames, ok.stk, ok.exf, ok.bs, ok.bsz, ok.noex, ok.exfs, ok.funs, ok.frf⟩
theorem Cx.Ok.unwish {X : Cx} {E : Value → Shared → Prop} (ok : (X.wish E).Ok) : X.Ok :=
  ⟨ok.mod, ok.kind, ok.glob, ok.blt, ok.above, ok.inj, ok.has, ok.cab, ok.hd, ok.frames, ok.stk, ok.exf, ok.bs, ok.bsz, ok.noex, ok.exfs, ok.funs, ok.frf⟩
section
variable {X : Cx} {pins : List (Addr × Obj)} {σ : St} {H : Hp} {s : Shared} {E : Value → Shared → Prop}
theorem Inv.wish (I : Inv X pins σ H s) (E : Value → Shared → Prop) : Inv (X.wish E) pins σ H s := ⟨I.ok.wish E, I.os, I.bare, I.base, I.loc, I.cell, I.free, I.freeC, I.pin, I.hok, I.len⟩
theorem Inv.unwish (I : Inv (X.wish E) pins σ H s) : Inv X pins σ H s := ⟨I.ok.unwish, I.os, I.bare, I.base, I.loc, I.cell, I.free, I.freeC, I.pin, I.hok, I.len⟩
theorem SP.unwish {D : Ends} {f : Flow} {s' : Shared} (h : SP (X.wish E) pins D f s') : SP X pins D f s' := by
  cases f with
  | next => obtain ⟨σ', H', I, q⟩ := h; exact ⟨σ', H', I.unwish, q⟩
  | brk => obtain ⟨σ', H', I, q⟩ := h; exact ⟨σ', H', I.unwish, q⟩
  | cont => obtain ⟨σ', H', I, q⟩ := h; exact ⟨σ', H', I.unwish, q⟩
  | ret u => obtain ⟨v, σ', H', I, r, q⟩ := h; exact ⟨v, σ', H', I.unwish, r, q⟩
theorem PE.nox {e : Expr} {t : TE} (h : PE X.nox e t) : PE X e t := fun pins s σ H Q I hw =>
  wpAny_mono (h pins s σ H Q (I.wish _) hw) (fun _ _ ⟨v, H', I', r, q⟩ => ⟨v, H', I'.unwish, r, q⟩) fun _ _ z => False.elim z
theorem PT.nox {e : Expr} {t : TT} (h : PT X.nox e t) : PT X e t := fun pins s σ H Q I hw =>
  wpAny_mono (h pins s σ H Q (I.wish _) hw) (fun _ _ ⟨H', I', q⟩ => ⟨H', I'.unwish, q⟩) fun _ _ z => False.elim z
theorem PSs.nox {st : List Stmt} {t : TS} (h : PSs X.nox st t) : PSs X st t := fun pins s σ H D I hw =>
  wpAny_mono (h pins s σ H D (I.wish _) hw) (fun _ _ q => q.unwish) fun _ _ z => False.elim z
end
section
variable {X : Cx} {st : Stmt} {rest : List Stmt} {t u : TS} {e : Expr} {te : TE} {pos : Pos}
def zez : TS := fun D σ H => D.nx σ H
def zfj (t u : TS) : TS := fun D σ H => t { D with nx := u D } σ H
theorem yh : PSs X [] zez := fun _ _ σ H _ I h => wpAny_execs_nil ⟨σ, H, I, h⟩
theorem zg (h1 : PS X st t) (h2 : PSs X rest u) : PSs X (st :: rest) (zfj t u) := by
  intro pins s σ H D I h
  refine wpAny_execs_cons (thn (h1 pins s σ H { D with nx := u D } I h) fun f s1 q => ?_)
  cases f with
  | next =>
    obtain ⟨σ', H', I', q⟩ := q
    exact h2 pins s1 σ' H' D I' q
  | ret v => exact q
  | brk => exact q
  | cont => exact q
theorem zq (h1 : PS X st t) : PSs X [st] t := by
  intro pins s σ H D I h
  refine wpAny_execs_cons (thn (h1 pins s σ H D I h) fun f s1 q => ?_)
  cases f with
  | next => exact wpAny_execs_nil q
  | ret v => exact q
  | brk => exact q
  | cont => exact q
theorem Inv.quiet {pins : List (Addr × Obj)} {σ : St} {H : Hp} {s : Shared} (I : Inv X pins σ H s) : interactive X.env = false := by simp [interactive, I.ok.kind]
def ze9 (te : TE) : TS := fun D σ H => te σ H fun _ H1 => D.nx σ H1
theorem yP (he : PE X e te) (hs : swapsWith e none pos.line X.env = pure false := by rfl) : PS X (.Expr e pos) (ze9 te) := by
  intro pins s σ H D I h
  exact wpAny_Expr_any (thn (he pins s σ H _ I h) fun v s1 ⟨x, H1, I1, r1, q1⟩ => ⟨σ, H1, I1, q1⟩) I.quiet hs
def zfk (te : TE) : TS := fun D σ H => te σ H D.rt
theorem zJ (he : PE X e te) : PS X (.Return (some e) pos) (zfk te) := by
  intro pins s σ H D I h
  exact wpAny_Return_some (thn (he pins s σ H _ I h) fun v s1 ⟨x, H1, I1, r1, q1⟩ => ⟨x, σ, H1, I1, r1, q1⟩)
def zfz (c : TT) (t u : TS) : TS := fun D σ H => c σ H fun b H1 => if b = true then t D σ H1 else u D σ H1
theorem xP {c : Expr} {a b : List Stmt} {tc : TT} (hc : PT X c tc) (ha : PSs X a t) (hb : PSs X b u) : PS X (.If c a b pos) (zfz tc t u) := by
  intro pins s σ H D I h
  refine wpAny_If (thn (hc pins s σ H _ I h) fun d s1 ⟨H1, I1, q1⟩ => ?_)
  cases d with
  | true => exact ha pins s1 σ H1 D I1 q1
  | false => exact hb pins s1 σ H1 D I1 q1
def zd4 : TS := fun _ _ _ => False
theorem Y4 : PS X st zd4 := fun _ _ _ _ _ _ h => h.elim
end
abbrev TG := V → St → Hp → (St → Hp → Prop) → Prop
abbrev TGs := List V → St → Hp → (St → Hp → Prop) → Prop
def PG (X : Cx) (target : Expr) (t : TG) : Prop :=
  ∀ (pins : List (Addr × Obj)) (s : Shared) (σ : St) (H : Hp) (v : V) (u : Value) (Q : St → Hp → Prop), Inv X pins σ H s → RelV v u → t v σ H Q →
    wpAny (model X.prog X.w) X.A (assign target X.env u) (fun _ s' => ∃ σ' H', Inv X pins σ' H' s' ∧ Q σ' H') X.xe s
def PGs (X : Cx) (ts : List Expr) (t : TGs) : Prop :=
  ∀ (pins : List (Addr × Obj)) (s : Shared) (σ : St) (H : Hp) (vs : List V) (us : List Value) (Q : St → Hp → Prop), Inv X pins σ H s → Vals vs us → t vs σ H Q →
    wpAny (model X.prog X.w) X.A (assignInOrder ((assignEach ts X.env).map (·.2)) us) (fun _ s' => ∃ σ' H', Inv X pins σ' H' s' ∧ Q σ' H') X.xe s
abbrev zem := V → V → V → Hp → (Hp → Prop) → Prop
def zeD (X : Cx) (t : zem) : Prop :=
  ∀ (pins : List (Addr × Obj)) (s : Shared) (σ : St) (H : Hp) (o i v : V) (ov iv u : Value) (Q : Hp → Prop), Inv X pins σ H s → RelV o ov → RelV i iv → RelV v u → t o i v H Q →
    wpAny (model X.prog X.w) X.A (setItem ov iv u) (fun _ s' => ∃ H', Inv X pins σ H' s' ∧ Q H') X.xe s
abbrev TIp := V → V → Hp → VK → Prop
def PIp (X : Cx) (op : Operator) (t : TIp) : Prop :=
  ∀ (pins : List (Addr × Obj)) (s : Shared) (σ : St) (H : Hp) (x y : V) (v u : Value) (Q : VK), Inv X pins σ H s → RelV x v → RelV y u → t x y H Q →
    wpAny (model X.prog X.w) X.A (inplaceOp op v u) (EP X pins σ Q) X.xe s
section
variable {X : Cx} {pos : Pos}
def zbb (i : Nat) : TG := fun v σ H Q => Q (σ.set i (some v)) H
theorem yZ {i : Nat} {x : Str} (hN : X.N.Nodup) (hi : X.N[i]? = some x) (hx : Loc X.env.scope x) (hf : X.fn x = true ∨ X.env.scope.names.lookup x = some .local := by first | exact .inl rfl | exact .inr rfl | assumption) : PG X (.Name x pos) (zbb i) := by
  intro pins s σ H v u Q I r h
  exact wpAny_assign_Name (Ur I hN hi hx r (fun s' I' => ⟨_, H, I', h⟩) hf)
def zfn : TGs := fun vs σ H Q => vs = [] ∧ Q σ H
def zeL (t : TG) (u : TGs) : TGs := fun vs σ H Q => ∃ v r, vs = v :: r ∧ t v σ H fun σ' H' => u r σ' H' Q
theorem Ji : PGs X [] zfn := by
  intro pins s σ H vs us Q I r h
  obtain ⟨e, h⟩ := h
  subst e
  cases r
  exact assignInOrder_nil ⟨σ, H, I, h⟩
theorem Z7 {e : Expr} {es : List Expr} {t : TG} {u : TGs} (h1 : PG X e t) (h2 : PGs X es u)
    (hs : (assignEach (e :: es) X.env).map (·.2) = assign e X.env :: (assignEach es X.env).map (·.2) := by rfl) : PGs X (e :: es) (zeL t u) := by
  intro pins s σ H vs us Q I r h
  obtain ⟨v, vr, e1, h⟩ := h
  subst e1
  cases r with
  | cons r rr =>
    rw [hs]
    refine assignInOrder_cons (thn (h1 pins s σ H _ _ _ I r h) fun _ s1 ⟨σ1, H1, I1, q1⟩ => ?_)
    exact h2 pins s1 σ1 H1 _ _ Q I1 rr q1
def zeF (K : PySem.W.Frag) (n : Nat) (t : TGs) : TG := fun v σ H Q => ∃ a xs, v = .ref a ∧ SqT K H a xs ∧ xs.length = n ∧ t xs σ H Q
theorem za2 {es : List Expr} {k : Nat} {t : TGs} {n : Nat} (hc : X.calm = true) (h : PGs X es t)
    (hn : (assignEach es X.env).length = n := by rfl) (hst : (assignEach es X.env).findIdx? (·.1) = none := by rfl) : PG X (.Tuple es k pos) (zeF X.K n t) := by
  intro pins s σ H v u Q I r hw
  obtain ⟨a, xs, e1, hq, hl, hw⟩ := hw
  subst e1
  cases r
  obtain ⟨its, rv, ht, hz⟩ := I.tuple hq
  refine assign_Tuple_tuple (I.ok.hd hc) ht (by simp [hn, ← hl, rv.length]) hst fun h' hx => ?_
  have I1 : Inv X pins σ H { s with heap := h' } := I.kept (t' := s.toks) fun b o e => hx b o (Nat.ne_of_lt (Heap.lt_size e)) e
  exact h pins _ σ H xs _ Q I1 (by simpa using rv) hw
def zfE (to ti : TE) (t : zem) : TG := fun v σ H Q => to σ H fun o H1 => ti σ H1 fun i H2 => t o i v H2 fun H3 => Q σ H3
theorem zep {o i : Expr} {to ti : TE} {t : zem} (ho : PE X o to) (hi : PE X i ti) (hs : zeD X t)
    (ha : ∀ v, assign (.Subscript o i pos) X.env v = (do
      let ov ← holding [v] (eval o X.env)
      let iv ← holding [v, ov] (eval i X.env)
      standAt pos
      holding [v, ov, iv] (setItem ov iv v)
      release [v, ov, iv] []) := by intro _; rfl) : PG X (.Subscript o i pos) (zfE to ti t) := by
  intro pins s σ H v u Q I r h
  rw [ha]
  refine wpAny_bind (wpAny_holding (thn (ho pins s σ H _ I h) fun ov s1 ⟨x, H1, I1, r1, q1⟩ => ?_))
  refine wpAny_bind (wpAny_holding (thn (hi pins s1 σ H1 _ I1 q1) fun iv s2 ⟨y, H2, I2, r2, q2⟩ => ?_))
  refine wpAny_bind (wpAny_standAt (wpAny_bind (wpAny_holding (thn (hs pins s2 σ H2 x y v ov iv u _ I2 r1 r2 r q2) fun _ s3 ⟨H3, I3, q3⟩ => ?_))))
  exact wpAny_release ⟨σ, H3, I3, q3⟩
def zdY (te : TE) (g : TG) : TS := fun D σ H => te σ H fun x H1 => g x σ H1 D.nx
theorem zek {tg e : Expr} {te : TE} {g : TG} (he : PE X e te) (hg : PG X tg g) (hs : swapsWithSole [tg] e pos.line X.env = pure false := by rfl) (hw : swappedStores [tg] e X.env = pure none := by rfl)
    (h1 : (assignEach [tg] X.env).map (·.2) = [assign tg X.env] := by rfl) : PS X (.Assign [tg] e pos) (zdY te g) := by
  intro pins s σ H D I h
  refine wpAny_Assign_stores (thn (he pins s σ H _ I h) fun v s1 ⟨x, H1, I1, r1, q1⟩ => ?_) hs hw
  rw [h1]
  exact thn (hg pins s1 σ H1 x v _ I1 r1 q1) fun _ s2 q => q
theorem zH {i : Nat} {x : Str} {e : Expr} {te : TE} {pos' : Pos} (hN : X.N.Nodup) (hi : X.N[i]? = some x) (hx : Loc X.env.scope x) (he : PE X e te) (hs : swapsWith e (some (.Name x pos')) pos.line X.env = pure false := by rfl) (hf : X.fn x = true ∨ X.env.scope.names.lookup x = some .local := by first | exact .inl rfl | exact .inr rfl | assumption) :
    PS X (.Assign [.Name x pos'] e pos) (zdY te (zbb i)) := by
  intro pins s σ H D I h
  refine wpAny_Assign_Name (thn (he pins s σ H _ I h) fun v s1 ⟨y, H1, I1, r1, q1⟩ => ?_) hs
  exact Ur I1 hN hi hx r1 (fun s2 I2 => ⟨_, H1, I2, q1⟩) hf
def zfq (i : Nat) (te : TE) (ti : TIp) : TS := fun D σ H => ∃ x, σ[i]? = some (some x) ∧ te σ H fun y H1 => ti x y H1 fun z H2 => D.nx (σ.set i (some z)) H2
theorem W7 {i : Nat} {x : Str} {e : Expr} {te : TE} {op : Operator} {ti : TIp} {pos' : Pos} (hN : X.N.Nodup) (hi : X.N[i]? = some x) (hx : Loc X.env.scope x) (he : PE X e te) (ho : PIp X op ti) (hf : X.fn x = true ∨ X.env.scope.names.lookup x = some .local := by first | exact .inl rfl | exact .inr rfl | assumption) :
    PS X (.AugAssign (.Name x pos') op e pos) (zfq i te ti) := by
  intro pins s σ H D I h
  obtain ⟨v, e1, h⟩ := h
  obtain ⟨m, hn, hl⟩ := I.loc
  have vis : Vis X.env.scope x := by rcases hx with k | k; exact .inl k; exact .inr (.inl k)
  obtain ⟨u, r, l⟩ := hl i x v hi e1 vis
  refine wpAny_AugAssign_Name ?_
  have go : wpAny (model X.prog X.w) X.A (eval e X.env) (fun w s₂ => wpAny (model X.prog X.w) X.A (inplaceOp op u w) (fun r s₃ => wpAny (model X.prog X.w) X.A (storeName X.env x r) (fun _ => SP X pins D .next) X.xe s₃) X.xe s₂) X.xe s := by
    refine thn (he pins s σ H _ I h) fun w s1 ⟨y, H1, I1, r1, q1⟩ => ?_
    refine thn (ho pins s1 σ H1 v y u w _ I1 r r1 q1) fun z s2 ⟨zv, H2, I2, r2, q2⟩ => ?_
    exact Ur I2 hN hi hx r2 (fun s3 I3 => ⟨_, H2, I3, q2⟩) hf
  rcases l with ⟨hk, hm⟩ | ⟨hk, c, hc, hcell⟩
  · exact wpAny_loadName_local I.ok.kind hk hn hm go
  · rcases hk with hk | hk
    · exact wpAny_loadName_cell I.ok.kind hk hc hcell go
    · rcases hx with k | k
      · have : X.env.scope.names.lookup x = some .free := hk
        rw [k] at this; cases this
      · have : X.env.scope.names.lookup x = some .free := hk
        rw [k] at this; cases this
def ipI (f : Int → Int → Int) : TIp := fun x y H Q => ∃ i j, x = .int i ∧ y = .int j ∧ Q (.int (f i j)) H
theorem Ug : PIp X .Add (ipI fun i j => i + j) := by
  intro pins s σ H x y v u Q I r1 r2 h
  obtain ⟨i, j, e1, e2, q⟩ := h
  subst e1; subst e2
  obtain ⟨t, rfl⟩ := r1
  obtain ⟨t', rfl⟩ := r2
  exact iadd_int ⟨.int _, H, I.tok _, ⟨_, rfl⟩, q⟩
theorem zdQ : PIp X .Sub (ipI fun i j => i - j) := by
  intro pins s σ H x y v u Q I r1 r2 h
  obtain ⟨i, j, e1, e2, q⟩ := h
  subst e1; subst e2
  obtain ⟨t, rfl⟩ := r1
  obtain ⟨t', rfl⟩ := r2
  exact isub_int ⟨.int _, H, I.tok _, ⟨_, rfl⟩, q⟩
end
section
variable {X : Cx} {pos : Pos}
def zcB (c : TT) (tb : TS) : TS := fun D σ H => ∃ W : Nat → St → Hp → Prop, (∃ m, W m σ H) ∧ ∀ m σ H, W m σ H →
  c σ H fun b H1 => if b = true then ∃ N : St → Hp → Prop, (∀ σ' H', N σ' H' → ∃ m', m' < m ∧ W m' σ' H') ∧ tb { D with nx := N, ct := N, bk := D.nx } σ H1 else D.nx σ H1
theorem Wq {c : Expr} {body : List Stmt} {tc : TT} {tb : TS} (hp : PassesOwn (model X.prog X.w) X.A X.env X.xe) (hc : PT X c tc) (hb : PSs X body tb) : PS X (.While c body [] pos) (zcB tc tb) := by
  intro pins s σ H D I h
  obtain ⟨W, ⟨m0, w0⟩, turn⟩ := h
  refine wpAny_While (codeAny_whileLoop (fun n s' => ∃ σ' H', Inv X pins σ' H' s' ∧ W n σ' H') ?_ m0 ⟨σ, H, I, w0⟩)
  rintro n s1 ⟨σ1, H1, I1, w1⟩
  refine wpAny_passesOwn hp (thn (hc pins s1 σ1 H1 _ I1 (turn n σ1 H1 w1)) fun b s2 ⟨H2, I2, q2⟩ => ?_)
  cases b with
  | true =>
    obtain ⟨N, hN, q2⟩ := q2
    rw [if_pos rfl]
    refine wpAny_passesOwn hp (thn (hb pins s2 σ1 H2 _ I2 q2) fun f s3 q3 => ?_)
    cases f with
    | next =>
      obtain ⟨σ3, H3, I3, n3⟩ := q3
      obtain ⟨m', hm, w3⟩ := hN σ3 H3 n3
      exact ⟨m', hm, σ3, H3, I3, w3⟩
    | cont =>
      obtain ⟨σ3, H3, I3, n3⟩ := q3
      obtain ⟨m', hm, w3⟩ := hN σ3 H3 n3
      exact ⟨m', hm, σ3, H3, I3, w3⟩
    | brk => exact q3
    | ret v => exact q3
  | false =>
    rw [if_neg Bool.false_ne_true]
    exact wpAny_execs_nil ⟨σ1, H2, I2, q2⟩
end
structure It where
  go : Nat → Hp → Prop
  yld : Nat → Hp → V → Hp → Prop
  stop : Nat → Hp → Prop
def WF (X : Cx) (pins : List (Addr × Obj)) (H : Hp) (b : Addr) : Prop :=
  H b = none ∧ b ≠ X.env.locals ∧ b ∉ X.fs ∧ (b ∈ X.ex ∨ X.s₀.heap.objs.size ≤ b) ∧ (∀ x c, X.env.cells.lookup x = some c → c ≠ b) ∧ ∀ p ∈ X.pn ++ pins, p.1 ≠ b
theorem Inv.fpOk {X : Cx} {pins : List (Addr × Obj)} {σ : St} {H H' : Hp} {s : Shared} {b : Addr} (I : Inv X pins σ H s) (hb : s.heap.objs.size ≤ b) (hn : H' b = none) : WF X pins H' b := by
  refine ⟨hn, Nat.ne_of_gt (Nat.lt_of_lt_of_le I.lt hb), I.nofs hb, .inr (Nat.le_trans I.sz hb), fun x c e z => ?_, fun p hp z => ?_⟩
  · obtain ⟨v, q⟩ := I.cell x c e
    exact absurd (Nat.lt_of_lt_of_le q.lt (by rw [z]; exact hb)) (Nat.lt_irrefl _)
  · exact absurd (Nat.lt_of_lt_of_le (Heap.lt_size (I.pin p hp).1) (by rw [z]; exact hb)) (Nat.lt_irrefl _)
structure Turn (P : Program) (w : World) (K : PySem.W.Frag) (tg : Expr) (J : It) (fp : List Addr) (it : Addr) (tn : Nat → Heap → Prop) : Prop where
  mem : it ∈ fp
  obj : ∀ i h, tn i h → ∀ b ∈ fp, ∃ o, h.get? b = some o ∧ ∀ v, o.data ≠ .cell v
  keep : ∀ i h h', tn i h → (∀ b ∈ fp, ∀ o, h.get? b = some o → h'.get? b = some o) → tn i h'
  item : ∀ (X : Cx), X.prog = P → X.w = w → X.K = K → X.calm = true → ∀ (i : Nat) (pins : List (Addr × Obj)) (s : Shared) (σ : St) (H : Hp) (E : Value → Shared → Prop), Inv X pins σ H s → (∀ b ∈ fp, WF X pins H b) → tn i s.heap → J.go i H →
    wpAny (model P w) X.A (pyNext (.ref it)) (fun r s1 => ∃ u, r = some u ∧
      wpAny (model P w) X.A (letOwnedTupleGo tg (.ref it) u) (fun _ s2 => ∃ x H', Inv X pins σ H' s2 ∧ RelV x u ∧ J.yld i H x H' ∧ tn (i + 1) s2.heap ∧ ∀ b ∈ fp, H' b = none) E s1) E s
  done : ∀ (X : Cx), X.prog = P → X.w = w → X.K = K → X.calm = true → ∀ (i : Nat) (pins : List (Addr × Obj)) (s : Shared) (σ : St) (H : Hp) (E : Value → Shared → Prop), Inv X pins σ H s → (∀ b ∈ fp, WF X pins H b) → tn i s.heap → J.stop i H →
    wpAny (model P w) X.A (pyNext (.ref it)) (fun r s1 => r = none ∧ Inv X pins σ H s1) E s
  self : ∀ (A : Around) (i : Nat) (s : Shared) (Q : Value → Shared → Prop) (E : Value → Shared → Prop), tn i s.heap → Q (.ref it) s → wpAny (model P w) A (pyIter (.ref it)) Q E s
abbrev TI := St → Hp → (It → Hp → Prop) → Prop
def PIE (X : Cx) (pins : List (Addr × Obj)) (σ : St) (tg : Expr) (R : It → Hp → Prop) (itv : Value) (s2 : Shared) : Prop :=
  ∃ (it : Addr) (fp : List Addr) (tn : Nat → Heap → Prop) (J : It) (H' : Hp), itv = .ref it ∧ Inv X pins σ H' s2 ∧ Turn X.prog X.w X.K tg J fp it tn ∧ tn 0 s2.heap ∧ (∀ b ∈ fp, WF X pins H' b) ∧ R J H'
def PI (X : Cx) (tg iter : Expr) (wi : TI) : Prop :=
  ∀ (pins : List (Addr × Obj)) (s : Shared) (σ : St) (H : Hp) (R : It → Hp → Prop), Inv X pins σ H s → wi σ H R →
    wpAny (model X.prog X.w) X.A (eval iter X.env) (fun v s1 => wpAny (model X.prog X.w) X.A (pyIter v) (PIE X pins σ tg R) X.xe s1) X.xe s
theorem zb4 {M : Model} {A : Around} {E : Value → Shared → Prop} {s : Shared} {tg : Expr} {it : Addr} {u : Value} {o : Obj} {n : String} {vs : Array Value} {Q : Unit → Shared → Prop} (ho : s.heap.get? it = some o) (hc : o.cls = .type n) (hd : o.data = .fields vs)
    (hn : ["enumerate", "zip", "dict_itemiterator", "dict_reverseitemiterator", "odict_iterator", "itertools.zip_longest", "itertools.pairwise"].contains n = false) (hQ : Q () s) : wpAny M A (letOwnedTupleGo tg (.ref it) u) Q E s := by
  unfold letOwnedTupleGo
  cases tg <;> first
    | exact wpAny_pure hQ
    | (cases u <;> first
        | exact wpAny_pure hQ
        | (refine wpAny_bind (wpAny_load ho ?_)
           rw [hc, hd]
           show wpAny M A (if (["enumerate", "zip", "dict_itemiterator", "dict_reverseitemiterator", "odict_iterator", "itertools.zip_longest", "itertools.pairwise"].contains n && vs[0]? == some (rawInt _)) = true then _ else _) Q E s
           rw [if_neg (by intro h; rw [hn, Bool.false_and] at h; cases h)]
           exact wpAny_pure hQ))
def Itl (K : PySem.W.Frag) (a : Addr) : It :=
  ⟨fun i H => ∃ xs x, SqL K H a xs ∧ xs[i]? = some x, fun i H x H' => H' = H ∧ ∀ xs, SqL K H a xs → xs[i]? = some x, fun i H => ∃ xs, SqL K H a xs ∧ xs.length ≤ i⟩
def Itr (lo : Int) (n : Nat) : It := ⟨fun i _ => i < n, fun i H x H' => H' = H ∧ x = .int (lo + i), fun i _ => n ≤ i⟩
theorem zbF {P : Program} {w : World} {K : PySem.W.Frag} {tg : Expr} (a it : Addr) : Turn P w K tg (Itl K a) [it] it (fun i h => h.IsListIter it a i) where
  mem := by simp
  obj := fun i h st b hb => by
    have e : b = it := by simpa using hb
    subst e
    obtain ⟨o, e, c, d⟩ := st
    exact ⟨o, e, fun v z => by rw [d] at z; cases z⟩
  keep := fun i h h' st k => st.at fun o e => k it (by simp) o e
  item := by
    intro X hP hw hK hc i pins s σ H E I hf st hg
    subst hP hw hK
    obtain ⟨xs, x, hq, hx⟩ := hg
    obtain ⟨its, rv, p, hz⟩ := I.list hq
    obtain ⟨u, hu, ru⟩ := rv.get hx
    obtain ⟨f0, f1, f2, f3, f4, f5⟩ := hf it (by simp)
    refine wpAny_pyNext_list_item st p.isList (x := u) (by simpa using hu) fun h' st' sb => ?_
    have I1 : Inv X pins σ H { s with heap := h' } := I.turned (t' := s.toks) (fun b o hb e => (sb.2 b hb).trans e) f0 f1 f3 f4 f5
    obtain ⟨o, e, c, d⟩ := id st'
    exact ⟨u, rfl, zb4 (s := { s with heap := h' }) e c d (by decide) ⟨x, H, I1, ru, ⟨rfl, fun ys hy => by rw [I.list_inj hy hq]; exact hx⟩, st', fun b hb => (hf b hb).1⟩⟩
  done := by
    intro X hP hw hK hc i pins s σ H E I hf st hg
    subst hP hw hK
    obtain ⟨xs, hq, hx⟩ := hg
    obtain ⟨its, rv, p, hz⟩ := I.list hq
    obtain ⟨f0, f1, f2, f3, f4, f5⟩ := hf it (by simp)
    have hl := rv.length
    exact wpAny_pyNext_list_end (I.ok.hd hc) st p.isList (by simp; omega) fun h' eb => ⟨rfl, I.turned (t' := s.toks) (fun b o hb e => eb b o hb e) f0 f1 f3 f4 f5⟩
  self := fun _ _ _ _ _ st h => wpAny_pyIter_listiter st h
theorem zas {P : Program} {w : World} {K : PySem.W.Frag} {tg : Expr} (it : Addr) (lo : Int) (n : Nat) : Turn P w K tg (Itr lo n) [it] it (fun i h => IsRangeIter h it (lo + (i : Nat) * 1) ((n : Int) - (i : Nat)) 1) where
  mem := by simp
  obj := fun i h st b hb => by
    have e : b = it := by simpa using hb
    subst e
    exact ⟨_, st, fun v z => by
      have z' : Data.fields _ = Data.cell v := z
      cases z'⟩
  keep := fun i h h' st k => k it (by simp) _ st
  item := by
    intro X hP hw hK hc i pins s σ H E I hf st hg
    subst hP hw hK
    obtain ⟨f0, f1, f2, f3, f4, f5⟩ := hf it (by simp)
    have W := Walks.range (prog := X.prog) (w := X.w) (I.ok.hd hc) it lo 1 n
    refine W.item i s _ _ hg st fun v h' tk hv st' kk => ?_
    obtain ⟨t, rfl⟩ := hv
    have I1 : Inv X pins σ H { s with heap := h', toks := tk } := I.turned (fun b o hb e => kk b o (by simpa using hb) e) f0 f1 f3 f4 f5
    refine ⟨_, rfl, zb4 (s := { s with heap := h', toks := tk }) (n := "range_iterator") st' rfl rfl (by decide) ⟨.int (lo + i), H, I1, ⟨t, ?_⟩, ⟨rfl, rfl⟩, st', fun b hb => (hf b hb).1⟩⟩
    rw [Int.mul_one]
  done := by
    intro X hP hw hK hc i pins s σ H E I hf st hg
    subst hP hw hK
    obtain ⟨f0, f1, f2, f3, f4, f5⟩ := hf it (by simp)
    exact wpAny_pyNext_range_end (I.ok.hd hc) st (by have : n ≤ i := hg; omega) fun h' eb => ⟨rfl, I.turned (t' := s.toks) (fun b o hb e => eb b o hb e) f0 f1 f3 f4 f5⟩
  self := fun _ _ _ _ _ st h => wpAny_pyIter_rangeiter st h
section
variable {X : Cx} {tg : Expr}
def zdN (K : PySem.W.Frag) (tl : TE) : TI := fun σ H R => tl σ H fun x H1 => ∃ a, x = .ref a ∧ (∃ xs, SqL K H1 a xs) ∧ R (Itl K a) H1
theorem zdc {l : Expr} {tl : TE} (hl : PE X l tl) : PI X tg l (zdN X.K tl) := by
  intro pins s σ H R I h
  refine thn (hl pins s σ H _ I h) fun v s1 ⟨x, H1, I1, r1, q1⟩ => ?_
  obtain ⟨a, e, ⟨xs, hq⟩, q⟩ := q1
  subst e
  cases r1
  obtain ⟨its, rv, p, hz⟩ := I1.list hq
  refine wpAny_pyIter_list p.isList ?_
  refine ⟨s1.heap.objs.size, [s1.heap.objs.size], _, _, H1, rfl, I1.kept (t' := s1.toks) fun b o e => Heap.get?_push_of_some _ e, zbF a _, ⟨_, Heap.get?_push_size _ rfl, rfl, rfl⟩, fun b hb => ?_, q⟩
  have e : b = s1.heap.objs.size := by simpa using hb
  subst e
  exact I1.fpOk (Nat.le_refl _) (I1.hok.fresh (Nat.le_refl _))
theorem zai {pins : List (Addr × Obj)} {σ : St} {H : Hp} {s : Shared} {R : It → Hp → Prop} {E : Value → Shared → Prop} {lo hi : Int} {t u v : Tok} {tk : Nat} (I : Inv X pins σ H s) (h1 : -(2 ^ 62) ≤ lo) (h2 : lo < 2 ^ 62) (h3 : -(2 ^ 62) ≤ hi) (h4 : hi < 2 ^ 62)
    (q : R (Itr lo (hi - lo).toNat) H) : wpAny (model X.prog X.w) X.A (pyIter (.ref s.heap.objs.size)) (PIE X pins σ tg R) E { s with heap := s.heap.push { cls := .type "range", data := .fields #[.int lo t, .int hi u, .int 1 v] }, toks := tk } := by
  refine wpAny_pyIter_range (IsRange.new ..) (small_one h1 h2 h3 h4) ?_
  have I1 : Inv X pins σ H { s with heap := s.heap.push { cls := .type "range", data := .fields #[.int lo t, .int hi u, .int 1 v] }, toks := tk } := I.kept fun b o e => Heap.get?_push_of_some _ e
  refine ⟨(s.heap.push { cls := .type "range", data := .fields #[.int lo t, .int hi u, .int 1 v] }).objs.size, [(s.heap.push { cls := .type "range", data := .fields #[.int lo t, .int hi u, .int 1 v] }).objs.size], _, _, H, rfl,
    I1.kept (t' := tk) fun b o e => Heap.get?_push_of_some _ e, zas _ lo (hi - lo).toNat, ?_, fun b hb => ?_, q⟩
  · have e1 : lo + ((0 : Nat) : Int) * 1 = lo := by simp
    have e2 : (((hi - lo).toNat : Nat) : Int) - ((0 : Nat) : Int) = Builtin.Range.rangeSize lo hi 1 := by rw [rangeSize_one]; split <;> omega
    show IsRangeIter _ _ (lo + ((0 : Nat) : Int) * 1) ((((hi - lo).toNat : Nat) : Int) - ((0 : Nat) : Int)) 1
    rw [e1, e2]
    exact Heap.get?_push_size _ rfl
  · have e : b = (s.heap.push { cls := .type "range", data := .fields #[.int lo t, .int hi u, .int 1 v] }).objs.size := by simpa using hb
    subst e
    exact I1.fpOk (Nat.le_refl _) (I1.hok.fresh (Nat.le_refl _))
def zeX (ta : TA) : TI := fun σ H R => ta σ H fun vs H1 => ∃ j : Int, vs = [.int j] ∧ -(2 ^ 62) ≤ j ∧ j < 2 ^ 62 ∧ R (Itr 0 j.toNat) H1
def zeE (ta : TA) : TI := fun σ H R => ta σ H fun vs H1 => ∃ i j : Int, vs = [.int i, .int j] ∧ (-(2 ^ 62) ≤ i ∧ i < 2 ^ 62 ∧ -(2 ^ 62) ≤ j ∧ j < 2 ^ 62) ∧ R (Itr i (j - i).toNat) H1
theorem yw {a : Expr} {ta : TA} {p pos : Pos} (hg : Gl X "range") (hm : X.mg "range" = none) (ha : PA X [a] ta) (hs : starEach [a] X.env = [(false, eval a X.env)] := by rfl) : PI X tg (.Call (.Name "range" p) [a] [] pos) (zeX ta) := by
  intro pins s σ H R I h
  refine Call_ (jt I hg hm boot_range (PyProof.Rows.callWith_type1 (thn (ha pos pins s σ H _ I h) fun us s1 ⟨vs, H1, I1, r1, q1⟩ => ?_) hs rfl))
  obtain ⟨j, e, q1, q2, q⟩ := q1
  subst e
  cases r1 with
  | cons r rr =>
    cases rr
    obtain ⟨t, rfl⟩ := r
    exact call_range_1 (zai I1 (by omega) (by omega) q1 q2 (by simpa using q))
theorem zbX {a b : Expr} {ta : TA} {p pos : Pos} (hg : Gl X "range") (hm : X.mg "range" = none) (ha : PA X [a, b] ta) (hs : starEach [a, b] X.env = [(false, eval a X.env), (false, eval b X.env)] := by rfl) (hs2 : starEach [b] X.env = [(false, eval b X.env)] := by rfl) :
    PI X tg (.Call (.Name "range" p) [a, b] [] pos) (zeE ta) := by
  intro pins s σ H R I h
  refine Call_ (jt I hg hm boot_range (PyProof.Rows.callWith_type1 (thn (ha pos pins s σ H _ I h) fun us s1 ⟨vs, H1, I1, r1, q1⟩ => ?_) (by rw [hs, hs2]) (by rw [hs2]; rfl)))
  obtain ⟨i, j, e, ⟨q1, q2, q3, q4⟩, q⟩ := q1
  subst e
  cases r1 with
  | cons r rr =>
    cases rr with
    | cons r' rr =>
      cases rr
      obtain ⟨t, rfl⟩ := r
      obtain ⟨t', rfl⟩ := r'
      exact call_range_2 (zai I1 q1 q2 q3 q4 q)
def zft (wi : TI) (g : TG) (tb : TS) : TS := fun D σ H => wi σ H fun J H1 => ∃ W : Nat → Nat → St → Hp → Prop, (∃ m, W 0 m σ H1) ∧ ∀ i m σ H, W i m σ H →
  (J.stop i H ∧ D.nx σ H) ∨ (J.go i H ∧ ∃ N : St → Hp → Prop, (∀ σ' H', N σ' H' → ∃ m', m' < m ∧ W (i + 1) m' σ' H') ∧ ∀ x H', J.yld i H x H' → g x σ H' fun σ2 H2 => tb { D with nx := N, ct := N, bk := D.nx } σ2 H2)
def Xb (fp : List Addr) (h : Heap) : List (Addr × Obj) := fp.filterMap fun b => (h.get? b).map fun o => (b, o)
theorem YD {fp : List Addr} {h : Heap} {b : Addr} {o : Obj} (hb : b ∈ fp) (e : h.get? b = some o) : (b, o) ∈ Xb fp h := List.mem_filterMap.mpr ⟨b, hb, by rw [e]; rfl⟩
theorem zbJ {fp : List Addr} {h : Heap} {p : Addr × Obj} (hp : p ∈ Xb fp h) : p.1 ∈ fp ∧ h.get? p.1 = some p.2 := by
  obtain ⟨b, hb, e⟩ := List.mem_filterMap.mp hp
  cases q : h.get? b with
  | none => rw [q] at e; cases e
  | some o =>
    rw [q] at e
    have e' : (b, o) = p := Option.some.inj e
    subst e'
    exact ⟨hb, q⟩
theorem Inv.pinned {pins : List (Addr × Obj)} {σ : St} {H : Hp} {s : Shared} {fp : List Addr} (I : Inv X pins σ H s) (hf : ∀ b ∈ fp, WF X pins H b) (ho : ∀ b ∈ fp, ∃ o, s.heap.get? b = some o ∧ ∀ v, o.data ≠ .cell v) : Inv X (pins ++ Xb fp s.heap) σ H s :=
  I.pins_of fun p hp => (List.mem_append.mp hp).elim (fun z => I.pin p (List.mem_append_right _ z)) fun z => by
    obtain ⟨hb, e⟩ := zbJ z
    obtain ⟨f0, f1, f2, _⟩ := hf p.1 hb
    obtain ⟨o, e', d⟩ := ho p.1 hb
    rw [e] at e'; cases e'
    exact ⟨e, f0, f1, f2, d⟩
theorem Inv.unpinned {pins pl : List (Addr × Obj)} {σ : St} {H : Hp} {s : Shared} (I : Inv X (pins ++ pl) σ H s) : Inv X pins σ H s := I.pins_of fun p hp => I.pin p (List.mem_append_right _ (List.mem_append_left _ hp))
theorem vU {iter : Expr} {body : List Stmt} {wi : TI} {g : TG} {tb : TS} {pos : Pos} (hp : PassesOwn (model X.prog X.w) X.A X.env X.xe) (hc : X.calm = true) (hi : PI X tg iter wi) (hg : PG X tg g) (hb : PSs X body tb)
    (hs : ∀ x, foldedSetIterable iter X.env x = pure x := by intro _; rfl) : PS X (.For tg iter body [] pos) (zft wi g tb) := by
  intro pins s σ H D I h
  refine wpAny_For (thn (hi pins s σ H _ I h) fun v s1 h1 => thn h1 fun itv s2 h2 => ?_) hs
  obtain ⟨it, fp, tn, J, H2, e, I2, T, st2, f2, W, ⟨m0, w0⟩, turn⟩ := h2
  subst e
  have stat : ∀ {H' : Hp}, (∀ b ∈ fp, H' b = none) → ∀ b ∈ fp, WF X pins H' b := fun hn b hb => ⟨hn b hb, (f2 b hb).2⟩
  refine codeAny_forLoop_any (fun n s' => ∃ i σ' H', Inv X pins σ' H' s' ∧ tn i s'.heap ∧ (∀ b ∈ fp, H' b = none) ∧ W i n σ' H') ?_ m0 ⟨0, σ, H2, I2, st2, fun b hb => (f2 b hb).1, w0⟩
  rintro n s3 ⟨i, σ3, H3, I3, st3, fr3, w3⟩
  rcases turn i n σ3 H3 w3 with ⟨stop, qn⟩ | ⟨go, N, hN, step⟩
  · refine wpAny_passesOwn hp (thn (T.done X rfl rfl rfl hc i pins s3 σ3 H3 X.xe I3 (stat fr3) st3 stop) fun r s4 ⟨hr, I4⟩ => ?_)
    subst hr
    exact wpAny_execs_nil ⟨σ3, H3, I4, qn⟩
  · refine wpAny_passesOwn hp (thn (T.item X rfl rfl rfl hc i pins s3 σ3 H3 X.xe I3 (stat fr3) st3 go) fun r s4 ⟨u, hr, h4⟩ => ?_)
    subst hr
    refine wpAny_passesOwn hp (thn h4 fun _ s5 ⟨x, H5, I5, r5, y5, st5, fr5⟩ => ?_)
    have I5' := I5.pinned (stat fr5) (T.obj _ _ st5)
    refine wpAny_passesOwn hp (thn (hg _ s5 σ3 H5 x u _ I5' r5 (step x H5 y5)) fun _ s6 ⟨σ6, H6, I6, q6⟩ => ?_)
    refine wpAny_passesOwn hp (thn (hb _ s6 σ6 H6 _ I6 q6) fun f s7 q7 => ?_)
    have again : ∀ {σ7 : St} {H7 : Hp}, Inv X (pins ++ Xb fp s5.heap) σ7 H7 s7 → N σ7 H7 → ∃ m, m < n ∧ ∃ i σ' H', Inv X pins σ' H' s7 ∧ tn i s7.heap ∧ (∀ b ∈ fp, H' b = none) ∧ W i m σ' H' := fun {σ7 H7} I7 n7 => by
      obtain ⟨m', hm, w7⟩ := hN σ7 H7 n7
      refine ⟨m', hm, i + 1, σ7, H7, I7.unpinned, T.keep _ _ _ st5 fun b hb o e => (I7.pin (b, o) (List.mem_append_right _ (List.mem_append_right _ (YD hb e)))).1, fun b hb => ?_, w7⟩
      obtain ⟨o, e, d⟩ := T.obj _ _ st5 b hb
      exact (I7.pin (b, o) (List.mem_append_right _ (List.mem_append_right _ (YD hb e)))).2.1
    cases f with
    | next => obtain ⟨σ7, H7, I7, n7⟩ := q7; exact again I7 n7
    | cont => obtain ⟨σ7, H7, I7, n7⟩ := q7; exact again I7 n7
    | brk => obtain ⟨σ7, H7, I7, q7⟩ := q7; exact ⟨σ7, H7, I7.unpinned, q7⟩
    | ret v => obtain ⟨x7, σ7, H7, I7, r7, q7⟩ := q7; exact ⟨x7, σ7, H7, I7.unpinned, r7, q7⟩
end
theorem J6 {K : PySem.W.Frag} {a : Addr} {xs : List V} {g : TG} {tb : TS} {D : Ends} {σ : St} {H : Hp} (Pv : Nat → St → Hp → Prop) (h0 : Pv 0 σ H) (hl : ∀ i σ H, i ≤ xs.length → Pv i σ H → SqL K H a xs)
    (hs : ∀ i x σ H, xs[i]? = some x → Pv i σ H → g x σ H fun σ2 H2 => tb { D with nx := Pv (i + 1), ct := Pv (i + 1), bk := D.nx } σ2 H2) (hd : ∀ σ H, Pv xs.length σ H → D.nx σ H) :
    ∃ W : Nat → Nat → St → Hp → Prop, (∃ m, W 0 m σ H) ∧ ∀ i m σ H, W i m σ H →
      ((Itl K a).stop i H ∧ D.nx σ H) ∨ ((Itl K a).go i H ∧ ∃ N : St → Hp → Prop, (∀ σ' H', N σ' H' → ∃ m', m' < m ∧ W (i + 1) m' σ' H') ∧ ∀ x H', (Itl K a).yld i H x H' → g x σ H' fun σ2 H2 => tb { D with nx := N, ct := N, bk := D.nx } σ2 H2) := by
  refine ⟨fun i m σ H => m = xs.length - i ∧ i ≤ xs.length ∧ Pv i σ H, ⟨xs.length, by simp, Nat.zero_le _, h0⟩, ?_⟩
  rintro i m σ H ⟨rfl, hi, p⟩
  have q := hl i σ H hi p
  by_cases hlt : i < xs.length
  · refine .inr ⟨⟨xs, xs[i], q, by simp [hlt]⟩, Pv (i + 1), fun σ' H' p' => ⟨xs.length - (i + 1), by omega, rfl, hlt, p'⟩, fun x H' y => ?_⟩
    obtain ⟨e, y⟩ := y
    subst e
    exact hs i x σ _ (y xs q) p
  · have e : i = xs.length := by omega
    subst e
    exact .inl ⟨⟨xs, q, Nat.le_refl _⟩, hd σ H p⟩
theorem wy {lo : Int} {n : Nat} {g : TG} {tb : TS} {D : Ends} {σ : St} {H : Hp} (Pv : Nat → St → Hp → Prop) (h0 : Pv 0 σ H)
    (hs : ∀ i σ H, i < n → Pv i σ H → g (.int (lo + i)) σ H fun σ2 H2 => tb { D with nx := Pv (i + 1), ct := Pv (i + 1), bk := D.nx } σ2 H2) (hd : ∀ σ H, Pv n σ H → D.nx σ H) :
    ∃ W : Nat → Nat → St → Hp → Prop, (∃ m, W 0 m σ H) ∧ ∀ i m σ H, W i m σ H →
      ((Itr lo n).stop i H ∧ D.nx σ H) ∨ ((Itr lo n).go i H ∧ ∃ N : St → Hp → Prop, (∀ σ' H', N σ' H' → ∃ m', m' < m ∧ W (i + 1) m' σ' H') ∧ ∀ x H', (Itr lo n).yld i H x H' → g x σ H' fun σ2 H2 => tb { D with nx := N, ct := N, bk := D.nx } σ2 H2) := by
  refine ⟨fun i m σ H => m = n - i ∧ i ≤ n ∧ Pv i σ H, ⟨n, by simp, Nat.zero_le _, h0⟩, ?_⟩
  rintro i m σ H ⟨rfl, hi, p⟩
  by_cases hlt : i < n
  · refine .inr ⟨hlt, Pv (i + 1), fun σ' H' p' => ⟨n - (i + 1), by omega, rfl, hlt, p'⟩, fun x H' y => ?_⟩
    obtain ⟨e, y⟩ := y
    subst e y
    exact hs i σ _ hlt p
  · have e : i = n := by omega
    subst e
    exact .inl ⟨Nat.le_refl _, hd σ H p⟩
theorem Wd {c : TT} {tb : TS} {D : Ends} {σ : St} {H : Hp} (Pv : St → Hp → Prop) (μ : St → Hp → Nat) (h0 : Pv σ H)
    (hs : ∀ σ H, Pv σ H → c σ H fun b H1 => if b = true then tb { D with nx := fun σ' H' => Pv σ' H' ∧ μ σ' H' < μ σ H, ct := fun σ' H' => Pv σ' H' ∧ μ σ' H' < μ σ H, bk := D.nx } σ H1 else D.nx σ H1)
    (mono : ∀ σ H Q Q', (∀ b H1, Q b H1 → Q' b H1) → c σ H Q → c σ H Q') : zcB c tb D σ H := by
  refine ⟨fun m σ H => m = μ σ H ∧ Pv σ H, ⟨_, rfl, h0⟩, ?_⟩
  rintro m σ H ⟨rfl, p⟩
  refine mono σ H _ _ (fun b H1 q => ?_) (hs σ H p)
  cases b with
  | true => exact ⟨_, fun σ' H' ⟨p', l⟩ => ⟨_, l, rfl, p'⟩, q⟩
  | false => exact q
abbrev R2 := V → V → Hp → VK → Prop
def OpR (X : Cx) (f : Value → Value → Sem Value) (r : R2) : Prop :=
  ∀ (pins : List (Addr × Obj)) (s : Shared) (σ : St) (H : Hp) (x y : V) (v u : Value) (Q : VK), Inv X pins σ H s → RelV x v → RelV y u → r x y H Q →
    wpAny (model X.prog X.w) X.A (f v u) (EP X pins σ Q) X.xe s
def UnR (X : Cx) (f : Value → Sem Value) (r : V → Hp → VK → Prop) : Prop :=
  ∀ (pins : List (Addr × Obj)) (s : Shared) (σ : St) (H : Hp) (x : V) (v : Value) (Q : VK), Inv X pins σ H s → RelV x v → r x H Q →
    wpAny (model X.prog X.w) X.A (f v) (EP X pins σ Q) X.xe s
def uK (X : Cx) (f : Value) (r : List V → Hp → VK → Prop) : Prop :=
  ∀ (pins : List (Addr × Obj)) (s : Shared) (σ : St) (H : Hp) (xs : List V) (us : List Value) (Q : VK), Inv X pins σ H s → Vals xs us → r xs H Q →
    wpAny (model X.prog X.w) X.A (call f us) (EP X pins σ Q) X.xe s
def tOp (r : R2) (ta tb : TE) : TE := fun σ H Q => ta σ H fun x H1 => tb σ H1 fun y H2 => r x y H2 Q
def tUn (r : V → Hp → VK → Prop) (ta : TE) : TE := fun σ H Q => ta σ H fun x H1 => r x H1 Q
def rI (C : Int → Int → Prop) (g : Int → Int → V) : R2 := fun x y H Q => ∃ i j, x = .int i ∧ y = .int j ∧ C i j ∧ Q (g i j) H
def rI0 (g : Int → Int → V) : R2 := fun x y H Q => ∃ i j, x = .int i ∧ y = .int j ∧ Q (g i j) H
def rU (g : Int → V) : V → Hp → VK → Prop := fun x H Q => ∃ i, x = .int i ∧ Q (g i) H
section
variable {X : Cx} {a b c : Expr} {ta tb tc : TE} {pos : Pos}
theorem zdX (ha : PE X a ta) (hb : PE X b tb) {pins : List (Addr × Obj)} {s : Shared} {σ : St} {H : Hp} {R : V → V → Hp → Prop} (I : Inv X pins σ H s)
    (h : ta σ H fun x H1 => tb σ H1 fun y H2 => R x y H2) {Q : Value → Shared → Prop} {f : Value → Value → Sem Value}
    (hf : ∀ v u s2 x y H2, Inv X pins σ H2 s2 → RelV x v → RelV y u → R x y H2 → wpAny (model X.prog X.w) X.A (f v u) Q X.xe s2) :
    wpAny (model X.prog X.w) X.A (eval a X.env) (fun v s₁ => wpAny (model X.prog X.w) X.A (eval b X.env) (fun u s₂ => wpAny (model X.prog X.w) X.A (f v u) Q X.xe s₂) X.xe s₁) X.xe s := by
  refine thn (ha pins s σ H _ I h) fun v s1 ⟨x, H1, I1, r1, q1⟩ => ?_
  refine thn (hb pins s1 σ H1 _ I1 q1) fun u s2 ⟨y, H2, I2, r2, q2⟩ => ?_
  exact hf v u s2 x y H2 I2 r1 r2 q2
theorem zA {op : Operator} {r : R2} (ho : OpR X (binaryOp op) r) (ha : PE X a ta) (hb : PE X b tb) : PE X (.BinOp a op b pos) (tOp r ta tb) := by
  intro pins s σ H Q I h
  exact wpAny_BinOp (zdX ha hb I h fun v u s2 x y H2 I2 rx ry q => ho pins s2 σ H2 x y v u Q I2 rx ry q)
theorem zbs {op : UnaryOp} {r : V → Hp → VK → Prop} (ho : UnR X (unaryOp op) r) (ha : PE X a ta) : PE X (.UnaryOp op a pos) (tUn r ta) := by
  intro pins s σ H Q I h
  exact UnaryOp_ (thn (ha pins s σ H _ I h) fun v s1 ⟨x, H1, I1, r1, q1⟩ => ho pins s1 σ H1 x v Q I1 r1 q1)
theorem opI {f : Value → Value → Sem Value} {C : Int → Int → Prop} {g : Int → Int → Int}
    (rule : ∀ (i j : Int) (t u : Tok) (s : Shared) (Q : Value → Shared → Prop) (E : Value → Shared → Prop), C i j → Q (.int (g i j) s.toks) { s with toks := s.toks + 1 } → wpAny (model X.prog X.w) X.A (f (.int i t) (.int j u)) Q E s) :
    OpR X f (rI C fun i j => .int (g i j)) := by
  intro pins s σ H x y v u Q I rx ry h
  obtain ⟨i, j, rfl, rfl, hc, q⟩ := h
  obtain ⟨t, rfl⟩ := rx
  obtain ⟨t', rfl⟩ := ry
  exact rule i j t t' s _ _ hc ⟨.int (g i j), H, I.tok _, ⟨_, rfl⟩, q⟩
theorem zeA {f : Value → Value → Sem Value} {g : Int → Int → Int}
    (rule : ∀ (i j : Int) (t u : Tok) (s : Shared) (Q : Value → Shared → Prop) (E : Value → Shared → Prop), Q (.int (g i j) s.toks) { s with toks := s.toks + 1 } → wpAny (model X.prog X.w) X.A (f (.int i t) (.int j u)) Q E s) :
    OpR X f (rI0 fun i j => .int (g i j)) := by
  intro pins s σ H x y v u Q I rx ry h
  obtain ⟨i, j, rfl, rfl, q⟩ := h
  obtain ⟨t, rfl⟩ := rx
  obtain ⟨t', rfl⟩ := ry
  exact rule i j t t' s _ _ ⟨.int (g i j), H, I.tok _, ⟨_, rfl⟩, q⟩
theorem zc8 {f : Value → Value → Sem Value} {g : Int → Int → Bool}
    (rule : ∀ (i j : Int) (t u : Tok) (s : Shared) (Q : Value → Shared → Prop) (E : Value → Shared → Prop), Q (.bool (g i j)) s → wpAny (model X.prog X.w) X.A (f (.int i t) (.int j u)) Q E s) :
    OpR X f (rI0 fun i j => .bl (g i j)) := by
  intro pins s σ H x y v u Q I rx ry h
  obtain ⟨i, j, rfl, rfl, q⟩ := h
  obtain ⟨t, rfl⟩ := rx
  obtain ⟨t', rfl⟩ := ry
  exact rule i j t t' s _ _ ⟨.bl (g i j), H, I, rfl, q⟩
def zfx (i j : Int) : Prop := 0 ≤ j ∧ j ≤ 1000000 ∧ i.natAbs < 2 ^ 64
def CMul (i j : Int) : Prop := (-(2 ^ 64) < i ∧ i < 2 ^ 64) ∨ (-(2 ^ 64) < j ∧ j < 2 ^ 64)
theorem CMul.ok {i j : Int} (h : CMul i j) : IntMulOk i j := by
  rcases h with ⟨h1, h2⟩ | ⟨h1, h2⟩
  · exact .of_left (intBits_le_64 h1 h2)
  · exact .of_right (intBits_le_64 h1 h2)
theorem yN : OpR X (binaryOp .Add) (rI0 fun i j => .int (i + j)) := zeA fun _ _ _ _ _ _ _ q => add_int q
theorem xV : OpR X (binaryOp .Sub) (rI0 fun i j => .int (i - j)) := zeA fun _ _ _ _ _ _ _ q => sub_int q
theorem wD : OpR X (binaryOp .Mult) (rI CMul fun i j => .int (i * j)) := opI fun _ _ _ _ _ _ _ hc q => mul_int q hc.ok
theorem yQ : OpR X (binaryOp .Mod) (rI (fun _ j => 0 < j) fun i j => .int (i % j)) := opI fun i j _ _ _ _ _ hc q => by
  have h1 : (0 : Int) < j := hc
  exact mod_int' (by omega) (by rw [Int.fmod_eq_emod_of_nonneg i (by omega)]; exact q)
theorem W6 : OpR X (binaryOp .Pow) (rI zfx fun i j => .int (i ^ j.toNat)) := opI fun _ _ _ _ _ _ _ hc q => pow_int_small hc.1 hc.2.1 hc.2.2 q
theorem unI {f : Value → Sem Value} {g : Int → Int}
    (rule : ∀ (i : Int) (t : Tok) (s : Shared) (Q : Value → Shared → Prop) (E : Value → Shared → Prop), Q (.int (g i) s.toks) { s with toks := s.toks + 1 } → wpAny (model X.prog X.w) X.A (f (.int i t)) Q E s) :
    UnR X f (rU fun i => .int (g i)) := by
  intro pins s σ H x v Q I rx h
  obtain ⟨i, rfl, q⟩ := h
  obtain ⟨t, rfl⟩ := rx
  exact rule i t s _ _ ⟨.int (g i), H, I.tok _, ⟨_, rfl⟩, q⟩
theorem Q7 : UnR X (unaryOp .USub) (rU fun i => .int (-i)) := unI fun _ _ _ _ _ q => neg_int q
end
def zeN : V → V → Bool
  | .non, .non => true | .non, .int _ => true | .int _, .non => true | .non, .bl _ => true | .bl _, .non => true | .non, .str _ => true | .str _, .non => true
  | .int _, .int _ => true | .bl _, .bl _ => true | .str _, .str _ => true | .byt _, .byt _ => true
  | .int _, .str _ => true | .str _, .int _ => true | .bl _, .str _ => true | .str _, .bl _ => true
  | _, _ => false
def rEq : R2 := fun x y H Q => zeN x y = true ∧ Q (.bl (decide (x = y))) H
def rNe : R2 := fun x y H Q => zeN x y = true ∧ Q (.bl (!decide (x = y))) H
theorem zbg {i j : Int} : decide (V.int i = V.int j) = (i == j) := by
  rw [Bool.eq_iff_iff]
  simp
theorem zb7 {i j : Bool} : decide (V.bl i = V.bl j) = (i == j) := by
  rw [Bool.eq_iff_iff]
  simp
theorem zbe {i j : Str} : decide (V.str i = V.str j) = (i == j) := by
  rw [Bool.eq_iff_iff]
  simp
theorem zba {i j : Array UInt8} : decide (V.byt i = V.byt j) = (i.toList == j.toList) := by
  rw [Bool.eq_iff_iff]
  cases i
  cases j
  simp
section
variable {X : Cx} {a b c : Expr} {ta tb tc : TE} {pos : Pos}
theorem yJ {pins : List (Addr × Obj)} {σ : St} {H : Hp} {s : Shared} {Q : VK} {k k' : Bool} (I : Inv X pins σ H s) (q : Q (.bl k) H) (e : k = k') : EP X pins σ Q (.bool k') s := by
  subst e
  exact ⟨.bl k, H, I, rfl, q⟩
theorem jz : OpR X (compareOp .Eq) rEq := by
  intro pins s σ H x y v u Q I rx ry h
  obtain ⟨hs, q⟩ := h
  cases x with
  | non =>
    cases rx
    cases y with
    | non => cases ry; exact PySem.EqNone.eq_none_none (yJ I q (by simp))
    | bl j => cases ry; exact PySem.EqNone.eq_none_bool (yJ I q (by simp))
    | int j => obtain ⟨t', rfl⟩ := ry; exact PySem.EqNone.eq_none_int (yJ I q (by simp))
    | str j => obtain ⟨t', rfl⟩ := ry; exact PySem.EqNone.eq_none_str (yJ I q (by simp))
    | _ => exact absurd (show false = true from hs) Bool.false_ne_true
  | bl i =>
    cases rx
    cases y with
    | non => cases ry; exact PySem.EqNone.eq_bool_none (yJ I q (by simp))
    | bl j => cases ry; exact eq_bool (yJ I q zb7)
    | str j => obtain ⟨t', rfl⟩ := ry; exact PySem.EqMixed.eq_bool_str (yJ I q (by simp))
    | _ => exact absurd (show false = true from hs) Bool.false_ne_true
  | int i =>
    obtain ⟨t, rfl⟩ := rx
    cases y with
    | non => cases ry; exact PySem.EqNone.eq_int_none (yJ I q (by simp))
    | int j => obtain ⟨t', rfl⟩ := ry; exact eq_int (yJ I q zbg)
    | str j => obtain ⟨t', rfl⟩ := ry; exact PySem.EqMixed.eq_int_str (yJ I q (by simp))
    | _ => exact absurd (show false = true from hs) Bool.false_ne_true
  | str i =>
    obtain ⟨t, rfl⟩ := rx
    cases y with
    | non => cases ry; exact PySem.EqNone.eq_str_none (yJ I q (by simp))
    | bl j => cases ry; exact PySem.EqMixed.eq_str_bool (yJ I q (by simp))
    | int j => obtain ⟨t', rfl⟩ := ry; exact PySem.EqMixed.eq_str_int (yJ I q (by simp))
    | str j => obtain ⟨t', rfl⟩ := ry; exact eq_str (yJ I q zbe)
    | _ => exact absurd (show false = true from hs) Bool.false_ne_true
  | byt i =>
    obtain ⟨t, rfl⟩ := rx
    cases y with
    | byt j => obtain ⟨t', rfl⟩ := ry; exact PySem.W.eq_bytes (yJ I q zba)
    | _ => exact absurd (show false = true from hs) Bool.false_ne_true
  | _ => cases y <;> exact absurd (show false = true from hs) Bool.false_ne_true
theorem Vi : OpR X (compareOp .NotEq) rNe := by
  intro pins s σ H x y v u Q I rx ry h
  obtain ⟨hs, q⟩ := h
  cases x with
  | non =>
    cases rx
    cases y with
    | non => cases ry; exact PySem.EqNone.ne_none_none (yJ I q (by simp))
    | bl j => cases ry; exact PySem.EqNone.ne_none_bool (yJ I q (by simp))
    | int j => obtain ⟨t', rfl⟩ := ry; exact PySem.EqNone.ne_none_int (yJ I q (by simp))
    | str j => obtain ⟨t', rfl⟩ := ry; exact PySem.EqNone.ne_none_str (yJ I q (by simp))
    | _ => exact absurd (show false = true from hs) Bool.false_ne_true
  | bl i =>
    cases rx
    cases y with
    | non => cases ry; exact PySem.EqNone.ne_bool_none (yJ I q (by simp))
    | bl j => cases ry; exact ne_bool (yJ I q (congrArg not zb7))
    | str j => obtain ⟨t', rfl⟩ := ry; exact PySem.EqMixed.ne_bool_str (yJ I q (by simp))
    | _ => exact absurd (show false = true from hs) Bool.false_ne_true
  | int i =>
    obtain ⟨t, rfl⟩ := rx
    cases y with
    | non => cases ry; exact PySem.EqNone.ne_int_none (yJ I q (by simp))
    | int j => obtain ⟨t', rfl⟩ := ry; exact ne_int (yJ I q (congrArg not zbg))
    | str j => obtain ⟨t', rfl⟩ := ry; exact PySem.EqMixed.ne_int_str (yJ I q (by simp))
    | _ => exact absurd (show false = true from hs) Bool.false_ne_true
  | str i =>
    obtain ⟨t, rfl⟩ := rx
    cases y with
    | non => cases ry; exact PySem.EqNone.ne_str_none (yJ I q (by simp))
    | bl j => cases ry; exact PySem.EqMixed.ne_str_bool (yJ I q (by simp))
    | int j => obtain ⟨t', rfl⟩ := ry; exact PySem.EqMixed.ne_str_int (yJ I q (by simp))
    | str j => obtain ⟨t', rfl⟩ := ry; exact ne_str (yJ I q (congrArg not zbe))
    | _ => exact absurd (show false = true from hs) Bool.false_ne_true
  | byt i =>
    obtain ⟨t, rfl⟩ := rx
    cases y with
    | byt j => obtain ⟨t', rfl⟩ := ry; exact PySem.W.ne_bytes (yJ I q (congrArg not zba))
    | _ => exact absurd (show false = true from hs) Bool.false_ne_true
  | _ => cases y <;> exact absurd (show false = true from hs) Bool.false_ne_true
theorem zdz : OpR X (compareOp .Lt) (rI0 fun i j => .bl (decide (i < j))) := zc8 fun _ _ _ _ _ _ _ q => lt_int q
theorem YQ : OpR X (compareOp .LtE) (rI0 fun i j => .bl (decide (i ≤ j))) := zc8 fun _ _ _ _ _ _ _ q => le_int q
theorem zbh : OpR X (compareOp .Gt) (rI0 fun i j => .bl (decide (j < i))) := zc8 fun _ _ _ _ _ _ _ q => gt_int q
theorem za8 : OpR X (compareOp .GtE) (rI0 fun i j => .bl (decide (j ≤ i))) := zc8 fun _ _ _ _ _ _ _ q => ge_int q
theorem X5 : OpR X (compareOp .Is) (fun x y H Q => y = .non ∧ Q (.bl (decide (x = .non))) H) := by
  intro pins s σ H x y v u Q I rx ry h
  obtain ⟨rfl, q⟩ := h
  cases ry
  refine is_none_gen (yJ I q ?_)
  cases x <;> first
    | (cases rx; rfl)
    | (obtain ⟨t, rfl⟩ := rx; rfl)
theorem zbp : OpR X (compareOp .IsNot) (fun x y H Q => y = .non ∧ Q (.bl (!decide (x = .non))) H) := by
  intro pins s σ H x y v u Q I rx ry h
  obtain ⟨rfl, q⟩ := h
  cases ry
  refine isnot_none_gen (yJ I q ?_)
  cases x <;> first
    | (cases rx; rfl)
    | (obtain ⟨t, rfl⟩ := rx; rfl)
theorem yc (b : Expr) {op : CmpOp} (h : op ≠ .In := by decide) (h2 : op ≠ .NotIn := by decide) : behindInMarks op b = false := by
  have e1 : (op == CmpOp.In) = false := by cases op <;> first | rfl | exact absurd rfl h
  have e2 : (op == CmpOp.NotIn) = false := by cases op <;> first | rfl | exact absurd rfl h2
  cases b <;> simp [behindInMarks, e1, e2]
theorem wU {op : CmpOp} {r : R2} (ho : OpR X (compareOp op) r) (ha : PE X a ta) (hb : PE X b tb) (hm : behindInMarks op b = false) : PE X (.Compare a [op] [b] pos) (tOp r ta tb) := by
  intro pins s σ H Q I h
  exact wpAny_Compare1 (zdX ha hb I h fun v u s2 x y H2 I2 rx ry q => ho pins s2 σ H2 x y v u Q I2 rx ry q) hm
def zdL (t : TE) : TT := fun σ H Q => t σ H fun x H' => ∃ k, x = .bl k ∧ Q k H'
theorem ym {op : CmpOp} {r : R2} (ho : OpR X (compareOp op) r) (ha : PE X a ta) (hb : PE X b tb) (hm : behindInMarks op b = false) : PT X (.Compare a [op] [b] pos) (zdL (tOp r ta tb)) := by
  intro pins s σ H Q I h
  refine wpAny_isTrue_Compare1 (thn (ha pins s σ H _ I h) fun v s1 ⟨x, H1, I1, r1, q1⟩ => thn (hb pins s1 σ H1 _ I1 q1) fun u s2 ⟨y, H2, I2, r2, q2⟩ =>
    thn (ho pins s2 σ H2 x y v u _ I2 r1 r2 q2) fun c s3 ⟨z, H3, I3, r3, k, e, q3⟩ => ?_) hm
  subst e
  cases r3
  exact wpAny_truthy_bool ⟨H3, I3, q3⟩
def zcq (r r' : R2) (ta tb tc : TE) : TE := fun σ H Q => ta σ H fun x H1 => tb σ H1 fun y H2 => r x y H2 fun z H3 => ∃ k, z = .bl k ∧
  (if k = true then tc σ H3 fun w' H4 => r' y w' H4 Q else Q (.bl false) H3)
theorem Wz {op op' : CmpOp} {r r' : R2} (ho : OpR X (compareOp op) r) (ho' : OpR X (compareOp op') r') (ha : PE X a ta) (hb : PE X b tb) (hc : PE X c tc)
    (hm : lastMarks [op, op'] [b, c] = false := by with_unfolding_all rfl) : PE X (.Compare a [op, op'] [b, c] pos) (zcq r r' ta tb tc) := by
  intro pins s σ H Q I h
  refine Compare_chain (thn (ha pins s σ H _ I h) fun v s1 ⟨x, H1, I1, r1, q1⟩ => chain_link (thn (hb pins s1 σ H1 _ I1 q1) fun u s2 ⟨y, H2, I2, r2, q2⟩ =>
    thn (ho pins s2 σ H2 x y v u _ I2 r1 r2 q2) fun d s3 ⟨z, H3, I3, r3, k, e, q3⟩ => ?_)) hm
  subst e
  cases r3
  refine wpAny_truthy_bool ?_
  cases k with
  | false => exact ite_ff ⟨.bl false, H3, I3, rfl, q3⟩
  | true => exact ite_tt (chain_last (thn (hc pins s3 σ H3 _ I3 q3) fun w' s4 ⟨z', H4, I4, r4, q4⟩ => ho' pins s4 σ H4 y z' u w' Q I4 r2 r4 q4))
theorem zcU {op op' : CmpOp} {r r' : R2} (ho : OpR X (compareOp op) r) (ho' : OpR X (compareOp op') r') (ha : PE X a ta) (hb : PE X b tb) (hc : PE X c tc)
    (hm : lastMarks [op, op'] [b, c] = false := by with_unfolding_all rfl) : PT X (.Compare a [op, op'] [b, c] pos) (zdL (zcq r r' ta tb tc)) := by
  intro pins s σ H Q I h
  refine isTrue_chain (thn (ha pins s σ H _ I h) fun v s1 ⟨x, H1, I1, r1, q1⟩ => test_link (thn (hb pins s1 σ H1 _ I1 q1) fun u s2 ⟨y, H2, I2, r2, q2⟩ =>
    thn (ho pins s2 σ H2 x y v u _ I2 r1 r2 q2) fun d s3 ⟨z, H3, I3, r3, k, e, q3⟩ => ?_)) hm
  subst e
  cases r3
  refine wpAny_truthy_bool ?_
  cases k with
  | false =>
    obtain ⟨k', e', q'⟩ := q3
    cases e'
    exact ite_ff ⟨H3, I3, q'⟩
  | true =>
    refine ite_tt (test_last (thn (hc pins s3 σ H3 _ I3 q3) fun w' s4 ⟨z', H4, I4, r4, q4⟩ => thn (ho' pins s4 σ H4 y z' u w' _ I4 r2 r4 q4) fun d' s5 ⟨z2, H5, I5, r5, k2, e2, q5⟩ => ?_))
    subst e2
    cases r5
    exact wpAny_truthy_bool ⟨H5, I5, q5⟩
theorem Jx : (sizeLine : Nat) < 2 ^ 63 := by rw [sizeLine_eq]; decide
theorem vals1 {x : V} {us : List Value} (r : Vals [x] us) : ∃ u, us = [u] ∧ RelV x u := by
  cases r with
  | cons r1 r2 => cases r2; exact ⟨_, rfl, r1⟩
theorem vals2 {x y : V} {us : List Value} (r : Vals [x, y] us) : ∃ u w', us = [u, w'] ∧ RelV x u ∧ RelV y w' := by
  cases r with
  | cons r1 r2 =>
    cases r2 with
    | cons r3 r4 => cases r4; exact ⟨_, _, rfl, r1, r3⟩
theorem zb9 : uK X (.builtin "abs") (fun xs H Q => ∃ i, xs = [.int i] ∧ Q (.int (if i < 0 then -i else i)) H) := by
  intro pins s σ H xs us Q I r h
  obtain ⟨i, rfl, q⟩ := h
  obtain ⟨u, rfl, t, rfl⟩ := vals1 r
  exact call_abs_int fun u tk => ⟨.int (if i < 0 then -i else i), H, I.tok _, ⟨_, rfl⟩, q⟩
theorem zbA (hc : X.calm = true) : uK X (.builtin "max") (fun xs H Q => ∃ i j, xs = [.int i, .int j] ∧ Q (.int (if j > i then j else i)) H) := by
  intro pins s σ H xs us Q I r h
  obtain ⟨i, j, rfl, q⟩ := h
  obtain ⟨u, w', rfl, ⟨t, rfl⟩, ⟨t', rfl⟩⟩ := vals2 r
  refine max_two_ints (I.ok.hd hc) fun h' tk k => ⟨_, H, I.kept k, ?_, q⟩
  by_cases hj : j > i
  · rw [if_pos hj, if_pos hj]; exact ⟨_, rfl⟩
  · rw [if_neg hj, if_neg hj]; exact ⟨_, rfl⟩
theorem QR (hc : X.calm = true) : uK X (.builtin "min") (fun xs H Q => ∃ i j, xs = [.int i, .int j] ∧ Q (.int (if j < i then j else i)) H) := by
  intro pins s σ H xs us Q I r h
  obtain ⟨i, j, rfl, q⟩ := h
  obtain ⟨u, w', rfl, ⟨t, rfl⟩, ⟨t', rfl⟩⟩ := vals2 r
  refine min_two_ints (I.ok.hd hc) fun h' tk k => ⟨_, H, I.kept k, ?_, q⟩
  by_cases hj : j < i
  · rw [if_pos hj, if_pos hj]; exact ⟨_, rfl⟩
  · rw [if_neg hj, if_neg hj]; exact ⟨_, rfl⟩
theorem Vf : uK X (.type "int") (fun xs H Q => (∃ i, xs = [.int i] ∧ Q (.int i) H) ∨ ∃ k, xs = [.bl k] ∧ Q (.int (if k then 1 else 0)) H) := by
  intro pins s σ H xs us Q I r h
  rcases h with ⟨i, rfl, q⟩ | ⟨k, rfl, q⟩
  · obtain ⟨u, rfl, t, rfl⟩ := vals1 r
    exact call_int_int ⟨.int i, H, I, ⟨_, rfl⟩, q⟩
  · obtain ⟨u, rfl, r1⟩ := vals1 r
    cases r1
    exact call_int_bool ⟨.int (if k then 1 else 0), H, I.tok _, ⟨_, rfl⟩, q⟩
end
structure ObjM (h : Heap) (x dx C : Addr) (mA : Str → Option Value) : Prop where
  obj : h.get? x = some (PySem.W.instObj C dx)
  ns : h.Ns1 dx mA
  ne : dx ≠ x
theorem zbx {h : Heap} {dx : Addr} {mA : Str → Option Value} (n : h.Ns1 dx mA) : ∃ od, h.get? dx = some od ∧ ∀ name, PySem.W.lookIn name od = some (mA name) := by
  obtain ⟨o, es, ep, ho, hd, hk, _, hm⟩ := n
  refine ⟨o, ho, fun name => ?_⟩
  have e := hm name
  unfold nsFind findBy at e
  rw [← Array.find?_toList] at e
  unfold PySem.W.lookIn
  rw [hd]
  dsimp only
  split
  · rename_i y q
    rw [q] at e
    exact congrArg some e
  · rename_i q
    rw [q] at e
    have a : es.toList.any (·.refKey) = false := by
      rw [List.any_eq_false]
      intro y hy
      obtain ⟨z, t, hkey⟩ := hk y (Array.mem_toList_iff.mp hy)
      simp [DictEntry.refKey, hkey]
    have a' : ¬ es.toList.any (·.refKey) = true := by rw [a]; exact Bool.false_ne_true
    rw [if_neg a']
    exact congrArg some e
theorem ObjM.look {h : Heap} {x dx C : Addr} {mA : Str → Option Value} (I : ObjM h x dx C mA) : ∃ od, PySem.W.InstAt h x (PySem.W.instObj C dx) C (some od) ∧ ∀ name, PySem.W.lookIn name od = some (mA name) :=
  let ⟨od, ho, hl⟩ := zbx I.ns
  ⟨od, ⟨I.obj, rfl, rfl, ho⟩, hl⟩
section
variable {prog : Program} {w : World} {A : Around} {E : Value → Shared → Prop} {s : Shared} {K : PySem.W.Frag} {x dx C f : Addr} {mA : Str → Option Value} {name : Str} {v : Value}
theorem zc2 {expr : Bool} {Q : Value → Shared → Prop} (X : K.In s.heap) (I : ObjM s.heap x dx C mA) (hg : PySem.W.plainGet K C name = true) (hh : PySem.W.hasDictIn K C = true)
    (ha : PySem.W.findIn K (.ref C) name = some none) (hv : mA name = some v) (hv' : PySem.W.handedIn v = true) (h : Q v { s with toks := s.toks + 1 }) :
    wpAny (model prog w) A (getAttr (.ref x) name expr) Q E s := by
  obtain ⟨od, J, hl⟩ := I.look
  exact PySem.W.get_value X J (PySem.W.plainGet_of hg).1 (PySem.W.findObj_own hh ha rfl (by rw [hl, hv])) hv' h
theorem zcI {pl : Sem Bool} {Q : Value × List Value → Shared → Prop} (X : K.In s.heap) (I : ObjM s.heap x dx C mA) (hg : PySem.W.plainGet K C name = true)
    (hf : PySem.W.findIn K (.ref C) name = some (some (.ref f))) (ht : PySem.W.isFn K (.ref f) = true) (hv : mA name = none) (h : Q (.ref f, [.ref x]) s) :
    wpAny (model prog w) A (getMethod (.ref x) name pl) Q E s := by
  obtain ⟨od, J, hl⟩ := I.look
  exact PySem.W.method_fn X J (PySem.W.plainGet_of hg).1 (PySem.W.plainGet_of hg).2 hf (beq_iff_eq.mp ht) (by show (PySem.W.lookIn name od).map (·.isSome) = some false; rw [hl, hv]; rfl) h
theorem zc5 {ns : List Str} {Q : Unit → Shared → Prop} (X : K.In s.heap) (I : ObjM s.heap x dx C mA)
    (hs : PySem.W.findIn K (.ref C) "__setattr__" = some (some (.builtin "object.__setattr__"))) (hp : PySem.W.plainOver K C = true) (ht : PySem.W.takerIn K C name = some none) (hh : PySem.W.hasDictIn K C = true)
    (hw : PySem.Within mA ns) (hsz : ns.length ≤ sizeLine)
    (h : ∀ h', ObjM h' x dx C (fun y => if y = name then some v else mA y) → Heap.SameBut dx s.heap h' → Q () { s with heap := h', toks := s.toks + 2 }) :
    wpAny (model prog w) A (setAttr (.ref x) name v) Q E s := by
  obtain ⟨od, J, hl⟩ := I.look
  refine PySem.W.set_plain X J hs (PySem.W.osa_open (s := { s with toks := s.toks + 1 }) (r := none) X J hp ht fun b => ?_)
  obtain ⟨cd, hc, hd'⟩ := PySem.W.any_some hh
  have hx : s.heap.get? x = some ⟨.ref C, some dx, .plain, #[]⟩ := I.obj
  refine wpAny_bind (wpAny_pure (wpAny_bind (wpAny_bind (wpAny_loadPart hx (wpAny_bind (PySem.W.Looks.here (s := { s with toks := s.toks + 1 }) (PySem.W.looks_clsIn X hc) ?_))))))
  rw [hd']
  refine wpAny_pure (a := some dx) (wpAny_bind (wpAny_pure (wpAny_bind ?_)))
  refine wpAny_nsSet1 (s := { s with toks := s.toks + 1 }) I.ns fun h' hn2 hs2 => ?_
  obtain ⟨oD, esD, epD, hoD, hdD, hcD⟩ := hn2.count (PySem.Within.cons name v hw)
  refine wpAny_bind (wpAny_lookBehind hoD (by rw [hdD]; exact pastItsLine_dict (Nat.le_trans hcD (by rw [List.length_cons]; omega))) ?_)
  exact wpAny_pure (h _ ⟨(hs2.2 _ (Ne.symm I.ne)).trans I.obj, hn2, I.ne⟩ hs2)
theorem zcj {R : Result → Shared → Prop} {vs : List Value} {kw : List (Str × Value)} (X : K.In s.heap) (hm : PySem.W.makesIn K C = true)
    (hi : PySem.W.findIn K (.ref C) "__init__" = some (some (.ref f))) (hf : PySem.W.typeIn K (.ref f) = some (.type "function"))
    (h : codeAny (model prog w) (A.under (.builtin "type.__call__" ⟨.ref C :: vs, kw⟩)) (.call (.ref f) ⟨.ref (s.heap.objs.size + 1) :: vs, kw⟩) (PySem.W.InitBack (s.heap.objs.size + 1) R)
      { s with heap := (s.heap.push PySem.W.emptyDict).push (PySem.W.instObj C s.heap.objs.size) }) :
    codeAny (model prog w) A (.call (.ref C) ⟨vs, kw⟩) R s := by
  obtain ⟨hh, g, d, t, os⟩ := s
  exact PySem.W.make_core (PySem.W.makes_of X hm) (PySem.W.looks_findIn X hi) (fun self => PySem.W.bind_fn X self hf) (.inl rfl) h
end
def yC (f : Str) (v : V) : List (Str × V) → List (Str × V)
  | [] => [(f, v)]
  | (g, x) :: r => if g = f then (g, v) :: r else (g, x) :: yC f v r
theorem zO (f g : Str) (v : V) : ∀ fs : List (Str × V), (yC f v fs).lookup g = if g = f then some v else fs.lookup g
  | [] => by
    show List.lookup g [(f, v)] = _
    by_cases h : g = f
    · have hb : (g == f) = true := beq_iff_eq.mpr h
      simp only [List.lookup, hb, if_pos h]
    · have hb : (g == f) = false := beq_eq_false_iff_ne.mpr h
      simp only [List.lookup, hb, if_neg h]
  | (k, x) :: r => by
    have ih := zO f g v r
    rw [show yC f v ((k, x) :: r) = (if k = f then (k, v) :: r else (k, x) :: yC f v r) from rfl]
    by_cases hk : k = f
    · rw [if_pos hk]
      by_cases h : g = k
      · have hb : (g == k) = true := beq_iff_eq.mpr h
        simp only [List.lookup, hb, if_pos (h.trans hk)]
      · have hb : (g == k) = false := beq_eq_false_iff_ne.mpr h
        simp only [List.lookup, hb, if_neg (fun e : g = f => h (e.trans hk.symm))]
    · rw [if_neg hk]
      by_cases h : g = k
      · have hb : (g == k) = true := beq_iff_eq.mpr h
        simp only [List.lookup, hb, if_neg (fun e : g = f => hk (h.symm.trans e))]
      · have hb : (g == k) = false := beq_eq_false_iff_ne.mpr h
        simp only [List.lookup, hb]
        exact ih
theorem W0 (f : Str) (v : V) : ∀ fs : List (Str × V), f ∈ (yC f v fs).map (·.1) ∧ ∀ g, g ∈ fs.map (·.1) → g ∈ (yC f v fs).map (·.1)
  | [] => ⟨by simp [yC], fun g h => by simp at h⟩
  | (k, x) :: r => by
    obtain ⟨i1, i2⟩ := W0 f v r
    rw [show yC f v ((k, x) :: r) = (if k = f then (k, v) :: r else (k, x) :: yC f v r) from rfl]
    by_cases hk : k = f
    · rw [if_pos hk]
      subst hk
      exact ⟨by simp, fun g h => by simpa using h⟩
    · rw [if_neg hk]
      refine ⟨?_, fun g h => ?_⟩
      · rw [List.map_cons]
        exact List.mem_cons_of_mem _ i1
      · rw [List.map_cons] at h ⊢
        rcases List.mem_cons.mp h with e | e
        · exact List.mem_cons.mpr (.inl e)
        · exact List.mem_cons_of_mem _ (i2 g e)
theorem qX (f : Str) (v : V) : ∀ fs : List (Str × V), (yC f v fs).length ≤ fs.length + 1
  | [] => by simp [yC]
  | (k, x) :: r => by
    have ih := qX f v r
    rw [show yC f v ((k, x) :: r) = (if k = f then (k, v) :: r else (k, x) :: yC f v r) from rfl]
    by_cases hk : k = f
    · rw [if_pos hk, List.length_cons, List.length_cons]; omega
    · rw [if_neg hk, List.length_cons, List.length_cons]; omega
theorem RelO.some_of {v : V} {o : Option Value} (r : RelO (some v) o) : ∃ u, o = some u ∧ RelV v u := by
  cases o with
  | none => exact (show False from r).elim
  | some u => exact ⟨u, rfl, r⟩
theorem RelO.none_of {o : Option Value} (r : RelO none o) : o = none := by
  cases o with
  | none => rfl
  | some u => exact (show False from r).elim
theorem zbT {v : V} {u : Value} (r : RelV v u) : PySem.W.handedIn u = true := by
  cases v with
  | non => cases (show u = Value.none from r); rfl
  | bl b => cases (show u = Value.bool b from r); rfl
  | int i => obtain ⟨t, e⟩ := (show ∃ t, u = Value.int i t from r); cases e; rfl
  | str x => obtain ⟨t, e⟩ := (show ∃ t, u = Value.str x t from r); cases e; rfl
  | byt b => obtain ⟨t, e⟩ := (show ∃ t, u = Value.bytes b t from r); cases e; rfl
  | flt b => obtain ⟨t, e⟩ := (show ∃ t, u = Value.float b t from r); cases e; rfl
  | ref a => cases (show u = Value.ref a from r); rfl
  | ty n => cases (show u = Value.type n from r); rfl
section
variable {P : Program} {w : World} {H H' : Hp} {h h' : Heap} {a C dx : Addr} {fs fs' : List (Str × V)}
theorem VR (hok : HOk P w H h) (e : H a = some (.ins C dx fs)) : ∃ mA, ObjM h a dx C mA ∧ (∀ f, RelO (fs.lookup f) (mA f)) ∧ PySem.Within mA (fs.map (·.1)) ∧ fs.length ≤ 1000 ∧ H dx = some (.own a) := by
  obtain ⟨d, z, ne, ob, mA, n, r, q⟩ := (show ObjOk P w H h a (.ins C dx fs) from hok a _ e)
  exact ⟨mA, ⟨ob, n, ne⟩, r, q, z, d⟩
end
structure Cls (K : PySem.W.Frag) (C : Addr) : Prop where
  pg : PySem.W.plainGet K C Str.empty = true
  hd : PySem.W.hasDictIn K C = true
  po : PySem.W.plainOver K C = true
  sa : PySem.W.findIn K (.ref C) "__setattr__" = some (some (.builtin "object.__setattr__"))
theorem Cls.get {K : PySem.W.Frag} {C : Addr} (c : Cls K C) (f : Str) : PySem.W.plainGet K C f = true := c.pg
def NoAttr (K : PySem.W.Frag) (C : Addr) (f : Str) : Prop := PySem.W.findIn K (.ref C) f = some none
theorem NoAttr.taker {K : PySem.W.Frag} {C : Addr} {f : Str} (n : NoAttr K C f) : PySem.W.takerIn K C f = some none := by
  unfold PySem.W.takerIn
  rw [show PySem.W.findIn K (.ref C) f = some none from n]
  rfl
structure Con (K : PySem.W.Frag) (C : Addr) (f : Str) (v : V) (u : Value) : Prop where
  at_ : PySem.W.findIn K (.ref C) f = some (some u)
  rel : RelV v u
  get : PySem.W.specialIn K u "__get__" = some none
  cp : PySem.W.copiedNames.contains f = false
structure Meth (K : PySem.W.Frag) (C : Addr) (m : Str) (f : Addr) : Prop where
  at_ : PySem.W.findIn K (.ref C) m = some (some (.ref f))
  fn : PySem.W.isFn K (.ref f) = true
  kp : PySem.W.keepIn K (.ref f) = true
section
variable {X : Cx} {pins : List (Addr × Obj)} {σ : St} {H : Hp} {s : Shared} {a C dx : Addr} {fs : List (Str × V)} {f : Str} {v : V} {A : Around} {E : Value → Shared → Prop}
theorem zat {b : Bool} {Q : Value → Shared → Prop} (I : Inv X pins σ H s) (e : H a = some (.ins C dx fs)) (c : Cls X.K C) (n : NoAttr X.K C f) (l : fs.lookup f = some v)
    (h : ∀ u s', Inv X pins σ H s' → RelV v u → Q u s') : wpAny (model X.prog X.w) A (getAttr (.ref a) f b) Q E s := by
  obtain ⟨mA, O, r, _, _, _⟩ := VR I.hok e
  obtain ⟨u, hu, ru⟩ := RelO.some_of (v := v) (o := mA f) (by rw [← l]; exact r f)
  exact zc2 I.kIn O (c.get f) c.hd n hu (zbT ru) (h u _ (I.tok _) ru)
theorem zaQ {m : Str} {g : Addr} {pl : Sem Bool} {Q : Value × List Value → Shared → Prop} (I : Inv X pins σ H s) (e : H a = some (.ins C dx fs)) (c : Cls X.K C) (k : Meth X.K C m g) (l : fs.lookup m = none)
    (h : Q (.ref g, [.ref a]) s) : wpAny (model X.prog X.w) A (getMethod (.ref a) m pl) Q E s := by
  obtain ⟨mA, O, r, _, _, _⟩ := VR I.hok e
  have hn : mA m = none := RelO.none_of (by rw [← l]; exact r m)
  exact zcI I.kIn O (c.get m) k.at_ k.fn hn h
theorem zaW {y : V} {u : Value} {Q : Unit → Shared → Prop} (I : Inv X pins σ H s) (e : H a = some (.ins C dx fs)) (c : Cls X.K C) (n : NoAttr X.K C f) (hl : fs.length < 1000) (ry : RelV y u)
    (h : ∀ s', Inv X pins σ (upd H a (.ins C dx (yC f y fs))) s' → Q () s') : wpAny (model X.prog X.w) A (setAttr (.ref a) f u) Q E s := by
  obtain ⟨mA, O, r, wi, _, ho⟩ := VR I.hok e
  have hz : (fs.map (·.1)).length ≤ sizeLine := by rw [List.length_map, sizeLine_eq]; omega
  refine zc5 I.kIn O c.sa c.po n.taker c.hd wi hz fun h' O' sb => h _ ?_
  have hd : ∃ o, h'.get? dx = some o := let ⟨o, _, _, e', _⟩ := O'.ns; ⟨o, e'⟩
  refine I.write (x := a) (e := dx) (by rw [e]; exact True.intro) (.inr ho) (fun b q hb z => (sb.2 b hb).trans z) hd ?_
  refine ⟨by rw [zx O.ne]; exact ho, ?_, O.ne, O'.obj, _, O'.ns, fun g => ?_, fun g hg => ?_⟩
  · have := qX f y fs; omega
  · show RelO ((yC f y fs).lookup g) (if g = f then some u else mA g)
    rw [zO]
    by_cases q : g = f
    · rw [if_pos q, if_pos q]; exact ry
    · rw [if_neg q, if_neg q]; exact r g
  · by_cases q : g = f
    · rw [q]; exact (W0 f y fs).1
    · refine (W0 f y fs).2 g (wi g fun z => hg ?_)
      show (if g = f then some u else mA g) = none
      rw [if_neg q]; exact z
theorem Inv.made (I : Inv X pins σ H s) : Inv X pins σ (upd (upd H s.heap.objs.size (.own (s.heap.objs.size + 1))) (s.heap.objs.size + 1) (.ins C s.heap.objs.size []))
    { s with heap := (s.heap.push PySem.W.emptyDict).push (PySem.W.instObj C s.heap.objs.size) } := by
  have e1 : (s.heap.push PySem.W.emptyDict).get? s.heap.objs.size = some PySem.W.emptyDict := Heap.get?_push_size s.heap rfl
  have e2 : ((s.heap.push PySem.W.emptyDict).push (PySem.W.instObj C s.heap.objs.size)).get? (s.heap.objs.size + 1) = some (PySem.W.instObj C s.heap.objs.size) := by
    have := Heap.get?_push_size (s.heap.push PySem.W.emptyDict) (o := PySem.W.instObj C s.heap.objs.size) rfl
    rwa [Heap.size_push] at this
  have e3 : (s.heap.push PySem.W.emptyDict).Ns s.heap.objs.size (fun _ => none) := ⟨PySem.W.emptyDict, #[], _, e1, rfl, (fun e he => absurd he (by simp)), fun _ => rfl⟩
  have I1 := I.laid (a := s.heap.objs.size) (o := .own (s.heap.objs.size + 1)) (h' := s.heap.push PySem.W.emptyDict) (t' := s.toks) (fun b u q => Heap.get?_push_of_some _ q) (Nat.le_refl _) ⟨_, e1⟩
  refine I1.laid (a := s.heap.objs.size + 1) (o := .ins C s.heap.objs.size []) (t' := s.toks) (fun b u q => Heap.get?_push_of_some _ q) (Nat.le_of_eq (Heap.size_push _ _)) ?_
  have ne : s.heap.objs.size ≠ s.heap.objs.size + 1 := Nat.ne_of_lt (Nat.lt_succ_self _)
  refine ⟨by rw [zx ne, zm], Nat.zero_le _, ne, e2, fun _ => none, (Heap.Ns1.of_empty e3).at fun o q => Heap.get?_push_of_some _ q, fun _ => True.intro, fun y hy => absurd rfl hy⟩
theorem zdg {prog : Program} {w : World} {env : Env} {e : Expr} {f : Str} {pos : Pos} {s : Shared} {Q : Value → Shared → Prop} (hb : attributeBase e f env (eval e env) = eval e env)
    (h : wpAny (model prog w) A (eval e env) (fun o s₁ => wpAny (model prog w) A (getAttr o f true) Q E s₁) E s) : wpAny (model prog w) A (eval (.Attribute e f pos) env) Q E s :=
  Attribute_any_ h (by rw [arm_eval_Attribute, hb])
end
def zeQ (K : PySem.W.Frag) (ta : TE) (f : Str) : TE := fun σ H Q => ta σ H fun x H1 => ∃ a C dx fs v, x = .ref a ∧ H1 a = some (.ins C dx fs) ∧ Cls K C ∧ NoAttr K C f ∧ fs.lookup f = some v ∧ Q v H1
def zfB (K : PySem.W.Frag) (ta tv : TE) (f : Str) : TS := fun D σ H => tv σ H fun y H1 => ta σ H1 fun x H2 => ∃ a C dx fs, x = .ref a ∧ H2 a = some (.ins C dx fs) ∧ Cls K C ∧ NoAttr K C f ∧ fs.length < 1000 ∧
  D.nx σ (upd H2 a (.ins C dx (yC f y fs)))
section
variable {X : Cx} {o e value : Expr} {f : Str} {pos pos' tpos : Pos} {ta tv : TE}
theorem zd2 (he : PE X e ta) (hb : attributeBase e f X.env (eval e X.env) = eval e X.env) : PE X (.Attribute e f pos) (zeQ X.K ta f) := by
  intro pins s σ H Q I h
  refine zdg hb (thn (he pins s σ H _ I h) fun u s1 ⟨x, H1, I1, rx, a, C, dx, fs, v, ex, ea, c, n, l, q⟩ => ?_)
  subst ex
  obtain rfl : u = Value.ref a := rx
  exact zat I1 ea c n l fun u' s2 I2 ru => ⟨v, H1, I2, ru, q⟩
theorem X6 (ha : PE X o ta) (hv : PE X value tv) (hs : swapsWith value (some (.Attribute o f pos')) pos.line X.env = pure false) : PS X (.Assign [.Attribute o f pos'] value pos) (zfB X.K ta tv f) := by
  intro pins s σ H D I h
  refine plainObj_wpAny_Assign_Attribute (thn (hv pins s σ H _ I h) fun u s1 ⟨y, H1, I1, ry, q⟩ => thn (ha pins s1 σ H1 _ I1 q) fun ov s2 ⟨x, H2, I2, rx, a, C, dx, fs, ex, ea, c, n, l, q2⟩ => ?_) hs
  subst ex
  obtain rfl : ov = Value.ref a := rx
  exact zaW I2 ea c n l ry fun s3 I3 => ⟨σ, _, I3, q2⟩
end
section
variable {X : Cx} {pins : List (Addr × Obj)} {σ : St} {H : Hp} {s : Shared} {A : Around} {E : Value → Shared → Prop} {Q : Value → Shared → Prop} {c : Value} {b : Bool}
inductive WY (K : PySem.W.Frag) (H : Hp) : V → Value → Prop where
  | non : WY K H .non (.type "NoneType")
  | bl (x : Bool) : WY K H (.bl x) (.type "bool")
  | int (i : Int) : WY K H (.int i) (.type "int")
  | str (x : Str) : WY K H (.str x) (.type "str")
  | flt (x : UInt64) : WY K H (.flt x) (.type "float")
  | lst {a : Addr} {xs : List V} (e : H a = some (.lst xs)) : WY K H (.ref a) (.type "list")
  | frz {a : Addr} {o : Obj} {xs : List V} (e : H a = some (.frz o (.lst xs))) : WY K H (.ref a) (.type "list")
  | tup {a : Addr} {xs : List V} (e : H a = some (.tup xs)) : WY K H (.ref a) (.type "tuple")
  | dK {a : Addr} {kvs : List (Key × V)} (e : H a = some (.dK kvs)) : WY K H (.ref a) (.type "dict")
  | dT {a : Addr} {kvs : List (List Key × V)} (e : H a = some (.dT kvs)) : WY K H (.ref a) (.type "dict")
  | ins {a C dx : Addr} {fs : List (Str × V)} (e : H a = some (.ins C dx fs)) (cl : Cls K C) (ha : PySem.W.findIn K (.ref C) "__class__" = some (some (.builtin "object.__class__")))
      (hn : PySem.W.specialIn K (.builtin "object.__class__") "__get__" = some (some (.builtin "getset_descriptor.__get__"))) (htk : PySem.W.takesIn K (.builtin "object.__class__") = some true)
      (hm : PySem.W.mroIn K C (.type "object") = some true) : WY K H (.ref a) (.ref C)
theorem zbH {x : V} {u t : Value} (I : Inv X pins σ H s) (rx : RelV x u) (ty : WY X.K H x t) (e : PySem.W.kitOne X.K t c = some b) (h : ∀ tk, Q (.bool b) { s with toks := tk }) :
    wpAny (model X.prog X.w) A (call (.builtin "isinstance") [u, c]) Q E s := by
  cases ty with
  | non => cases (show u = Value.none from rx); exact PySem.W.kia_one PySem.W.kitx_none I.kIn True.intro e (fun z => nomatch z) h
  | bl y => cases (show u = Value.bool y from rx); exact PySem.W.kia_one PySem.W.kitx_bool I.kIn True.intro e (fun z => nomatch z) h
  | int i => obtain ⟨t, q⟩ := (show ∃ t, u = Value.int i t from rx); cases q; exact PySem.W.kia_one PySem.W.kitx_int I.kIn True.intro e (fun z => nomatch z) h
  | str y => obtain ⟨t, q⟩ := (show ∃ t, u = Value.str y t from rx); cases q; exact PySem.W.kia_one PySem.W.kitx_str I.kIn True.intro e (fun z => nomatch z) h
  | flt y => obtain ⟨t, q⟩ := (show ∃ t, u = Value.float y t from rx); cases q; exact PySem.W.kia_one PySem.W.kitx_float I.kIn True.intro e (fun z => nomatch z) h
  | @lst a xs ea =>
    cases (show u = Value.ref a from rx)
    obtain ⟨_, _, n, _, h1⟩ := (show ObjOk X.prog X.w H s.heap a (.lst xs) from I.hok a _ ea)
    exact PySem.W.kia_one PySem.W.kitx_list I.kIn ⟨_, h1, rfl⟩ e (fun z => nomatch z) h
  | @frz a ob xs ea =>
    cases (show u = Value.ref a from rx)
    obtain ⟨_, _, _, n, _, h1⟩ := (show ObjOk X.prog X.w H s.heap a (.frz ob (.lst xs)) from I.hok a _ ea)
    exact PySem.W.kia_one PySem.W.kitx_list I.kIn ⟨_, h1, rfl⟩ e (fun z => nomatch z) h
  | @tup a xs ea =>
    cases (show u = Value.ref a from rx)
    obtain ⟨_, _, _, p⟩ := (show ObjOk X.prog X.w H s.heap a (.tup xs) from I.hok a _ ea)
    obtain ⟨o, h1, h2, _⟩ := p
    exact PySem.W.kia_one PySem.W.kitx_tuple I.kIn ⟨o, h1, h2⟩ e (fun z => nomatch z) h
  | @dK a kvs ea =>
    cases (show u = Value.ref a from rx)
    obtain ⟨_, _, vs, _, p⟩ := (show ObjOk X.prog X.w H s.heap a (.dK kvs) from I.hok a _ ea)
    obtain ⟨o, es, ep, h1, h2, _⟩ := p
    exact PySem.W.kia_one PySem.W.kitx_dict I.kIn ⟨o, h1, h2.1⟩ e (fun z => nomatch z) h
  | @dT a kvs ea =>
    cases (show u = Value.ref a from rx)
    obtain ⟨_, _, xs, _, o, es, ep, h1, h2, _⟩ := (show ObjOk X.prog X.w H s.heap a (.dT kvs) from I.hok a _ ea)
    exact PySem.W.kia_one PySem.W.kitx_dict I.kIn ⟨o, h1, h2.1⟩ e (fun z => nomatch z) h
  | @ins a C dx fs ea cl ha hn htk hm =>
    cases (show u = Value.ref a from rx)
    obtain ⟨mA, O, _⟩ := VR I.hok ea
    obtain ⟨od, J, _⟩ := O.look
    exact PySem.W.kia_one (PySem.W.kitx_own (cl.get _) cl.hd ha hn htk hm) I.kIn J e (fun z => nomatch z) h
end
structure Room (k : Nat) (A : Around) : Prop where
  hd : A.handled = none
  dp : A.depth + 3 * k + 5 < recursionLimit
  un : A.units + 16 * k + 200 < cLine
theorem Room.mono {j k : Nat} {A : Around} (r : Room k A) (h : j ≤ k) : Room j A := ⟨r.hd, by have := r.dp; omega, by have := r.un; omega⟩
theorem Room.deeper {k : Nat} {A : Around} (r : Room (k + 1) A) (env : Env) : Room k (A.deeper env) :=
  ⟨r.hd, by have := r.dp; show A.depth + 1 + 3 * k + 5 < _; omega, by have := r.un; show A.units + 3 + 16 * k + 200 < _; omega⟩
theorem Room.in1 {k : Nat} {A : Around} (r : Room (k + 1) A) : Room k A.in1 :=
  ⟨r.hd, by have := r.dp; show A.depth + 3 * k + 5 < _; omega, by have := r.un; show A.units + 1 + 16 * k + 200 < _; omega⟩
theorem za0 {A : Around} {C : Addr} {us : List Value} {kw : List (Str × Value)} : (A.under (.builtin "type.__call__" ⟨.ref C :: us, kw⟩)).depth = A.depth + 1 := by
  first | rfl | simp [Around.under, Code.weight, Code.isCreation, Code.isGuard, Code.isCaller, Code.frames, Code.isFrame, guardIds]
theorem zaJ {A : Around} {C : Addr} {us : List Value} {kw : List (Str × Value)} : (A.under (.builtin "type.__call__" ⟨.ref C :: us, kw⟩)).units = A.units + 1 := by
  first | rfl | simp [Around.under, Code.cUnits, Code.frames, Code.isFrame]
theorem Room.make {k : Nat} {A : Around} (r : Room (k + 1) A) (C : Addr) (us : List Value) (kw : List (Str × Value)) : Room k (A.under (.builtin "type.__call__" ⟨.ref C :: us, kw⟩)) :=
  ⟨r.hd, by have := r.dp; rw [za0]; omega, by have := r.un; rw [zaJ]; omega⟩
theorem Room.depth {k : Nat} {A : Around} (r : Room k A) : A.depth < recursionLimit := by have := r.dp; omega
theorem Room.units {k : Nat} {A : Around} (r : Room k A) : A.units + 64 < cLine := by have := r.un; omega
def ze1 : TA := fun _ H Q => Q [] H
def zdM (ta : TE) (tr : TA) : TA := fun σ H Q => ta σ H fun x H1 => tr σ H1 fun xs H2 => Q (x :: xs) H2
section
variable {X : Cx} {e : Expr} {es : List Expr} {te : TE} {t : TA} {pos : Pos}
theorem zf : PA X [] ze1 := fun _ _ _ _ H Q I h => Calls.spliced_nil ⟨[], H, I, .nil, h⟩
theorem zc (ha : PE X e te) (hr : PA X es t) (hs : starEach (e :: es) X.env = (false, eval e X.env) :: starEach es X.env := by rfl) : PA X (e :: es) (zdM te t) := by
  intro pos pins s σ H Q I h
  rw [hs]
  show wpAny _ _ (spliced ((false, eval e X.env) :: backTo pos (starEach es X.env))) _ _ s
  refine Calls.spliced_cons (thn (ha pins s σ H _ I h) fun u s1 ⟨x, H1, I1, r1, q1⟩ => ?_)
  exact thn (hr pos pins s1 σ H1 _ I1 q1) fun us s2 ⟨xs, H2, I2, r2, q2⟩ => ⟨x :: xs, H2, I2, .cons r1 r2, q2⟩
def zfr (t : TA) : TE := fun σ H Q => t σ H fun xs H1 => xs.length ≤ sizeLine ∧ ∀ p, H1 p = none → Q (.ref p) (upd H1 p (.tup xs))
def zfl (t : TA) : TE := fun σ H Q => t σ H fun xs H1 => xs.length ≤ sizeLine ∧ ∀ p, H1 p = none → Q (.ref p) (upd H1 p (.lst xs))
theorem Ue {x1} (h : PA X es t) : PE X (.Tuple es x1 pos) (zfr t) := by
  intro pins s σ H Q I hq
  refine wpAny_Tuple_spliced (thn (h pos pins s σ H _ I hq) fun us s1 ⟨xs, H1, I1, r, z, q⟩ => ⟨by rw [← r.length]; exact z, ?_⟩)
  have hf : H1 s1.heap.objs.size = none := I1.hok.fresh (Nat.le_refl _)
  refine ⟨.ref s1.heap.objs.size, upd H1 s1.heap.objs.size (.tup xs), I1.laid (t' := s1.toks) (fun b u e => Heap.get?_push_of_some _ e) (Nat.le_refl _) ?_, rfl, q _ hf⟩
  exact ⟨z, us, r, ⟨_, Heap.get?_push_size _ rfl, rfl, _, rfl⟩⟩
theorem xm (h : PA X es t) : PE X (.List es pos) (zfl t) := by
  intro pins s σ H Q I hq
  refine wpAny_List_spliced (thn (h pos pins s σ H _ I hq) fun us s1 ⟨xs, H1, I1, r, z, q⟩ => ⟨by rw [← r.length]; exact z, ?_⟩)
  have hf : H1 s1.heap.objs.size = none := I1.hok.fresh (Nat.le_refl _)
  refine ⟨.ref s1.heap.objs.size, upd H1 s1.heap.objs.size (.lst xs), I1.laid (t' := s1.toks) (fun b u e => Heap.get?_push_of_some _ e) (Nat.le_refl _) ?_, rfl, q _ hf⟩
  exact ⟨z, us, 0, r, Heap.get?_push_size _ rfl⟩
end
abbrev Sp := List V → Hp → VK → XK → Prop
abbrev CXT := List Env → Hp → Shared → XK → Value → Shared → Prop
structure Env0 (P : Program) (w : World) (K : PySem.W.Frag) (mg : Str → Option Value) (base : Heap) (A : Around) (outer : List Env) (s : Shared) (H : Hp) : Prop where
  frames : A.frames = some outer
  mod : Mod K mg base
  bs : ∀ b o, base.get? b = some o → s.heap.get? b = some o ∧ H b = none
  bsz : base.objs.size ≤ s.heap.objs.size
  funs : s.heap.FunFrames base outer
  frf : ∀ b ∈ frs outer, H b = none
  hok : HOk P w H s.heap
  bare : AllBare s.gens
def CE (outer : List Env) (P : Program) (w : World) (H : Hp) (s : Shared) (Q : VK) (u : Value) (s' : Shared) : Prop :=
  ∃ v H', s'.os = s.os ∧ AllBare s'.gens ∧ Un (frs outer) [] H H' s.heap s'.heap ∧ HOk P w H' s'.heap ∧ RelV v u ∧ Q v H'
def CR (CX : CXT) (outer : List Env) (P : Program) (w : World) (H : Hp) (s : Shared) (Q : VK) (E : XK) (r : Result) (s' : Shared) : Prop :=
  match r with
  | .ok (.ret u) => CE outer P w H s Q u s'
  | .ok _ => False
  | .error e => CX outer H s E e s'
structure FnOk (P : Program) (w : World) (K : PySem.W.Frag) (mg : Str → Option Value) (base : Heap) (CX : CXT) (k : Nat) (f : Addr) (fd : FuncData) (ps : List Str) (sp : Sp) : Prop where
  len : ∀ vs H Q E, sp vs H Q E → vs.length = ps.length
  run : ∀ (A : Around) (outer : List Env) (s : Shared) (H : Hp) (args : Args) (us : List Value) (vs : List V) (Q : VK) (E : XK), Room k A → Env0 P w K mg base A outer s H → BindsTo s fd args (ps.zip us) → Vals vs us → sp vs H Q E →
    codeAny (model P w) A (.call (.ref f) args) (CR CX outer P w H s Q E) s
theorem FnOk.mono {P : Program} {w : World} {K : PySem.W.Frag} {mg : Str → Option Value} {base : Heap} {CX : CXT} {j k : Nat} {f : Addr} {fd : FuncData} {ps : List Str} {sp : Sp} (F : FnOk P w K mg base CX j f fd ps sp) (h : j ≤ k) :
    FnOk P w K mg base CX k f fd ps sp := ⟨F.len, fun A outer s H args us vs Q E hr => F.run A outer s H args us vs Q E (hr.mono h)⟩
theorem FnOk.imp {P : Program} {w : World} {K : PySem.W.Frag} {mg : Str → Option Value} {base : Heap} {CX : CXT} {k : Nat} {f : Addr} {fd : FuncData} {ps : List Str} {sp sp' : Sp} (F : FnOk P w K mg base CX k f fd ps sp)
    (h : ∀ vs H Q E, sp' vs H Q E → sp vs H Q E) : FnOk P w K mg base CX k f fd ps sp' :=
  ⟨fun vs H Q E q => F.len vs H Q E (h _ _ _ _ q), fun A outer s H args us vs Q E hr he hb hv hs => F.run A outer s H args us vs Q E hr he hb hv (h _ _ _ _ hs)⟩
theorem Env0.make {P : Program} {w : World} {K : PySem.W.Frag} {mg : Str → Option Value} {base : Heap} {A : Around} {outer : List Env} {s : Shared} {H : Hp} (e : Env0 P w K mg base A outer s H) (C : Addr) (us : List Value) (kw : List (Str × Value)) :
    Env0 P w K mg base (A.under (.builtin "type.__call__" ⟨.ref C :: us, kw⟩)) outer s H := ⟨by first | exact e.frames | (simpa [Around.under, Code.envs, Code.isFrame, pushEnvs] using e.frames), e.mod, e.bs, e.bsz, e.funs, e.frf, e.hok, e.bare⟩
theorem Env0.in1 {P : Program} {w : World} {K : PySem.W.Frag} {mg : Str → Option Value} {base : Heap} {A : Around} {outer : List Env} {s : Shared} {H : Hp} (e : Env0 P w K mg base A outer s H) :
    Env0 P w K mg base A.in1 outer s H := ⟨e.frames, e.mod, e.bs, e.bsz, e.funs, e.frf, e.hok, e.bare⟩
section
variable {X : Cx} {pins : List (Addr × Obj)} {σ : St} {H : Hp} {s s' : Shared}
theorem Inv.env0 (I : Inv X pins σ H s) : Env0 X.prog X.w X.K X.mg X.base X.A X.stack s H :=
  ⟨I.ok.frames, I.ok.mod, I.bs, Nat.le_trans I.ok.bsz I.sz, I.stack, I.stkFree, I.hok, I.bare⟩
theorem Inv.after {Q : VK} {u : Value} (I : Inv X pins σ H s) (h : CE X.stack X.prog X.w H s Q u s') : EP X pins σ Q u s' := by
  obtain ⟨v, H', os, bare, un, hok, r, q⟩ := h
  obtain ⟨hh, g, d, t, os'⟩ := s'
  obtain rfl : os' = s.os := os
  exact ⟨v, H', I.call (h' := hh) (g' := g) (d' := d) (t' := t) (ch := []) un hok bare (fun b z => absurd z (by simp)), r, q⟩
end
def zdI (sp : Sp) (dvs : List V) (E : XK) (t : TA) : TE := fun σ H Q => t σ H fun vs H1 => sp (vs ++ dvs) H1 Q E
def zdK (C : Addr) (m : Str) (sp : Sp) (dvs : List V) (E : XK) (ta : TE) (t : TA) : TE := fun σ H Q => ta σ H fun x H1 => ∃ a dx fs, x = .ref a ∧ H1 a = some (.ins C dx fs) ∧ fs.lookup m = none ∧
  t σ H1 fun vs H2 => sp (x :: (vs ++ dvs)) H2 Q E
def zeG (C : Addr) (sp : Sp) (dvs : List V) (E : XK) (t : TA) : TE := fun σ H Q => t σ H fun vs H1 => ∀ x dx, H1 x = none → H1 dx = none → dx ≠ x →
  sp (.ref x :: (vs ++ dvs)) (upd (upd H1 dx (.own x)) x (.ins C dx [])) (fun v H2 => v = .non ∧ Q (.ref x) H2) E
def Binds (K : PySem.W.Frag) (fd : FuncData) (ps : List Str) (ds : List Value) : Prop :=
  ∀ (s : Shared) (us : List Value), K.In s.heap → (us ++ ds).length = ps.length → BindsTo s fd ⟨us, []⟩ (ps.zip (us ++ ds))
theorem Binds.all {K : PySem.W.Frag} {fd : FuncData} {ps : List Str} (h : ∀ us : List Value, us.length = ps.length → bindArgs fd ⟨us, []⟩ = pure (ps.zip us)) : Binds K fd ps [] := fun s us _ hl => by
  rw [List.append_nil] at hl ⊢
  exact .of_eq (h us hl)
def WQ (CX : CXT) (X : Cx) (E : XK) : Prop := ∀ (pins : List (Addr × Obj)) (σ : St) (H : Hp) (s : Shared) (e : Value) (s' : Shared), Inv X pins σ H s → CX X.stack H s E e s' → X.xe e s'
section
variable {X : Cx} {CX : CXT} {k : Nat} {f C : Addr} {fd : FuncData} {ps : List Str} {sp : Sp} {dvs : List V} {ds : List Value} {E : XK} {x m : Str} {p pos apos : Pos} {e o : Expr} {es : List Expr} {ta : TE} {t : TA}
theorem zcQ {pins : List (Addr × Obj)} {σ : St} {H : Hp} {s : Shared} {Q : VK} {us : List Value} {vs : List V} (F : FnOk X.prog X.w X.K X.mg X.base CX k f fd ps sp) (hr : Room k X.A) (hb : Binds X.K fd ps ds) (hd : Vals dvs ds) (hx : WQ CX X E)
    (I : Inv X pins σ H s) (r : Vals vs us) (h : sp (vs ++ dvs) H Q E) : wpAny (model X.prog X.w) X.A (call (.ref f) us) (EP X pins σ Q) X.xe s := by
  have r2 : Vals (vs ++ dvs) (us ++ ds) := r.append hd
  have hl : (us ++ ds).length = ps.length := by rw [← r2.length]; exact F.len _ _ _ _ h
  refine wpAny_call (codeAny_mono (F.run X.A X.stack s H ⟨us, []⟩ (us ++ ds) (vs ++ dvs) Q E hr I.env0 (hb s us I.kIn hl) r2 h) fun r s' hq => ?_)
  cases r with
  | error e => exact hx pins σ H s e s' I hq
  | ok fl =>
    cases fl with
    | ret u => exact I.after hq
    | next => exact False.elim hq
    | brk => exact False.elim hq
    | cont => exact False.elim hq
theorem zdj (F : FnOk X.prog X.w X.K X.mg X.base CX k f fd ps sp) (hr : Room k X.A) (hg : Gl X x) (hm : X.mg x = some (.ref f)) (hk : PySem.W.keepIn X.K (.ref f) = true) (hb : Binds X.K fd ps ds) (hd : Vals dvs ds) (hx : WQ CX X E)
    (ha : PA X (e :: es) t) (hdb : (x == ("__debug__" : Str)) = false := by decide) (he : starEach (e :: es) X.env = (false, eval e X.env) :: starEach es X.env := by rfl) (hpl : (backTo pos (starEach es X.env)).any (·.1) = false := by rfl) :
    PE X (.Call (.Name x p) (e :: es) [] pos) (zdI sp dvs E t) := by
  intro pins s σ H Q I h
  refine wpAny_Call_Name_kw (Q6 I hg hm ?_ hdb)
  refine PySem.W.callWith_K (h₀ := X.base) I.ok.mod.kin hk (thn (ha pos pins s σ H _ I h) fun us s1 ⟨vs, H1, I1, r, q⟩ => ⟨I1.kIn, ?_⟩) he hpl
  exact zcQ F hr hb hd hx I1 r q
theorem zdv {pl : Sem Bool} (he : PE X o ta) (c : Cls X.K C) (hm : Meth X.K C m f) (F : FnOk X.prog X.w X.K X.mg X.base CX k f fd ps sp) (hr : Room k X.A) (hb : Binds X.K fd ps ds) (hd : Vals dvs ds) (hx : WQ CX X E) (ha : PA X (e :: es) t)
    (hst : starEach (e :: es) X.env = (false, eval e X.env) :: starEach es X.env := by rfl) (hpl : (backTo pos (starEach es X.env)).any (·.1) = false := by rfl)
    (ht : eval (.Call (.Attribute o m apos) (e :: es) [] pos) X.env = (do
      let ov ← eval o X.env
      standAt apos.atName
      let (f, first) ← holding [ov] (getMethod ov m pl)
      callWith pos f first (backTo pos (starEach (e :: es) X.env)) (backToKw pos (keywordEach [] X.env))) := by rfl) :
    PE X (.Call (.Attribute o m apos) (e :: es) [] pos) (zdK C m sp dvs E ta t) := by
  intro pins s σ H Q I h
  refine PySem.W.methodCall_KW (pl := pl) (thn (he pins s σ H _ I h) fun u s1 ⟨x, H1, I1, rx, a, dx, fs, ex, ea, l, q⟩ => ?_) ht
  subst ex
  obtain rfl : u = Value.ref a := rx
  refine zaQ I1 ea c hm l ?_
  refine PySem.W.callWith_K (first := [.ref a]) (h₀ := X.base) I.ok.mod.kin hm.kp (thn (ha pos pins s1 σ H1 _ I1 q) fun us s2 ⟨vs, H2, I2, r, q2⟩ => ⟨I2.kIn, ?_⟩) hst hpl
  exact zcQ (us := .ref a :: us) (vs := .ref a :: vs) F hr hb hd hx I2 (.cons rfl r) q2
structure Mk (K : PySem.W.Frag) (C f : Addr) : Prop where
  makes : PySem.W.makesIn K C = true
  init : PySem.W.findIn K (.ref C) "__init__" = some (some (.ref f))
  fn : PySem.W.isFn K (.ref f) = true
  kp : PySem.W.keepIn K (.ref C) = true
theorem zcV {pins : List (Addr × Obj)} {σ : St} {H : Hp} {s : Shared} {Q : VK} {us : List Value} {vs : List V} (M : Mk X.K C f) (F : FnOk X.prog X.w X.K X.mg X.base CX k f fd ps sp) (hr : Room (k + 1) X.A) (hb : Binds X.K fd ps ds) (hd : Vals dvs ds)
    (hx : WQ CX X E) (I : Inv X pins σ H s) (r : Vals vs us)
    (h : ∀ x dx, H x = none → H dx = none → dx ≠ x → sp (.ref x :: (vs ++ dvs)) (upd (upd H dx (.own x)) x (.ins C dx [])) (fun v H2 => v = .non ∧ Q (.ref x) H2) E) :
    wpAny (model X.prog X.w) X.A (call (.ref C) us) (EP X pins σ Q) X.xe s := by
  have hq := h (s.heap.objs.size + 1) s.heap.objs.size (I.hok.fresh (Nat.le_succ _)) (I.hok.fresh (Nat.le_refl _)) (Nat.ne_of_lt (Nat.lt_succ_self _))
  have I2 := Inv.made (C := C) I
  have r2 : Vals (V.ref (s.heap.objs.size + 1) :: (vs ++ dvs)) (Value.ref (s.heap.objs.size + 1) :: (us ++ ds)) := .cons rfl (r.append hd)
  have hl : (Value.ref (s.heap.objs.size + 1) :: us ++ ds).length = ps.length := by
    have e := r2.length
    rw [F.len _ _ _ _ hq] at e
    exact e.symm
  refine wpAny_call (zcj (f := f) I.kIn M.makes M.init (beq_iff_eq.mp M.fn) (codeAny_mono (F.run _ X.stack _ _ ⟨Value.ref (s.heap.objs.size + 1) :: us, []⟩ (Value.ref (s.heap.objs.size + 1) :: (us ++ ds)) _ _ E (hr.make C us [])
    (I2.env0.make C us []) (hb _ (Value.ref (s.heap.objs.size + 1) :: us) I2.kIn hl) r2 hq) fun r s' hq' => ?_))
  cases r with
  | error e => exact hx pins σ _ _ e s' I2 hq'
  | ok fl =>
    cases fl with
    | ret u =>
      obtain ⟨v, H', I3, rv, ev, q3⟩ := I2.after hq'
      subst ev
      exact ⟨rv, ⟨V.ref (s.heap.objs.size + 1), H', I3, rfl, q3⟩⟩
    | next => exact False.elim hq'
    | brk => exact False.elim hq'
    | cont => exact False.elim hq'
theorem Zr (M : Mk X.K C f) (F : FnOk X.prog X.w X.K X.mg X.base CX k f fd ps sp) (hr : Room (k + 1) X.A) (hg : Gl X x) (hm : X.mg x = some (.ref C)) (hb : Binds X.K fd ps ds) (hd : Vals dvs ds) (hx : WQ CX X E)
    (ha : PA X (e :: es) t) (hdb : (x == ("__debug__" : Str)) = false := by decide) (he : starEach (e :: es) X.env = (false, eval e X.env) :: starEach es X.env := by rfl) (hpl : (backTo pos (starEach es X.env)).any (·.1) = false := by rfl) :
    PE X (.Call (.Name x p) (e :: es) [] pos) (zeG C sp dvs E t) := by
  intro pins s σ H Q I h
  refine wpAny_Call_Name_kw (Q6 I hg hm ?_ hdb)
  refine PySem.W.callWith_K (h₀ := X.base) I.ok.mod.kin M.kp (thn (ha pos pins s σ H _ I h) fun us s1 ⟨vs, H1, I1, r, q⟩ => ⟨I1.kIn, ?_⟩) he hpl
  exact zcV M F hr hb hd hx I1 r q
end
section
variable {X : Cx} {CX : CXT} {k : Nat} {f C : Addr} {fd : FuncData} {ps ks : List Str} {sp : Sp} {E : XK} {x m : Str} {p pos apos kpos : Pos} {e o : Expr} {es : List Expr} {kws : List Keyword} {te ta : TE} {t tk : TA} {nm : Option Str}
structure zfi (K : PySem.W.Frag) (fd : FuncData) (ps ks : List Str) (g : List Value → List Value → List Value) (gV : List V → List V → List V) : Prop where
  to : ∀ (s : Shared) (us ws : List Value), K.In s.heap → (g us ws).length = ps.length → BindsTo s fd ⟨us, ks.zip ws⟩ (ps.zip (g us ws))
  rel : ∀ {vs : List V} {us : List Value} {zs : List V} {ws : List Value}, Vals vs us → Vals zs ws → Vals (gV vs zs) (g us ws)
variable {g : List Value → List Value → List Value} {gV : List V → List V → List V}
end
structure zG (N P : List Str) (sc : Scope) : Prop where
  kind : sc.kind = .function
  co : sc.isCoroutine = false
  gen : sc.isGenerator = false
  nd : N.Nodup
  pre : N.take P.length = P
  par : ∀ x ∈ P, sc.names.lookup x = some .local ∨ sc.names.lookup x = some .cell
  nofree : ∀ y ∈ sc.names, y.2 ≠ .free
theorem Qw {kindOf : Str → Option NameKind} {x : Str} : ∀ {binds : List (Str × Value)} {m : Str → Option Value}, (∀ v, (x, v) ∉ binds) → bindL kindOf binds m x = m x
  | [], _, _ => rfl
  | (n, v) :: r, m, h => by
    unfold bindL
    rw [Qw fun w hw => h w (List.mem_cons_of_mem _ hw)]
    split
    · have : x ≠ n := by rintro rfl; exact h v List.mem_cons_self
      simp [this]
    · rfl
theorem Qy {kindOf : Str → Option NameKind} {x : Str} : ∀ {binds : List (Str × Value)} {m : Str → Option Value}, (∀ v, (x, v) ∉ binds) → bindC kindOf binds m x = m x
  | [], _, _ => rfl
  | (n, v) :: r, m, h => by
    unfold bindC
    rw [Qy fun w hw => h w (List.mem_cons_of_mem _ hw)]
    split
    · rfl
    · have : x ≠ n := by rintro rfl; exact h v List.mem_cons_self
      simp [this]
theorem QF {kindOf : Str → Option NameKind} {x : Str} {v : Value} : ∀ {P : List Str} {vs : List Value} {i : Nat} {m : Str → Option Value}, P.Nodup → P[i]? = some x → vs[i]? = some v → kindOf x = some .local →
    bindL kindOf (P.zip vs) m x = some v
  | [], _, _, _, _, h, _, _ => by simp at h
  | _ :: _, [], _, _, _, _, h, _ => by simp at h
  | p :: P, w :: vs, 0, m, nd, h1, h2, hk => by
    simp at h1 h2; subst h1; subst h2
    show bindL kindOf ((p, w) :: P.zip vs) m p = _
    unfold bindL
    rw [Qw fun v hv => (List.nodup_cons.mp nd).1 (List.of_mem_zip hv).1, if_pos hk]
    simp
  | p :: P, w :: vs, i + 1, m, nd, h1, h2, hk => by
    show bindL kindOf ((p, w) :: P.zip vs) m x = _
    unfold bindL
    exact QF (i := i) (List.nodup_cons.mp nd).2 (by simpa using h1) (by simpa using h2) hk
theorem QL {kindOf : Str → Option NameKind} {x : Str} {v : Value} : ∀ {P : List Str} {vs : List Value} {i : Nat} {m : Str → Option Value}, P.Nodup → P[i]? = some x → vs[i]? = some v → kindOf x ≠ some .local →
    bindC kindOf (P.zip vs) m x = some v
  | [], _, _, _, _, h, _, _ => by simp at h
  | _ :: _, [], _, _, _, _, h, _ => by simp at h
  | p :: P, w :: vs, 0, m, nd, h1, h2, hk => by
    simp at h1 h2; subst h1; subst h2
    show bindC kindOf ((p, w) :: P.zip vs) m p = _
    unfold bindC
    rw [Qy fun v hv => (List.nodup_cons.mp nd).1 (List.of_mem_zip hv).1, if_neg hk]
    simp
  | p :: P, w :: vs, i + 1, m, nd, h1, h2, hk => by
    show bindC kindOf ((p, w) :: P.zip vs) m x = _
    unfold bindC
    exact QL (i := i) (List.nodup_cons.mp nd).2 (by simpa using h1) (by simpa using h2) hk
def start (N : List Str) (vs : List V) : St := vs.map some ++ List.replicate (N.length - vs.length) none
def Vs (CX : CXT) (P : Program) (w : World) (K : PySem.W.Frag) (mg : Str → Option Value) (base : Heap) (N : List Str) (qual : Str) (scope : Scope) (f : Addr) (cd : Value) (A : Around) (outer : List Env) (s : Shared) (H : Hp) (E : XK) : Cx where
  prog := P
  w := w
  K := K
  mg := mg
  base := base
  A := A.deeper (envOfC qual scope s.heap.objs.size f cd)
  N := N
  s₀ := s
  H₀ := H
  env := envOfC qual scope s.heap.objs.size f cd
  outer := outer
  stack := envOfC qual scope s.heap.objs.size f cd :: outer
  ex := []
  calm := true
  fn := fun _ => true
  pn := []
  xe := fun e s' => wpAny (model P w) (A.deeper (envOfC qual scope s.heap.objs.size f cd)) (leaving (envOfC qual scope s.heap.objs.size f cd) e) (fun _ s'' => CX outer H s E e s'') (fun e' s'' => CX outer H s E e' s'') s'
theorem zao {sc : Scope} {n : Nat} {x : Str} (h : sc.names.lookup x = some .cell) : ∃ c, (cellsFrom n sc.names []).lookup x = some c := by
  have q := PySem.W.cellsFrom_some sc.names n [] (.inl h)
  exact Option.isSome_iff_exists.mp q
theorem Qt {CX : CXT} {P : Program} {w : World} {K : PySem.W.Frag} {mg : Str → Option Value} {base : Heap} {N ps : List Str} {qual : Str} {scope : Scope} {f : Addr} {cd : Value} {A : Around} {outer : List Env} {s s1 : Shared} {H : Hp} {E : XK} {us : List Value} {vs : List V}
    (S : zG N ps scope) (hd : A.handled = none) (e0 : Env0 P w K mg base A outer s H) (hl : vs.length = ps.length) (r : Vals vs us)
    (x : InCallC s s.heap.objs.size (bindL (envOfC qual scope s.heap.objs.size f cd).kindOf (ps.zip us) fun _ => none) (cellsFrom (s.heap.objs.size + 1) scope.names []) (bindC (envOfC qual scope s.heap.objs.size f cd).kindOf (ps.zip us) fun _ => none) s1) :
    Inv (Vs CX P w K mg base N qual scope f cd A outer s H E) [] (start N vs) H s1 := by
  have hpl : ps.length ≤ N.length := by have := congrArg List.length S.pre; rw [List.length_take] at this; omega
  obtain ⟨h1, tk, rfl, hk⟩ := x.done
  have noA : ∀ b : Addr, b ∉ (Vs CX P w K mg base N qual scope f cd A outer s H E).ex := fun b z => absurd (show b ∈ ([] : List Addr) from z) (by simp)
  refine ⟨⟨e0.mod, S.kind, rfl, rfl, Nat.le_refl _, fun y z c h1 h2 => ?_, fun y hy => ?_, fun y c _ h => ?_, fun _ => hd, Around.frames_deeper e0.frames, .inr ⟨rfl, rfl⟩, fun b z => absurd z (noA b), e0.bs, e0.bsz, fun b _ _ => noA b, fun b z => absurd z (noA b), e0.funs, e0.frf⟩,
    rfl, e0.bare, Un.kept hk, ⟨_, x.toInCall.ns, fun i y v h1 h2 h3 => ?_⟩, fun y c h => ⟨_, x.cell y c h⟩, e0.hok.fresh (Nat.le_refl _), fun y c h => ?_, fun p hp => absurd (show p ∈ ([] : List (Addr × Obj)) from hp) (by simp), e0.hok.kept hk, ?_⟩
  · exact name_of_addr x.apart (PySem.mem_of_lookup h1) (PySem.mem_of_lookup h2)
  · have hy : scope.names.lookup y = some .cell ∨ scope.names.lookup y = some .free := hy
    rcases hy with hy | hy
    · exact zao hy
    · exact absurd rfl (S.nofree _ (PySem.mem_of_lookup hy))
  · exact Nat.le_of_lt (x.above y c (PySem.mem_of_lookup h))
  · have hi : i < vs.length := by
      unfold start at h2
      by_cases hi : i < vs.length
      · exact hi
      · rw [List.getElem?_append_right (by simpa using hi)] at h2
        rw [List.getElem?_replicate] at h2
        split at h2 <;> cases h2
    have ha : vs[i]? = some v := by
      unfold start at h2
      rw [List.getElem?_append_left (by simpa using hi), List.getElem?_map] at h2
      cases e : vs[i]? with
      | none => rw [e] at h2; cases h2
      | some a => rw [e] at h2; cases h2; rfl
    obtain ⟨u, hu, rv⟩ := r.get ha
    have hp : ps[i]? = some y := by
      rw [← S.pre, List.getElem?_take_of_lt (by omega)]; exact h1
    have ndP : ps.Nodup := by rw [← S.pre]; exact S.nd.sublist (List.take_sublist _ _)
    refine ⟨u, rv, ?_⟩
    rcases S.par y (List.mem_of_getElem? hp) with k | k
    · exact .inl ⟨k, QF ndP hp hu k⟩
    · obtain ⟨c, e⟩ := zao (n := s.heap.objs.size + 1) k
      refine .inr ⟨.inl k, c, e, ?_⟩
      have q := x.cell y c e
      rw [QL ndP hp hu (by show scope.names.lookup y ≠ _; rw [k]; decide)] at q
      exact q
  · exact e0.hok.fresh (Nat.le_of_lt (x.above y c (PySem.mem_of_lookup h)))
  · unfold start
    show _ = N.length
    rw [List.length_append, List.length_map, List.length_replicate]
    omega
theorem zdE {CX : CXT} {P : Program} {w : World} {K : PySem.W.Frag} {mg : Str → Option Value} {base : Heap} {k : Nat} {f : Addr} {name qual : Str} {params : Arguments} {body : List Stmt} {scope : Scope} {dV kV doc pm cdv ct oc : Value} {an od : Option Addr}
    {osl : Array (Option Value)} {N ps : List Str} {sp : Sp} (lk : K.lookup f = some ⟨oc, od, .func (PySem.W.fnOf name qual params body scope dV kV doc pm an cdv ct), osl⟩) (hcd : PySem.W.codeIn K cdv qual = true) (S : zG N ps scope)
    (len : ∀ vs H Q E, sp vs H Q E → vs.length = ps.length)
    (hbody : ∀ (A : Around) (outer : List Env) (s : Shared) (H : Hp) (vs : List V) (Q : VK) (E : XK), Room k (A.deeper (envOfC qual scope s.heap.objs.size f cdv)) → sp vs H Q E →
      ∃ t, PSs (Vs CX P w K mg base N qual scope f cdv A outer s H E) body t ∧ t { nx := fun _ H' => Q .non H', rt := Q } (start N vs) H) :
    FnOk P w K mg base CX (k + 1) f (PySem.W.fnOf name qual params body scope dV kV doc pm an cdv ct) ps sp := by
  refine ⟨len, fun A outer s H args us vs Q E hr e0 hb r hsp => ?_⟩
  have hl := len _ _ _ _ hsp
  have KX : K.In s.heap := e0.mod.kin.keeps fun b o e => (e0.bs b o e).1
  have lim : s.heap.NoLimit := e0.mod.nolimit.keeps fun b o e => (e0.bs b o e).1
  have hkind : ∀ y ∈ ps.zip us, scope.names.lookup y.1 = some .local ∨ (scope.names.lookup y.1 = some .cell ∧ ((cellsFrom (s.heap.objs.size + 1) scope.names []).lookup y.1).isSome = true) := fun ⟨n, v⟩ hy => by
    rcases S.par n (List.of_mem_zip hy).1 with q | q
    · exact .inl q
    · exact .inr ⟨q, PySem.W.cellsFrom_some _ _ _ (.inl q)⟩
  refine codeAny_call_function hr.depth (KX _ _ lk) rfl S.co S.gen rfl (PySem.W.codeRec_of KX hcd) (hb _ _ _ _ ?_)
  refine wpAny_newFunctionEnv_cells S.kind hkind fun env he s1 x => ?_
  subst he
  refine ⟨lim.keeps x.toInCall.keep, codeAny_func ?_⟩
  obtain ⟨t, ht, hq⟩ := hbody A outer s H vs Q E (hr.deeper _) hsp
  have I : Inv (Vs CX P w K mg base N qual scope f cdv A outer s H E) [] (start N vs) H s1 := Qt S hr.hd e0 hl r x
  refine wpAny_mono (ht [] s1 (start N vs) H _ I hq) (fun fl s' hs => ?_) fun e s' hs => hs
  have fin : ∀ {σ' : St} {H' : Hp} {v : V} {u : Value}, Inv (Vs CX P w K mg base N qual scope f cdv A outer s H E) [] σ' H' s' → RelV v u → Q v H' → CE outer P w H s Q u s' :=
    fun {σ' H' v u} J rv q => ⟨v, H', J.os, J.bare, J.base, J.hok, rv, q⟩
  cases fl with
  | ret u =>
    obtain ⟨v, σ', H', J, rv, q⟩ := hs
    exact fin J rv q
  | next =>
    obtain ⟨σ', H', J, q⟩ := hs
    exact fin (v := V.non) (u := Value.none) J rfl q
  | brk =>
    obtain ⟨_, _, _, q⟩ := hs
    exact False.elim q
  | cont =>
    obtain ⟨_, _, _, q⟩ := hs
    exact False.elim q
section
variable {X : Cx} {x : Str} {p pos : Pos} {e : Expr} {es : List Expr} {t : TA} {id T : String} {r : List V → Hp → VK → Prop}
def tCB (r : List V → Hp → VK → Prop) (t : TA) : TE := fun σ H Q => t σ H fun vs H1 => r vs H1 Q
theorem zK (hc : uK X (.builtin id) r) (hg : Gl X x) (hm : X.mg x = none) (hv : bootBuiltins x = some (.builtin id)) (ha : PA X (e :: es) t) (hn : x ≠ "__name__" := by decide) (hdb : (x == ("__debug__" : Str)) = false := by decide)
    (he : starEach (e :: es) X.env = (false, eval e X.env) :: starEach es X.env := by rfl) (hpl : (backTo pos (starEach es X.env)).any (·.1) = false := by rfl) : PE X (.Call (.Name x p) (e :: es) [] pos) (tCB r t) := by
  intro pins s σ H Q I h
  refine wpAny_Call_Name_kw (jt I hg hm hv ?_ hn hdb)
  exact PyProof.Rows.callWith_builtin1 (thn (ha pos pins s σ H _ I h) fun us s1 ⟨vs, H1, I1, r1, q1⟩ => hc pins s1 σ H1 vs us Q I1 r1 q1) he hpl
theorem Z5 (hc : uK X (.type T) r) (hg : Gl X x) (hm : X.mg x = none) (hv : bootBuiltins x = some (.type T)) (ha : PA X (e :: es) t) (hn : x ≠ "__name__" := by decide) (hdb : (x == ("__debug__" : Str)) = false := by decide)
    (he : starEach (e :: es) X.env = (false, eval e X.env) :: starEach es X.env := by rfl) (hpl : (backTo pos (starEach es X.env)).any (·.1) = false := by rfl) : PE X (.Call (.Name x p) (e :: es) [] pos) (tCB r t) := by
  intro pins s σ H Q I h
  refine wpAny_Call_Name_kw (jt I hg hm hv ?_ hn hdb)
  exact PyProof.Rows.callWith_type1 (thn (ha pos pins s σ H _ I h) fun us s1 ⟨vs, H1, I1, r1, q1⟩ => hc pins s1 σ H1 vs us Q I1 r1 q1) he hpl
end
end L2
namespace HT
open PySem PyProof.Rows
def lexLt : List Int → List Int → Bool
  | [], [] => false
  | [], _ :: _ => true
  | _ :: _, [] => false
  | x :: xs, y :: ys => if x = y then lexLt xs ys else decide (x < y)
theorem qK (x y : Int) (xs ys : List Int) : lexLt (x :: xs) (y :: ys) = if x = y then lexLt xs ys else decide (x < y) := rfl
theorem XC : lexLt [] [] = false := rfl
theorem Ux (y : Int) (ys : List Int) : lexLt [] (y :: ys) = true := rfl
theorem tZ (x : Int) (xs : List Int) : lexLt (x :: xs) [] = false := rfl
theorem zcA (A : Around) (s : Shared) (a : Int) (t : Tok) (c : Int) (u : Tok) : ∃ e, SeqAt.EqAt A s (.int a t) (.int c u) e ∧ (e = true ↔ a = c) :=
  ⟨(a == c), SeqAt.EqAt.int_int a t c u, by simp⟩
theorem zad (A : Around) (s : Shared) (a : Int) (t : Tok) (c : Int) (u : Tok) (prog : Program) (w : World) (E : Value → Shared → Prop) (Q : Value → Shared → Prop) (h : Q (.bool (decide (a < c))) s) :
    wpAny (model prog w) A (richCompare .Lt (.int a t) (.int c u)) Q E s :=
  (PyProof.Rows.lt_int h : wpAny (model prog w) A (compareOp .Lt (.int a t) (.int c u)) Q E s)
section
open PySem.SeqAt
open PySem.AutoSeq1 (wpAny_loadPart')
open PySem.MeetsSeq PySem.MeetsSeq2 PySem.MeetsSeq3
end
section
variable {prog : Program} {w : World} {A : Around} {E : Value → Shared → Prop} {s : Shared}
def sIx (n d : Nat) : Option Int → Nat
  | none => d
  | some v => if v < 0 then (v + (n : Int)).toNat else min v.toNat n
theorem zar (n d : Nat) : sIx n d none = d := rfl
theorem VL (n d k : Nat) : sIx n d (some (k : Int)) = min k n := by
  show (if (k : Int) < 0 then ((k : Int) + (n : Int)).toNat else min (k : Int).toNat n) = min k n
  rw [if_neg (by omega), Int.toNat_natCast]
end
end HT
namespace L2
open PySem PySem.Spec PyProof.Rows
abbrev TO := St → Hp → (Option Int → Hp → Prop) → Prop
def PO (X : Cx) (e : Option Expr) (t : TO) : Prop :=
  ∀ (pins : List (Addr × Obj)) (s : Shared) (σ : St) (H : Hp) (Q : Option Int → Hp → Prop), Inv X pins σ H s → t σ H Q →
    wpAny (model X.prog X.w) X.A (evalPart e X.env) (fun u s' => ∃ o H', Inv X pins σ H' s' ∧ IsPart u o ∧ Q o H') X.xe s
def zc9 : TO := fun _ H Q => Q none H
def zfg (t : TE) : TO := fun σ H Q => t σ H fun x H1 => ∃ i, x = .int i ∧ Q (some i) H1
theorem intsAre_of {ns : List Int} : ∀ {us : List Value}, Vals (ns.map V.int) us → IntsAre us ns := by
  induction ns with
  | nil => intro us r; rw [List.map_nil] at r; cases r; exact .nil
  | cons n ns ih =>
    intro us r
    rw [List.map_cons] at r
    cases r with
    | cons r1 r2 =>
      obtain ⟨t, e⟩ := r1
      subst e
      exact .cons n t (ih r2)
section
variable {X : Cx} {e : Expr} {te : TE} {lo hi : Option Expr} {tl th : TO} {pos p2 : Pos}
theorem jD : PO X none zc9 := by
  intro pins s σ H Q I h
  rw [evalPart_none]
  exact wpAny_pure ⟨none, H, I, .none, h⟩
theorem ql (h : PE X e te) : PO X (some e) (zfg te) := by
  intro pins s σ H Q I hw
  rw [evalPart_some]
  refine thn (h pins s σ H _ I hw) fun u s1 ⟨x, H1, I1, r1, q1⟩ => ?_
  obtain ⟨i, rfl, q⟩ := q1
  obtain ⟨t, rfl⟩ := r1
  exact ⟨some i, H1, I1, .int i t, q⟩
def SlR (X : Cx) (r : V → Option Int → Option Int → Hp → VK → Prop) : Prop :=
  ∀ (pins : List (Addr × Obj)) (s : Shared) (σ : St) (H : Hp) (x : V) (v vl vu : Value) (lo hi : Option Int) (sl : Addr) (Q : VK), Inv X pins σ H s → RelV x v → s.heap.IsSliceOf sl vl vu .none → IsPart vl lo → IsPart vu hi → r x lo hi H Q →
    ∃ T id, typeLookup (.type T) "__getitem__" = pure (some (.builtin id)) ∧ s.TypeIs v T ∧ wpAny (model X.prog X.w) X.A (getItem v (.ref sl)) (EP X pins σ Q) X.xe s
def tSl (r : V → Option Int → Option Int → Hp → VK → Prop) (te : TE) (tl th : TO) : TE := fun σ H Q => te σ H fun x H1 => tl σ H1 fun l H2 => th σ H2 fun u H3 => r x l u H3 Q
theorem uH {r : V → Option Int → Option Int → Hp → VK → Prop} (hr : SlR X r) (he : PE X e te) (hl : PO X lo tl) (hu : PO X hi th) : PE X (.Subscript e (.Slice lo hi none p2) pos) (tSl r te tl th) := by
  intro pins s σ H Q I h
  refine Subscript_ (thn (he pins s σ H _ I h) fun v s1 ⟨x, H1, I1, r1, q1⟩ => ?_)
  refine wpAny_Slice (thn (hl pins s1 σ H1 _ I1 q1) fun vl s2 ⟨l, H2, I2, pl, q2⟩ => thn (hu pins s2 σ H2 _ I2 q2) fun vu s3 ⟨u, H3, I3, pu, q3⟩ => ?_)
  rw [evalPart_none]
  refine wpAny_pure ?_
  have I4 : Inv X pins σ H3 { s3 with heap := s3.heap.push { cls := .type "slice", data := .fields #[vl, vu, .none] } } := I3.kept (t' := s3.toks) fun b ob q => Heap.get?_push_of_some _ q
  obtain ⟨T, id, hT, ht, hg⟩ := hr pins { s3 with heap := s3.heap.push { cls := .type "slice", data := .fields #[vl, vu, .none] } } σ H3 x v vl vu l u s3.heap.objs.size Q I4 r1 (Heap.IsSliceOf.new ..) pl pu q3
  show wpAny (model X.prog X.w) X.A (subscriptTail e (.Slice lo hi none p2) v (.ref s3.heap.objs.size)) (EP X pins σ Q) X.xe { s3 with heap := s3.heap.push { cls := .type "slice", data := .fields #[vl, vu, .none] } }
  exact tail_any (ops := [.ref s3.heap.objs.size, v]) ht hT hg (by with_unfolding_all rfl)
def jm (xs : List V) (lo hi : Option Int) : List V := (xs.drop (HT.sIx xs.length 0 lo)).take (HT.sIx xs.length xs.length hi - HT.sIx xs.length 0 lo)
theorem zaj (xs : List V) (lo hi : Option Int) : (jm xs lo hi).length ≤ xs.length := by
  unfold jm
  rw [List.length_take, List.length_drop]
  omega
end
def ixN (n : Nat) (i : Int) : Option Nat := if 0 ≤ i then (if i < n then some i.toNat else none) else if -(n : Int) ≤ i then some (i + n).toNat else none
def atI {α : Type} (xs : List α) (i : Int) : Option α := (ixN xs.length i).bind fun j => xs[j]?
theorem zbo {n : Nat} {i : Int} {j : Nat} (h : ixN n i = some j) : seqIndex? i n = some j ∧ j < n ∧ -(n : Int) ≤ i ∧ i < n := by
  unfold ixN at h
  by_cases h0 : 0 ≤ i
  · rw [if_pos h0] at h
    by_cases h1 : i < n
    · rw [if_pos h1] at h
      have e : i.toNat = j := Option.some.inj h
      exact ⟨by rw [seqIndex_of h0 h1, e], by omega, by omega, h1⟩
    · rw [if_neg h1] at h; cases h
  · rw [if_neg h0] at h
    by_cases h1 : -(n : Int) ≤ i
    · rw [if_pos h1] at h
      have e : (i + n).toNat = j := Option.some.inj h
      exact ⟨by rw [seqIndex_neg (by omega) h1, e], by omega, h1, by omega⟩
    · rw [if_neg h1] at h; cases h
theorem zbq {α : Type} {xs : List α} {i : Int} {v : α} (h : atI xs i = some v) : ∃ j, seqIndex? i xs.length = some j ∧ xs[j]? = some v ∧ j < xs.length ∧ -(xs.length : Int) ≤ i ∧ i < xs.length := by
  unfold atI at h
  cases e : ixN xs.length i with
  | none => rw [e] at h; cases h
  | some j =>
    rw [e] at h
    obtain ⟨h1, h2, h3, h4⟩ := zbo e
    exact ⟨j, h1, h, h2, h3, h4⟩
theorem xU {α : Type} {xs : List α} {j : Nat} {v : α} (h : xs[j]? = some v) : atI xs (j : Int) = some v := by
  have hj : j < xs.length := (List.getElem?_eq_some_iff.mp h).1
  have e : ixN xs.length (j : Int) = some j := by
    unfold ixN
    rw [if_pos (by omega), if_pos (by omega)]; simp
  unfold atI; rw [e]; exact h
theorem zag {α : Type} (xs : List α) (v : α) : atI (xs ++ [v]) (-1) = some v := by
  have hl : (xs ++ [v]).length = xs.length + 1 := by simp
  have e : ixN (xs ++ [v]).length (-1) = some xs.length := by
    unfold ixN
    rw [hl, if_neg (by decide), if_pos (by omega)]
    congr 1
    omega
  unfold atI
  rw [e]
  show (xs ++ [v])[xs.length]? = some v
  simp
def zdf (b : Expr) : Prop := ∀ o i, subscripted b false o i = operate [o, i] (getItem o i)
def IxR (X : Cx) (r : R2) : Prop :=
  ∀ (value slice : Expr) (pins : List (Addr × Obj)) (s : Shared) (σ : St) (H : Hp) (x y : V) (v u : Value) (Q : VK), Inv X pins σ H s → RelV x v → RelV y u → r x y H Q →
    subscripted slice false v u = operate [v, u] (getItem v u) → wpAny (model X.prog X.w) X.A (subscriptTail value slice v u) (EP X pins σ Q) X.xe s
def MtR (X : Cx) (id : String) (r : V → List V → Hp → VK → Prop) : Prop :=
  ∀ (pins : List (Addr × Obj)) (s : Shared) (σ : St) (H : Hp) (x : V) (xs : List V) (v : Value) (us : List Value) (Q : VK), Inv X pins σ H s → RelV x v → Vals xs us → r x xs H Q →
    wpAny (model X.prog X.w) X.A (call (.builtin id) (v :: us)) (EP X pins σ Q) X.xe s
section
variable {X : Cx} {a b : Expr} {ta tb : TE} {pos : Pos}
theorem zP {r : R2} (hr : IxR X r) (ha : PE X a ta) (hb : PE X b tb) (hs : zdf b) : PE X (.Subscript a b pos) (tOp r ta tb) := by
  intro pins s σ H Q I h
  exact Subscript_ (zdX ha hb I h fun v u s2 x y H2 I2 rx ry q => hr a b pins s2 σ H2 x y v u Q I2 rx ry q (hs _ _))
def zeW (K : PySem.W.Frag) : R2 := fun x y H Q => ∃ p xs i v, x = .ref p ∧ y = .int i ∧ SqL K H p xs ∧ atI xs i = some v ∧ Q v H
def zeK (K : PySem.W.Frag) : R2 := fun x y H Q => ∃ p xs i v, x = .ref p ∧ y = .int i ∧ SqT K H p xs ∧ atI xs i = some v ∧ Q v H
theorem zdo : IxR X (zeW X.K) := by
  intro value slice pins s σ H x y v u Q I rx ry h hs
  obtain ⟨p, xs, i, z, rfl, rfl, hq, he, q⟩ := h
  cases rx
  obtain ⟨t, rfl⟩ := ry
  obtain ⟨its, r, pl, hz⟩ := I.list hq
  obtain ⟨j, h1, h2, h3, h4, h5⟩ := zbq he
  obtain ⟨w, ew, rw'⟩ := r.get h2
  have hl := r.length
  have hn := Jx
  have fin : EP X pins σ Q w s := ⟨z, H, I, rw', q⟩
  by_cases h0 : 0 ≤ i
  · have hj : i.toNat = j := by
      rw [seqIndex_of h0 h5] at h1
      exact Option.some.inj h1
    exact item_listR pl.isList h0 (by omega) (by rw [hj]; simpa using ew) fin hs
  · have hj : (i + (its.toArray.size : Int)).toNat = j := by
      rw [seqIndex_neg (by omega) h4] at h1
      rw [List.size_toArray, ← hl]
      exact Option.some.inj h1
    exact subscriptTail_builtinR (x := w) pl.isList.typeIs slot_list_getitem.lookup
      (wpAny_getItem_list_neg (Q := fun r s' => r = w ∧ EP X pins σ Q r s') pl.isList (by omega) (by rw [List.size_toArray] <;> omega) (by omega) (by rw [hj]; simpa using ew) ⟨rfl, fin⟩) hs
theorem zd3 : IxR X (zeK X.K) := by
  intro value slice pins s σ H x y v u Q I rx ry h hs
  obtain ⟨p, xs, i, z, rfl, rfl, hq, he, q⟩ := h
  cases rx
  obtain ⟨t, rfl⟩ := ry
  obtain ⟨its, r, pl, hz⟩ := I.tuple hq
  obtain ⟨j, h1, h2, h3, h4, h5⟩ := zbq he
  obtain ⟨w, ew, rw'⟩ := r.get h2
  have hl := r.length
  have hn := Jx
  have fin : EP X pins σ Q w s := ⟨z, H, I, rw', q⟩
  exact subscriptTail_builtinR (x := w) pl.typeIs slot_tuple_getitem.lookup
    (getItem_tuple (j := j) (Q := fun r s' => r = w ∧ EP X pins σ Q r s') pl (by omega) (by omega) (by rw [List.size_toArray, ← hl]; exact h1) (by simpa using ew) ⟨rfl, fin⟩) hs
theorem zaG (its : List Value) (n j : Nat) (u : Value) : Obj.mapSeq (·.setIfInBounds j u) { cls := .type "list", data := .seq its.toArray n } = { cls := .type "list", data := .seq (its.set j u).toArray n } := by
  simp [Obj.mapSeq]
theorem Inv.lst {pins : List (Addr × Obj)} {σ : St} {H : Hp} {s : Shared} {p : Addr} {xs : List V} (I : Inv X pins σ H s) (h : H p = some (.lst xs)) :
    ∃ (its : List Value) (n : Nat), Vals xs its ∧ s.heap.get? p = some { cls := .type "list", data := .seq its.toArray n } ∧ xs.length ≤ sizeLine := by
  obtain ⟨z, its, n, r, e⟩ := I.hok p _ h
  exact ⟨its, n, r, e, z⟩
theorem Inv.lstUpd {pins : List (Addr × Obj)} {σ : St} {H : Hp} {s : Shared} {p : Addr} {xs ys : List V} {its its' : List Value} {n n' : Nat} {f : Obj → Obj} (I : Inv X pins σ H s) (h : H p = some (.lst xs))
    (ho : s.heap.get? p = some { cls := .type "list", data := .seq its.toArray n }) (hf : f { cls := .type "list", data := .seq its.toArray n } = { cls := .type "list", data := .seq its'.toArray n' }) (r : Vals ys its') (hz : ys.length ≤ sizeLine) (t : Nat) :
    Inv X pins σ (upd H p (.lst ys)) { s with heap := s.heap.update p f, toks := t } := by
  have e : (s.heap.update p f).get? p = some { cls := .type "list", data := .seq its'.toArray n' } := by
    rw [Heap.get?_update_self f ho (by rw [hf] <;> rfl), hf]
  refine I.write (x := p) (e := p) (by rw [h]; trivial) (.inl rfl) (fun b u hb q => (Heap.get?_update_other _ _ (Ne.symm hb)).trans q) ⟨_, e⟩ ?_
  exact ⟨hz, its', n', r, e⟩
def zeJ : V → V → V → Hp → (Hp → Prop) → Prop := fun o i v H Q => ∃ p xs k j, o = .ref p ∧ i = .int k ∧ H p = some (.lst xs) ∧ ixN xs.length k = some j ∧ Q (upd H p (.lst (xs.set j v)))
theorem set_list : zeD X zeJ := by
  intro pins s σ H o i v ov iv u Q I ro ri rv h
  obtain ⟨p, xs, k, j, rfl, rfl, hp, hj, q⟩ := h
  cases ro
  obtain ⟨t, rfl⟩ := ri
  obtain ⟨its, n, r, ho, hz⟩ := I.lst hp
  obtain ⟨h1, h2, h3, h4⟩ := zbo hj
  have hl := r.length
  have hn := Jx
  have I' : Inv X pins σ (upd H p (.lst (xs.set j v))) { s with heap := s.heap.update p (Obj.mapSeq (·.setIfInBounds j u)) } :=
    I.lstUpd hp ho (zaG its n j u) (r.set rv j) (by rw [List.length_set]; exact hz) s.toks
  by_cases h0 : 0 ≤ k
  · have hk : k.toNat = j := by
      rw [seqIndex_of h0 h4] at h1
      exact Option.some.inj h1
    exact PySem.W.ki_setAt ho h0 (by omega) (by rw [List.size_toArray, ← hl]; exact h4) (by rw [hk]; exact ⟨_, I', q⟩)
  · have hk : (k + (its.toArray.size : Int)).toNat = j := by
      rw [seqIndex_neg (by omega) h3] at h1
      rw [List.size_toArray, ← hl]
      exact Option.some.inj h1
    exact PySem.W.ki_setBack ho (by omega) (by rw [List.size_toArray, ← hl]; exact h3) (by omega) (by rw [hk]; exact ⟨_, I', q⟩)
theorem JB (lo hi : Option Int) (n : Nat) : (sliceBounds lo hi none n).1 = ((HT.sIx n 0 lo : Nat) : Int) ∧ (sliceBounds lo hi none n).2.1 = ((HT.sIx n n hi : Nat) : Int) ∧ (sliceBounds lo hi none n).2.2 = 1 := by
  refine ⟨?_, ?_, rfl⟩
  · cases lo with
    | none => simp [sliceBounds, HT.sIx]
    | some i =>
      simp only [sliceBounds, HT.sIx, Option.getD_none, show (1 : Int) > 0 by decide, if_true]
      by_cases h : i < 0
      · simp only [h, if_true] <;> omega
      · simp only [h, if_false] <;> omega
  · cases hi with
    | none => simp [sliceBounds, HT.sIx]
    | some i =>
      simp only [sliceBounds, HT.sIx, Option.getD_none, show (1 : Int) > 0 by decide, if_true]
      by_cases h : i < 0
      · simp only [h, if_true] <;> omega
      · simp only [h, if_false] <;> omega
theorem Qo (its : List Value) (lo hi : Option Int) : slicePick its.toArray lo hi none = ((its.drop (HT.sIx its.length 0 lo)).take (HT.sIx its.length its.length hi - HT.sIx its.length 0 lo)).toArray := by
  obtain ⟨h1, h2, h3⟩ := JB lo hi its.toArray.size
  unfold slicePick
  rw [h1, h2, h3]
  simp only [sliceRange_one, pick_run, List.size_toArray] <;> rfl
def ze2 (K : PySem.W.Frag) : V → Option Int → Option Int → Hp → VK → Prop := fun x lo hi H Q => ∃ a xs, x = .ref a ∧ SqL K H a xs ∧ ∀ p, H p = none → Q (.ref p) (upd H p (.lst (jm xs lo hi)))
theorem zc6 : SlR X (ze2 X.K) := by
  intro pins s σ H x v vl vu lo hi sl Q I rx hs pl pu h
  obtain ⟨a, xs, rfl, hx, q⟩ := h
  cases rx
  obtain ⟨its, r, ht, hz⟩ := I.list hx
  have hlen := r.length
  refine ⟨"list", _, slot_list_getitem.lookup, ht.isList.typeIs, ?_⟩
  refine wpAny_getItem_list_slice ht.isList hs pl pu .none (by simp) ?_ (by rw [List.size_toArray] <;> omega)
  rw [Qo, ← hlen]
  refine ⟨.ref s.heap.objs.size, _, I.laid (t' := s.toks) (o := .lst (jm xs lo hi)) (fun b ob q => Heap.get?_push_of_some _ q) (Nat.le_refl _) ?_, rfl, q _ (I.hok.fresh (Nat.le_refl _))⟩
  exact ⟨Nat.le_trans (zaj xs lo hi) hz, _, 0, (r.drop (HT.sIx xs.length 0 lo)).take (HT.sIx xs.length xs.length hi - HT.sIx xs.length 0 lo), Heap.get?_push_size _ rfl⟩
theorem QW : uK X (.builtin "len") (fun xs H Q => ∃ p ys, xs = [.ref p] ∧ (SqL X.K H p ys ∨ SqT X.K H p ys) ∧ Q (.int ys.length) H) := by
  intro pins s σ H xs us Q I r h
  obtain ⟨p, ys, rfl, hq, q⟩ := h
  obtain ⟨u, rfl, rx⟩ := vals1 r
  cases rx
  have hn := Jx
  rcases hq with hq | hq
  · obtain ⟨its, r', pl, hz⟩ := I.list hq
    have hlen := r'.length
    exact Calls.call_len_list pl.isList (by simp only [List.size_toArray] <;> omega) ⟨.int ys.length, H, I.tok _, ⟨s.toks + 1, by rw [List.size_toArray, hlen]⟩, q⟩
  · obtain ⟨its, r', pl, hz⟩ := I.tuple hq
    have hlen := r'.length
    exact len_tuple pl (by simp only [List.size_toArray] <;> omega) ⟨.int ys.length, H, I.tok _, ⟨s.toks + 1, by rw [List.size_toArray, hlen]⟩, q⟩
theorem Jq : uK X (.type "list") (fun xs H Q => ∃ p ys, xs = [.ref p] ∧ (SqL X.K H p ys ∨ SqT X.K H p ys) ∧ ∀ l, H l = none → Q (.ref l) (upd H l (.lst ys))) := by
  intro pins s σ H xs us Q I r h
  obtain ⟨p, ys, rfl, hq, q⟩ := h
  obtain ⟨u, rfl, rx⟩ := vals1 r
  cases rx
  have fin : ∀ (its : List Value), Vals ys its → ys.length ≤ sizeLine → ∀ (h' : Heap) (c' : Nat), (∀ b o', s.heap.get? b = some o' → h'.get? b = some o') →
      h'.get? s.heap.objs.size = some { cls := .type "list", dict := none, data := .seq its.toArray c', slots := #[] } → EP X pins σ Q (.ref s.heap.objs.size) { s with heap := h' } := fun its r' hz h' c' kp e =>
    ⟨.ref s.heap.objs.size, _, I.laid (t' := s.toks) kp (Nat.le_refl _) (show ObjOk X.prog X.w _ h' _ (.lst ys) from ⟨hz, its, c', r', e⟩), rfl, q _ (I.hok.fresh (Nat.le_refl _))⟩
  rcases hq with hq | hq
  · obtain ⟨its, r', pl, hz⟩ := I.list hq
    have hlen := r'.length
    obtain ⟨o, ho, hc, n, hd⟩ := pl.isList
    exact call_list_seq p (.inl rfl) ho hc hd (fun h' c' kp e => fin its r' hz h' c' kp e) (by simp only [List.size_toArray] <;> omega)
  · obtain ⟨its, r', pl, hz⟩ := I.tuple hq
    have hlen := r'.length
    obtain ⟨o, ho, hc, n, hd⟩ := pl
    exact call_list_seq p (.inr rfl) ho hc hd (fun h' c' kp e => fin its r' hz h' c' kp e) (by simp only [List.size_toArray] <;> omega)
theorem Qk : uK X (.type "tuple") (fun xs H Q => ∃ p ys, xs = [.ref p] ∧ ((SqL X.K H p ys ∧ ∀ l, H l = none → Q (.ref l) (upd H l (.tup ys))) ∨ (SqT X.K H p ys ∧ Q (.ref p) H))) := by
  intro pins s σ H xs us Q I r h
  obtain ⟨p, ys, rfl, h⟩ := h
  obtain ⟨u, rfl, rx⟩ := vals1 r
  cases rx
  rcases h with ⟨hq, q⟩ | ⟨hq, q⟩
  · obtain ⟨its, r', pl, hz⟩ := I.list hq
    have hlen := r'.length
    refine call_tuple_list pl.isList (fun h' kp => ?_) (by simp only [List.size_toArray] <;> omega)
    have I1 : Inv X pins σ H { s with heap := h' } := I.kept (t' := s.toks) kp
    have I2 : Inv X pins σ (upd H h'.objs.size (.tup ys)) { s with heap := h'.push { cls := .type "tuple", data := .seq its.toArray } } :=
      I1.laid (t' := s.toks) (fun b o e => Heap.get?_push_of_some _ e) (Nat.le_refl _) (show ObjOk X.prog X.w _ _ _ (.tup ys) from ⟨hz, its, r', IsTup.new _ _⟩)
    exact ⟨.ref h'.objs.size, _, I2, rfl, q _ (I1.hok.fresh (Nat.le_refl _))⟩
  · obtain ⟨its, r', pl, hz⟩ := I.tuple hq
    exact call_tuple_same pl ⟨.ref p, H, I, rfl, q⟩
def tyV (K : PySem.W.Frag) (T : String) (x : V) (H : Hp) : Prop := match x with
  | .str _ => T = "str"
  | .int _ => T = "int"
  | .ref p => (T = "list" ∧ ∃ xs, SqL K H p xs) ∨ (T = "tuple" ∧ ∃ o, K.lookup p = some o ∧ o.cls = .type "tuple" ∧ o.dict = none) ∨
      (T = "dict" ∧ ((∃ kvs, H p = some (.dK kvs)) ∨ ∃ kvs, H p = some (.dT kvs))) ∨ (T = "set" ∧ ∃ S n, H p = some (.set S n))
  | _ => False
theorem zef {pins : List (Addr × Obj)} {σ : St} {H : Hp} {s : Shared} {T : String} {x : V} {v : Value} (I : Inv X pins σ H s) (r : RelV x v) (ty : tyV X.K T x H) :
    s.TypeIs v T ∧ ∀ a, v = .ref a → ∃ ob, s.heap.get? a = some ob ∧ ob.dict = none := by
  cases x with
  | str z =>
    obtain ⟨t, rfl⟩ := r
    cases (show T = "str" from ty)
    exact ⟨typeIs_str s z t, fun _ e => nomatch e⟩
  | int i =>
    obtain ⟨t, rfl⟩ := r
    cases (show T = "int" from ty)
    exact ⟨typeIs_int s i t, fun _ e => nomatch e⟩
  | ref p =>
    cases r
    rcases ty with ⟨rfl, xs, hq⟩ | ⟨rfl, o, hk, hc, hd⟩ | ⟨rfl, hk⟩ | ⟨rfl, S, n, hk⟩
    · obtain ⟨its, _, pl, _⟩ := I.list hq
      refine ⟨pl.isList.typeIs, fun a e => ?_⟩
      cases e
      obtain ⟨o, n, e, c, hd, _⟩ := pl
      exact ⟨o, e, hd⟩
    · refine ⟨⟨o, I.kIn p o hk, hc⟩, fun a e => ?_⟩
      cases e
      exact ⟨o, I.kIn _ o hk, hd⟩
    · have z : ∃ o, s.heap.get? p = some o ∧ o.ExactDict := by
        rcases hk with ⟨kvs, hk⟩ | ⟨kvs, hk⟩
        · obtain ⟨_, _, _, _, o, _, _, e, ex, _⟩ := I.hok p _ hk
          exact ⟨o, e, ex⟩
        · obtain ⟨_, _, _, _, o, _, _, e, ex, _⟩ := I.hok p _ hk
          exact ⟨o, e, ex⟩
      obtain ⟨o, e, ex⟩ := z
      refine ⟨⟨o, e, ex.1⟩, fun a e2 => ?_⟩
      cases e2
      exact ⟨o, e, ex.2.1⟩
    · obtain ⟨o, _, _, _, e, ex, _⟩ := I.hok p _ hk
      refine ⟨⟨o, e, ex.1⟩, fun a e2 => ?_⟩
      cases e2
      exact ⟨o, e, ex.2.1⟩
  | _ => exact False.elim ty
def tBM (K : PySem.W.Frag) (T : String) (r : V → List V → Hp → VK → Prop) (to : TE) (t : TA) : TE := fun σ H Q => to σ H fun x H1 => tyV K T x H1 ∧ t σ H1 fun xs H2 => r x xs H2 Q
variable {o e : Expr} {es : List Expr} {to : TE} {t : TA} {name : Str} {apos cpos : Pos} {T id : String} {r : V → List V → Hp → VK → Prop}
theorem YM (pa : PlainAttrs T) (slot : Slot T name id) (hty : typeOf (.builtin id) = pure (.type "method_descriptor")) (hm : MtR X id r) (ho : PE X o to) (ha : PA X (e :: es) t)
    (hbase : attributeBase o name X.env (eval o X.env) = eval o X.env := by rfl)
    (hfew : ((backTo cpos (starEach (e :: es) X.env)).all (fun x => !x.1) && (backToKw cpos (keywordEach [] X.env)).all (fun x => x.1.isSome)
      && decide ((e :: es).length + ([] : List Keyword).length + (if ([] : List Keyword).isEmpty then 0 else 1) < 30)) = true := by rfl)
    (hline : (apos.endLine == cpos.line) = true := by rfl) (hs : starEach (e :: es) X.env = (false, eval e X.env) :: starEach es X.env := by rfl) (hplain : (backTo cpos (starEach es X.env)).any (·.1) = false := by rfl) :
    PE X (.Call (.Attribute o name apos) (e :: es) [] cpos) (tBM X.K T r to t) := by
  intro pins s σ H Q I h
  refine wpAny_Call_method_late hbase hfew hline rfl (thn (ho pins s σ H _ I h) fun v s1 ⟨x, H1, I1, r1, ty, q1⟩ => ?_)
  obtain ⟨h1, h2⟩ := zef I1 r1 ty
  refine ⟨T, id, pa, slot, hty, h1, h2, ?_⟩
  have hA := ha cpos pins s1 σ H1 _ I1 q1
  rw [hs] at hA ⊢
  refine Calls.callWith_builtin (by show (false || (backTo cpos (starEach es X.env)).any (·.1)) = false; rw [hplain] <;> rfl) (Calls.evalArgs_plain ?_)
  exact thn hA fun us s2 ⟨vs, H2, I2, r2, q2⟩ => hm pins s2 σ H2 x vs v us Q I2 r1 r2 q2
end
def MtM (X : Cx) (id : String) (r : V → List V → Hp → VK → Prop) : Prop :=
  ∀ (pins : List (Addr × Obj)) (s : Shared) (σ : St) (H : Hp) (x : V) (xs : List V) (v : Value) (us : List Value) (Q : VK), Inv X pins σ H s → RelV x v → Vals xs us → r x xs H Q →
    wpAny (model X.prog X.w) X.A (call (.builtin id) (v :: us)) (EP X pins σ Q) X.xe s
theorem Vals.one : ∀ {x : V} {us : List Value}, Vals [x] us → ∃ u, us = [u] ∧ RelV x u
  | _, _, .cons r .nil => ⟨_, rfl, r⟩
theorem Vals.zero : ∀ {us : List Value}, Vals [] us → us = []
  | _, .nil => rfl
theorem Vals.dropLast {xs : List V} {us : List Value} (h : Vals xs us) : Vals xs.dropLast us.dropLast := by
  induction h with
  | nil => exact .nil
  | cons r t ih =>
    cases t with
    | nil => exact .nil
    | cons q t' => exact .cons r ih
theorem Vals.reverse {xs : List V} {us : List Value} (h : Vals xs us) : Vals xs.reverse us.reverse := by
  induction h with
  | nil => exact .nil
  | cons r t ih => rw [List.reverse_cons, List.reverse_cons]; exact Vals.append ih (.cons r .nil)
theorem Vals.rep {xs : List V} {us : List Value} (h : Vals xs us) : ∀ k : Nat, Vals (List.replicate k xs).flatten (List.replicate k us).flatten
  | 0 => .nil
  | k + 1 => by
    rw [List.replicate_succ, List.replicate_succ, List.flatten_cons, List.flatten_cons]
    exact Vals.append h (Vals.rep h k)
theorem foldl_rep (its : List Value) : ∀ (k : Nat) (acc : List Value),
    List.foldl (fun x1 x2 => x1 ++ x2) acc.toArray (List.replicate k its.toArray) = (acc ++ (List.replicate k its).flatten).toArray
  | 0, acc => by simp
  | k + 1, acc => by
    have e : acc.toArray ++ its.toArray = (acc ++ its).toArray := by simp
    have e2 : (acc ++ its) ++ (List.replicate k its).flatten = acc ++ (List.replicate (k + 1) its).flatten := by
      rw [List.replicate_succ, List.flatten_cons, List.append_assoc]
    rw [← e2, ← foldl_rep its k (acc ++ its), ← e, List.replicate_succ, List.foldl_cons]
section
variable {X : Cx} {pins : List (Addr × Obj)} {σ : St} {H : Hp} {s : Shared} {l b : Addr} {xs ys zs : List V}
theorem Inv.lset {its its' : List Value} {n : Nat} {f : Array Value → Array Value} {t' : Nat} (I : Inv X pins σ H s) (hH : H l = some (.lst xs))
    (e : s.heap.get? l = some { cls := .type "list", data := .seq its.toArray n }) (hf : f its.toArray = its'.toArray) (hv : Vals ys its') (hz : ys.length ≤ sizeLine) :
    Inv X pins σ (upd H l (.lst ys)) { s with heap := s.heap.update l (Obj.mapSeq f), toks := t' } := by
  have q := PySem.IsL.update e f
  rw [hf] at q
  refine I.write (x := l) (e := l) (by rw [hH]; exact trivial) (.inl rfl) (fun b' u hb hu => (Heap.get?_update_other s.heap (Obj.mapSeq f) (Ne.symm hb)).trans hu) ⟨_, q⟩ ?_
  exact ⟨hz, its', _, hv, q⟩
theorem Inv.lnew {its : List Value} {t' : Nat} (I : Inv X pins σ H s) (hv : Vals ys its) (hz : ys.length ≤ sizeLine) :
    Inv X pins σ (upd H s.heap.objs.size (.lst ys)) { s with heap := s.heap.push { cls := .type "list", data := .seq its.toArray }, toks := t' } :=
  I.laid (fun _ _ q => Heap.get?_push_of_some _ q) (Nat.le_refl _) ⟨hz, its, 0, hv, Heap.get?_push_size _ rfl⟩
theorem Inv.fresh (I : Inv X pins σ H s) : H s.heap.objs.size = none := I.hok.fresh (Nat.le_refl _)
theorem Inv.lstM (I : Inv X pins σ H s) (hH : H l = some (.lst xs)) : xs.length ≤ sizeLine ∧ ∃ (its : List Value) (n : Nat), Vals xs its ∧ xs.length = its.length ∧ s.heap.get? l = some { cls := .type "list", data := .seq its.toArray n } := by
  obtain ⟨z, its, n, r, e⟩ := I.hok l _ hH
  exact ⟨z, its, n, r, r.length, e⟩
theorem zcO {n : Nat} (h : n ≤ sizeLine) : Builtin.List.listTooLong n = false := by
  unfold Builtin.List.listTooLong
  exact decide_eq_false (by omega)
end
section
variable {X : Cx}
def zde : V → List V → Hp → VK → Prop := fun x vs H Q => ∃ l xs y, x = .ref l ∧ vs = [y] ∧ H l = some (.lst xs) ∧ xs.length < sizeLine ∧ Q .non (upd H l (.lst (xs ++ [y])))
theorem vQ : MtM X "list.append" zde := by
  intro pins s σ H x vs v us Q I rx rv h
  obtain ⟨l, xs, y, rfl, rfl, hH, hz, q⟩ := h
  cases rx
  obtain ⟨u, rfl, ru⟩ := rv.one
  obtain ⟨z, its, n, r, hl, e⟩ := I.lstM hH
  refine call_meets F.slot_list_append ⟨_, e, rfl⟩ F.entry_list_append (F.args_list_append_2 _ _) (PySem.list_append l its.toArray n u (by rw [List.size_toArray]; omega)) ⟨e, ?_⟩
  refine ⟨.non, _, I.lset (its' := its ++ [u]) hH e (by simp) (r.append (.cons ru .nil)) ?_, rfl, q⟩
  rw [List.length_append, List.length_singleton]
  omega
def zfC : R2 := fun x y H Q => ∃ l b xs zs, x = .ref l ∧ y = .ref b ∧ H l = some (.lst xs) ∧ H b = some (.lst zs) ∧ xs.length + zs.length ≤ sizeLine ∧ ∀ p, H p = none → Q (.ref p) (upd H p (.lst (xs ++ zs)))
theorem Wa : OpR X (binaryOp .Add) zfC := by
  intro pins s σ H x y v u Q I rx ry h
  obtain ⟨l, b, xs, zs, rfl, rfl, hH, hB, hz, q⟩ := h
  cases rx
  cases ry
  obtain ⟨z, its, n, r, hl, e⟩ := I.lstM hH
  obtain ⟨z2, its2, n2, r2, hl2, e2⟩ := I.lstM hB
  refine PySem.P.add_list e e2 ?_ (by rw [List.size_toArray, List.size_toArray]; omega)
  have ea : its.toArray ++ its2.toArray = (its ++ its2).toArray := by simp
  rw [ea]
  exact ⟨.ref _, _, I.lnew (t' := s.toks) (r.append r2) (by rw [List.length_append]; omega), rfl, q _ I.fresh⟩
def zfw : R2 := fun x y H Q => ∃ l k xs, x = .ref l ∧ y = .int k ∧ H l = some (.lst xs) ∧ -(2 ^ 63) ≤ k ∧ k < 2 ^ 63 ∧ xs.length * k.toNat ≤ sizeLine ∧
  ∀ p, H p = none → Q (.ref p) (upd H p (.lst (List.replicate k.toNat xs).flatten))
theorem len_rep {α : Type} (xs : List α) (k : Nat) : (List.replicate k xs).flatten.length = k * xs.length := by
  induction k with
  | zero => simp
  | succ k ih => rw [List.replicate_succ, List.flatten_cons, List.length_append, ih, Nat.succ_mul, Nat.add_comm]
theorem zcs : OpR X (binaryOp .Mult) zfw := by
  intro pins s σ H x y v u Q I rx ry h
  obtain ⟨l, k, xs, rfl, rfl, hH, h1, h2, hz, q⟩ := h
  cases rx
  obtain ⟨t, rfl⟩ := ry
  obtain ⟨z, its, n, r, hl, e⟩ := I.lstM hH
  have hlen : its.toArray.size * k.toNat ≤ sizeLine := by rw [List.size_toArray, ← hl]; exact hz
  have hcap : ¬ its.toArray.size * k.toNat > (2 ^ 63 - 1) / 8 := by
    have : (sizeLine : Nat) ≤ (2 ^ 63 - 1) / 8 := by decide
    omega
  have hfit : ¬ (!Builtin.List.listFitsIndex k) = true := by
    rw [fitsIndex_both h1 h2]
    exact Bool.false_ne_true
  have hlong : ¬ Builtin.List.listTooLong (its.toArray.size * k.toNat) = true := by
    rw [zcO hlen]
    exact Bool.false_ne_true
  have hnew : List.foldl (fun x1 x2 => x1 ++ x2) #[] (List.replicate (if its.toArray.isEmpty = true then 0 else k.toNat) its.toArray) = (List.replicate k.toNat its).flatten.toArray := by
    have f0 : ∀ m : Nat, List.foldl (fun x1 x2 => x1 ++ x2) #[] (List.replicate m its.toArray) = (List.replicate m its).flatten.toArray := fun m => by
      have := foldl_rep its m []
      rw [List.nil_append] at this
      exact this
    rw [f0]
    cases its with
    | nil => simp
    | cons a r' => rw [if_neg (by simp)]
  refine wpAny_binaryOp_repeat_ref (T := "list") (U := "int") (by decide) ⟨_, e, rfl⟩ (fun s' => typeIs_int s' k t) noFill_list_mul F.fills_int_mul F.slot_int_rmul repeat_list F.slot_int_index.lookup
    (call_meets F.slot_int_rmul (typeIs_int s k t) F.entry_int_rmul (F.args_int_rmul_2 _ _) (int___rmul___int_list k t l its.toArray n)
      ⟨e, rfl, ⟨_, e, rfl⟩, call_meets F.slot_list_mul ⟨_, e, rfl⟩ F.entry_list_mul (F.args_list_mul_2 _ _) (AutoListH.list___mul___list_int_3 l its.toArray n k t hfit hcap hlong) ⟨e, ?_⟩⟩)
  rw [hnew]
  exact ⟨.ref _, _, I.lnew (t' := s.toks) (r.rep k.toNat) (by rw [len_rep, Nat.mul_comm]; exact hz), rfl, q _ I.fresh⟩
end
section
variable {prog : Program} {w : World} {A : Around} {E : Value → Shared → Prop} {s : Shared}
end
section
variable {X : Cx}
end
end L2
namespace Att
open PySem PySem.W PySem.Calls PyProof.Rows
theorem Vy {P : Params} {h : Heap} : ∀ (ns : List Int) (vs : List Value), WellAll P h vs (ns.map WData.int) → IntsAre vs ns := by
  intro ns
  induction ns with
  | nil =>
    intro vs w
    rw [List.map_nil] at w
    cases w
    exact .nil
  | cons n ns ih =>
    intro vs w
    rw [List.map_cons] at w
    cases w with
    | cons a b =>
      cases a
      exact .cons _ _ (ih _ b)
theorem zbz {l : OpenLaw} {n : Nat} (hn : l.most = some n) {P : Params} {h : Heap} {args : List WData} {vals : List Value}
    (hpre : l.row.toRowW.claim.pre args = true) (hwl : WellAll P h vals args) :
    ∃ a vs ns, vals = [Value.ref a] ∧ args = [WData.list (ns.map WData.int)] ∧ h.get? a = some { cls := .type "list", data := .seq vs.toArray } ∧ IntsAre vs ns ∧ ns.length ≤ n := by
  have hsh : WShape.hasAll [] args [.list .int] = true := (pre_splitW hpre).1
  have hc : l.pre.holds [] { args := args } = true := (pre_splitW hpre).2
  obtain ⟨d, r, rfl, h1, h2⟩ := hasAllW_cons hsh
  obtain rfl := hasAllW_nil h2
  obtain ⟨xs, rfl, h3⟩ := hasW_list h1
  obtain ⟨ns, rfl⟩ := items_int h3
  have hlen : ns.length ≤ n := by
    unfold OpenLaw.pre at hc
    have h4 : (WTm.not (.lt (.lit (.int (n : Int))) (.len (.arg 0)))).holds [] { args := [.list (ns.map .int)] } = true := by
      have h4 := (holds_andW hc).1
      rw [hn] at h4
      exact h4
    have h5 := condW_of h4 (w_not (w_lt w_lit (w_len_list (w_arg rfl))))
    rw [List.length_map] at h5
    refine Nat.le_of_not_lt fun q => ?_
    have q' : (n : Int) < ((ns.length : Nat) : Int) := by omega
    first
      | (rw [decide_eq_true q'] at h5; exact absurd h5 (by decide))
      | (simp at h5; omega)
  cases hwl with
  | cons w1 w2 =>
    cases w2
    cases w1 with
    | list ho hall => exact ⟨_, _, ns, rfl, rfl, ho, Vy ns _ hall, hlen⟩
theorem zby (l : OpenLaw) (args : List WData) : l.row.toRowW.claim.post args (.bool true) args = true :=
  postW_of (r := l.row.toRowW) (X := (true == true))
    (show WShape.has [] (.bool true) .bool = true by first | rfl | decide | simp [WShape.has, WShape.arms, WShape.armsAll])
    (show (WTm.eq .res (.lit (.bool true))).value [] { args := args, res := some (.bool true), after := args } = some (.bool (true == true)) from w_eq_bool (w_res rfl) w_lit) rfl
theorem J2 {l : OpenLaw} {n : Nat} {q : Program} {loose : List Str} {XP : (Str → Option Value) → Heap → Prop} {YP : World → Heap → Prop} {d : DefRec}
    (hn : l.most = some n) (hdf : d.params.defaults = [])
    (call : ∀ (w : World) (s₀ s₁ : Shared) (mg mb : Str → Option Value) (fa : Addr) (o : Obj) (pm cd doc : Value) (a : Addr) (vs : List Value) (ns : List Int),
      Ground q loose [] XP w s₀ mg mb s₁.heap → YP w s₁.heap →
      s₁.heap.get? fa = some o → o.data = .func (docDef d.name d.params d.body d.scope pm cd doc) → s₁.heap.CodeRec cd d.name → mg d.name = some (.ref fa) →
      s₁.heap.get? a = some { cls := .type "list", data := .seq vs.toArray } → IntsAre vs ns → ns.length ≤ n → s₁.gens = #[] →
      codeAny (model l.prog w) callerA (.call (.ref fa) ⟨[.ref a], []⟩) (fun r s' => r = .ok (.ret (.bool true)) ∧ OldK s₁.heap s'.heap ∧ s'.os = s₁.os ∧ AllBare s'.gens) s₁) :
    WalkO q loose XP YP l.row.toRowW d [] (fun f vs => PySem.call f vs) := by
  intro w s₀ s₁ mg mb G Y fa o pm cd doc dV kV ho hd hcd hD hmg hg args vals as hpre hlay hrd hwl hlo
  obtain rfl : dV = .none := Dflts.none hD hdf
  obtain rfl : kV = .none := Dflts.noKw hD
  obtain ⟨a, vs, ns, rfl, rfl, hobj, hints, hlen⟩ := zbz hn hpre hwl
  refine enter_call (codeAny_mono (call w s₀ s₁ mg mb fa o pm cd doc a vs ns G Y ho (fd_plain hd) hcd hmg hobj hints hlen hg) fun r s' hq => ?_)
  obtain ⟨rfl, h2, h3, h4⟩ := hq
  exact ⟨.inl ⟨.bool true, .bool true, [], rfl, fun _ => rfl, .bool true, zby l _, fun _ => ⟨List.Pairwise.nil, fun _ hm => (nomatch hm)⟩⟩, h2, h3, h4⟩
section
variable {prog : Program} {w : World} {A : Around} {E : Value → Shared → Prop} {s : Shared} {K : Frag}
end
end Att
namespace L2
open PySem PySem.Spec PyProof.Rows
theorem QQ : ∀ {vs : List Value} {ns : List Int}, IntsAre vs ns → Vals (ns.map V.int) vs
  | _, _, .nil => .nil
  | _, _, .cons n t h => .cons ⟨t, rfl⟩ (QQ h)
def inClass (s : Stmt) (j : Nat) : Stmt := match s with
  | .ClassDef _ _ _ body _ _ _ _ _ _ _ => body.getD j (.Pass ⟨0, 0, 0, 0⟩)
  | _ => .Pass ⟨0, 0, 0, 0⟩
def ux (s : Stmt) : Arguments := match s with
  | .FunctionDef _ a _ _ _ _ _ _ _ _ => a
  | _ => { posonlyargs := [], args := [], vararg := none, kwonlyargs := [], kw_defaults := [], kwarg := none, defaults := [] }
def wN (s : Stmt) : List Stmt := match s with
  | .FunctionDef _ _ b _ _ _ _ _ _ _ => b
  | _ => []
def zu (s : Stmt) : Scope := match s with
  | .FunctionDef _ _ _ _ _ _ sc _ _ _ => sc
  | _ => { kind := .function, names := [], isGenerator := false, isCoroutine := false }
abbrev CX0 : CXT := fun _ _ _ _ _ _ => False
abbrev E0 : XK := fun _ _ _ => False
theorem XD {X : Cx} : WQ CX0 X E0 := fun _ _ _ _ _ _ _ h => h.elim
structure Fun (K : PySem.W.Frag) (x qual : Str) (st : Stmt) (f : Addr) (fd : FuncData) : Prop where
  ex : ∃ (oc : Value) (od : Option Addr) (kV doc pm : Value) (an : Option Addr) (cdv ct : Value) (osl : Array (Option Value)),
    fd = PySem.W.fnOf x qual (ux st) (wN st) (zu st) .none kV doc pm an cdv ct ∧ K.lookup f = some ⟨oc, od, .func fd, osl⟩ ∧ PySem.W.codeIn K cdv qual = true
  kp : PySem.W.keepIn K (.ref f) = true
section
variable {P : Program} {w : World} {K : PySem.W.Frag} {mg : Str → Option Value} {base : Heap}
theorem Fun.ok {x qual : Str} {st : Stmt} {f : Addr} {fd : FuncData} {N ps : List Str} {k : Nat} {sp : Sp} (F : Fun K x qual st f fd) (S : zG N ps (zu st)) (len : ∀ vs H Q E, sp vs H Q E → vs.length = ps.length)
    (hbody : ∀ (cdv : Value) (A : Around) (outer : List Env) (s : Shared) (H : Hp) (vs : List V) (Q : VK) (E : XK), Room k (A.deeper (envOfC qual (zu st) s.heap.objs.size f cdv)) → sp vs H Q E →
      ∃ t, PSs (Vs CX0 P w K mg base N qual (zu st) f cdv A outer s H E).nox (wN st) t ∧ t { nx := fun _ H' => Q .non H', rt := Q } (start N vs) H) : FnOk P w K mg base CX0 (k + 1) f fd ps sp := by
  obtain ⟨oc, od, kV, doc, pm, an, cdv, ct, osl, rfl, lk, hcd⟩ := F.ex
  refine zdE lk hcd S len fun A outer s H vs Q E hr hsp => ?_
  obtain ⟨t, h, q⟩ := hbody cdv A outer s H vs Q E hr hsp
  exact ⟨t, h.nox, q⟩
theorem Fun.binds {x qual : Str} {st : Stmt} {f : Addr} {fd : FuncData} {ps : List Str} (F : Fun K x qual st f fd)
    (h : ∀ (kV doc pm : Value) (an : Option Addr) (cdv ct : Value) (us : List Value), us.length = ps.length → bindArgs (PySem.W.fnOf x qual (ux st) (wN st) (zu st) .none kV doc pm an cdv ct) ⟨us, []⟩ = pure (ps.zip us)) : Binds K fd ps [] := by
  obtain ⟨oc, od, kV, doc, pm, an, cdv, ct, osl, rfl, lk, hcd⟩ := F.ex
  exact .all (h kV doc pm an cdv ct)
theorem Jt {x qual : Str} {st : Stmt} {f : Addr} {oc : Value} {od an : Option Addr} {osl : Array (Option Value)} {kV doc pm cdv ct : Value} (l : K.lookup f = some ⟨oc, od, .func (PySem.W.fnOf x qual (ux st) (wN st) (zu st) .none kV doc pm an cdv ct), osl⟩)
    (c : PySem.W.codeIn K cdv qual = true) (k : PySem.W.keepIn K (.ref f) = true) : Fun K x qual st f (PySem.W.fnOf x qual (ux st) (wN st) (zu st) .none kV doc pm an cdv ct) := ⟨⟨oc, od, kV, doc, pm, an, cdv, ct, osl, rfl, l, c⟩, k⟩
end
theorem zeC {A : Around} {k : Nat} (hr : Room k A) : A.units + 1 < cLine := Nat.lt_of_le_of_lt (Nat.add_le_add_left (by decide : 1 ≤ 64) _) hr.units
section
variable {X : Cx}
theorem pv (i : Nat) {x : Str} {pos : Pos} (hN : X.N[i]? = some x := by rfl) (hv : Vis X.env.scope x := by first | exact Or.inl rfl | exact Or.inr (Or.inl rfl) | exact Or.inr (Or.inr rfl)) (hd : (x == ("__debug__" : Str)) = false := by decide)
    (hcd : (x == ("__classdict__" : Str)) = false := by decide) : PE X (.Name x pos) (zfd i) := zdS hN hv hd hcd
end
theorem qZ {A B : Prop} (h : B) : if false = true then A else B := by
  rw [if_neg Bool.false_ne_true]
  exact h
theorem ji {A B : Prop} (h : A) : if true = true then A else B := by
  rw [if_pos rfl]
  exact h
theorem Vu {c A B : Prop} [Decidable c] (h1 : c → A) (h2 : ¬ c → B) : if c then A else B := by
  by_cases h : c
  · rw [if_pos h]
    exact h1 h
  · rw [if_neg h]
    exact h2 h
def Same (H H' : Hp) : Prop := ∀ b o, H b = some o → H' b = some o
theorem Same.refl (H : Hp) : Same H H := fun _ _ h => h
theorem Same.trans {H H1 H2 : Hp} (a : Same H H1) (b : Same H1 H2) : Same H H2 := fun c o h => b c o (a c o h)
theorem Same.free {H H' : Hp} (e : Same H H') {l : Addr} (h : H' l = Option.none) : H l = Option.none := by
  cases q : H l with
  | none => rfl
  | some o =>
    rw [e l o q] at h
    cases h
theorem Same.seq {K : PySem.W.Frag} {H H' : Hp} {a : Addr} {xs : List V} (e : Same H H') (h : SqL K H a xs) : SqL K H' a xs := by
  rcases h with (h | ⟨o, h⟩) | h
  · exact .inl (.inl (e _ _ h))
  · exact .inl (.inr ⟨o, e _ _ h⟩)
  · exact .inr h
def vm (cells : List (Str × Addr)) : List (Str × NameKind) → List (Str × Addr) → List (Str × Addr)
  | [], cs => cs
  | (n, k) :: r, cs => vm cells r (if k = .free then (match cells.lookup n with | some c => (n, c) :: cs | none => cs) else cs)
theorem YJ {env : Env} : ∀ (names : List (Str × NameKind)) (cs : List (Str × Addr)), (∀ x ∈ names, x.2 = .free → ∃ c, env.cells.lookup x.1 = some c) →
    (forIn names cs fun (x : Str × NameKind) (r : List (Str × Addr)) => if (x.2 == .free) = true then (do let c ← cellOf env x.1; pure (ForInStep.yield ((x.1, c) :: r)) : Sem _) else pure (ForInStep.yield r)) = pure (vm env.cells names cs)
  | [], cs, _ => rfl
  | (n, k) :: r, cs, h => by
    have ih := fun cs' => YJ (env := env) r cs' fun x hx => h x (List.mem_cons_of_mem _ hx)
    rw [List.forIn_cons]
    by_cases hk : k = .free
    · subst hk
      obtain ⟨c, hc⟩ := h (n, .free) List.mem_cons_self rfl
      have e : cellOf env n = pure c := by unfold cellOf; rw [hc]
      simp only [beq_self_eq_true, if_true, e, pure_bind, vm, hc]
      exact ih _
    · have hb : (k == NameKind.free) = false := by simpa using hk
      simp only [hb, Bool.false_eq_true, if_false, pure_bind, vm, hk]
      exact ih _
theorem ZP {scope : Scope} {env : Env} (h : ∀ x ∈ scope.names, x.2 = .free → ∃ c, env.cells.lookup x.1 = some c) : closureFor scope env = pure (vm env.cells scope.names []) := by
  have e := YJ scope.names [] h
  unfold closureFor
  first
    | (simp only [bind_pure]; exact e)
    | (show (forIn scope.names [] _ >>= fun r => pure r) = _
       rw [show (forIn scope.names ([] : List (Str × Addr)) _ : Sem _) = _ from e]
       rfl)
theorem uP {cells : List (Str × Addr)} {y : Str} {c : Addr} : ∀ {names : List (Str × NameKind)} {cs : List (Str × Addr)}, (∀ y c, cs.lookup y = some c → cells.lookup y = some c) → (vm cells names cs).lookup y = some c → cells.lookup y = some c
  | [], cs, h, e => h y c e
  | (n, k) :: r, cs, h, e => by
    refine uP (names := r) ?_ e
    intro y' c' e'
    by_cases hk : k = .free
    · rw [if_pos hk] at e'
      cases q : cells.lookup n with
      | none => rw [q] at e'; exact h _ _ e'
      | some d =>
        rw [q] at e'
        simp only [List.lookup_cons] at e'
        cases hb : y' == n with
        | true =>
          rw [hb] at e'
          cases e'
          have : y' = n := by simpa using hb
          rw [this]; exact q
        | false => rw [hb] at e'; exact h _ _ e'
    · rw [if_neg hk] at e'; exact h _ _ e'
theorem Wc {cells : List (Str × Addr)} {y : Str} : ∀ {names : List (Str × NameKind)} {cs : List (Str × Addr)}, ((∃ c, cs.lookup y = some c) ∨ ((y, NameKind.free) ∈ names ∧ ∃ c, cells.lookup y = some c)) → ∃ c, (vm cells names cs).lookup y = some c
  | [], cs, h => by
    rcases h with h | ⟨h, _⟩
    · exact h
    · cases h
  | (n, k) :: r, cs, h => by
    refine Wc (names := r) ?_
    rcases h with ⟨c, h⟩ | ⟨h, c, hc⟩
    · left
      by_cases hk : k = .free
      · rw [if_pos hk]
        cases q : cells.lookup n with
        | none => exact ⟨c, h⟩
        | some d =>
          simp only [List.lookup_cons]
          cases hb : y == n with
          | true => exact ⟨d, rfl⟩
          | false => exact ⟨c, h⟩
      · rw [if_neg hk]; exact ⟨c, h⟩
    · rcases List.mem_cons.mp h with e | h
      · cases e
        left
        rw [if_pos rfl, hc]
        exact ⟨c, by simp⟩
      · exact .inr ⟨h, c, hc⟩
theorem wF {env : Env} : ∀ {names : List (Str × NameKind)} {x : Str} {k : NameKind},
    (names.map fun (n, k) => if (k == NameKind.free && env.scope.kind == .function && env.kindOf n == some .cell) then (n, NameKind.cell) else (n, k)).lookup x = some k → names.lookup x = some k ∨ (k = .cell ∧ names.lookup x = some .free)
  | [], _, _, h => by simp at h
  | (n, k0) :: r, x, k, h => by
    have ih := @wF env r x k
    rw [List.map_cons] at h
    by_cases hc : (k0 == NameKind.free && env.scope.kind == .function && env.kindOf n == some .cell) = true
    · simp only [hc, if_true, List.lookup_cons] at h
      have hk0 : k0 = .free := by
        simp only [Bool.and_eq_true] at hc
        simpa using hc.1.1
      cases hx : x == n with
      | true => rw [hx] at h; cases h; right; simp [List.lookup_cons, hx, hk0]
      | false => rw [hx] at h; simp only [List.lookup_cons, hx]; exact ih h
    · have hc' : (k0 == NameKind.free && env.scope.kind == .function && env.kindOf n == some .cell) = false := by simpa using hc
      simp only [hc', Bool.false_eq_true, if_false, List.lookup_cons] at h
      cases hx : x == n with
      | true => rw [hx] at h; cases h; left; simp [List.lookup_cons, hx]
      | false => rw [hx] at h; simp only [List.lookup_cons, hx]; exact ih h
def cxC (X : Cx) (N : List Str) (scope : Scope) (C : Addr) (s₀ : Shared) (H₀ : Hp) (ex : List Addr) : Cx where
  prog := X.prog
  w := X.w
  K := X.K
  mg := X.mg
  base := X.base
  A := X.A
  N := N
  s₀ := s₀
  H₀ := H₀
  env := compEnvC scope (vm X.env.cells scope.names []) C X.env
  outer := X.stack
  stack := X.stack
  ex := ex
  fn := fun _ => false
  calm := X.calm
  pn := []
  xe := fun _ _ => False
def vh (js : List Nat) (σ : St) : St := js.map fun j => (σ[j]?).join
theorem zab {js : List Nat} {σ : St} {i : Nat} {v : V} (h : (vh js σ)[i]? = some (some v)) : ∃ j, js[i]? = some j ∧ σ[j]? = some (some v) := by
  unfold vh at h
  rw [List.getElem?_map] at h
  cases e : js[i]? with
  | none => rw [e] at h; cases h
  | some j =>
    rw [e] at h
    have h' : (σ[j]?).join = some v := Option.some.inj h
    refine ⟨j, rfl, ?_⟩
    cases q : σ[j]? with
    | none => rw [q] at h'; cases h'
    | some z => rw [q] at h'; exact congrArg some h'
structure CScope (sc : Scope) (scope : Scope) (x : Str) (M : List Str) (ys : List Str) (js : List Nat) : Prop where
  kind : scope.kind = .function
  cell : ∀ y ∈ scope.names, y.2 ≠ .cell
  loc : ∀ y ∈ scope.names, y.2 = .local → scope.names.lookup y.1 = some .local
  var : scope.names.lookup x = some .local
  free : ∀ y ∈ scope.names, y.2 = .free → sc.names.lookup y.1 = some .cell ∨ sc.names.lookup y.1 = some .free
  caps : js.map (M[·]?) = ys.map some
  fr : ∀ y ∈ ys, scope.names.lookup y = some .free
  nd : (x :: ys).Nodup
section
variable {X : Cx} {pins : List (Addr × Obj)} {σ : St} {H : Hp} {s : Shared}
theorem zcG {scope : Scope} {x : Str} {ys : List Str} {js : List Nat} {fp : List Addr} {h₁ : Heap} {tk : Nat} {C : Addr} (I : Inv X pins σ H s) (S : CScope X.env.scope scope x X.N ys js) (hf : ∀ b ∈ fp, WF X pins H b) (ho : ∀ b ∈ fp, ∃ o, s.heap.get? b = some o)
    (hC : s.heap.objs.size ≤ C) (hk : ∀ b o, s.heap.get? b = some o → h₁.get? b = some o) (hn : h₁.Ns C fun _ => none) :
    Inv (cxC X (x :: ys) scope C s H fp) [] (none :: vh js σ) H { s with heap := h₁, toks := tk } := by
  have sub : ∀ y c, (vm X.env.cells scope.names []).lookup y = some c → X.env.cells.lookup y = some c := fun y c e => uP (fun _ _ z => by simp at z) e
  have has : ∀ y, scope.names.lookup y = some .free → ∃ c, (vm X.env.cells scope.names []).lookup y = some c := fun y e => by
    have m : (y, NameKind.free) ∈ scope.names := PySem.mem_of_lookup e
    exact Wc (.inr ⟨m, I.ok.has y (S.free _ m rfl)⟩)
  have lt : ∀ b ∈ fp, b < s.heap.objs.size := fun b hb => by obtain ⟨o, e⟩ := ho b hb; exact Heap.lt_size e
  have ok : (cxC X (x :: ys) scope C s H fp).Ok := by
    refine ⟨I.ok.mod, S.kind, I.ok.glob, I.ok.blt, hC, fun y z c e1 e2 => I.ok.inj y z c (sub _ _ e1) (sub _ _ e2), fun y hy => ?_, fun y c z => ?_, I.ok.hd, I.ok.frames, .inl rfl, fun b hb => ?_, I.bs, Nat.le_trans I.ok.bsz I.sz, fun b o e hb => ?_, fun b hb z => ?_, I.stack, I.stkFree⟩
    · have hy' : (relabel scope X.env).names.lookup y = some .cell ∨ (relabel scope X.env).names.lookup y = some .free := hy
      have nocell : scope.names.lookup y ≠ some .cell := fun z => S.cell _ (PySem.mem_of_lookup z) rfl
      rcases hy' with e | e
      · rcases wF e with z | ⟨_, z⟩
        · exact absurd z nocell
        · exact has y z
      · rcases wF e with z | ⟨z, _⟩
        · exact has y z
        · cases z
    · exact absurd (show false = true from z) Bool.false_ne_true
    · refine ⟨Nat.ne_of_lt (Nat.lt_of_lt_of_le (lt b hb) hC), fun y c e => (hf b hb).2.2.2.2.1 y c (sub y c e)⟩
    · rcases (hf b hb).2.2.2.1 with z | z
      · exact I.ok.noex b o e z
      · exact absurd (Nat.lt_of_lt_of_le (Heap.lt_size e) (Nat.le_trans I.ok.bsz z)) (Nat.lt_irrefl _)
    · rcases List.mem_cons.mp (I.stkSub b z) with e | e
      · exact (hf b hb).2.1 e
      · exact (hf b hb).2.2.1 e
  refine ⟨ok, rfl, I.bare, Un.kept hk, ⟨_, hn, fun i y v e1 e2 e3 => ?_⟩, fun y c e => ?_, I.hok.fresh hC, fun y c e => I.freeC y c (sub y c e), fun p hp => absurd (show p ∈ ([] : List (Addr × Obj)) from hp) (by simp), I.hok.kept hk, ?_⟩
  · cases i with
    | zero => simp at e2
    | succ i =>
      have e1' : ys[i]? = some y := by simpa [cxC] using e1
      have e2' : (vh js σ)[i]? = some (some v) := by simpa using e2
      obtain ⟨j, hj, hσ⟩ := zab e2'
      have hN : X.N[j]? = some y := by
        have z := congrArg (fun l => l[i]?) S.caps
        simp only [List.getElem?_map, hj, e1', Option.map_some] at z
        exact Option.some.inj z
      have hfr := S.fr y (List.mem_of_getElem? e1')
      have m : (y, NameKind.free) ∈ scope.names := PySem.mem_of_lookup hfr
      have hkind := S.free _ m rfl
      obtain ⟨m', hns, hl⟩ := I.loc
      obtain ⟨u, r, lk⟩ := hl j y v hN hσ (by rcases hkind with z | z; exact .inr (.inl z); exact .inr (.inr z))
      refine ⟨u, r, .inr ⟨?_, ?_⟩⟩
      · have e3' : (relabel scope X.env).names.lookup y = some .local ∨ (relabel scope X.env).names.lookup y = some .cell ∨ (relabel scope X.env).names.lookup y = some .free := e3
        rcases e3' with z | z | z
        · rcases wF z with q | ⟨q, _⟩
          · rw [hfr] at q; cases q
          · cases q
        · exact .inl z
        · exact .inr z
      · obtain ⟨c, hc⟩ := has y hfr
        refine ⟨c, hc, ?_⟩
        rcases lk with ⟨z, _⟩ | ⟨_, c', hc', cell⟩
        · rcases hkind with q | q
          · have q' : X.env.kindOf y = some .cell := q
            rw [show X.env.kindOf y = some .local from z] at q'; cases q'
          · have q' : X.env.kindOf y = some .free := q
            rw [show X.env.kindOf y = some .local from z] at q'; cases q'
        · rw [sub y c hc] at hc'
          cases hc'
          obtain ⟨o, e, d⟩ := cell
          exact ⟨o, hk _ _ e, d⟩
  · obtain ⟨v, o, e', d⟩ := I.cell y c (sub y c e)
    exact ⟨v, o, hk _ _ e', d⟩
  · have z := congrArg List.length S.caps
    simp only [List.length_map] at z
    show (none :: vh js σ).length = (x :: ys).length
    simp [vh, z]
end
theorem zbO {α β : Type} {M : Model} {A : Around} {a : α} {Q : α → Shared → Prop} {E E' : Value → Shared → Prop} {s : Shared} {t : Sem β} {Q' : β → Shared → Prop} (h : wpAny M A (pure a) Q E s) (k : Q a s → wpAny M A t Q' E' s) : wpAny M A t Q' E' s :=
  fun Γ p hΓ => k (h Γ p hΓ) Γ p hΓ
def PTs (X : Cx) (ifs : List Expr) (t : TT) : Prop :=
  ∀ (pins : List (Addr × Obj)) (s : Shared) (σ : St) (H : Hp) (Q : Bool → Hp → Prop), Inv X pins σ H s → t σ H Q →
    wpAny (model X.prog X.w) X.A (forIn ifs true fun c r => if r = true then do let ok ← isTrue c X.env (eval c X.env); pure (ForInStep.yield ok) else pure (ForInStep.yield r)) (TP X pins σ Q) X.xe s
def YS : TT := fun _ H Q => Q true H
theorem wK {X : Cx} : PTs X [] YS := fun pins s σ H Q I h => wpAny_tests_nil ⟨H, I, h⟩
theorem zdi {X : Cx} {c : Expr} {t : TT} (h : PT X c t) : PTs X [c] t := fun pins s σ H Q I hw => wpAny_tests_one (h pins s σ H Q I hw)
def Us (J : It) (js : List Nat) (tt : TT) (te : TE) (σ : St) (Q : VK) (H : Hp) : Prop := ∃ W : Nat → Nat → List V → Hp → Prop, (∃ m, W 0 m [] H) ∧ ∀ i m ys H, W i m ys H →
  (J.stop i H ∧ ∀ D, H D = none → Q (.ref D) (upd H D (.lst ys))) ∨
  (J.go i H ∧ ys.length < sizeLine ∧ ∃ N : List V → Hp → Prop, (∀ ys' H', N ys' H' → ∃ m', m' < m ∧ W (i + 1) m' ys' H') ∧ ∀ x H', J.yld i H x H' → tt (some x :: vh js σ) H' fun b H2 => if b = true then te (some x :: vh js σ) H2 fun v H3 => N (ys ++ [v]) H3 else N ys H2)
def zdy (wi : TI) (js : List Nat) (tt : TT) (te : TE) : TE := fun σ H Q => wi σ H fun J H1 => Us J js tt te σ Q H1
theorem HOk.track {P : Program} {w : World} {H : Hp} {h : Heap} {a : Addr} {o : HO} (x : HOk P w H h) (hn : H a = none) (new : ObjOk P w (upd H a o) h a o) : HOk P w (upd H a o) h := fun b u e => by
  by_cases hb : b = a
  · subst hb; rw [zm] at e; cases e; exact new
  · rw [zx hb] at e
    exact (x b u e).stay (fun _ _ _ q => q) (fun c q => by rw [zx (zB q hn)]; exact q) fun c xs q => by rw [zx (zB q hn)]; exact q
section
variable {X : Cx} {elt iter : Expr} {ifs : List Expr} {x : Str} {px pos : Pos} {scope : Scope} {ys : List Str} {js : List Nat} {wi : TI} {tt : TT} {te : TE}
theorem Um {pins : List (Addr × Obj)} {σ : St} {H : Hp} {s : Shared} {J : It} {fp : List Addr} {it : Addr} {tn : Nat → Heap → Prop} {Q : VK} {E : Value → Shared → Prop} {R : Value → Addr → Result → Shared → Prop}
    (S : CScope X.env.scope scope x X.N ys js) (hc : X.calm = true) (ht : ∀ C s₀ H₀ ex, PTs (cxC X (x :: ys) scope C s₀ H₀ ex) ifs tt) (he : ∀ C s₀ H₀ ex, PE (cxC X (x :: ys) scope C s₀ H₀ ex) elt te)
    (I : Inv X pins σ H s) (T : Turn X.prog X.w X.K (.Name x px) J fp it tn) (st : tn 0 s.heap) (hf : ∀ b ∈ fp, WF X pins H b)
    (hw : ∃ W : Nat → Nat → List V → Hp → Prop, (∃ m, W 0 m [] H) ∧ ∀ i m zs H, W i m zs H →
      (J.stop i H ∧ ∀ D, H D = none → Q (.ref D) (upd H D (.lst zs))) ∨
      (J.go i H ∧ zs.length < sizeLine ∧ ∃ N : List V → Hp → Prop, (∀ ys' H', N ys' H' → ∃ m', m' < m ∧ W (i + 1) m' ys' H') ∧ ∀ x H', J.yld i H x H' → tt (some x :: vh js σ) H' fun b H2 => if b = true then te (some x :: vh js σ) H2 fun v H3 => N (zs ++ [v]) H3 else N zs H2))
    (hR : ∀ D C s' H' m', Inv X pins σ H' s' → Q (.ref D) H' → s.heap.objs.size ≤ C → H' C = none → s'.heap.Ns C m' → R (.ref D) C (.ok .next) s') :
    wpAny (model X.prog X.w) X.A (newList []) (fun acc s₃ => wpAny (model X.prog X.w) X.A (newFunctionEnv scope X.env.globals (vm X.env.cells scope.names []) [] X.env.qual none .none (some X.env)) (fun cenv s₄ =>
      codeAny (model X.prog X.w) X.A (.compStart (.ListComp elt [⟨.Name x px, iter, ifs, 0⟩] scope pos) 0 (.ref it) acc { cenv with scope := relabel scope X.env }) (R acc cenv.locals) s₄) E s₃) E s := by
  obtain ⟨W, ⟨m0, w0⟩, turn⟩ := hw
  refine wpAny_newObj_type (wpAny_newFunctionEnv S.cell (by intro y hy; simp at hy) (fun h₁ hns₁ hsb₁ => ?_) S.kind)
  dsimp only at hns₁ hsb₁ ⊢
  generalize hH2 : s.heap.push { cls := .type "list", dict := none, data := .seq ([] : List Value).toArray } = G at hns₁ hsb₁ ⊢
  generalize hD : s.heap.objs.size = D at *
  generalize hCe : G.objs.size = C at *
  have hC : C = D + 1 := by rw [← hCe, ← hH2, Heap.size_push, hD]
  have hDlt : D < C := by rw [hC]; exact Nat.lt_succ_self D
  have hDC : D ≠ C := Nat.ne_of_lt hDlt
  have old : ∀ b o, s.heap.get? b = some o → h₁.get? b = some o := fun b o e => by
    have hb : b < D := hD ▸ Heap.lt_size e
    exact (hsb₁.2 b (Nat.ne_of_lt (Nat.lt_trans hb hDlt))).trans (Heap.get?_push_of_some _ (hH2 ▸ Heap.get?_push_of_some _ e))
  have hacc : h₁.get? D = some { cls := .type "list", data := .seq ([] : List Value).toArray 0 } := by
    refine (hsb₁.2 D hDC).trans (Heap.get?_push_of_some _ ?_)
    rw [← hH2, ← hD]
    exact Heap.get?_push_size _ rfl
  have obj0 := T.obj 0 _ st
  have fplt : ∀ b ∈ fp, b < D := fun b hb => by obtain ⟨o, e, _⟩ := obj0 b hb; exact hD ▸ Heap.lt_size e
  generalize hX : cxC X (x :: ys) scope C s H fp = X'
  have I1 : Inv X' [] (none :: vh js σ) H { s with heap := h₁, toks := s.toks + ([] : List (Str × Value)).length } := by
    subst hX
    exact zcG I S hf (fun b hb => by obtain ⟨o, e, _⟩ := obj0 b hb; exact ⟨o, e⟩) (by omega) old (by simpa using hns₁)
  have eP : X'.prog = X.prog := by subst hX; rfl
  have eW : X'.w = X.w := by subst hX; rfl
  have eK : X'.K = X.K := by subst hX; rfl
  have eA : X'.A = X.A := by subst hX; rfl
  have eC : X'.calm = true := by subst hX; exact hc
  have eL : X'.env.locals = C := by subst hX; rfl
  have eS : X'.s₀ = s := by subst hX; rfl
  have eN : X'.N = x :: ys := by subst hX; rfl
  have eE : X'.env = compEnvC scope (vm X.env.cells scope.names []) C X.env := by subst hX; rfl
  have eXe : X'.xe = fun _ _ => False := by subst hX; rfl
  have eX : X'.ex = fp := by subst hX; rfl
  have ePn : X'.pn = [] := by subst hX; rfl
  have efs : ∀ b, b ∈ X'.fs → b ∈ frs X.stack := fun b z => by subst hX; exact z
  have cellLt : ∀ y c, X'.env.cells.lookup y = some c → c < D := fun y c e => by
    have e' : (vm X.env.cells scope.names []).lookup y = some c := by rw [eE] at e; exact e
    obtain ⟨v, o, e2, _⟩ := I.cell y c (uP (fun _ _ z => by simp at z) e')
    exact hD ▸ Heap.lt_size e2
  have frLt : ∀ b, b ∈ X'.fs → b < D := fun b z => by
    rcases List.mem_cons.mp (I.stkSub b (efs b z)) with e | e
    · rw [e]; exact hD ▸ I.lt
    · exact Nat.lt_of_not_le fun h => I.nofs (hD ▸ h) e
  have fpOk : ∀ (p : List (Addr × Obj)) (H' : Hp), (∀ b ∈ fp, H' b = none) → (∀ q ∈ p, q.1 = D) → ∀ b ∈ fp, WF X' p H' b := fun p H' hn hp b hb => by
    refine ⟨hn b hb, ?_, fun z => ?_, .inl (eX ▸ hb), fun y c e => ?_, fun q hq => ?_⟩
    · rw [eL]; exact Nat.ne_of_lt (Nat.lt_trans (fplt b hb) hDlt)
    · rcases List.mem_cons.mp (I.stkSub b (efs b z)) with e | e
      · exact (hf b hb).2.1 e
      · exact (hf b hb).2.2.1 e
    · have e' : (vm X.env.cells scope.names []).lookup y = some c := by rw [eE] at e; exact e
      exact (hf b hb).2.2.2.2.1 y c (uP (fun _ _ z => by simp at z) e')
    · rw [ePn, List.nil_append] at hq
      rw [hp q hq]; exact Nat.ne_of_gt (fplt b hb)
  have noCell : ∀ (its : List Value) (k : Nat) v, ({ cls := .type "list", data := .seq its.toArray k } : Obj).data ≠ .cell v := fun its k v z => by cases z
  have done : ∀ {zs : List V} {its : List Value} {k : Nat} {H' : Hp} {s' : Shared}, Inv X' [] (none :: vh js σ) H' s' → s'.heap.get? D = some { cls := .type "list", data := .seq its.toArray k } → Vals zs its → H' D = none → zs.length ≤ sizeLine →
      (∀ D, H' D = none → Q (.ref D) (upd H' D (.lst zs))) → R (.ref D) C (.ok .next) s' := fun {zs its k H' s'} I' hd hv hn hz q => by
    have un := I'.base
    obtain ⟨m', hns, _⟩ := I'.loc
    rw [eL] at hns
    have hCn : H' C = none := by have := I'.free; rw [eL] at this; exact this
    have hH0 : X'.H₀ = H := by subst hX; rfl
    rw [hH0, eS, eX] at un
    have un2 : Un (frs X.stack) fp H (upd H' D (.lst zs)) s.heap s'.heap := by
      have ne : ∀ b o, s.heap.get? b = some o → b ≠ D := fun b o e => Nat.ne_of_lt (hD ▸ Heap.lt_size e)
      have un' : Un (frs X.stack) fp H H' s.heap s'.heap := by subst hX; exact un
      exact ⟨un'.keep, un'.slot, fun b o e n hx => by rw [zx (ne b o e)]; exact un'.free b o e n hx, un'.there, fun b xs e => by rw [zx (zB (un'.tups b xs e) hn)]; exact un'.tups b xs e,
        fun b o u e => by rw [zx (zB (un'.frzs b o u e) hn)]; exact un'.frzs b o u e, fun b ps e => by
          obtain ⟨more, z⟩ := un'.tbls b ps e
          exact ⟨more, by rw [zx (zB z hn)]; exact z⟩⟩
    have hok : HOk X.prog X.w (upd H' D (.lst zs)) s'.heap := by
      have h0 := I'.hok
      rw [eP, eW] at h0
      exact h0.track hn ⟨hz, its, k, hv, hd⟩
    have I2 : Inv X pins σ (upd H' D (.lst zs)) s' := I.call' (by have := I'.os; rw [eS] at this; exact this) un2 hok I'.bare fun b hb => ⟨(hf b hb).2.2.2.1, (hf b hb).2.1, (hf b hb).2.2.2.2.1, (hf b hb).2.2.2.2.2⟩
    exact hR D C s' _ m' I2 (q D hn) (by omega) (by rw [zx (Ne.symm hDC)]; exact hCn) hns
  have loop : codeAny (model X.prog X.w) X.A (.compLoop (.ListComp elt [⟨.Name x px, iter, ifs, 0⟩] scope pos) 0 (.ref it) (.ref D) X'.env) (R (.ref D) C) { s with heap := h₁, toks := s.toks + ([] : List (Str × Value)).length } := by
    refine codeAny_compLoop_tests (fun n s' => ∃ i zs its k H', Inv X' [] (none :: vh js σ) H' s' ∧ tn i s'.heap ∧ (∀ b ∈ fp, H' b = none) ∧ s'.heap.get? D = some { cls := .type "list", data := .seq its.toArray k } ∧ Vals zs its ∧ H' D = none ∧ zs.length ≤ sizeLine ∧ W i n zs H')
      ?_ m0 ⟨0, [], [], 0, H, I1, T.keep _ _ _ st (fun b hb o e => old b o e), fun b hb => (hf b hb).1, hacc, .nil, I.hok.fresh (by omega), Nat.zero_le _, w0⟩ (fun _ => rfl)
    rintro n s3 ⟨i, zs, its, k, H3, I3, st3, fr3, d3, v3, n3, z3, w3⟩
    have pinD : Inv X' [(D, { cls := .type "list", data := .seq its.toArray k })] (none :: vh js σ) H3 s3 := I3.pins_of fun p hp => by
      have e : p = (D, { cls := .type "list", data := .seq its.toArray k }) := by simpa using hp
      subst e
      exact ⟨d3, n3, by rw [eL]; exact hDC, fun z => Nat.lt_irrefl _ (frLt D z), noCell its k⟩
    have hpD : ∀ q ∈ [(D, ({ cls := .type "list", data := .seq its.toArray k } : Obj))], q.1 = D := fun q hq => by
      have e : q = (D, { cls := .type "list", data := .seq its.toArray k }) := by simpa using hq
      rw [e]
    rcases turn i n zs H3 w3 with ⟨stop, qn⟩ | ⟨go, hzl, NN, hNN, step⟩
    · refine thn (eA ▸ T.done X' eP eW eK eC i _ s3 _ H3 _ pinD (fpOk _ _ fr3 hpD) st3 stop) fun r s4 ⟨hr, I4⟩ => ?_
      subst hr
      exact done (I4.pins_of fun p hp => absurd hp (by simp)) (I4.pin (D, { cls := .type "list", data := .seq its.toArray k }) (List.mem_append_right _ (by simp))).1 v3 n3 z3 qn
    · refine thn (eA ▸ T.item X' eP eW eK eC i _ s3 _ H3 _ pinD (fpOk _ _ fr3 hpD) st3 go) fun r s4 ⟨u, hr, h4⟩ => ?_
      subst hr
      refine zbO (a := ()) h4 fun ⟨v, H5, I5, r5, y5, st5, fr5⟩ => ?_
      have I5' := I5.pinned (fpOk _ _ fr5 hpD) (T.obj _ _ st5)
      have ev : ∀ {α : Type} {t : Sem α} {Q' : α → Shared → Prop} {E' : Value → Shared → Prop} {s' : Shared}, wpAny (model X'.prog X'.w) X'.A t Q' X'.xe s' → wpAny (model X.prog X.w) X.A t Q' E' s' := fun {α t Q' E' s'} hh => by
        rw [eP, eW, eA, eXe] at hh
        exact wpAny_mono hh (fun _ _ q => q) fun _ _ z => z.elim
      refine ev (thn (yZ (X := X') (i := 0) (by rw [eN]; exact S.nd) (by rw [eN]; rfl) (.inl (by rw [eE]; exact lookup_relabel_local S.var)) (.inr (by rw [eE]; exact lookup_relabel_local S.var)) _ s4 _ H5 v u (fun σ' H' => σ' = some v :: vh js σ ∧ H' = H5) I5' r5 ⟨rfl, rfl⟩) fun _ s6 ⟨σ6, H6, I6, e6, e6'⟩ => ?_)
      subst e6 e6'
      have back : ∀ {σ' : St} {H7 : Hp} {s7 : Shared}, Inv X' ([(D, { cls := .type "list", data := .seq its.toArray k })] ++ Xb fp s4.heap) (some v :: vh js σ) H7 s7 → Inv X' [] (none :: vh js σ) H7 s7 := fun {_ H7 s7} I7 => by
        refine (I7.pins_of fun p hp => absurd hp (by simp)).weak rfl fun i v' e => ?_
        cases i with
        | zero => simp at e
        | succ i => simpa using e
      have fps : ∀ {σ' : St} {H7 : Hp} {s7 : Shared}, Inv X' ([(D, { cls := .type "list", data := .seq its.toArray k })] ++ Xb fp s4.heap) σ' H7 s7 → (∀ b ∈ fp, H7 b = none) ∧ (∀ b ∈ fp, ∀ o, s4.heap.get? b = some o → s7.heap.get? b = some o) ∧ s7.heap.get? D = some { cls := .type "list", data := .seq its.toArray k } ∧ H7 D = none := fun {σ' H7 s7} I7 => by
        have g : ∀ b ∈ fp, ∀ o, s4.heap.get? b = some o → s7.heap.get? b = some o ∧ H7 b = none := fun b hb o e => by
          have z := I7.pin (b, o) (List.mem_append_right _ (List.mem_append_right _ (YD hb e)))
          exact ⟨z.1, z.2.1⟩
        refine ⟨fun b hb => ?_, fun b hb o e => (g b hb o e).1, (I7.pin (D, { cls := .type "list", data := .seq its.toArray k }) (List.mem_append_right _ (by simp))).1, (I7.pin (D, { cls := .type "list", data := .seq its.toArray k }) (List.mem_append_right _ (by simp))).2.1⟩
        obtain ⟨o, e, _⟩ := T.obj _ _ st5 b hb
        exact (g b hb o e).2
      have hte : PTs X' ifs tt := hX ▸ ht C s H fp
      have hee : PE X' elt te := hX ▸ he C s H fp
      refine ev (thn (hte _ s6 _ H6 _ I6 (step v H6 y5)) fun b s7 ⟨H7, I7, q7⟩ => ?_)
      cases b with
      | false =>
        rw [if_neg Bool.false_ne_true]
        rw [if_neg Bool.false_ne_true] at q7
        obtain ⟨m', hm, w7⟩ := hNN _ _ q7
        obtain ⟨g1, g2, g3, g4⟩ := fps I7
        exact ⟨m', hm, i + 1, zs, its, k, H7, back (σ' := []) I7, T.keep _ _ _ st5 g2, g1, g3, v3, g4, z3, w7⟩
      | true =>
        rw [if_pos rfl]
        rw [if_pos rfl] at q7
        refine ev (thn (hee _ s7 _ H7 _ I7 q7) fun u8 s8 ⟨v8, H8, I8, r8, q8⟩ => ?_)
        obtain ⟨m', hm, w8⟩ := hNN _ _ q8
        obtain ⟨g1, g2, g3, g4⟩ := fps I8
        have hil := v3.length
        refine call_meets F.slot_list_append ⟨_, g3, rfl⟩ F.entry_list_append (F.args_list_append_2 _ _) (PySem.list_append D its.toArray k u8 (by rw [List.size_toArray]; omega)) ⟨g3, ?_⟩
        have q := PySem.IsL.update g3 (fun a => a.push u8)
        have ea : its.toArray.push u8 = (its ++ [u8]).toArray := by simp
        rw [ea] at q
        have kk : ∀ b o, b ≠ D → s8.heap.get? b = some o → (s8.heap.update D (Obj.mapSeq fun a => a.push u8)).get? b = some o := fun b o hb e => (Heap.get?_update_other _ _ (Ne.symm hb)).trans e
        have I9 : Inv X' [] (none :: vh js σ) H8 { s8 with heap := s8.heap.update D (Obj.mapSeq fun a => a.push u8), toks := s8.toks } := by
          refine (back (σ' := []) I8).turned kk g4 (by rw [eL]; exact hDC) (.inr (by rw [eS]; omega)) (fun y c e => Nat.ne_of_lt (cellLt y c e)) fun p hp => ?_
          rw [ePn] at hp
          exact absurd hp (by simp)
        refine ⟨m', hm, i + 1, zs ++ [v8], its ++ [u8], _, H8, I9, T.keep _ _ _ st5 (fun b hb o e => kk b o (Nat.ne_of_lt (fplt b hb)) (g2 b hb o e)), g1, q, v3.append (.cons r8 .nil), g4, ?_, w8⟩
        rw [List.length_append, List.length_singleton]
        omega
  rw [eE] at loop
  exact codeAny_compStart_list loop (T.self _ 0 _ _ _ (T.keep _ _ _ st (fun b hb o e => old b o e)) loop)
theorem uO (S : CScope X.env.scope scope x X.N ys js) (hc : X.calm = true) (hi : PI X (.Name x px) iter wi) (ht : ∀ C s₀ H₀ ex, PTs (cxC X (x :: ys) scope C s₀ H₀ ex) ifs tt) (he : ∀ C s₀ H₀ ex, PE (cxC X (x :: ys) scope C s₀ H₀ ex) elt te)
    (hs : ∀ x, foldedSetIterable iter X.env x = pure x := by intro _; rfl) : PE X (.ListComp elt [⟨.Name x px, iter, ifs, 0⟩] scope pos) (zdy wi js tt te) := by
  intro pins s σ H Q I h
  rw [eval_ListComp]
  refine wpAny_comprehension_free (use := none) rfl hs (ZP fun y hy e => I.ok.has _ (S.free y hy e)) S.kind S.loc (thn (hi pins s σ H _ I h) fun v s1 h1 => thn h1 fun itv s2 h2 => ?_)
  obtain ⟨it, fp, tn, J, H2, e, I2, T, st2, f2, hw⟩ := h2
  subst e
  refine Um (Q := Q) (R := fun acc C => compPost (model X.prog X.w) X.A X.xe none (EP X pins σ Q) acc C) S hc ht he I2 T st2 f2 hw ?_
  intro D C s' H' m' I' q hC hn hns
  refine ⟨m', hns, fun h' hs' => ⟨.ref D, H', ?_, rfl, q⟩⟩
  have e := I2.fpOk hC hn
  exact I'.turned (t' := s'.toks) (fun b o hb e => (hs'.2 b hb).trans e) hn e.2.1 e.2.2.2.1 e.2.2.2.2.1 e.2.2.2.2.2
theorem jZ {i : Nat} {y : Str} {py spos : Pos} (S : CScope X.env.scope scope x X.N ys js) (hc : X.calm = true) (hN : X.N.Nodup) (hy : X.N[i]? = some y) (hl : Loc X.env.scope y) (hi : PI X (.Name x px) iter wi) (ht : ∀ C s₀ H₀ ex, PTs (cxC X (x :: ys) scope C s₀ H₀ ex) ifs tt) (he : ∀ C s₀ H₀ ex, PE (cxC X (x :: ys) scope C s₀ H₀ ex) elt te)
    (hf : X.fn y = true ∨ X.env.scope.names.lookup y = some .local := by first | exact .inl rfl | exact .inr rfl | assumption)
    (hsw : swapsWith (.ListComp elt [⟨.Name x px, iter, ifs, 0⟩] scope pos) (some (.Name y py)) spos.line X.env = pure true := by rfl)
    (hs : ∀ x, foldedSetIterable iter X.env x = pure x := by intro _; rfl) : PS X (.Assign [.Name y py] (.ListComp elt [⟨.Name x px, iter, ifs, 0⟩] scope pos) spos) (zdY (zdy wi js tt te) (zbb i)) := by
  intro pins s σ H D I h
  rw [exec_Assign_Name_used _ _ _ _ hsw]
  refine wpAny_bind (wpAny_standAt (wpAny_bind ?_))
  show wpAny _ X.A (do let _ ← comprehension (.ListComp elt [⟨.Name x px, iter, ifs, 0⟩] scope pos) scope X.env _ (newList []) false (eval iter X.env) (some (assign (.Name y py) X.env))) _ _ s
  refine wpAny_bind (wpAny_mono (wpAny_comprehension_free (use := some (assign (.Name y py) X.env)) (Q := fun _ s' => SP X pins D .next s') rfl hs (ZP fun y hy e => I.ok.has _ (S.free y hy e)) S.kind S.loc
    (thn (hi pins s σ H _ I h) fun v s1 h1 => thn h1 fun itv s2 h2 => ?_)) (fun _ s' hq => wpAny_pure (wpAny_pure hq)) fun _ _ e => e)
  obtain ⟨it, fp, tn, J, H2, e, I2, T, st2, f2, hw⟩ := h2
  subst e
  refine Um (Q := fun v H' => zbb i v σ H' D.nx) (R := fun acc C => compPost (model X.prog X.w) X.A X.xe (some (assign (.Name y py) X.env)) (fun _ s' => SP X pins D .next s') acc C) S hc ht he I2 T st2 f2 hw ?_
  intro Da C s' H' m' I' q hC hn hns
  have e := I2.fpOk hC hn
  show wpAny _ X.A (assign (.Name y py) X.env (.ref Da)) _ _ _
  refine wpAny_assign_Name (QC I' hN hy hl (show RelV (.ref Da) (.ref Da) from rfl) (fun s2' I3 ⟨a, sb, ha⟩ => ?_) hf)
  have hCa : C ≠ a := by
    rcases ha with z | z
    · rw [z]; exact e.2.1
    · intro w; exact e.2.2.2.2.1 _ _ z w.symm
  refine ⟨m', hns.sameBut sb hCa, fun h' hs' => ⟨_, H', ?_, q⟩⟩
  exact I3.turned (t' := s2'.toks) (fun b o hb e => (hs'.2 b hb).trans e) hn e.2.1 e.2.2.2.1 e.2.2.2.2.1 e.2.2.2.2.2
end
theorem tG {K : PySem.W.Frag} {a : Addr} {xs : List V} {js : List Nat} {tt : TT} {te : TE} {σ : St} {H : Hp} {Q : VK} (Pv : Nat → List V → Hp → Prop) (h0 : Pv 0 [] H) (hl : ∀ i ys H, i ≤ xs.length → Pv i ys H → SqL K H a xs)
    (hs : ∀ i x ys H, xs[i]? = some x → Pv i ys H → ys.length < sizeLine ∧ tt (some x :: vh js σ) H fun b H2 => if b = true then te (some x :: vh js σ) H2 fun v H3 => Pv (i + 1) (ys ++ [v]) H3 else Pv (i + 1) ys H2)
    (hd : ∀ ys H, Pv xs.length ys H → ∀ D, H D = none → Q (.ref D) (upd H D (.lst ys))) :
    Us (Itl K a) js tt te σ Q H := by
  refine ⟨fun i m ys H => m = xs.length - i ∧ i ≤ xs.length ∧ Pv i ys H, ⟨xs.length, by simp, Nat.zero_le _, h0⟩, ?_⟩
  rintro i m ys H ⟨rfl, hi, p⟩
  have q := hl i ys H hi p
  by_cases hlt : i < xs.length
  · have hx : xs[i]? = some xs[i] := List.getElem?_eq_getElem hlt
    obtain ⟨hz, hst⟩ := hs i xs[i] ys H hx p
    refine .inr ⟨⟨xs, xs[i], q, hx⟩, hz, Pv (i + 1), fun ys' H' p' => ⟨xs.length - (i + 1), by omega, rfl, hlt, p'⟩, fun x H' y => ?_⟩
    obtain ⟨e, y⟩ := y
    subst e
    have e2 := y xs q
    rw [hx] at e2
    cases e2
    exact hst
  · have e : i = xs.length := by omega
    subst e
    exact .inl ⟨⟨xs, q, Nat.le_refl _⟩, hd ys H p⟩
theorem vK {lo : Int} {n : Nat} {js : List Nat} {tt : TT} {te : TE} {σ : St} {H : Hp} {Q : VK} (Pv : Nat → List V → Hp → Prop) (h0 : Pv 0 [] H)
    (hs : ∀ i ys H, i < n → Pv i ys H → ys.length < sizeLine ∧ tt (some (.int (lo + i)) :: vh js σ) H fun b H2 => if b = true then te (some (.int (lo + i)) :: vh js σ) H2 fun v H3 => Pv (i + 1) (ys ++ [v]) H3 else Pv (i + 1) ys H2)
    (hd : ∀ ys H, Pv n ys H → ∀ D, H D = none → Q (.ref D) (upd H D (.lst ys))) :
    Us (Itr lo n) js tt te σ Q H := by
  refine ⟨fun i m ys H => m = n - i ∧ i ≤ n ∧ Pv i ys H, ⟨n, by simp, Nat.zero_le _, h0⟩, ?_⟩
  rintro i m ys H ⟨rfl, hi, p⟩
  by_cases hlt : i < n
  · obtain ⟨hz, hst⟩ := hs i ys H hlt p
    refine .inr ⟨hlt, hz, Pv (i + 1), fun ys' H' p' => ⟨n - (i + 1), by omega, rfl, hlt, p'⟩, fun x H' y => ?_⟩
    obtain ⟨e, y⟩ := y
    subst e y
    exact hst
  · have e : i = n := by omega
    subst e
    exact .inl ⟨Nat.le_refl _, hd ys H p⟩
structure VN (sc : Scope) (scope : Scope) (xs : List Str) (M : List Str) (ys : List Str) (js : List Nat) : Prop where
  kind : scope.kind = .function
  cell : ∀ y ∈ scope.names, y.2 ≠ .cell
  loc : ∀ y ∈ scope.names, y.2 = .local → scope.names.lookup y.1 = some .local
  var : ∀ x ∈ xs, scope.names.lookup x = some .local
  free : ∀ y ∈ scope.names, y.2 = .free → sc.names.lookup y.1 = some .cell ∨ sc.names.lookup y.1 = some .free
  caps : js.map (M[·]?) = ys.map some
  fr : ∀ y ∈ ys, scope.names.lookup y = some .free
  nd : (xs ++ ys).Nodup
def nones (xs : List Str) : St := xs.map fun _ => none
theorem CScope.nofree {sc scope : Scope} {x : Str} {M : List Str} (kind : scope.kind = .function) (cell : ∀ y ∈ scope.names, y.2 ≠ .cell) (loc : ∀ y ∈ scope.names, y.2 = .local → scope.names.lookup y.1 = some .local) (var : scope.names.lookup x = some .local) (free : ∀ y ∈ scope.names, y.2 ≠ .free) : CScope sc scope x M [] [] :=
  ⟨kind, cell, loc, var, fun y hy e => absurd e (free y hy), rfl, by simp, by simp⟩
section
variable {X : Cx} {pins : List (Addr × Obj)} {σ : St} {H : Hp} {s : Shared}
theorem zbE {scope : Scope} {xs ys : List Str} {js : List Nat} {fp : List Addr} {h₁ : Heap} {tk : Nat} {C : Addr} (I : Inv X pins σ H s) (S : VN X.env.scope scope xs X.N ys js) (hf : ∀ b ∈ fp, WF X pins H b) (ho : ∀ b ∈ fp, ∃ o, s.heap.get? b = some o)
    (hC : s.heap.objs.size ≤ C) (hk : ∀ b o, s.heap.get? b = some o → h₁.get? b = some o) (hn : h₁.Ns C fun _ => none) :
    Inv (cxC X (xs ++ ys) scope C s H fp) [] (nones xs ++ vh js σ) H { s with heap := h₁, toks := tk } := by
  have sub : ∀ y c, (vm X.env.cells scope.names []).lookup y = some c → X.env.cells.lookup y = some c := fun y c e => uP (fun _ _ z => by simp at z) e
  have has : ∀ y, scope.names.lookup y = some .free → ∃ c, (vm X.env.cells scope.names []).lookup y = some c := fun y e => by
    have m : (y, NameKind.free) ∈ scope.names := PySem.mem_of_lookup e
    exact Wc (.inr ⟨m, I.ok.has y (S.free _ m rfl)⟩)
  have lt : ∀ b ∈ fp, b < s.heap.objs.size := fun b hb => by obtain ⟨o, e⟩ := ho b hb; exact Heap.lt_size e
  have ok : (cxC X (xs ++ ys) scope C s H fp).Ok := by
    refine ⟨I.ok.mod, S.kind, I.ok.glob, I.ok.blt, hC, fun y z c e1 e2 => I.ok.inj y z c (sub _ _ e1) (sub _ _ e2), fun y hy => ?_, fun y c z => ?_, I.ok.hd, I.ok.frames, .inl rfl, fun b hb => ?_, I.bs, Nat.le_trans I.ok.bsz I.sz, fun b o e hb => ?_, fun b hb z => ?_, I.stack, I.stkFree⟩
    · have hy' : (relabel scope X.env).names.lookup y = some .cell ∨ (relabel scope X.env).names.lookup y = some .free := hy
      have nocell : scope.names.lookup y ≠ some .cell := fun z => S.cell _ (PySem.mem_of_lookup z) rfl
      rcases hy' with e | e
      · rcases wF e with z | ⟨_, z⟩
        · exact absurd z nocell
        · exact has y z
      · rcases wF e with z | ⟨z, _⟩
        · exact has y z
        · cases z
    · exact absurd (show false = true from z) Bool.false_ne_true
    · refine ⟨Nat.ne_of_lt (Nat.lt_of_lt_of_le (lt b hb) hC), fun y c e => (hf b hb).2.2.2.2.1 y c (sub y c e)⟩
    · rcases (hf b hb).2.2.2.1 with z | z
      · exact I.ok.noex b o e z
      · exact absurd (Nat.lt_of_lt_of_le (Heap.lt_size e) (Nat.le_trans I.ok.bsz z)) (Nat.lt_irrefl _)
    · rcases List.mem_cons.mp (I.stkSub b z) with e | e
      · exact (hf b hb).2.1 e
      · exact (hf b hb).2.2.1 e
  refine ⟨ok, rfl, I.bare, Un.kept hk, ⟨_, hn, fun i y v e1 e2 e3 => ?_⟩, fun y c e => ?_, I.hok.fresh hC, fun y c e => I.freeC y c (sub y c e), fun p hp => absurd (show p ∈ ([] : List (Addr × Obj)) from hp) (by simp), I.hok.kept hk, ?_⟩
  · by_cases hix : i < xs.length
    · have z : (nones xs ++ vh js σ)[i]? = some none := by
        rw [List.getElem?_append_left (by unfold nones; rw [List.length_map]; exact hix)]
        unfold nones
        rw [List.getElem?_map, List.getElem?_eq_getElem hix]; rfl
      rw [z] at e2; cases e2
    · obtain ⟨k, rfl⟩ : ∃ k, i = xs.length + k := ⟨i - xs.length, by omega⟩
      have e1' : ys[k]? = some y := by
        have e1 : (xs ++ ys)[xs.length + k]? = some y := e1
        rw [List.getElem?_append_right (by omega), Nat.add_sub_cancel_left] at e1; exact e1
      have e2' : (vh js σ)[k]? = some (some v) := by
        rw [List.getElem?_append_right (by unfold nones; rw [List.length_map]; omega)] at e2
        unfold nones at e2
        rw [List.length_map, Nat.add_sub_cancel_left] at e2; exact e2
      obtain ⟨j, hj, hσ⟩ := zab e2'
      have hN : X.N[j]? = some y := by
        have z := congrArg (fun l => l[k]?) S.caps
        simp only [List.getElem?_map, hj, e1', Option.map_some] at z
        exact Option.some.inj z
      have hfr := S.fr y (List.mem_of_getElem? e1')
      have m : (y, NameKind.free) ∈ scope.names := PySem.mem_of_lookup hfr
      have hkind := S.free _ m rfl
      obtain ⟨m', hns, hl⟩ := I.loc
      obtain ⟨u, r, lk⟩ := hl j y v hN hσ (by rcases hkind with z | z; exact .inr (.inl z); exact .inr (.inr z))
      refine ⟨u, r, .inr ⟨?_, ?_⟩⟩
      · have e3' : (relabel scope X.env).names.lookup y = some .local ∨ (relabel scope X.env).names.lookup y = some .cell ∨ (relabel scope X.env).names.lookup y = some .free := e3
        rcases e3' with z | z | z
        · rcases wF z with q | ⟨q, _⟩
          · rw [hfr] at q; cases q
          · cases q
        · exact .inl z
        · exact .inr z
      · obtain ⟨c, hc⟩ := has y hfr
        refine ⟨c, hc, ?_⟩
        rcases lk with ⟨z, _⟩ | ⟨_, c', hc', cell⟩
        · rcases hkind with q | q
          · have q' : X.env.kindOf y = some .cell := q
            rw [show X.env.kindOf y = some .local from z] at q'; cases q'
          · have q' : X.env.kindOf y = some .free := q
            rw [show X.env.kindOf y = some .local from z] at q'; cases q'
        · rw [sub y c hc] at hc'
          cases hc'
          obtain ⟨o, e, d⟩ := cell
          exact ⟨o, hk _ _ e, d⟩
  · obtain ⟨v, o, e', d⟩ := I.cell y c (sub y c e)
    exact ⟨v, o, hk _ _ e', d⟩
  · have z := congrArg List.length S.caps
    simp only [List.length_map] at z
    show (nones xs ++ vh js σ).length = (xs ++ ys).length
    simp [vh, nones, z]
end
section
variable {prog : Program} {w : World} {A : Around} {R : Result → Shared → Prop} {s : Shared}
theorem zbP {elt target iter : Expr} {ifs : List Expr} {scope : Scope} {pos : Pos} {it acc : Value} {env : Env} {N : Value → Shared → Prop} (hN : N = notedBy (model prog w) A env fun e s' => R (.error e) s') (I : Nat → Shared → Prop)
    (turn : ∀ n s, I n s → wpAny (model prog w) A (pyNext it) (fun r s₁ => match r with
      | none => R (.ok .next) s₁
      | some v => wpAny (model prog w) A (letOwnedTupleGo target it v) (fun _ s₅ => wpAny (model prog w) A (assign target env v) (fun _ s₂ =>
          wpAny (model prog w) A (forIn ifs true fun c r => if r = true then do let ok ← isTrue c env (eval c env); pure (ForInStep.yield ok) else pure (ForInStep.yield r)) (fun ok s₃ => if ok = true then wpAny (model prog w) A (eval elt env) (fun x s₄ => wpAny (model prog w) A (call (.builtin "list.append") [acc, x]) (fun _ s₅ => ∃ m, m < n ∧ I m s₅) N s₄) N s₃ else ∃ m, m < n ∧ I m s₃) N s₂) N s₅) N s₁) N s)
    (n : Nat) (h : I n s) : codeAny (model prog w) A (.compLoop (.ListComp elt [⟨target, iter, ifs, 0⟩] scope pos) 0 it acc env) R s := by
  subst hN
  refine codeAny_loop rfl I (fun n s hI => ?_) n h
  show wpAny _ A ((compTurn (.ListComp elt [⟨target, iter, ifs, 0⟩] scope pos) 0 it acc env).onRaise (fun x => do noteFrame x env; theTreesLotGoes x)) _ _ s
  rw [compTurn_list]
  refine wpAny_noted (wpAny_bind (wpAny_standAt (wpAny_bind (wpAny_mono (turn n s hI) (fun r s₁ h₁ => ?_) fun _ _ h' => h'))))
  cases r with
  | none => exact wpAny_pure h₁
  | some v =>
    refine wpAny_bind (wpAny_mono h₁ (fun _ s₅ h₅ => wpAny_bind (wpAny_mono h₅ (fun _ s₂ h₂ => wpAny_bind (wpAny_mono h₂ (fun ok s₃ h₃ => ?_) fun _ _ h' => h')) fun _ _ h' => h')) fun _ _ h' => h')
    cases ok with
    | false => exact wpAny_pure ⟨rfl, h₃⟩
    | true => exact wpAny_bind (wpAny_bind (wpAny_mono h₃ (fun x s₄ h₄ => wpAny_bind (wpAny_mono h₄ (fun _ s₆ h₆ => wpAny_pure (wpAny_pure ⟨rfl, h₆⟩)) fun _ _ h' => h')) fun _ _ h' => h'))
end
def Qz (J : It) (xs : List Str) (js : List Nat) (g : TG) (tt : TT) (te : TE) (σ : St) (Q : VK) (H : Hp) : Prop := ∃ W : Nat → Nat → List V → Hp → Prop, (∃ m, W 0 m [] H) ∧ ∀ i m ys H, W i m ys H →
  (J.stop i H ∧ ∀ D, H D = none → Q (.ref D) (upd H D (.lst ys))) ∨
  (J.go i H ∧ ys.length < sizeLine ∧ ∃ N : List V → Hp → Prop, (∀ ys' H', N ys' H' → ∃ m', m' < m ∧ W (i + 1) m' ys' H') ∧ ∀ x H', J.yld i H x H' → g x (nones xs ++ vh js σ) H' fun σ' H1 => (∃ vs : St, vs.length = xs.length ∧ σ' = vs ++ vh js σ) ∧ tt σ' H1 fun b H2 => if b = true then te σ' H2 fun v H3 => N (ys ++ [v]) H3 else N ys H2)
def zdT (wi : TI) (xs : List Str) (js : List Nat) (g : TG) (tt : TT) (te : TE) : TE := fun σ H Q => wi σ H fun J H1 => Qz J xs js g tt te σ Q H1
section
variable {X : Cx} {elt iter : Expr} {ifs : List Expr} {tg : Expr} {xs : List Str} {pos : Pos} {g : TG} {scope : Scope} {ys : List Str} {js : List Nat} {wi : TI} {tt : TT} {te : TE}
theorem J0 {pins : List (Addr × Obj)} {σ : St} {H : Hp} {s : Shared} {J : It} {fp : List Addr} {it : Addr} {tn : Nat → Heap → Prop} {Q : VK} {E : Value → Shared → Prop} {R : Value → Addr → Result → Shared → Prop}
    (S : VN X.env.scope scope xs X.N ys js) (hc : X.calm = true) (hg : ∀ C s₀ H₀ ex, PG (cxC X (xs ++ ys) scope C s₀ H₀ ex) tg g) (ht : ∀ C s₀ H₀ ex, PTs (cxC X (xs ++ ys) scope C s₀ H₀ ex) ifs tt) (he : ∀ C s₀ H₀ ex, PE (cxC X (xs ++ ys) scope C s₀ H₀ ex) elt te)
    (I : Inv X pins σ H s) (T : Turn X.prog X.w X.K tg J fp it tn) (st : tn 0 s.heap) (hf : ∀ b ∈ fp, WF X pins H b)
    (hw : ∃ W : Nat → Nat → List V → Hp → Prop, (∃ m, W 0 m [] H) ∧ ∀ i m zs H, W i m zs H →
      (J.stop i H ∧ ∀ D, H D = none → Q (.ref D) (upd H D (.lst zs))) ∨
      (J.go i H ∧ zs.length < sizeLine ∧ ∃ N : List V → Hp → Prop, (∀ ys' H', N ys' H' → ∃ m', m' < m ∧ W (i + 1) m' ys' H') ∧ ∀ x H', J.yld i H x H' → g x (nones xs ++ vh js σ) H' fun σ' H1 => (∃ vs : St, vs.length = xs.length ∧ σ' = vs ++ vh js σ) ∧ tt σ' H1 fun b H2 => if b = true then te σ' H2 fun v H3 => N (zs ++ [v]) H3 else N zs H2))
    (hR : ∀ D C s' H' m', Inv X pins σ H' s' → Q (.ref D) H' → s.heap.objs.size ≤ C → H' C = none → s'.heap.Ns C m' → R (.ref D) C (.ok .next) s') :
    wpAny (model X.prog X.w) X.A (newList []) (fun acc s₃ => wpAny (model X.prog X.w) X.A (newFunctionEnv scope X.env.globals (vm X.env.cells scope.names []) [] X.env.qual none .none (some X.env)) (fun cenv s₄ =>
      codeAny (model X.prog X.w) X.A (.compStart (.ListComp elt [⟨tg, iter, ifs, 0⟩] scope pos) 0 (.ref it) acc { cenv with scope := relabel scope X.env }) (R acc cenv.locals) s₄) E s₃) E s := by
  obtain ⟨W, ⟨m0, w0⟩, turn⟩ := hw
  refine wpAny_newObj_type (wpAny_newFunctionEnv S.cell (by intro y hy; simp at hy) (fun h₁ hns₁ hsb₁ => ?_) S.kind)
  dsimp only at hns₁ hsb₁ ⊢
  generalize hH2 : s.heap.push { cls := .type "list", dict := none, data := .seq ([] : List Value).toArray } = G at hns₁ hsb₁ ⊢
  generalize hD : s.heap.objs.size = D at *
  generalize hCe : G.objs.size = C at *
  have hC : C = D + 1 := by rw [← hCe, ← hH2, Heap.size_push, hD]
  have hDlt : D < C := by rw [hC]; exact Nat.lt_succ_self D
  have hDC : D ≠ C := Nat.ne_of_lt hDlt
  have old : ∀ b o, s.heap.get? b = some o → h₁.get? b = some o := fun b o e => by
    have hb : b < D := hD ▸ Heap.lt_size e
    exact (hsb₁.2 b (Nat.ne_of_lt (Nat.lt_trans hb hDlt))).trans (Heap.get?_push_of_some _ (hH2 ▸ Heap.get?_push_of_some _ e))
  have hacc : h₁.get? D = some { cls := .type "list", data := .seq ([] : List Value).toArray 0 } := by
    refine (hsb₁.2 D hDC).trans (Heap.get?_push_of_some _ ?_)
    rw [← hH2, ← hD]
    exact Heap.get?_push_size _ rfl
  have obj0 := T.obj 0 _ st
  have fplt : ∀ b ∈ fp, b < D := fun b hb => by obtain ⟨o, e, _⟩ := obj0 b hb; exact hD ▸ Heap.lt_size e
  generalize hX : cxC X (xs ++ ys) scope C s H fp = X'
  have I1 : Inv X' [] (nones xs ++ vh js σ) H { s with heap := h₁, toks := s.toks + ([] : List (Str × Value)).length } := by
    subst hX
    exact zbE I S hf (fun b hb => by obtain ⟨o, e, _⟩ := obj0 b hb; exact ⟨o, e⟩) (by omega) old (by simpa using hns₁)
  have eP : X'.prog = X.prog := by subst hX; rfl
  have eW : X'.w = X.w := by subst hX; rfl
  have eK : X'.K = X.K := by subst hX; rfl
  have eA : X'.A = X.A := by subst hX; rfl
  have eC : X'.calm = true := by subst hX; exact hc
  have eL : X'.env.locals = C := by subst hX; rfl
  have eS : X'.s₀ = s := by subst hX; rfl
  have eN : X'.N = xs ++ ys := by subst hX; rfl
  have eE : X'.env = compEnvC scope (vm X.env.cells scope.names []) C X.env := by subst hX; rfl
  have eXe : X'.xe = fun _ _ => False := by subst hX; rfl
  have eX : X'.ex = fp := by subst hX; rfl
  have ePn : X'.pn = [] := by subst hX; rfl
  have efs : ∀ b, b ∈ X'.fs → b ∈ frs X.stack := fun b z => by subst hX; exact z
  have cellLt : ∀ y c, X'.env.cells.lookup y = some c → c < D := fun y c e => by
    have e' : (vm X.env.cells scope.names []).lookup y = some c := by rw [eE] at e; exact e
    obtain ⟨v, o, e2, _⟩ := I.cell y c (uP (fun _ _ z => by simp at z) e')
    exact hD ▸ Heap.lt_size e2
  have frLt : ∀ b, b ∈ X'.fs → b < D := fun b z => by
    rcases List.mem_cons.mp (I.stkSub b (efs b z)) with e | e
    · rw [e]; exact hD ▸ I.lt
    · exact Nat.lt_of_not_le fun h => I.nofs (hD ▸ h) e
  have fpOk : ∀ (p : List (Addr × Obj)) (H' : Hp), (∀ b ∈ fp, H' b = none) → (∀ q ∈ p, q.1 = D) → ∀ b ∈ fp, WF X' p H' b := fun p H' hn hp b hb => by
    refine ⟨hn b hb, ?_, fun z => ?_, .inl (eX ▸ hb), fun y c e => ?_, fun q hq => ?_⟩
    · rw [eL]; exact Nat.ne_of_lt (Nat.lt_trans (fplt b hb) hDlt)
    · rcases List.mem_cons.mp (I.stkSub b (efs b z)) with e | e
      · exact (hf b hb).2.1 e
      · exact (hf b hb).2.2.1 e
    · have e' : (vm X.env.cells scope.names []).lookup y = some c := by rw [eE] at e; exact e
      exact (hf b hb).2.2.2.2.1 y c (uP (fun _ _ z => by simp at z) e')
    · rw [ePn, List.nil_append] at hq
      rw [hp q hq]; exact Nat.ne_of_gt (fplt b hb)
  have noCell : ∀ (its : List Value) (k : Nat) v, ({ cls := .type "list", data := .seq its.toArray k } : Obj).data ≠ .cell v := fun its k v z => by cases z
  have done : ∀ {zs : List V} {its : List Value} {k : Nat} {H' : Hp} {s' : Shared}, Inv X' [] (nones xs ++ vh js σ) H' s' → s'.heap.get? D = some { cls := .type "list", data := .seq its.toArray k } → Vals zs its → H' D = none → zs.length ≤ sizeLine →
      (∀ D, H' D = none → Q (.ref D) (upd H' D (.lst zs))) → R (.ref D) C (.ok .next) s' := fun {zs its k H' s'} I' hd hv hn hz q => by
    have un := I'.base
    obtain ⟨m', hns, _⟩ := I'.loc
    rw [eL] at hns
    have hCn : H' C = none := by have := I'.free; rw [eL] at this; exact this
    have hH0 : X'.H₀ = H := by subst hX; rfl
    rw [hH0, eS, eX] at un
    have un2 : Un (frs X.stack) fp H (upd H' D (.lst zs)) s.heap s'.heap := by
      have ne : ∀ b o, s.heap.get? b = some o → b ≠ D := fun b o e => Nat.ne_of_lt (hD ▸ Heap.lt_size e)
      have un' : Un (frs X.stack) fp H H' s.heap s'.heap := by subst hX; exact un
      exact ⟨un'.keep, un'.slot, fun b o e n hx => by rw [zx (ne b o e)]; exact un'.free b o e n hx, un'.there, fun b xs e => by rw [zx (zB (un'.tups b xs e) hn)]; exact un'.tups b xs e,
        fun b o u e => by rw [zx (zB (un'.frzs b o u e) hn)]; exact un'.frzs b o u e, fun b ps e => by
          obtain ⟨more, z⟩ := un'.tbls b ps e
          exact ⟨more, by rw [zx (zB z hn)]; exact z⟩⟩
    have hok : HOk X.prog X.w (upd H' D (.lst zs)) s'.heap := by
      have h0 := I'.hok
      rw [eP, eW] at h0
      exact h0.track hn ⟨hz, its, k, hv, hd⟩
    have I2 : Inv X pins σ (upd H' D (.lst zs)) s' := I.call' (by have := I'.os; rw [eS] at this; exact this) un2 hok I'.bare fun b hb => ⟨(hf b hb).2.2.2.1, (hf b hb).2.1, (hf b hb).2.2.2.2.1, (hf b hb).2.2.2.2.2⟩
    exact hR D C s' _ m' I2 (q D hn) (by omega) (by rw [zx (Ne.symm hDC)]; exact hCn) hns
  have loop : codeAny (model X.prog X.w) X.A (.compLoop (.ListComp elt [⟨tg, iter, ifs, 0⟩] scope pos) 0 (.ref it) (.ref D) X'.env) (R (.ref D) C) { s with heap := h₁, toks := s.toks + ([] : List (Str × Value)).length } := by
    refine zbP rfl (fun n s' => ∃ i zs its k H', Inv X' [] (nones xs ++ vh js σ) H' s' ∧ tn i s'.heap ∧ (∀ b ∈ fp, H' b = none) ∧ s'.heap.get? D = some { cls := .type "list", data := .seq its.toArray k } ∧ Vals zs its ∧ H' D = none ∧ zs.length ≤ sizeLine ∧ W i n zs H')
      ?_ m0 ⟨0, [], [], 0, H, I1, T.keep _ _ _ st (fun b hb o e => old b o e), fun b hb => (hf b hb).1, hacc, .nil, I.hok.fresh (by omega), Nat.zero_le _, w0⟩
    rintro n s3 ⟨i, zs, its, k, H3, I3, st3, fr3, d3, v3, n3, z3, w3⟩
    have pinD : Inv X' [(D, { cls := .type "list", data := .seq its.toArray k })] (nones xs ++ vh js σ) H3 s3 := I3.pins_of fun p hp => by
      have e : p = (D, { cls := .type "list", data := .seq its.toArray k }) := by simpa using hp
      subst e
      exact ⟨d3, n3, by rw [eL]; exact hDC, fun z => Nat.lt_irrefl _ (frLt D z), noCell its k⟩
    have hpD : ∀ q ∈ [(D, ({ cls := .type "list", data := .seq its.toArray k } : Obj))], q.1 = D := fun q hq => by
      have e : q = (D, { cls := .type "list", data := .seq its.toArray k }) := by simpa using hq
      rw [e]
    rcases turn i n zs H3 w3 with ⟨stop, qn⟩ | ⟨go, hzl, NN, hNN, step⟩
    · refine thn (eA ▸ T.done X' eP eW eK eC i _ s3 _ H3 _ pinD (fpOk _ _ fr3 hpD) st3 stop) fun r s4 ⟨hr, I4⟩ => ?_
      subst hr
      exact done (I4.pins_of fun p hp => absurd hp (by simp)) (I4.pin (D, { cls := .type "list", data := .seq its.toArray k }) (List.mem_append_right _ (by simp))).1 v3 n3 z3 qn
    · refine thn (eA ▸ T.item X' eP eW eK eC i _ s3 _ H3 _ pinD (fpOk _ _ fr3 hpD) st3 go) fun r s4 ⟨u, hr, h4⟩ => ?_
      subst hr
      refine thn h4 fun _ s4 ⟨v, H5, I5, r5, y5, st5, fr5⟩ => ?_
      have I5' := I5.pinned (fpOk _ _ fr5 hpD) (T.obj _ _ st5)
      have ev : ∀ {α : Type} {t : Sem α} {Q' : α → Shared → Prop} {E' : Value → Shared → Prop} {s' : Shared}, wpAny (model X'.prog X'.w) X'.A t Q' X'.xe s' → wpAny (model X.prog X.w) X.A t Q' E' s' := fun {α t Q' E' s'} hh => by
        rw [eP, eW, eA, eXe] at hh
        exact wpAny_mono hh (fun _ _ q => q) fun _ _ z => z.elim
      have hgg : PG X' tg g := hX ▸ hg C s H fp
      refine ev (thn (hgg _ s4 _ H5 v u _ I5' r5 (step v H5 y5)) fun _ s6 ⟨σ6, H6, I6, ⟨vs6, hvl, e6⟩, q6⟩ => ?_)
      subst e6
      have back : ∀ {σ' : St} {H7 : Hp} {s7 : Shared}, Inv X' ([(D, { cls := .type "list", data := .seq its.toArray k })] ++ Xb fp s4.heap) (vs6 ++ vh js σ) H7 s7 → Inv X' [] (nones xs ++ vh js σ) H7 s7 := fun {_ H7 s7} I7 => by
        refine (I7.pins_of fun p hp => absurd hp (by simp)).weak (by rw [List.length_append, List.length_append, hvl]; unfold nones; rw [List.length_map]) fun i v' e => ?_
        by_cases hix : i < xs.length
        · have z : (nones xs ++ vh js σ)[i]? = some none := by
            rw [List.getElem?_append_left (by unfold nones; rw [List.length_map]; exact hix)]
            unfold nones
            rw [List.getElem?_map, List.getElem?_eq_getElem hix]; rfl
          rw [z] at e; cases e
        · have hn : (nones xs).length = xs.length := by unfold nones; rw [List.length_map]
          rw [List.getElem?_append_right (by omega), hn] at e
          rw [List.getElem?_append_right (by omega), hvl]
          exact e
      have fps : ∀ {σ' : St} {H7 : Hp} {s7 : Shared}, Inv X' ([(D, { cls := .type "list", data := .seq its.toArray k })] ++ Xb fp s4.heap) σ' H7 s7 → (∀ b ∈ fp, H7 b = none) ∧ (∀ b ∈ fp, ∀ o, s4.heap.get? b = some o → s7.heap.get? b = some o) ∧ s7.heap.get? D = some { cls := .type "list", data := .seq its.toArray k } ∧ H7 D = none := fun {σ' H7 s7} I7 => by
        have g : ∀ b ∈ fp, ∀ o, s4.heap.get? b = some o → s7.heap.get? b = some o ∧ H7 b = none := fun b hb o e => by
          have z := I7.pin (b, o) (List.mem_append_right _ (List.mem_append_right _ (YD hb e)))
          exact ⟨z.1, z.2.1⟩
        refine ⟨fun b hb => ?_, fun b hb o e => (g b hb o e).1, (I7.pin (D, { cls := .type "list", data := .seq its.toArray k }) (List.mem_append_right _ (by simp))).1, (I7.pin (D, { cls := .type "list", data := .seq its.toArray k }) (List.mem_append_right _ (by simp))).2.1⟩
        obtain ⟨o, e, _⟩ := T.obj _ _ st5 b hb
        exact (g b hb o e).2
      have hte : PTs X' ifs tt := hX ▸ ht C s H fp
      have hee : PE X' elt te := hX ▸ he C s H fp
      refine ev (thn (hte _ s6 _ H6 _ I6 q6) fun b s7 ⟨H7, I7, q7⟩ => ?_)
      cases b with
      | false =>
        rw [if_neg Bool.false_ne_true]
        rw [if_neg Bool.false_ne_true] at q7
        obtain ⟨m', hm, w7⟩ := hNN _ _ q7
        obtain ⟨g1, g2, g3, g4⟩ := fps I7
        exact ⟨m', hm, i + 1, zs, its, k, H7, back (σ' := []) I7, T.keep _ _ _ st5 g2, g1, g3, v3, g4, z3, w7⟩
      | true =>
        rw [if_pos rfl]
        rw [if_pos rfl] at q7
        refine ev (thn (hee _ s7 _ H7 _ I7 q7) fun u8 s8 ⟨v8, H8, I8, r8, q8⟩ => ?_)
        obtain ⟨m', hm, w8⟩ := hNN _ _ q8
        obtain ⟨g1, g2, g3, g4⟩ := fps I8
        have hil := v3.length
        refine call_meets F.slot_list_append ⟨_, g3, rfl⟩ F.entry_list_append (F.args_list_append_2 _ _) (PySem.list_append D its.toArray k u8 (by rw [List.size_toArray]; omega)) ⟨g3, ?_⟩
        have q := PySem.IsL.update g3 (fun a => a.push u8)
        have ea : its.toArray.push u8 = (its ++ [u8]).toArray := by simp
        rw [ea] at q
        have kk : ∀ b o, b ≠ D → s8.heap.get? b = some o → (s8.heap.update D (Obj.mapSeq fun a => a.push u8)).get? b = some o := fun b o hb e => (Heap.get?_update_other _ _ (Ne.symm hb)).trans e
        have I9 : Inv X' [] (nones xs ++ vh js σ) H8 { s8 with heap := s8.heap.update D (Obj.mapSeq fun a => a.push u8), toks := s8.toks } := by
          refine (back (σ' := []) I8).turned kk g4 (by rw [eL]; exact hDC) (.inr (by rw [eS]; omega)) (fun y c e => Nat.ne_of_lt (cellLt y c e)) fun p hp => ?_
          rw [ePn] at hp
          exact absurd hp (by simp)
        refine ⟨m', hm, i + 1, zs ++ [v8], its ++ [u8], _, H8, I9, T.keep _ _ _ st5 (fun b hb o e => kk b o (Nat.ne_of_lt (fplt b hb)) (g2 b hb o e)), g1, q, v3.append (.cons r8 .nil), g4, ?_, w8⟩
        rw [List.length_append, List.length_singleton]
        omega
  rw [eE] at loop
  exact codeAny_compStart_list loop (T.self _ 0 _ _ _ (T.keep _ _ _ st (fun b hb o e => old b o e)) loop)
theorem zcx (S : VN X.env.scope scope xs X.N ys js) (hc : X.calm = true) (hi : PI X tg iter wi) (hg : ∀ C s₀ H₀ ex, PG (cxC X (xs ++ ys) scope C s₀ H₀ ex) tg g) (ht : ∀ C s₀ H₀ ex, PTs (cxC X (xs ++ ys) scope C s₀ H₀ ex) ifs tt) (he : ∀ C s₀ H₀ ex, PE (cxC X (xs ++ ys) scope C s₀ H₀ ex) elt te)
    (hs : ∀ x, foldedSetIterable iter X.env x = pure x := by intro _; rfl) : PE X (.ListComp elt [⟨tg, iter, ifs, 0⟩] scope pos) (zdT wi xs js g tt te) := by
  intro pins s σ H Q I h
  rw [eval_ListComp]
  refine wpAny_comprehension_free (use := none) rfl hs (ZP fun y hy e => I.ok.has _ (S.free y hy e)) S.kind S.loc (thn (hi pins s σ H _ I h) fun v s1 h1 => thn h1 fun itv s2 h2 => ?_)
  obtain ⟨it, fp, tn, J, H2, e, I2, T, st2, f2, hw⟩ := h2
  subst e
  refine J0 (Q := Q) (R := fun acc C => compPost (model X.prog X.w) X.A X.xe none (EP X pins σ Q) acc C) S hc hg ht he I2 T st2 f2 hw ?_
  intro D C s' H' m' I' q hC hn hns
  refine ⟨m', hns, fun h' hs' => ⟨.ref D, H', ?_, rfl, q⟩⟩
  have e := I2.fpOk hC hn
  exact I'.turned (t' := s'.toks) (fun b o hb e => (hs'.2 b hb).trans e) hn e.2.1 e.2.2.2.1 e.2.2.2.2.1 e.2.2.2.2.2
end
theorem zdZ {X : Cx} (K : PySem.W.Frag) {es : List Expr} {k : Nat} {t : TGs} {pos : Pos} (n : Nat) (hc : X.calm = true) (h : PGs X es t) (e : X.K = K := by rfl)
    (hn : (assignEach es X.env).length = n := by rfl) (hst : (assignEach es X.env).findIdx? (·.1) = none := by rfl) : PG X (.Tuple es k pos) (zeF K n t) := by subst e; exact za2 hc h hn hst
open PySem PySem.Spec PyProof.Rows PySem.SeqAt
inductive Tr where
  | non | bl (b : Bool) | int (i : Int) | str (x : Str) | lst (ts : List Tr) | tup (ts : List Tr)
mutual
def TrAt (K : PySem.W.Frag) (H : Hp) : Tr → V → Prop
  | .non, v => v = .non
  | .bl b, v => v = .bl b
  | .int i, v => v = .int i
  | .str x, v => v = .str x
  | .lst ts, v => ∃ a xs, v = .ref a ∧ SqL K H a xs ∧ TrsAt K H ts xs
  | .tup ts, v => ∃ a xs, v = .ref a ∧ SqT K H a xs ∧ TrsAt K H ts xs
def TrsAt (K : PySem.W.Frag) (H : Hp) : List Tr → List V → Prop
  | [], xs => xs = []
  | t :: ts, xs => ∃ y ys, xs = y :: ys ∧ TrAt K H t y ∧ TrsAt K H ts ys
end
mutual
def teq : Tr → Tr → Bool
  | .non, .non => true
  | .bl a, .bl b => a == b
  | .bl a, .int b => (if a then 1 else 0) == b
  | .int a, .bl b => a == (if b then 1 else 0)
  | .int a, .int b => a == b
  | .str a, .str b => a == b
  | .lst a, .lst b => Zo a b
  | .tup a, .tup b => Zo a b
  | _, _ => false
def Zo : List Tr → List Tr → Bool
  | [], [] => true
  | t :: ts, u :: us => teq t u && Zo ts us
  | _, _ => false
end
mutual
def YT : Tr → Nat
  | .lst ts => tK ts + 1
  | .tup ts => tK ts + 1
  | _ => 0
def tK : List Tr → Nat
  | [] => 0
  | t :: ts => max (YT t) (tK ts)
end
theorem Xh {t : Tr} : ∀ {ts : List Tr}, t ∈ ts → YT t ≤ tK ts
  | u :: ts, h => by
    rw [tK]
    rcases List.mem_cons.mp h with e | h
    · rw [e]; exact Nat.le_max_left _ _
    · exact Nat.le_trans (Xh h) (Nat.le_max_right _ _)
section
variable {K : PySem.W.Frag} {H : Hp}
theorem TrsAt.length : ∀ {ts : List Tr} {xs : List V}, TrsAt K H ts xs → ts.length = xs.length
  | [], xs, h => by rw [TrsAt] at h; subst h; rfl
  | t :: ts, xs, h => by
    rw [TrsAt] at h
    obtain ⟨y, ys, rfl, _, h⟩ := h
    rw [List.length_cons, List.length_cons, TrsAt.length h]
theorem TrsAt.get : ∀ {ts : List Tr} {xs : List V} {j : Nat} {t : Tr}, TrsAt K H ts xs → ts[j]? = some t → ∃ x, xs[j]? = some x ∧ TrAt K H t x
  | [], xs, j, t, h, e => by simp at e
  | u :: ts, xs, 0, t, h, e => by
    rw [TrsAt] at h
    obtain ⟨y, ys, rfl, hy, h⟩ := h
    simp at e
    subst e
    exact ⟨y, rfl, hy⟩
  | u :: ts, xs, j + 1, t, h, e => by
    rw [TrsAt] at h
    obtain ⟨y, ys, rfl, hy, h⟩ := h
    obtain ⟨x, e1, e2⟩ := TrsAt.get (j := j) h (by simpa using e)
    exact ⟨x, by simpa using e1, e2⟩
theorem TrsAt.mk : ∀ {ts : List Tr} {xs : List V}, ts.length = xs.length → (∀ (j : Nat) (t : Tr) (x : V), ts[j]? = some t → xs[j]? = some x → TrAt K H t x) → TrsAt K H ts xs
  | [], [], _, _ => by rw [TrsAt]
  | [], _ :: _, h, _ => by simp at h
  | _ :: _, [], h, _ => by simp at h
  | t :: ts, x :: xs, h, f => by
    rw [TrsAt]
    exact ⟨x, xs, rfl, f 0 t x rfl rfl, TrsAt.mk (by simpa using h) fun j t x e1 e2 => f (j + 1) t x (by simpa using e1) (by simpa using e2)⟩
theorem TrsAt.ints : ∀ {ns : List Int}, TrsAt K H (ns.map Tr.int) (ns.map V.int)
  | [] => by rw [List.map_nil, TrsAt]; rfl
  | n :: ns => by rw [List.map_cons, TrsAt]; exact ⟨_, _, rfl, by rw [TrAt], TrsAt.ints⟩
def vX (ns : List Int) : Tr := .lst (ns.map Tr.int)
theorem TrAt.ints {a : Addr} {ns : List Int} (h : SqL K H a (ns.map V.int)) : TrAt K H (vX ns) (.ref a) := by
  unfold vX; rw [TrAt]; exact ⟨a, _, rfl, h, TrsAt.ints⟩
end
mutual
theorem J5 : ∀ t : Tr, teq t t = true
  | .non => by rw [teq]
  | .bl b => by rw [teq]; simp
  | .int i => by rw [teq]; simp
  | .str x => by rw [teq]; simp
  | .lst ts => by rw [teq]; exact Yb ts
  | .tup ts => by rw [teq]; exact Yb ts
theorem Yb : ∀ ts : List Tr, Zo ts ts = true
  | [] => by rw [Zo]
  | t :: ts => by rw [Zo, J5 t, Yb ts]; rfl
end
theorem zal {α : Type} [DecidableEq α] {f : α → Tr} (h : ∀ a b, teq (f a) (f b) = decide (a = b)) : ∀ (xs ys : List α), Zo (xs.map f) (ys.map f) = decide (xs = ys)
  | [], [] => by simp [Zo]
  | [], _ :: _ => by simp [Zo]
  | _ :: _, [] => by simp [Zo]
  | x :: xs, y :: ys => by
    rw [List.map_cons, List.map_cons, Zo, h, zal h xs ys, Bool.eq_iff_iff]
    simp
theorem zds (a b : Int) : teq (.int a) (.int b) = decide (a = b) := by rw [teq, Bool.eq_iff_iff]; simp
theorem Z6 (a b : List Int) : teq (vX a) (vX b) = decide (a = b) := by unfold vX; rw [teq]; exact zal zds a b
theorem U0 : ∀ ns : List Int, tK (ns.map Tr.int) = 0
  | [] => by simp [tK]
  | n :: ns => by rw [List.map_cons, tK, U0 ns, YT] <;> simp
theorem Yq (ns : List Int) : YT (vX ns) = 1 := by unfold vX; rw [YT, U0]
theorem Xa : ∀ {ts us : List Tr}, ts.length ≠ us.length → Zo ts us = false
  | [], [], h => absurd rfl h
  | [], _ :: _, _ => by simp [Zo]
  | _ :: _, [], _ => by simp [Zo]
  | t :: ts, u :: us, h => by rw [Zo, Xa (by simpa using h), Bool.and_false]
def eAt (ts us : List Tr) (j : Nat) : Bool := match ts[j]?, us[j]? with
  | some t, some u => teq t u
  | _, _ => true
theorem Jh : ∀ {ts us : List Tr}, ts.length = us.length → (List.range ts.length).all (eAt ts us) = Zo ts us
  | [], [], _ => by simp [Zo]
  | [], _ :: _, h => by simp at h
  | _ :: _, [], h => by simp at h
  | t :: ts, u :: us, h => by
    rw [List.length_cons, List.range_succ_eq_map, List.all_cons, List.all_map, Zo, ← Jh (ts := ts) (us := us) (by simpa using h)]
    rfl
section
variable {X : Cx} {pins : List (Addr × Obj)} {σ : St} {H : Hp} {s : Shared}
theorem V5 (I : Inv X pins σ H s) : ∀ (n : Nat) {t u : Tr} {v : V}, YT t ≤ n → TrAt X.K H t v → TrAt X.K H u v → t = u := by
  intro n
  induction n with
  | zero =>
    intro t u v hd ht hu
    cases t with
    | lst ts => rw [YT] at hd; omega
    | tup ts => rw [YT] at hd; omega
    | _ => (rw [TrAt] at ht; subst ht; cases u <;> (rw [TrAt] at hu) <;> first | rfl | (obtain ⟨_, _, z, _⟩ := hu; cases z) | (cases hu; rfl) | cases hu)
  | succ n ih =>
    intro t u v hd ht hu
    have lists : ∀ {ts us : List Tr} {xs : List V}, tK ts ≤ n → TrsAt X.K H ts xs → TrsAt X.K H us xs → ts = us := by
      intro ts us xs hd h1 h2
      apply List.ext_getElem?
      intro j
      have l1 := h1.length
      have l2 := h2.length
      by_cases hj : j < ts.length
      · obtain ⟨t, e⟩ : ∃ t, ts[j]? = some t := ⟨_, List.getElem?_eq_getElem hj⟩
        obtain ⟨u, e'⟩ : ∃ u, us[j]? = some u := ⟨_, List.getElem?_eq_getElem (by omega)⟩
        obtain ⟨x, ex, hx⟩ := h1.get e
        obtain ⟨y, ey, hy⟩ := h2.get e'
        rw [ex] at ey
        cases ey
        rw [e, e', ih (Nat.le_trans (Xh (List.mem_of_getElem? e)) hd) hx hy]
      · rw [List.getElem?_eq_none (by omega), List.getElem?_eq_none (by omega)]
    cases t with
    | lst ts =>
      rw [TrAt] at ht
      obtain ⟨a, xs, rfl, q, h1⟩ := ht
      cases u with
      | lst us =>
        rw [TrAt] at hu
        obtain ⟨b, ys, e, q', h2⟩ := hu
        cases e
        rw [I.list_inj q' q] at h2
        rw [lists (by rw [YT] at hd; omega) h1 h2]
      | tup us =>
        rw [TrAt] at hu
        obtain ⟨b, ys, e, q', h2⟩ := hu
        cases e
        obtain ⟨_, _, pl, _⟩ := I.list q
        obtain ⟨_, _, pt, _⟩ := I.tuple q'
        exact absurd rfl (ne_of_list_tuple pl.isList pt)
      | _ => rw [TrAt] at hu; cases hu
    | tup ts =>
      rw [TrAt] at ht
      obtain ⟨a, xs, rfl, q, h1⟩ := ht
      cases u with
      | tup us =>
        rw [TrAt] at hu
        obtain ⟨b, ys, e, q', h2⟩ := hu
        cases e
        rw [I.tuple_inj q' q] at h2
        rw [lists (by rw [YT] at hd; omega) h1 h2]
      | lst us =>
        rw [TrAt] at hu
        obtain ⟨b, ys, e, q', h2⟩ := hu
        cases e
        obtain ⟨_, _, pl, _⟩ := I.list q'
        obtain ⟨_, _, pt, _⟩ := I.tuple q
        exact absurd rfl (ne_of_list_tuple pl.isList pt)
      | _ => rw [TrAt] at hu; cases hu
    | _ => (rw [TrAt] at ht; subst ht; cases u <;> (rw [TrAt] at hu) <;> first | rfl | (obtain ⟨_, _, z, _⟩ := hu; cases z) | (cases hu; rfl) | cases hu)
structure zfm (A : Around) (s : Shared) (a b : Value) (r : Bool) : Prop where
  rc : RcAt A s a b r
  ne : RcNeAt A s a b (!r)
  eq : EqAt A s a b r
theorem units_in1 (A : Around) : A.in1.units = A.units + 1 := rfl
theorem Jy (I : Inv X pins σ H s) : ∀ (n : Nat) {t u : Tr} {v w : V} {a b : Value} {A : Around}, YT t ≤ n → TrAt X.K H t v → TrAt X.K H u w → RelV v a → RelV w b → A.units + n < cLine → zfm A s a b (teq t u) := by
  intro n
  induction n with
  | zero =>
    intro t u v w a b A hd ht hu ra rb hA
    have hA' : A.units < cLine := by omega
    cases t with
    | lst ts => rw [YT] at hd; omega
    | tup ts => rw [YT] at hd; omega
    | non =>
      rw [TrAt] at ht; subst ht; cases ra
      cases u with
      | non => rw [TrAt] at hu; subst hu; cases rb; rw [teq]; exact ⟨.none_none, .none_none, .same _⟩
      | bl b => rw [TrAt] at hu; subst hu; cases rb; simp only [teq]; exact ⟨.none_bool _, .none_bool _, .none_bool _⟩
      | int b => rw [TrAt] at hu; subst hu; obtain ⟨_, rfl⟩ := rb; simp only [teq]; exact ⟨.none_int _ _, .none_int _ _, .none_int _ _⟩
      | str b => rw [TrAt] at hu; subst hu; obtain ⟨_, rfl⟩ := rb; simp only [teq]; exact ⟨.none_str _ _, .none_str _ _, .none_str _ _⟩
      | lst us => rw [TrAt] at hu; obtain ⟨p, ys, rfl, q, _⟩ := hu; cases rb; obtain ⟨_, _, pl, _⟩ := I.list q; simp only [teq]; exact ⟨.none_list pl.isList hA', .none_list pl.isList hA', .none_list pl.isList hA'⟩
      | tup us => rw [TrAt] at hu; obtain ⟨p, ys, rfl, q, _⟩ := hu; cases rb; obtain ⟨_, _, pl, _⟩ := I.tuple q; simp only [teq]; exact ⟨.none_tuple pl hA', .none_tuple pl hA', .none_tuple pl hA'⟩
    | bl c =>
      rw [TrAt] at ht; subst ht; cases ra
      cases u with
      | non => rw [TrAt] at hu; subst hu; cases rb; simp only [teq]; exact ⟨.bool_none _, .bool_none _, .bool_none _⟩
      | bl b => rw [TrAt] at hu; subst hu; cases rb; rw [teq]; exact ⟨.bool_bool _ _, .bool_bool _ _, .bool_bool _ _⟩
      | int b => rw [TrAt] at hu; subst hu; obtain ⟨_, rfl⟩ := rb; rw [teq]; exact ⟨.bool_int _ _ _, .bool_int _ _ _, .bool_int _ _ _⟩
      | str b => rw [TrAt] at hu; subst hu; obtain ⟨_, rfl⟩ := rb; simp only [teq]; exact ⟨.bool_str _ _ _, .bool_str _ _ _, .bool_str _ _ _⟩
      | lst us => rw [TrAt] at hu; obtain ⟨p, ys, rfl, q, _⟩ := hu; cases rb; obtain ⟨_, _, pl, _⟩ := I.list q; simp only [teq]; exact ⟨.bool_list _ pl.isList hA', .bool_list _ pl.isList hA', .bool_list _ pl.isList hA'⟩
      | tup us => rw [TrAt] at hu; obtain ⟨p, ys, rfl, q, _⟩ := hu; cases rb; obtain ⟨_, _, pl, _⟩ := I.tuple q; simp only [teq]; exact ⟨.bool_tuple _ pl hA', .bool_tuple _ pl hA', .bool_tuple _ pl hA'⟩
    | int c =>
      rw [TrAt] at ht; subst ht; obtain ⟨_, rfl⟩ := ra
      cases u with
      | non => rw [TrAt] at hu; subst hu; cases rb; simp only [teq]; exact ⟨.int_none _ _, .int_none _ _, .int_none _ _⟩
      | bl b => rw [TrAt] at hu; subst hu; cases rb; rw [teq]; exact ⟨.int_bool _ _ _, .int_bool _ _ _, .int_bool _ _ _⟩
      | int b => rw [TrAt] at hu; subst hu; obtain ⟨_, rfl⟩ := rb; rw [teq]; exact ⟨.int_int _ _ _ _, .int_int _ _ _ _, .int_int _ _ _ _⟩
      | str b => rw [TrAt] at hu; subst hu; obtain ⟨_, rfl⟩ := rb; simp only [teq]; exact ⟨.int_str _ _ _ _, .int_str _ _ _ _, .int_str _ _ _ _⟩
      | lst us => rw [TrAt] at hu; obtain ⟨p, ys, rfl, q, _⟩ := hu; cases rb; obtain ⟨_, _, pl, _⟩ := I.list q; simp only [teq]; exact ⟨.int_list _ _ pl.isList hA', .int_list _ _ pl.isList hA', .int_list _ _ pl.isList hA'⟩
      | tup us => rw [TrAt] at hu; obtain ⟨p, ys, rfl, q, _⟩ := hu; cases rb; obtain ⟨_, _, pl, _⟩ := I.tuple q; simp only [teq]; exact ⟨.int_tuple _ _ pl hA', .int_tuple _ _ pl hA', .int_tuple _ _ pl hA'⟩
    | str c =>
      rw [TrAt] at ht; subst ht; obtain ⟨_, rfl⟩ := ra
      cases u with
      | non => rw [TrAt] at hu; subst hu; cases rb; simp only [teq]; exact ⟨.str_none _ _, .str_none _ _, .str_none _ _⟩
      | bl b => rw [TrAt] at hu; subst hu; cases rb; simp only [teq]; exact ⟨.str_bool _ _ _, .str_bool _ _ _, .str_bool _ _ _⟩
      | int b => rw [TrAt] at hu; subst hu; obtain ⟨_, rfl⟩ := rb; simp only [teq]; exact ⟨.str_int _ _ _ _, .str_int _ _ _ _, .str_int _ _ _ _⟩
      | str b => rw [TrAt] at hu; subst hu; obtain ⟨_, rfl⟩ := rb; rw [teq]; exact ⟨.str_str _ _ _ _, .str_str _ _ _ _, .str_str _ _ _ _⟩
      | lst us => rw [TrAt] at hu; obtain ⟨p, ys, rfl, q, _⟩ := hu; cases rb; obtain ⟨_, _, pl, _⟩ := I.list q; simp only [teq]; exact ⟨.str_list _ _ pl.isList hA', .str_list _ _ pl.isList hA', .str_list _ _ pl.isList hA'⟩
      | tup us => rw [TrAt] at hu; obtain ⟨p, ys, rfl, q, _⟩ := hu; cases rb; obtain ⟨_, _, pl, _⟩ := I.tuple q; simp only [teq]; exact ⟨.str_tuple _ _ pl hA', .str_tuple _ _ pl hA', .str_tuple _ _ pl hA'⟩
  | succ n ih =>
    intro t u v w a b A hd ht hu ra rb hA
    have hA' : A.units < cLine := by omega
    have items : ∀ {ts us : List Tr} {xs ys : List V} {its its2 : List Value}, tK ts ≤ n → TrsAt X.K H ts xs → TrsAt X.K H us ys → Vals xs its → Vals ys its2 →
        ∀ j (h1 : j < its.toArray.size) (h2 : j < its2.toArray.size), EqAt A.in1 s its.toArray[j] its2.toArray[j] (eAt ts us j) := by
      intro ts us xs ys its its2 hdn h1 h2 r1 r2 j hj1 hj2
      have l1 := h1.length
      have l2 := h2.length
      have m1 := r1.length
      have m2 := r2.length
      rw [List.size_toArray] at hj1 hj2
      obtain ⟨t, e⟩ : ∃ t, ts[j]? = some t := ⟨_, List.getElem?_eq_getElem (by omega)⟩
      obtain ⟨u, e'⟩ : ∃ u, us[j]? = some u := ⟨_, List.getElem?_eq_getElem (by omega)⟩
      obtain ⟨x, ex, hx⟩ := h1.get e
      obtain ⟨y, ey, hy⟩ := h2.get e'
      obtain ⟨vx, fx, rx⟩ := r1.get ex
      obtain ⟨vy, fy, ry⟩ := r2.get ey
      have g1 : its.toArray[j]'(by simpa using hj1) = vx := by
        have z : its[j] = vx := Option.some.inj ((List.getElem?_eq_getElem hj1).symm.trans fx)
        simpa using z
      have g2 : its2.toArray[j]'(by simpa using hj2) = vy := by
        have z : its2[j] = vy := Option.some.inj ((List.getElem?_eq_getElem hj2).symm.trans fy)
        simpa using z
      rw [g1, g2]
      have q := (ih (A := A.in1) (Nat.le_trans (Xh (List.mem_of_getElem? e)) hdn) hx hy rx ry (by rw [units_in1]; omega)).eq
      unfold eAt
      rw [e, e']
      exact q
    by_cases hz : YT t ≤ n
    · exact ih hz ht hu ra rb (by omega)
    cases t with
    | lst ts =>
      rw [TrAt] at ht; obtain ⟨p, xs, rfl, q, h1⟩ := ht; cases ra
      obtain ⟨its, r1, pl, _⟩ := I.list q
      cases u with
      | non => rw [TrAt] at hu; subst hu; cases rb; simp only [teq]; exact ⟨.list_none pl.isList hA', .list_none pl.isList hA', .list_none pl.isList hA'⟩
      | bl b => rw [TrAt] at hu; subst hu; cases rb; simp only [teq]; exact ⟨.list_bool _ pl.isList hA', .list_bool _ pl.isList hA', .list_bool _ pl.isList hA'⟩
      | int b => rw [TrAt] at hu; subst hu; obtain ⟨_, rfl⟩ := rb; simp only [teq]; exact ⟨.list_int _ _ pl.isList hA', .list_int _ _ pl.isList hA', .list_int _ _ pl.isList hA'⟩
      | str b => rw [TrAt] at hu; subst hu; obtain ⟨_, rfl⟩ := rb; simp only [teq]; exact ⟨.list_str _ _ pl.isList hA', .list_str _ _ pl.isList hA', .list_str _ _ pl.isList hA'⟩
      | tup us => rw [TrAt] at hu; obtain ⟨p', ys, rfl, q', _⟩ := hu; cases rb; obtain ⟨_, _, pl', _⟩ := I.tuple q'; simp only [teq]; exact ⟨.list_tuple pl.isList pl' hA', .list_tuple pl.isList pl' hA', .list_tuple pl.isList pl' hA'⟩
      | lst us =>
        have hu0 := hu
        rw [TrAt] at hu; obtain ⟨p', ys, rfl, q', h2⟩ := hu; cases rb
        obtain ⟨its2, r2, pl', _⟩ := I.list q'
        have l1 := h1.length
        have l2 := h2.length
        have m1 := r1.length
        have m2 := r2.length
        have hdn : tK ts ≤ n := by rw [YT] at hd; omega
        have both : RcAt A s (.ref p) (.ref p') (Zo ts us) ∧ RcNeAt A s (.ref p) (.ref p') (!Zo ts us) := by
          by_cases hsz : ts.length = us.length
          · have hs : its.toArray.size = its2.toArray.size := by rw [List.size_toArray, List.size_toArray]; omega
            have it := items hdn h1 h2 r1 r2
            have e1 : (List.range its.toArray.size).all (eAt ts us) = Zo ts us := by
              rw [List.size_toArray, ← m1, ← l1]; exact Jh hsz
            have a1 := RcAt.lists pl.isList pl'.isList hs hA' it
            have a2 := RcNeAt.lists pl.isList pl'.isList hs hA' it
            rw [e1] at a1 a2
            exact ⟨a1, a2⟩
          · have hs : (its.toArray.size != its2.toArray.size) = true := by
              rw [List.size_toArray, List.size_toArray, bne_iff_ne]; omega
            rw [Xa hsz]
            exact ⟨.lists_lengths pl.isList pl'.isList hs hA', .lists_lengths pl.isList pl'.isList hs hA'⟩
        rw [teq]
        refine ⟨both.1, both.2, ?_⟩
        by_cases hpp : p = p'
        · subst hpp
          have e : Tr.lst ts = Tr.lst us := V5 I (n + 1) hd (show TrAt X.K H (.lst ts) (.ref p) by rw [TrAt]; exact ⟨p, xs, rfl, q, h1⟩) hu0
          cases e
          rw [Yb]
          exact .same _
        · exact .of_refs hpp both.1
    | tup ts =>
      rw [TrAt] at ht; obtain ⟨p, xs, rfl, q, h1⟩ := ht; cases ra
      obtain ⟨its, r1, pl, _⟩ := I.tuple q
      cases u with
      | non => rw [TrAt] at hu; subst hu; cases rb; simp only [teq]; exact ⟨.tuple_none pl hA', .tuple_none pl hA', .tuple_none pl hA'⟩
      | bl b => rw [TrAt] at hu; subst hu; cases rb; simp only [teq]; exact ⟨.tuple_bool _ pl hA', .tuple_bool _ pl hA', .tuple_bool _ pl hA'⟩
      | int b => rw [TrAt] at hu; subst hu; obtain ⟨_, rfl⟩ := rb; simp only [teq]; exact ⟨.tuple_int _ _ pl hA', .tuple_int _ _ pl hA', .tuple_int _ _ pl hA'⟩
      | str b => rw [TrAt] at hu; subst hu; obtain ⟨_, rfl⟩ := rb; simp only [teq]; exact ⟨.tuple_str _ _ pl hA', .tuple_str _ _ pl hA', .tuple_str _ _ pl hA'⟩
      | lst us => rw [TrAt] at hu; obtain ⟨p', ys, rfl, q', _⟩ := hu; cases rb; obtain ⟨_, _, pl', _⟩ := I.list q'; simp only [teq]; exact ⟨.tuple_list pl pl'.isList hA', .tuple_list pl pl'.isList hA', .tuple_list pl pl'.isList hA'⟩
      | tup us =>
        have hu0 := hu
        rw [TrAt] at hu; obtain ⟨p', ys, rfl, q', h2⟩ := hu; cases rb
        obtain ⟨its2, r2, pl', _⟩ := I.tuple q'
        have l1 := h1.length
        have l2 := h2.length
        have m1 := r1.length
        have m2 := r2.length
        have hdn : tK ts ≤ n := by rw [YT] at hd; omega
        have e1 : ((List.range (min its.toArray.size its2.toArray.size)).all (eAt ts us) && its.toArray.size == its2.toArray.size) = Zo ts us := by
          rw [List.size_toArray, List.size_toArray, ← m1, ← l1, ← m2, ← l2]
          by_cases hsz : ts.length = us.length
          · rw [← hsz, Nat.min_self, beq_self_eq_true, Bool.and_true]; exact Jh hsz
          · rw [Xa hsz, beq_eq_false_iff_ne.mpr hsz, Bool.and_false]
        have it := items hdn h1 h2 r1 r2
        have a1 := RcAt.tuples pl pl' hA' it
        have a2 := RcNeAt.tuples pl pl' hA' it
        rw [e1] at a1 a2
        rw [teq]
        refine ⟨a1, a2, ?_⟩
        by_cases hpp : p = p'
        · subst hpp
          have e : Tr.tup ts = Tr.tup us := V5 I (n + 1) hd (show TrAt X.K H (.tup ts) (.ref p) by rw [TrAt]; exact ⟨p, xs, rfl, q, h1⟩) hu0
          cases e
          rw [Yb]
          exact .same _
        · exact .of_refs hpp a1
    | non => exact absurd (Nat.zero_le _) hz
    | bl b => exact absurd (Nat.zero_le _) hz
    | int b => exact absurd (Nat.zero_le _) hz
    | str b => exact absurd (Nat.zero_le _) hz
end
section
variable {X : Cx}
def zet (K : PySem.W.Frag) (neg : Bool) : R2 := fun x y H Q => ∃ t u, TrAt K H t x ∧ TrAt K H u y ∧ YT t ≤ 8 ∧ Q (.bl (if neg then !teq t u else teq t u)) H
theorem zec (hu : X.A.units + 64 < cLine) : OpR X (compareOp .Eq) (zet X.K false) := by
  intro pins s σ H x y v u Q I rx ry h
  obtain ⟨t, t', h1, h2, hd, q⟩ := h
  exact (Jy I 8 hd h1 h2 rx ry (by omega)).rc _ _ _ _ ⟨.bl _, H, I, rfl, q⟩
open Classical in
def zdq (K : PySem.W.Frag) (neg : Bool) : R2 := fun x y H Q => ∃ p xs ts u, y = .ref p ∧ SqL K H p xs ∧ TrsAt K H ts xs ∧ TrAt K H u x ∧ tK ts ≤ 8 ∧ Q (.bl (if neg then !(ts.any fun t => teq t u) else ts.any fun t => teq t u)) H
open Classical in
theorem zax {pins : List (Addr × Obj)} {σ : St} {H : Hp} {s : Shared} (I : Inv X pins σ H s) {u : Tr} : ∀ {ts : List Tr} {xs : List V} {its : List Value}, tK ts ≤ 8 → TrsAt X.K H ts xs → Vals xs its →
    its.any (fun y => decide (∃ t x, RelV x y ∧ TrAt X.K H t x ∧ teq t u = true)) = ts.any fun t => teq t u
  | [], xs, its, _, h, r => by rw [TrsAt] at h; subst h; cases r; rfl
  | t :: ts, xs, its, hd, h, r => by
    rw [TrsAt] at h
    obtain ⟨y, ys, rfl, hy, h⟩ := h
    cases r with
    | cons r1 r2 =>
      rw [tK] at hd
      rw [List.any_cons, List.any_cons, zax I (by omega) h r2]
      congr 1
      rw [Bool.eq_iff_iff, decide_eq_true_iff]
      constructor
      · rintro ⟨t', x', r', h', e⟩
        rw [r1.inj r'] at hy
        rw [V5 I 8 (by omega) hy h']; exact e
      · intro e
        exact ⟨t, y, r1, hy, e⟩
open Classical in
theorem Q8 {pins : List (Addr × Obj)} {σ : St} {H : Hp} {s : Shared} (I : Inv X pins σ H s) (hu : X.A.units + 64 < cLine) {u : Tr} {x : V} {v : Value} (hx : TrAt X.K H u x) (rx : RelV x v) {ts : List Tr} {xs : List V} {its : List Value} (hd : tK ts ≤ 8) (h : TrsAt X.K H ts xs) (r : Vals xs its) :
    ∀ y, y ∈ its.toArray → SeqAt.EqAt X.A.in1 s y v (decide (∃ t x, RelV x y ∧ TrAt X.K H t x ∧ teq t u = true)) := by
  intro y hy
  have hy' : y ∈ its := by simpa using hy
  obtain ⟨j, hj, e⟩ := List.getElem_of_mem hy'
  have l1 := h.length
  have m1 := r.length
  obtain ⟨t, et⟩ : ∃ t, ts[j]? = some t := ⟨_, List.getElem?_eq_getElem (by omega)⟩
  obtain ⟨z, ez, hz⟩ := h.get et
  obtain ⟨w, ew, rw'⟩ := r.get ez
  have e' : y = w := by
    rw [List.getElem?_eq_getElem hj] at ew
    exact e.symm.trans (Option.some.inj ew)
  subst e'
  have hd' : YT t ≤ 8 := Nat.le_trans (Xh (List.mem_of_getElem? et)) hd
  have q := (Jy I 8 (A := X.A.in1) hd' hz hx rw' rx (by rw [units_in1]; omega)).eq
  have e2 : decide (∃ t x, RelV x y ∧ TrAt X.K H t x ∧ teq t u = true) = teq t u := by
    rw [Bool.eq_iff_iff, decide_eq_true_iff]
    constructor
    · rintro ⟨t', x', r', h', e3⟩
      rw [rw'.inj r'] at hz
      rw [V5 I 8 hd' hz h']; exact e3
    · intro e3
      exact ⟨t, z, rw', hz, e3⟩
  rw [e2]
  exact q
open Classical in
theorem zd9 (hu : X.A.units + 64 < cLine) : OpR X (compareOp .In) (zdq X.K false) := by
  intro pins s σ H x y v u Q I rx ry h
  obtain ⟨p, xs, ts, t, rfl, hq, hts, ht, hd, q⟩ := h
  cases ry
  obtain ⟨its, r, pl, hz⟩ := I.list hq
  refine SeqAt.in_listAt _ pl.isList (Q8 I hu ht rx hd hts r) ⟨.bl _, H, I, rfl, ?_⟩
  simp only [List.any_toArray]
  rw [zax I hd hts r]
  exact q
open Classical in
theorem zbC (hu : X.A.units + 64 < cLine) : OpR X (compareOp .NotIn) (zdq X.K true) := by
  intro pins s σ H x y v u Q I rx ry h
  obtain ⟨p, xs, ts, t, rfl, hq, hts, ht, hd, q⟩ := h
  cases ry
  obtain ⟨its, r, pl, hz⟩ := I.list hq
  refine SeqAt.notIn_listAt _ pl.isList (Q8 I hu ht rx hd hts r) ⟨.bl _, H, I, rfl, ?_⟩
  simp only [List.any_toArray]
  rw [zax I hd hts r]
  exact q
end
end L2
namespace L2
open PySem PySem.Spec PyProof.Rows
theorem Q3 {K : PySem.W.Frag} {T U : String} {b : Bool} (h1 : PySem.W.kitMeta U = true) (h2 : (fastBuiltinMro T).map (·.contains (Value.type U)) = some b) (hb : T = U → b = true) : PySem.W.kitOne K (.type T) (.type U) = some b := by
  unfold PySem.W.kitOne
  by_cases e : T = U
  · subst e
    rw [if_pos (by simp), hb rfl]
  · rw [if_neg (by simpa using e)]
    show (if PySem.W.kitMeta U = true then PySem.W.subIn K (.type T) (.type U) else none) = some b
    rw [if_pos h1]
    exact h2
section
variable {K : PySem.W.Frag}
theorem J4 : PySem.W.kitOne K (.type "int") (.type "int") = some true := Q3 (by decide +kernel) (by decide +kernel) (fun _ => rfl)
theorem Q0 : PySem.W.kitOne K (.type "int") (.type "bool") = some false := Q3 (by decide +kernel) (by decide +kernel) (fun e => absurd e (by decide))
theorem XF : PySem.W.kitOne K (.type "list") (.type "list") = some true := Q3 (by decide +kernel) (by decide +kernel) (fun _ => rfl)
theorem Vv : PySem.W.kitOne K (.type "tuple") (.type "tuple") = some true := Q3 (by decide +kernel) (by decide +kernel) (fun _ => rfl)
end
section
variable {X : Cx}
def zfh (K : PySem.W.Frag) : List V → Hp → VK → Prop := fun xs H Q => ∃ x T t b, xs = [x, .ty T] ∧ WY K H x t ∧ PySem.W.kitOne K t (.type T) = some b ∧ Q (.bl b) H
theorem Uk : uK X (.builtin "isinstance") (zfh X.K) := by
  intro pins s σ H xs us Q I r h
  obtain ⟨x, T, t, b, rfl, ty, e, q⟩ := h
  obtain ⟨u, v, rfl, rx, rt⟩ := vals2 r
  cases rt
  exact zbH I rx ty e fun tk => ⟨.bl b, H, I.tok tk, rfl, q⟩
def ze4 (i j : Int) : Prop := 0 < j ∧ j < 2 ^ 200
theorem uL : OpR X (binaryOp .FloorDiv) (rI ze4 fun i j => .int (i / j)) := opI fun i j _ _ _ _ _ hc q => by
  have h1 : (0 : Int) < j := hc.1
  have h2 : j < 2 ^ 200 := hc.2
  refine floordiv_int (by omega) (by rw [Int.fdiv_eq_ediv_of_nonneg i (by omega)]; exact q) (.inl (PyProof.noPylong_of_log2 ?_))
  have h3 : j.natAbs < 2 ^ 200 := by omega
  have h4 : j.natAbs.log2 < 200 := (Nat.log2_lt (by omega)).mpr h3
  omega
theorem Vo {P : Program} {w : World} {A : Around} {its : List Value} {bs : List Bool} (r : Vals (bs.map V.bl) its) : TruthOf P w A (fun i v => its.toArray[i]? = some v) (fun i => bs.getD i false) := by
  intro i v s Q E hP hQ
  have hl := r.length
  rw [List.length_map] at hl
  have e : its[i]? = some v := by simpa using hP
  have hi : i < its.length := (List.getElem?_eq_some_iff.mp e).1
  have e2 : (bs.map V.bl)[i]? = some (.bl (bs[i]'(by omega))) := by rw [List.getElem?_map, List.getElem?_eq_getElem (by omega)]; rfl
  obtain ⟨u, e3, r3⟩ := r.get e2
  rw [e] at e3
  cases e3
  cases r3
  have e4 : bs.getD i false = bs[i] := by rw [List.getD_eq_getElem?_getD, List.getElem?_eq_getElem (by omega)]; rfl
  exact wpAny_truthy_bool (e4 ▸ hQ)
theorem JV : ∀ bs : List Bool, (List.range bs.length).all (fun i => bs.getD i false) = bs.all id
  | [] => rfl
  | b :: bs => by
    rw [List.length_cons, List.range_succ_eq_map, List.all_cons, List.all_map, List.all_cons, ← JV bs]
    rfl
theorem zam : ∀ bs : List Bool, (List.range bs.length).any (fun i => bs.getD i false) = bs.any id
  | [] => rfl
  | b :: bs => by
    rw [List.length_cons, List.range_succ_eq_map, List.any_cons, List.any_map, List.any_cons, ← zam bs]
    rfl
def ze5 (K : PySem.W.Frag) : List V → Hp → VK → Prop := fun xs H Q => ∃ (a : Addr) (bs : List Bool), xs = [.ref a] ∧ SqL K H a (bs.map V.bl) ∧ Q (.bl (bs.all id)) H
def zeB (K : PySem.W.Frag) : List V → Hp → VK → Prop := fun xs H Q => ∃ (a : Addr) (bs : List Bool), xs = [.ref a] ∧ SqL K H a (bs.map V.bl) ∧ Q (.bl (bs.any id)) H
theorem zcF (hc : X.calm = true) : uK X (.builtin "all") (ze5 X.K) := by
  intro pins s σ H xs us Q I r h
  obtain ⟨a, bs, rfl, hq, q⟩ := h
  obtain ⟨u, rfl, rx⟩ := vals1 r
  cases rx
  obtain ⟨its, rv, pl, hz⟩ := I.list hq
  have hl := rv.length
  rw [List.length_map] at hl
  obtain ⟨o, n, eo, _⟩ := id pl
  have hne : a ≠ s.heap.objs.size := Nat.ne_of_lt (Heap.lt_size eo)
  refine call_all_walk (wpAny_pyIter_list pl.isList ?_)
  refine ⟨_, _, _, _, _, _, _, rfl, Walks.list (A := X.A.in1) (show X.A.in1.handled = none from I.ok.hd hc) s.heap.objs.size a hne its.toArray, ⟨⟨_, Heap.get?_push_size _ rfl, rfl, rfl⟩, pl.isList.at fun o e => Heap.get?_push_of_some _ e⟩, Vo rv, fun h' tk hk => ?_⟩
  have I1 : Inv X pins σ H { s with heap := h', toks := tk } := I.kept fun b o e => hk b o (by have := Heap.lt_size e; simp; exact Nat.ne_of_lt this) (Heap.get?_push_of_some _ e)
  refine ⟨.bl _, H, I1, rfl, ?_⟩
  rw [List.size_toArray, ← hl, JV]
  exact q
theorem zcb (hc : X.calm = true) : uK X (.builtin "any") (zeB X.K) := by
  intro pins s σ H xs us Q I r h
  obtain ⟨a, bs, rfl, hq, q⟩ := h
  obtain ⟨u, rfl, rx⟩ := vals1 r
  cases rx
  obtain ⟨its, rv, pl, hz⟩ := I.list hq
  have hl := rv.length
  rw [List.length_map] at hl
  obtain ⟨o, n, eo, _⟩ := id pl
  have hne : a ≠ s.heap.objs.size := Nat.ne_of_lt (Heap.lt_size eo)
  refine call_any_walk (wpAny_pyIter_list pl.isList ?_)
  refine ⟨_, _, _, _, _, _, _, rfl, Walks.list (A := X.A.in1) (show X.A.in1.handled = none from I.ok.hd hc) s.heap.objs.size a hne its.toArray, ⟨⟨_, Heap.get?_push_size _ rfl, rfl, rfl⟩, pl.isList.at fun o e => Heap.get?_push_of_some _ e⟩, Vo rv, fun h' tk hk => ?_⟩
  have I1 : Inv X pins σ H { s with heap := h', toks := tk } := I.kept fun b o e => hk b o (by have := Heap.lt_size e; simp; exact Nat.ne_of_lt this) (Heap.get?_push_of_some _ e)
  refine ⟨.bl _, H, I1, rfl, ?_⟩
  rw [List.size_toArray, ← hl, zam]
  exact q
theorem zct : typeLookup (.type "list_reverseiterator") "__len__" = pure none := by rw [typeLookup_type, builtinLookup_eq_fast]; kernel_rfl
theorem zdn : typeLookup (.type "list_reverseiterator") "__length_hint__" = pure (some (.builtin "list_reverseiterator.__length_hint__")) := by rw [typeLookup_type, builtinLookup_eq_fast]; kernel_rfl
section
variable {prog : Program} {w : World} {A : Around} {E : Value → Shared → Prop} {s : Shared}
theorem zaL {R : Result → Shared → Prop} (hh : A.handled = none) {I l : Addr} {items : Array Value} (hit : s.heap.IsRevIter I l ((items.size : Int) - 1)) (hL : s.heap.IsList l items) (S : Addr) (res : Value) (c₀ : Nat) (hS : s.heap.get? S = some { cls := .type "list", data := .seq #[] c₀ })
    (hSl : S ≠ l) (hR : ∀ s' acc' c', Moved [S, I] (fun a b => b = a) s s' → s'.heap.get? S = some { cls := .type "list", dict := none, data := .seq acc' c', slots := #[] } →
      ItemsOf (fun i v => items[items.size - 1 - i]? = some v) acc' items.size → R (.ok (.ret res)) s') (hn : items.size ≤ sizeLine) :
    wpAny (model prog w) A.in1 (Builtin.List.listExtendWith (.ref S) (.ref I) res)
      (fun fin s' => match fin with | .done f => R (.ok f) s' | .again c' => c'.quiet = true ∧ codeAny (model prog w) A c' R s') (fun e s' => R (.error e) s') s := by
  obtain ⟨oi, hoi, hci, hdi⟩ := id hit
  obtain ⟨ol, hol, hcl, nl, hdl⟩ := id hL
  have hSI : S ≠ I := by
    rintro rfl
    rw [hS] at hoi; cases hoi; exact absurd (show Value.type "list" = Value.type "list_reverseiterator" from hci) (by decide)
  have hne : l ≠ I := by
    rintro rfl
    rw [hol] at hoi; cases hoi; rw [hcl] at hci; exact absurd hci (by decide)
  have hSf : S ∉ [I, l] := fun hm => by
    rcases List.mem_cons.mp hm with e | hm
    · exact hSI e
    · exact hSl (List.mem_singleton.mp hm)
  unfold Builtin.List.listExtendWith
  refine wpAny_bind (wpAny_typeOf (T := "list_reverseiterator") hit.typeIs ?_)
  have h1 : Builtin.List.listSameRef (.ref S) (.ref I) = false := by simp [Builtin.List.listSameRef, hSI]
  have h2 : (Value.type "list_reverseiterator" == Value.type "list") = false := by decide
  have h3 : (Value.type "list_reverseiterator" == Value.type "tuple") = false := by decide
  simp only [h1, h2, h3, Bool.or_false, Bool.false_eq_true, if_false]
  refine wpAny_bind (wpAny_pyIter_revIter hit ?_)
  refine wpAny_bind (wpAny_holding ?_)
  unfold Builtin.List.listLengthHint
  refine wpAny_bind (wpAny_specialOf hit.typeIs zct ?_)
  show wpAny _ A.in1 (specialOf (Value.ref I) (Str.ofString "__length_hint__") >>= _) _ _ _
  refine wpAny_bind (wpAny_specialOf hit.typeIs zdn ?_)
  generalize hid : ("list_reverseiterator.__length_hint__" : String) = id0
  wp_delta
  rw [show splitId id0 = some ("list_reverseiterator", "__length_hint__") from by subst hid; decide +kernel]
  subst hid
  refine wpAny_bind (wpAny_isInstance (b := true) hit.typeIs (by rw [isSubtype_type]; kernel_rfl) ?_)
  refine wpAny_pure ?_
  rw [if_neg (by decide)]
  have W := Walks.listRev (prog := prog) (w := w) (A := A.in1) hh I l hne items
  refine wpAny_pure ⟨plainId_quiet F.plain_extend_loop _, codeAny_extend_loopS W.toS hn _ hSf _ items.size 0 _ _ _ rfl (Nat.zero_le _) ⟨Nat.zero_le _, by simpa using hit, hL⟩ hS (ItemsOf.nil _) fun s' acc' c' hm hS' hacc => ?_⟩
  exact hR s' acc' c' hm hS' hacc
theorem zcK {R : Result → Shared → Prop} (hh : A.handled = none) {I l : Addr} {items : Array Value} (hit : s.heap.IsRevIter I l ((items.size : Int) - 1)) (hL : s.heap.IsList l items) (S : Addr) (hS : s.heap.get? S = some { cls := .type "list", data := .seq #[] }) (hSl : S ≠ l) (hSI : S ≠ I)
    (hR : ∀ s' acc' c', s'.gens = s.gens → s'.os = s.os → (∀ b o, b ≠ S → b ≠ I → s.heap.get? b = some o → s'.heap.get? b = some o) → s'.heap.get? S = some { cls := .type "list", dict := none, data := .seq acc' c', slots := #[] } →
      ItemsOf (fun i v => items[items.size - 1 - i]? = some v) acc' items.size → R (.ok (.ret .none)) s') (hn : items.size ≤ sizeLine) :
    wpAny (model prog w) A.in1 (Builtin.«list.__init__» ⟨[.ref S, .ref I], []⟩)
      (fun fin s' => match fin with | .done f => R (.ok f) s' | .again c' => c'.quiet = true ∧ codeAny (model prog w) A c' R s') (fun e s' => R (.error e) s') s := by
  show wpAny _ _ (do let old ← Builtin.List.listItems (.ref S); Builtin.List.listUpdate (.ref S) (fun _ => #[]); letGo old.toList.reverse; Builtin.List.listExtendWith (.ref S) (.ref I) .none) _ _ s
  refine wpAny_bind ?_
  unfold Builtin.List.listItems
  refine wpAny_bind (wpAny_seqItems hS rfl (wpAny_pure ?_))
  show wpAny _ _ (updateSeq S (fun _ => #[]) >>= fun _ => letGo (#[] : Array Value).toList.reverse >>= fun _ => Builtin.List.listExtendWith (.ref S) (.ref I) .none) _ _ s
  refine wpAny_bind (wpAny_updateSeq hS rfl ?_)
  have hS₂ := Heap.get?_update_self (Obj.mapSeq (fun _ => (#[] : Array Value))) hS rfl
  have oth : ∀ b o, b ≠ S → s.heap.get? b = some o → (s.heap.update S (Obj.mapSeq (fun _ => (#[] : Array Value)))).get? b = some o :=
    fun b o hb e => (Heap.get?_update_other _ _ (Ne.symm hb)).trans e
  refine wpAny_bind (wpAny_letGo ?_)
  refine zaL (hn := hn) hh (hit.at fun o e => oth I o (Ne.symm hSI) e) (hL.at fun o e => oth l o (Ne.symm hSl) e) S .none _ hS₂ hSl fun s' acc' c' hm hS' hacc => ?_
  refine hR s' acc' c' hm.gens hm.os (fun b o hb hi e => hm.heap b o (fun z => ?_) (oth b o hb e)) hS' hacc
  rcases List.mem_cons.mp z with e' | z
  · exact hb e'
  · exact hi (List.mem_singleton.mp z)
theorem WD {Q : Value → Shared → Prop} (hh : A.handled = none) {I l : Addr} {items : Array Value} (hit : s.heap.IsRevIter I l ((items.size : Int) - 1)) (hL : s.heap.IsList l items)
    (hQ : ∀ s' acc' c', s'.gens = s.gens → s'.os = s.os → (∀ b o, b ≠ I → s.heap.get? b = some o → s'.heap.get? b = some o) →
      s'.heap.get? s.heap.objs.size = some { cls := .type "list", dict := none, data := .seq acc' c', slots := #[] } → ItemsOf (fun i v => items[items.size - 1 - i]? = some v) acc' items.size → Q (.ref s.heap.objs.size) s') (hn : items.size ≤ sizeLine) :
    wpAny (model prog w) A (call (.type "list") [.ref I]) Q E s := by
  refine callType_codes (Q₁ := fun obj s₁ => obj = .ref s.heap.objs.size ∧ s₁ = { s with heap := s.heap.push { cls := .type "list", data := .seq #[] } }) F.called_list (F.typeCall_list_1 _) F.entry_list_init
    (code_list_new _ ⟨rfl, rfl⟩) fun obj s₁ h₁ => ?_
  obtain ⟨rfl, rfl⟩ := h₁
  have hS : (s.heap.push { cls := .type "list", data := .seq #[] }).get? s.heap.objs.size = some { cls := .type "list", data := .seq #[] } := Heap.get?_push_size _ rfl
  obtain ⟨oi, hoi, _⟩ := id hit
  obtain ⟨ol, hol, _⟩ := id hL
  refine ⟨⟨_, hS, rfl⟩, F.args_list_init_2 _ _, zcK (A := A.in1) (hn := hn) hh (hit.at fun o e => Heap.get?_push_of_some _ e) (hL.at fun o e => Heap.get?_push_of_some _ e) _ hS (Nat.ne_of_gt (Heap.lt_size hol)) (Nat.ne_of_gt (Heap.lt_size hoi)) fun s' acc' c' hg ho hk hS' hacc => ?_⟩
  exact ⟨rfl, hQ s' acc' c' hg ho (fun b o hI e => hk b o (Nat.ne_of_lt (Heap.lt_size e)) hI (Heap.get?_push_of_some _ e)) hS' hacc⟩
end
theorem zbU {items acc : Array Value} (h : ItemsOf (fun i v => items[items.size - 1 - i]? = some v) acc items.size) : acc = items.toList.reverse.toArray := by
  apply Array.ext_getElem?
  intro i
  by_cases hi : i < items.size
  · have e : acc[i]? = some (acc[i]'(by rw [h.1]; exact hi)) := Array.getElem?_eq_getElem _
    have q := h.2 i _ e
    rw [e, ← q]
    simp [List.getElem?_reverse, hi]
  · rw [Array.getElem?_eq_none (by rw [h.1]; omega), Array.getElem?_eq_none (by simp; omega)]
def zcL (K : PySem.W.Frag) (te : TE) : TE := fun σ H Q => te σ H fun x H1 => ∃ (l : Addr) (ys : List V), x = .ref l ∧ SqL K H1 l ys ∧ ∀ q, H1 q = none → Q (.ref q) (upd H1 q (.lst ys.reverse))
theorem za1 {e : Expr} {te : TE} {p1 p2 pos1 pos2 : Pos} (hc : X.calm = true) (hg1 : Gl X "list") (hm1 : X.mg "list" = none) (hg2 : Gl X "reversed") (hm2 : X.mg "reversed" = none) (he : PE X e te)
    (hs : starEach [e] X.env = [(false, eval e X.env)] := by rfl) (hs2 : starEach [.Call (.Name "reversed" p2) [e] [] pos2] X.env = [(false, eval (.Call (.Name "reversed" p2) [e] [] pos2) X.env)] := by rfl) :
    PE X (.Call (.Name "list" p1) [.Call (.Name "reversed" p2) [e] [] pos2] [] pos1) (zcL X.K te) := by
  intro pins s σ H Q I h
  refine wpAny_Call_Name_kw (jt I hg1 hm1 boot_list ?_)
  refine PyProof.Rows.callWith_type1 ?_ hs2 rfl
  rw [hs2]
  show wpAny _ _ (spliced ((false, eval (.Call (.Name "reversed" p2) [e] [] pos2) X.env) :: backTo pos1 [])) _ _ s
  refine Calls.spliced_cons ?_
  refine wpAny_Call_Name_kw (jt I hg2 hm2 boot_reversed ?_)
  refine PyProof.Rows.callWith_type1 ?_ hs rfl
  rw [hs]
  show wpAny _ _ (spliced ((false, eval e X.env) :: backTo pos2 [])) _ _ s
  refine Calls.spliced_cons (thn (he pins s σ H _ I h) fun v s1 ⟨x, H1, I1, r1, q1⟩ => Calls.spliced_nil ?_)
  obtain ⟨l, ys, rfl, hq, q⟩ := q1
  cases r1
  obtain ⟨its, rv, pl, hz⟩ := I1.list hq
  have hl := rv.length
  refine call_reversed_list pl.isList (Calls.spliced_nil ?_)
  have hsz : (its.toArray.size : Int) = (ys.length : Int) := by rw [List.size_toArray, hl]
  refine WD (s := { s1 with heap := s1.heap.push (revObj l ((its.toArray.size : Int) - 1)) }) (I1.ok.hd hc) (I := s1.heap.objs.size) (l := l) (items := its.toArray) ⟨_, Heap.get?_push_size _ rfl, rfl, rfl⟩ (pl.isList.at fun o e => Heap.get?_push_of_some _ e) (fun s' acc c hgn ho hk hS hacc => ?_) (by rw [List.size_toArray, ← hl]; exact hz)
  have e1 : (s1.heap.push (revObj l ((its.toArray.size : Int) - 1))).objs.size = s1.heap.objs.size + 1 := Heap.size_push _ _
  rw [show ({ s1 with heap := s1.heap.push (revObj l ((its.toArray.size : Int) - 1)) } : Shared).heap.objs.size = s1.heap.objs.size + 1 from e1] at hS ⊢
  have kept : ∀ b o, s1.heap.get? b = some o → s'.heap.get? b = some o := fun b o e => hk b o (Nat.ne_of_lt (Heap.lt_size e)) (Heap.get?_push_of_some _ e)
  have hokL := I1.laid (a := s1.heap.objs.size + 1) (o := .lst ys.reverse) (h' := s'.heap) (t' := s'.toks) kept (Nat.le_succ _) ⟨by rw [List.length_reverse]; exact hz, its.reverse, c, rv.reverse, by rw [hS, zbU hacc]⟩
  have I2 : Inv X pins σ (upd H1 (s1.heap.objs.size + 1) (.lst ys.reverse)) s' := by
    refine I1.call' (ch := []) (by rw [ho]) ?_ hokL.hok (by rw [hgn]; exact I1.bare) fun b z => absurd z (by simp)
    exact Un.laid kept (Nat.le_succ _) (I1.hok.fresh (Nat.le_succ _))
  exact ⟨.ref _, _, I2, rfl, q _ (I1.hok.fresh (Nat.le_succ _))⟩
end
section
variable {X : Cx} (K : PySem.W.Frag)
theorem zcr (e : X.K = K := by rfl) : uK X (.builtin "isinstance") (zfh K) := by subst e; exact Uk
theorem vB (e : X.K = K := by rfl) : uK X (.builtin "len") (fun xs H Q => ∃ p ys, xs = [.ref p] ∧ (SqL K H p ys ∨ SqT K H p ys) ∧ Q (.int ys.length) H) := by subst e; exact QW
theorem yR (e : X.K = K := by rfl) : IxR X (zeW K) := by subst e; exact zdo
theorem xM (e : X.K = K := by rfl) : IxR X (zeK K) := by subst e; exact zd3
theorem Xz (e : X.K = K := by rfl) : SlR X (ze2 K) := by subst e; exact zc6
theorem k_all (hc : X.calm = true) (e : X.K = K := by rfl) : uK X (.builtin "all") (ze5 K) := by subst e; exact zcF hc
theorem zca (hc : X.calm = true) (e : X.K = K := by rfl) : uK X (.builtin "any") (zeB K) := by subst e; exact zcb hc
theorem zci (e : X.K = K := by rfl) : uK X (.type "list") (fun xs H Q => ∃ p ys, xs = [.ref p] ∧ (SqL K H p ys ∨ SqT K H p ys) ∧ ∀ l, H l = none → Q (.ref l) (upd H l (.lst ys))) := by subst e; exact Jq
theorem zdJ (hu : X.A.units + 64 < cLine) (e : X.K = K := by rfl) : OpR X (compareOp .Eq) (zet K false) := by subst e; exact zec hu
theorem ze8 (hu : X.A.units + 64 < cLine) (e : X.K = K := by rfl) : OpR X (compareOp .In) (zdq K false) := by subst e; exact zd9 hu
theorem zcC (hu : X.A.units + 64 < cLine) (e : X.K = K := by rfl) : OpR X (compareOp .NotIn) (zdq K true) := by subst e; exact zbC hu
theorem Qe {tg l : Expr} {tl : TE} (hl : PE X l tl) (e : X.K = K := by rfl) : PI X tg l (zdN K tl) := by subst e; exact zdc hl
end
structure Df (K : PySem.W.Frag) (mg : Str → Option Value) (x : Str) (st : Stmt) (ps : List Str) (f : Addr) (fd : FuncData) : Prop where
  fn : Fun K x x st f fd
  b : Binds K fd ps []
  g : mg x = some (.ref f)
theorem zF {X : Cx} {x : Str} {st : Stmt} {ps : List Str} {f : Addr} {fd : FuncData} {k : Nat} {sp : Sp} {e : Expr} {es : List Expr} {t : TA} {p pos : Pos} (D : Df X.K X.mg x st ps f fd) (G : FnOk X.prog X.w X.K X.mg X.base CX0 k f fd ps sp) (hr : Room k X.A) (ha : PA X (e :: es) t) (hg : Gl X x := by rfl)
    (hdb : (x == ("__debug__" : Str)) = false := by decide) (he : starEach (e :: es) X.env = (false, eval e X.env) :: starEach es X.env := by rfl) (hpl : (backTo pos (starEach es X.env)).any (·.1) = false := by rfl) : PE X (.Call (.Name x p) (e :: es) [] pos) (zdI sp [] E0 t) :=
  zdj G hr hg D.g D.fn.kp D.b .nil XD ha hdb he hpl
theorem zcv {K : PySem.W.Frag} {h : Heap} {mg : Str → Option Value} {x : Str} {st : Stmt} {ps : List Str} {f : Addr} {oc : Value} {od an : Option Addr} {osl : Array (Option Value)} {kV doc pm cdv ct : Value} (X : K.In h) (G : h.Ns mainGlobals mg)
    (a : PySem.W.nsIn K mainGlobals x = some (some (.ref f))) (l : K.lookup f = some ⟨oc, od, .func (PySem.W.fnOf x x (ux st) (wN st) (zu st) .none kV doc pm an cdv ct), osl⟩) (c : PySem.W.codeIn K cdv x = true) (k : PySem.W.keepIn K (.ref f) = true)
    (hb : ∀ (kV doc pm : Value) (an : Option Addr) (cdv ct : Value) (us : List Value), us.length = ps.length → bindArgs (PySem.W.fnOf x x (ux st) (wN st) (zu st) .none kV doc pm an cdv ct) ⟨us, []⟩ = pure (ps.zip us)) :
    Df K mg x st ps f (PySem.W.fnOf x x (ux st) (wN st) (zu st) .none kV doc pm an cdv ct) :=
  ⟨Jt l c k, (Jt (st := st) l c k).binds hb, PySem.W.mg_of X G a⟩
structure Blt (mg : Str → Option Value) : Prop where
  n_isinstance : mg "isinstance" = none
  n_int : mg "int" = none
  n_bool : mg "bool" = none
  n_list : mg "list" = none
  n_tuple : mg "tuple" = none
  n_reversed : mg "reversed" = none
  n_len : mg "len" = none
  n_max : mg "max" = none
  n_min : mg "min" = none
  n_range : mg "range" = none
  n_all : mg "all" = none
  n_any : mg "any" = none
  n_sorted : mg "sorted" = none
  n_enumerate : mg "enumerate" = none
  n_repr : mg "repr" = none
theorem zbZ {A : Around} {k : Nat} (hr : Room k A) : A.units + 64 < cLine := hr.units
def aw (fp : List Addr) (H : Hp) : Hp := fun b => if b ∈ fp then none else H b
theorem Wl {fp : List Addr} {H : Hp} {b : Addr} (h : b ∈ fp) : aw fp H b = none := by unfold aw; rw [if_pos h]
theorem yt {fp : List Addr} {H : Hp} {b : Addr} (h : b ∉ fp) : aw fp H b = H b := by unfold aw; rw [if_neg h]
theorem zU (fp : List Addr) (H : Hp) : Same (aw fp H) H := fun b o e => by
  by_cases h : b ∈ fp
  · rw [Wl h] at e; cases e
  · rw [yt h] at e; exact e
theorem Same.aw {H H' : Hp} (h : Same H H') (fp : List Addr) : Same (aw fp H) (aw fp H') := fun b o e => by
  by_cases hb : b ∈ fp
  · rw [Wl hb] at e; cases e
  · rw [yt hb] at e ⊢; exact h b o e
theorem zp {H : Hp} {p : Addr} {o : HO} (h : H p = none) : Same H (upd H p o) := fun b u e => by rw [zx (zB e h)]; exact e
section
variable {κ : Type} [DecidableEq κ]
def VF (kvs : List (κ × V)) (k : κ) : Option V := (kvs.find? fun kv => decide (kv.1 = k)).map (·.2)
def putK (kvs : List (κ × V)) (k : κ) (v : V) : List (κ × V) :=
  if (kvs.any fun kv => decide (kv.1 = k)) = true then kvs.map (fun kv => if kv.1 = k then (kv.1, v) else kv) else kvs ++ [(k, v)]
def zdH (kvs : List (κ × V)) (k : κ) : List (κ × V) := kvs.filter fun kv => decide (kv.1 ≠ k)
theorem Uc {p : κ × V} {r : List (κ × V)} {k : κ} (e : p.1 = k) : VF (p :: r) k = some p.2 := by simp [VF, List.find?_cons, e]
theorem Ua {p : κ × V} {r : List (κ × V)} {k : κ} (e : ¬ p.1 = k) : VF (p :: r) k = VF r k := by simp [VF, List.find?_cons, e]
theorem zah (k : κ) : ∀ kvs : List (κ × V), (kvs.any fun kv => decide (kv.1 = k)) = (VF kvs k).isSome
  | [] => rfl
  | p :: r => by
    rw [List.any_cons]
    by_cases e : p.1 = k
    · simp only [Uc e, decide_eq_true e, Bool.true_or, Option.isSome_some]
    · rw [Ua e, decide_eq_false e, Bool.false_or]; exact zah k r
theorem Vp (kvs : List (κ × V)) (k : κ) (v : V) : (putK kvs k v).length ≤ kvs.length + 1 := by
  unfold putK
  split
  · rw [List.length_map]; omega
  · rw [List.length_append, List.length_cons, List.length_nil]; omega
theorem RelO.isSome_eq {o : Option V} {u : Option Value} (r : RelO o u) : o.isSome = u.isSome := by
  cases o with
  | none => cases u with
    | none => rfl
    | some _ => exact (show False from r).elim
  | some _ => cases u with
    | none => exact (show False from r).elim
    | some _ => rfl
theorem RelO.getD {o : Option V} {u : Option Value} {d : V} {d' : Value} (r : RelO o u) (rd : RelV d d') : RelV (o.getD d) (u.getD d') := by
  cases o with
  | none => cases u with
    | none => exact rd
    | some _ => exact (show False from r).elim
  | some _ => cases u with
    | none => exact (show False from r).elim
    | some _ => exact r
theorem KV.val {kvs : List (κ × V)} {vs : List (κ × Value)} (r : KV kvs vs) (k : κ) : RelO (VF kvs k) (valueAt vs k) := by
  unfold KV at r
  induction r with
  | nil => exact True.intro
  | @cons p q ps qs h t ih =>
    obtain ⟨h1, h2⟩ := h
    by_cases e : p.1 = k
    · have e' : q.1 = k := h1.symm.trans e
      have b : valueAt (q :: qs) k = some q.2 := by simp [valueAt, List.find?_cons, e']
      rw [Uc e, b]; exact h2
    · have e' : ¬ q.1 = k := fun z => e (h1.trans z)
      have b : valueAt (q :: qs) k = valueAt qs k := by simp [valueAt, List.find?_cons, e']
      rw [Ua e, b]; exact ih
theorem KV.any {kvs : List (κ × V)} {vs : List (κ × Value)} (r : KV kvs vs) (k : κ) : (kvs.any fun kv => decide (kv.1 = k)) = vs.any fun kv => decide (kv.1 = k) := by
  unfold KV at r
  induction r with
  | nil => rfl
  | cons h t ih => rw [List.any_cons, List.any_cons, ih, h.1]
theorem KV.repl {kvs : List (κ × V)} {vs : List (κ × Value)} (r : KV kvs vs) (k : κ) {y : V} {u : Value} (ry : RelV y u) :
    KV (kvs.map fun kv => if kv.1 = k then (kv.1, y) else kv) (vs.map fun kv => if kv.1 = k then (kv.1, u) else kv) := by
  unfold KV at r ⊢
  induction r with
  | nil => exact .nil
  | @cons p q ps qs h t ih =>
    rw [List.map_cons, List.map_cons]
    refine .cons ?_ ih
    obtain ⟨h1, h2⟩ := h
    by_cases e : p.1 = k
    · rw [if_pos e, if_pos (h1.symm.trans e)]; exact ⟨h1, ry⟩
    · rw [if_neg e, if_neg (fun z => e (h1.trans z))]; exact ⟨h1, h2⟩
theorem KV.put {kvs : List (κ × V)} {vs : List (κ × Value)} (r : KV kvs vs) (k : κ) {y : V} {u : Value} (ry : RelV y u) : KV (putK kvs k y) (stored vs k u) := by
  unfold putK stored
  rw [r.any k]
  by_cases e : (vs.any fun kv => decide (kv.1 = k)) = true
  · rw [if_pos e, if_pos e]; exact r.repl k ry
  · rw [if_neg e, if_neg e]; exact Paired.snoc r ⟨rfl, ry⟩
theorem KV.drop {kvs : List (κ × V)} {vs : List (κ × Value)} (r : KV kvs vs) (k : κ) : KV (zdH kvs k) (without vs k) := by
  unfold KV at r ⊢
  unfold zdH without
  induction r with
  | nil => exact .nil
  | @cons p q ps qs h t ih =>
    obtain ⟨h1, h2⟩ := h
    rw [List.filter_cons, List.filter_cons]
    by_cases e : p.1 = k
    · have a : ¬ decide (p.1 ≠ k) = true := by simp [e]
      have b : ¬ decide (q.1 ≠ k) = true := by simp [h1.symm.trans e]
      rw [if_neg a, if_neg b]; exact ih
    · have e' : ¬ q.1 = k := fun z => e (h1.trans z)
      have a : decide (p.1 ≠ k) = true := by simp [e]
      have b : decide (q.1 ≠ k) = true := by simp [e']
      rw [if_pos a, if_pos b]; exact .cons ⟨h1, h2⟩ ih
theorem KV.length {kvs : List (κ × V)} {vs : List (κ × Value)} (r : KV kvs vs) : kvs.length = vs.length := Paired.length r
end
theorem zdC {P : Program} {w : World} {k : Key} {u : Value} (r : RelV (kV k) u) : (uA P w).is k u = true := by
  cases k with
  | inl i => obtain ⟨t, e⟩ := (show ∃ t, u = Value.int i t from r); subst e; exact J3 P w i t
  | inr x => obtain ⟨t, e⟩ := (show ∃ t, u = Value.str x t from r); subst e; exact JZ P w x t
theorem QH {P : Program} {w : World} : ∀ {ks : List Key} {us : List Value}, Vals (ks.map kV) us → ItemsAre (uA P w) ks us
  | [], _, r => by rw [List.map_nil] at r; cases r; exact .nil
  | k :: ks, _, r => by
    rw [List.map_cons] at r
    cases r with
    | cons h t => exact .cons (zdC h) (QH t)
abbrev KT (H : Hp) : List (List Key × V) → List (List Key × Addr × Value) → Prop := Paired fun p q => p.1 = q.1 ∧ H q.2.1 = some (.tup (p.1.map kV)) ∧ RelV p.2 q.2.2
theorem KT.val {H : Hp} {kvs : List (List Key × V)} {xs : List (List Key × Addr × Value)} (r : KT H kvs xs) (k : List Key) : RelO (VF kvs k) ((atKey xs k).map (·.2)) := by
  induction r with
  | nil => exact True.intro
  | @cons p q ps qs h t ih =>
    obtain ⟨h1, _, h2⟩ := h
    by_cases e : p.1 = k
    · have e' : q.1 = k := h1.symm.trans e
      have b : atKey (q :: qs) k = some q.2 := by simp [atKey, List.find?_cons, e']
      rw [Uc e, b]; exact h2
    · have e' : ¬ q.1 = k := fun z => e (h1.trans z)
      have b : atKey (q :: qs) k = atKey qs k := by simp [atKey, List.find?_cons, e']
      rw [Ua e, b]; exact ih
theorem KT.repl {H : Hp} {kvs : List (List Key × V)} {xs : List (List Key × Addr × Value)} (r : KT H kvs xs) (k : List Key) {y : V} {u : Value} (ry : RelV y u) :
    KT H (kvs.map fun kv => if kv.1 = k then (kv.1, y) else kv) (xs.map (putAt k u)) := by
  induction r with
  | nil => exact .nil
  | @cons p q ps qs h t ih =>
    rw [List.map_cons, List.map_cons]
    refine .cons ?_ ih
    obtain ⟨h1, h2, h3⟩ := h
    unfold putAt
    by_cases e : p.1 = k
    · rw [if_pos e, if_pos (h1.symm.trans e)]; exact ⟨h1, h2, ry⟩
    · rw [if_neg e, if_neg (fun z => e (h1.trans z))]; exact ⟨h1, h2, h3⟩
theorem KT.put {H : Hp} {kvs : List (List Key × V)} {xs : List (List Key × Addr × Value)} (r : KT H kvs xs) (k : List Key) {b : Addr} {y : V} {u : Value} (hb : H b = some (.tup (k.map kV))) (ry : RelV y u) :
    KT H (putK kvs k y) (storedH xs k b u) := by
  have e : (kvs.any fun kv => decide (kv.1 = k)) = (atKey xs k).isSome := by
    rw [zah, (r.val k).isSome_eq, Option.isSome_map]
  unfold putK storedH
  rw [e]
  by_cases q : (atKey xs k).isSome = true
  · rw [if_pos q, if_pos q]; exact r.repl k ry
  · rw [if_neg q, if_neg q]; exact Paired.snoc r ⟨rfl, hb, ry⟩
theorem KT.keeps {H H' : Hp} {kvs : List (List Key × V)} {xs : List (List Key × Addr × Value)} (r : KT H kvs xs) (ht : ∀ b ys, H b = some (.tup ys) → H' b = some (.tup ys)) : KT H' kvs xs :=
  Paired.mapP r fun _ _ z => ⟨z.1, ht _ _ z.2.1, z.2.2⟩
section
variable {P : Program} {w : World} {H : Hp} {h : Heap} {a : Addr}
theorem zdG {u : HO} (ok : HOk P w H h) (e : Rd H a u) : ObjOk P w H h a u := e.ok ok
theorem zeS {kvs : List (Key × V)} (ok : HOk P w H h) (e : Rd H a (.dK kvs)) : kvs.length ≤ sizeLine ∧ (a == sysModules) = false ∧ ∃ vs, KV kvs vs ∧ h.DictOf (uA P w) a vs :=
  show ObjOk P w H h a (.dK kvs) from zdG ok e
theorem zfc {kvs : List (Key × V)} (ok : HOk P w H h) (e : H a = some (.dK kvs)) : kvs.length ≤ sizeLine ∧ (a == sysModules) = false ∧ ∃ vs, KV kvs vs ∧ h.DictOf (uA P w) a vs := zeS ok (.inl e)
theorem zcJ {ks : List Key} (ok : HOk P w H h) (e : H a = some (.tup (ks.map kV))) : (tupleKind (uA P w)).is h ks a := by
  obtain ⟨_, its, r, o, h1, h2, n, h3⟩ := (show ObjOk P w H h a (.tup (ks.map kV)) from ok a _ e)
  exact ⟨o, its.toArray, n, h1, h2, h3, by simpa using QH r⟩
theorem zeI {kvs : List (List Key × V)} (ok : HOk P w H h) (e : Rd H a (.dT kvs)) : kvs.length ≤ sizeLine ∧ (a == sysModules) = false ∧
    ∃ xs, KT H kvs xs ∧ h.DictOfH (tupleKind (uA P w)) a xs := by
  obtain ⟨z, y, xs, r, o, es, ep, h1, h2, h3, h4, h5⟩ := (show ObjOk P w H h a (.dT kvs) from zdG ok e)
  refine ⟨z, y, xs, r, o, es, ep, h1, h2, h3, h4, fun x hx => ?_, h5⟩
  have all : ∀ {l : List (List Key × V)} {m : List (List Key × Addr × Value)}, KT H l m → ∀ x ∈ m, (tupleKind (uA P w)).is h x.1 x.2.1 := by
    intro l m q
    induction q with
    | nil => intro x hx; exact nomatch hx
    | @cons p q ps qs hq t ih =>
      intro x hx
      rcases List.mem_cons.mp hx with e | hx
      · subst e
        exact zcJ ok (by rw [← hq.1]; exact hq.2.1)
      · exact ih x hx
  exact all r x hx
theorem zdF {kvs : List (List Key × V)} (ok : HOk P w H h) (e : H a = some (.dT kvs)) : kvs.length ≤ sizeLine ∧ (a == sysModules) = false ∧
    ∃ xs, KT H kvs xs ∧ h.DictOfH (tupleKind (uA P w)) a xs := zeI ok (.inl e)
end
def DGet (H : Hp) (a : Addr) (y : V) (r : Option V) : Prop :=
  (∃ kvs k, Rd H a (.dK kvs) ∧ y = kV k ∧ r = VF kvs k) ∨ ∃ kvs k b, Rd H a (.dT kvs) ∧ y = .ref b ∧ H b = some (.tup (k.map kV)) ∧ r = VF kvs k
def DPut (H : Hp) (a : Addr) (y v : V) (H' : Hp) : Prop :=
  (∃ kvs k, H a = some (.dK kvs) ∧ y = kV k ∧ kvs.length < sizeLine ∧ H' = upd H a (.dK (putK kvs k v))) ∨
  ∃ kvs k b, H a = some (.dT kvs) ∧ y = .ref b ∧ H b = some (.tup (k.map kV)) ∧ kvs.length < sizeLine ∧ H' = upd H a (.dT (putK kvs k v))
theorem DGet.k {H : Hp} {a : Addr} {kvs : List (Key × V)} {k : Key} (e : H a = some (.dK kvs)) : DGet H a (kV k) (VF kvs k) := .inl ⟨kvs, k, .inl e, rfl, rfl⟩
theorem DGet.t {H : Hp} {a b : Addr} {kvs : List (List Key × V)} {k : List Key} (e : H a = some (.dT kvs)) (eb : H b = some (.tup (k.map kV))) : DGet H a (.ref b) (VF kvs k) := .inr ⟨kvs, k, b, .inl e, rfl, eb, rfl⟩
theorem DPut.k {H : Hp} {a : Addr} {kvs : List (Key × V)} {k : Key} {v : V} (e : H a = some (.dK kvs)) (hl : kvs.length < sizeLine) : DPut H a (kV k) v (upd H a (.dK (putK kvs k v))) := .inl ⟨kvs, k, e, rfl, hl, rfl⟩
theorem DPut.t {H : Hp} {a b : Addr} {kvs : List (List Key × V)} {k : List Key} {v : V} (e : H a = some (.dT kvs)) (eb : H b = some (.tup (k.map kV))) (hl : kvs.length < sizeLine) :
    DPut H a (.ref b) v (upd H a (.dT (putK kvs k v))) := .inr ⟨kvs, k, b, e, rfl, eb, hl, rfl⟩
section
variable {X : Cx} {pins : List (Addr × Obj)} {σ : St} {H : Hp} {s : Shared} {a : Addr} {y v : V} {u r : Value} {o : Option V} {A : Around} {E : Value → Shared → Prop}
theorem Inv.big (I : Inv X pins σ H s) : sysModules < s.heap.objs.size := by
  have h : mainGlobals < s.heap.objs.size := (I.mod.glob.keeps I.bk).lt
  exact Nat.lt_trans (by decide) h
theorem za7 {h' : Heap} {t' : Nat} {ob : HO} (I : Inv X pins σ H s) (mu : Mut (H a)) (hs : Heap.SameBut a s.heap h') (he : ∃ q, h'.get? a = some q) (new : ObjOk X.prog X.w (upd H a ob) h' a ob) :
    Inv X pins σ (upd H a ob) { s with heap := h', toks := t' } :=
  I.write (x := a) (e := a) mu (.inl rfl) (fun b q hb z => (hs.2 b hb).trans z) he new
theorem zed {P : Program} {w : World} {H' : Hp} {h' : Heap} {kvs : List (Key × V)} {vs : List (Key × Value)} (z : kvs.length ≤ sizeLine) (hd : (a == sysModules) = false) (rel : KV kvs vs) (dd : h'.DictOf (uA P w) a vs) :
    ObjOk P w H' h' a (.dK kvs) := ⟨z, hd, vs, rel, dd⟩
theorem zbV {H' : Hp} {Q : Unit → Shared → Prop} (hu : A.units + 1 < cLine) (I : Inv X pins σ H s) (g : DPut H a y v H') (ry : RelV y u) (rv : RelV v r) (h : ∀ s', Inv X pins σ H' s' → Q () s') :
    wpAny (model X.prog X.w) A (setItem (.ref a) u r) Q E s := by
  rcases g with ⟨kvs, k, e, ey, l, eH⟩ | ⟨kvs, k, b, e, ey, eb, l, eH⟩
  · subst ey eH
    obtain ⟨z, hd, vs, rel, dd⟩ := zfc I.hok e
    have hz : vs.length ≤ sizeLine := by rw [← rel.length]; exact z
    have hl : (putK kvs k v).length ≤ sizeLine := by have := Vp kvs k v; omega
    refine wpAny_setItem_pairs (hsz := hz) (zdC ry) dd fun h' dd' hs => h _ ?_
    have he : ∃ q, h'.get? a = some q := let ⟨q, _, _, hq, _⟩ := dd'; ⟨q, hq⟩
    exact za7 I (by rw [e]; exact True.intro) hs he (zed hl hd (rel.put k rv) dd')
  · subst ey eH
    cases (show u = Value.ref b from ry)
    obtain ⟨z, hd, xs, rel, dd⟩ := zdF I.hok e
    have hz : xs.length ≤ sizeLine := by rw [← Paired.length rel]; exact z
    have hl : (putK kvs k v).length ≤ sizeLine := by have := Vp kvs k v; omega
    refine wpAny_setItem_heap (hsz := hz) (tupleKind_room_in1 hu) (zcJ I.hok eb) dd fun h' dd' hs => h _ ?_
    obtain ⟨q, es, ep, hq, h2, h3, h4, _, h5⟩ := dd'
    refine za7 I (by rw [e]; exact True.intro) hs ⟨q, hq⟩ ⟨hl, hd, _, (rel.put k eb rv).keeps fun c ys ec => ?_, q, es, ep, hq, h2, h3, h4, h5⟩
    rw [zx (ZD ec e (fun z => nomatch z))]
    exact ec
end
section
variable {X : Cx} {pins : List (Addr × Obj)} {σ : St} {H : Hp} {s : Shared} {a : Addr} {kvs : List (Key × V)} {k : Key} {u : Value} {A : Around} {E : Value → Shared → Prop}
end
def zeR (td ty tv : TE) : TS := fun D σ H => tv σ H fun v H1 => td σ H1 fun x H2 => ty σ H2 fun y H3 => ∃ a H4, x = .ref a ∧ DPut H3 a y v H4 ∧ D.nx σ H4
section
variable {X : Cx} {o i e value : Expr} {pos pos' tpos : Pos} {td ty tv : TE}
theorem zc0 (hu : X.A.units + 1 < cLine) (ho : PE X o td) (hi : PE X i ty) (hv : PE X value tv) (hs : swapsWith value (some (.Subscript o i pos')) pos.line X.env = pure false) :
    PS X (.Assign [.Subscript o i pos'] value pos) (zeR td ty tv) := by
  intro pins s σ H D I h
  refine wpAny_Assign_Subscript (thn (hv pins s σ H _ I h) fun r s1 ⟨v, H1, I1, rv, q1⟩ => thn (ho pins s1 σ H1 _ I1 q1) fun u s2 ⟨x, H2, I2, rx, q2⟩ => thn (hi pins s2 σ H2 _ I2 q2) fun iv s3 ⟨y, H3, I3, ry, a, H4, ex, g, q3⟩ => ?_) hs
  subst ex
  obtain rfl : u = Value.ref a := rx
  exact zbV hu I3 g ry rv fun s4 I4 => ⟨σ, H4, I4, q3⟩
end
theorem zcg {P : Program} {w : World} {H : Hp} (h : Heap) (hb : sysModules < h.objs.size) : ObjOk P w H (h.push { cls := .type "dict", data := .dict #[] }) h.objs.size (.dT []) :=
  ⟨Nat.zero_le _, beq_eq_false_iff_ne.mpr (Ne.symm (Nat.ne_of_lt hb)), [], .nil, _, #[], 0, Heap.get?_push_size _ rfl, ⟨rfl, rfl, rfl⟩, rfl, rfl, List.nodup_nil⟩
def zd8 : TE := fun _ H Q => ∀ p, H p = none → Q (.ref p) (upd H p (.dT []))
section
variable {X : Cx} {pos : Pos}
theorem zcn : PE X (.Dict [] [] pos) zd8 := fun pins s σ H Q I h =>
  wpAny_Dict_empty ⟨.ref s.heap.objs.size, _, I.laid (a := s.heap.objs.size) (o := .dT []) (t' := s.toks) (fun _ _ q => Heap.get?_push_of_some _ q) (Nat.le_refl _) (zcg s.heap I.big), rfl, h _ (I.hok.fresh (Nat.le_refl _))⟩
end
structure M1 (X : Cx) (o : Expr) (m : Str) (apos : Pos) (e : Expr) (cpos : Pos) : Prop where
  base : attributeBase o m X.env (eval o X.env) = eval o X.env
  few : ((backTo cpos (starEach [e] X.env)).all (fun x => !x.1) && (backToKw cpos (keywordEach [] X.env)).all (fun x => x.1.isSome)
    && decide (([e] : List Expr).length + ([] : List Keyword).length + (if ([] : List Keyword).isEmpty then 0 else 1) < 30)) = true
  line : (apos.endLine == cpos.line) = true
  trees : backTo cpos (starEach [e] X.env) = [(false, eval e X.env)]
structure M2 (X : Cx) (o : Expr) (m : Str) (apos : Pos) (e f : Expr) (cpos : Pos) : Prop where
  base : attributeBase o m X.env (eval o X.env) = eval o X.env
  few : ((backTo cpos (starEach [e, f] X.env)).all (fun x => !x.1) && (backToKw cpos (keywordEach [] X.env)).all (fun x => x.1.isSome)
    && decide (([e, f] : List Expr).length + ([] : List Keyword).length + (if ([] : List Keyword).isEmpty then 0 else 1) < 30)) = true
  line : (apos.endLine == cpos.line) = true
  trees : backTo cpos (starEach [e, f] X.env) = [(false, eval e X.env), (false, eval f X.env)]
section
variable {X : Cx} {pins : List (Addr × Obj)} {σ : St} {H : Hp} {s : Shared} {a : Addr} {y d : V} {u r : Value} {o : Option V} {A : Around} {E : Value → Shared → Prop}
end
section
variable {X : Cx} {o e f : Expr} {apos cpos : Pos} {td ty tx : TE}
end
section
variable {X : Cx} {pins : List (Addr × Obj)} {σ : St} {H : Hp} {s : Shared} {a : Addr} {kvs : List (Key × V)} {A : Around} {E : Value → Shared → Prop}
end
section
variable {X : Cx} {pins : List (Addr × Obj)} {σ : St} {H : Hp} {s : Shared} {a : Addr} {y : V} {u : Value} {A : Around} {E : Value → Shared → Prop}
end
section
variable {X : Cx}
end
section
variable {κ : Type} [DecidableEq κ]
end
end L2
namespace Lw
def yp (b n : Nat) : List Int := if h : 2 ≤ b ∧ b ≤ n then yp b (n / b) ++ [((n % b : Nat) : Int)] else [(n : Int)]
termination_by n
decreasing_by exact Nat.div_lt_self (by omega) (by omega)
theorem tL {b n : Nat} (h : n < b) : yp b n = [(n : Int)] := by
  rw [yp, dif_neg (by omega)]
theorem Wr {b n : Nat} (h2 : 2 ≤ b) (h : b ≤ n) : yp b n = yp b (n / b) ++ [((n % b : Nat) : Int)] := by
  rw [yp, dif_pos ⟨h2, h⟩]
def ahead (b r : Nat) : List Int := if r = 0 then [] else yp b r
theorem QD {b n : Nat} (h2 : 2 ≤ b) : yp b n = ahead b (n / b) ++ [((n % b : Nat) : Int)] := by
  unfold ahead
  by_cases h : n < b
  · rw [tL h, if_pos (Nat.div_eq_of_lt h), Nat.mod_eq_of_lt h]; rfl
  · rw [Wr h2 (by omega), if_neg]
    have := Nat.div_pos (a := n) (b := b) (by omega) (by omega)
    omega
theorem zaO {b r : Nat} (h2 : 2 ≤ b) (hr : 0 < r) : ahead b r = ahead b (r / b) ++ [((r % b : Nat) : Int)] := by
  rw [← QD h2]
  unfold ahead
  rw [if_neg (by omega)]
theorem tR {b : Nat} (h2 : 2 ≤ b) : ∀ (m n : Nat), n < 2 ^ m → (yp b n).length ≤ m + 1
  | 0, n, h => by rw [tL (by simp at h; omega)]; simp
  | m + 1, n, h => by
    by_cases hn : n < b
    · rw [tL hn]; simp
    · rw [Wr h2 (by omega), List.length_append, List.length_singleton]
      have h3 : n / b ≤ n / 2 := Nat.div_le_div_left h2 (by omega)
      have h4 : n / 2 < 2 ^ m := by rw [Nat.pow_succ] at h; omega
      have := tR h2 m (n / b) (by omega)
      omega
theorem Ww {b : Nat} (h2 : 2 ≤ b) : ∀ (n : Nat), ∀ f ∈ yp b n, 0 ≤ f ∧ f < b := by
  intro n
  induction n using Nat.strongRecOn with
  | _ n ih =>
    intro f hf
    by_cases hn : n < b
    · rw [tL hn] at hf
      have : f = (n : Int) := by simpa using hf
      omega
    · rw [Wr h2 (by omega)] at hf
      rcases List.mem_append.mp hf with hf | hf
      · exact ih (n / b) (Nat.div_lt_self (by omega) (by omega)) f hf
      · have e : f = ((n % b : Nat) : Int) := by simpa using hf
        have := Nat.mod_lt n (show 0 < b by omega)
        omega
theorem QT {b n : Nat} : yp b n ≠ [] := by
  rw [yp]
  split
  · simp
  · simp
def tops (b : Nat) : Nat → Nat → List Int
  | 0, n => [((n / b ^ 0 : Nat) : Int)]
  | k + 1, n => ((n / b ^ (k + 1) : Nat) : Int) :: tops b k (n % b ^ (k + 1))
theorem QJ {b : Nat} : ∀ (k n : Nat), tops b (k + 1) n = tops b k (n / b) ++ [((n % b : Nat) : Int)]
  | 0, n => by simp [tops]
  | k + 1, n => by
    rw [tops, QJ k (n % b ^ (k + 2)), tops, List.cons_append]
    have e : b ^ (k + 1 + 1) = b * b ^ (k + 1) := by rw [Nat.pow_succ, Nat.mul_comm]
    have e1 : n % b ^ (k + 1 + 1) / b = n / b % b ^ (k + 1) := by rw [e, Nat.mod_mul_right_div_self]
    have e2 : n % b ^ (k + 1 + 1) % b = n % b := by rw [e, Nat.mod_mul_right_mod]
    have e3 : n / b ^ (k + 1 + 1) = n / b / b ^ (k + 1) := by rw [e, Nat.div_div_eq_div_mul]
    rw [e1, e2, e3]
theorem Xl {b : Nat} (h2 : 2 ≤ b) : ∀ (k n : Nat), n < b ^ (k + 1) → (k = 0 ∨ b ^ k ≤ n) → tops b k n = yp b n
  | 0, n, h, _ => by
    rw [tL (by simpa using h)]; simp [tops]
  | k + 1, n, h, hk => by
    have hge : b ^ (k + 1) ≤ n := by
      rcases hk with z | z
      · omega
      · exact z
    have hb : b ≤ n := Nat.le_trans (by rw [Nat.pow_succ]; exact Nat.le_mul_of_pos_left b (Nat.pow_pos (by omega))) hge
    rw [QJ, Wr h2 hb]
    have h3 : n / b < b ^ (k + 1) := by
      rw [Nat.div_lt_iff_lt_mul (by omega), ← Nat.pow_succ]; exact h
    have h4 : b ^ k ≤ n / b := by
      rw [Nat.le_div_iff_mul_le (by omega), ← Nat.pow_succ]; exact hge
    rw [Xl h2 k (n / b) h3 (.inr h4)]
theorem zaa {b : Nat} : ∀ (k n : Nat), (tops b k n).length = k + 1
  | 0, n => rfl
  | k + 1, n => by rw [tops, List.length_cons, zaa k]
structure zfv (b : Nat) (ns : List Int) : Prop where
  ne : ns ≠ []
  len : ns.length ≤ 200
  fig : ∀ f ∈ ns, 0 ≤ f ∧ f < b
  first : ns.head? ≠ some 0 ∨ ns.length = 1
end Lw
namespace HT
open PySem PyProof.Rows
section
open PySem.SeqAt
open PySem.AutoSeq1 (wpAny_loadPart')
open PySem.MeetsSeq PySem.MeetsSeq2 PySem.MeetsSeq3 PySem.SeqRoads2
theorem zbu {vs : List Value} {ns : List Int} (h : IntsAre vs ns) {i : Nat} (hi : i < ns.length) : ∃ t, vs[i]? = some (.int (ns[i]) t) := by
  induction h generalizing i with
  | nil => simp at hi
  | cons a t h ih =>
    cases i with
    | zero => exact ⟨t, rfl⟩
    | succ i =>
      obtain ⟨t', e⟩ := ih (i := i) (by simpa using hi)
      exact ⟨t', by simpa using e⟩
theorem zcZ (l b : Addr) (items items2 : Array Value) (n n2 : Nat) (dd dd2 : Option Addr) (sl sl2 : Array (Option Value)) (ns ms : List Int) (hi : IntsAre items.toList ns) (hj : IntsAre items2.toList ms) (k : Nat) :
    ∀ i : Nat, ns.length - i = k → i ≤ ns.length → i ≤ ms.length → Meets (Builtin.«list.__eq__.loop» ⟨[.ref l, .ref b, rawInt i, rawInt 0], []⟩)
      (fun _ R s => s.heap.get? l = some { cls := .type "list", dict := dd, data := .seq items n, slots := sl } ∧ s.heap.get? b = some { cls := .type "list", dict := dd2, data := .seq items2 n2, slots := sl2 } ∧
        R (.ok (.ret (.bool (lexLt (ns.drop i) (ms.drop i))))) s) := by
  have z1 : items.size = ns.length := by rw [← hi.length]; simp
  have z2 : items2.size = ms.length := by rw [← hj.length]; simp
  induction k with
  | zero =>
    intro i hk h1 h2 prog w A R s h
    obtain ⟨hp, g, d, tk, os⟩ := s; obtain ⟨hl, hb, h⟩ := h
    have hin : i = ns.length := by omega
    wp_walk using wpAny_loadPart' hl, wpAny_loadPart' hb
    have hi1 : items[((i : Nat) : Int).toNat]? = none := by simp; omega
    have hd : ns.drop i = [] := by simp; omega
    rw [hd] at h
    rw [hi1]
    wp_walk using wpAny_loadPart' hl, wpAny_loadPart' hb
    show R (.ok (.ret (.bool (decide (items.size < items2.size))))) _
    have e : lexLt [] (ms.drop i) = decide (items.size < items2.size) := by
      cases q : ms.drop i with
      | nil =>
        rw [XC]
        have : ms.length ≤ i := by simpa using List.drop_eq_nil_iff.mp q
        exact (decide_eq_false (by omega)).symm
      | cons x y =>
        rw [Ux]
        have : i < ms.length := by
          by_cases z : i < ms.length
          · exact z
          · rw [List.drop_of_length_le (by omega)] at q; cases q
        exact (decide_eq_true (by omega)).symm
    rw [← e]
    exact h
  | succ k ih =>
    intro i hk h1 h2 prog w A R s h
    obtain ⟨hp, g, d, tk, os⟩ := s; obtain ⟨hl, hb, h⟩ := h
    have hlt : i < ns.length := by omega
    obtain ⟨t, et⟩ := zbu hi hlt
    have hi1 : items[((i : Nat) : Int).toNat]? = some (.int (ns[i]) t) := by simpa using et
    by_cases hm : i < ms.length
    · obtain ⟨u, eu⟩ := zbu hj hm
      have hi2 : items2[((i : Nat) : Int).toNat]? = some (.int (ms[i]) u) := by simpa using eu
      wp_walk using wpAny_loadPart' hl, wpAny_loadPart' hb
      rw [List.drop_eq_getElem_cons hlt, List.drop_eq_getElem_cons hm, qK] at h
      have hc : ((i : Int) + 1) = ((i + 1 : Nat) : Int) := by push_cast; rfl
      rw [hi1, hi2]
      obtain ⟨e, he, hiff⟩ := zcA A.in1 ⟨hp, g, d, tk, os⟩ (ns[i]) t (ms[i]) u
      refine wpAny_bind (he prog w _ _ ?_)
      cases e with
      | true =>
        rw [if_pos (hiff.mp rfl)] at h
        wp_walk
        rw [hc]
        exact ⟨plainId_quiet plain_eq_loop _, codeAny_builtin entry_eq_loop (by
          rw [Around.under_plainId plain_eq_loop _]
          exact ih (i + 1) (by omega) (by omega) (by omega) prog w A R _ ⟨hl, hb, h⟩)⟩
      | false =>
        rw [if_neg (fun q => absurd (hiff.mpr q) Bool.false_ne_true)] at h
        have hri := zad A.in1 ⟨hp, g, d, tk, os⟩ (ns[i]) t (ms[i]) u prog w
        wp_walk using wpAny_loadPart' hl, wpAny_loadPart' hb
        rw [hi1, hi2]
        wp_walk using hri
        simpa using h
    · have hi2 : items2[((i : Nat) : Int).toNat]? = none := by simp; omega
      wp_walk using wpAny_loadPart' hl, wpAny_loadPart' hb
      rw [List.drop_eq_getElem_cons hlt, List.drop_of_length_le (show ms.length ≤ i by omega), tZ] at h
      rw [hi1, hi2]
      wp_walk using wpAny_loadPart' hl, wpAny_loadPart' hb
      show R (.ok (.ret (.bool (decide (items.size < items2.size))))) _
      rw [decide_eq_false (by omega)]
      exact h
theorem Wk (l b : Addr) (items items2 : Array Value) (n n2 : Nat) (dd dd2 : Option Addr) (sl sl2 : Array (Option Value)) (ns ms : List Int) (hi : IntsAre items.toList ns) (hj : IntsAre items2.toList ms) :
    Meets (Builtin.«list.__lt__» ⟨[.ref l, .ref b], []⟩)
      (fun _ R s => s.heap.get? l = some { cls := .type "list", dict := dd, data := .seq items n, slots := sl } ∧ s.heap.get? b = some { cls := .type "list", dict := dd2, data := .seq items2 n2, slots := sl2 } ∧
        R (.ok (.ret (.bool (lexLt ns ms)))) s) := by
  intro prog w A R s h
  obtain ⟨hp, g, d, tk, os⟩ := s; obtain ⟨hl, hb, h⟩ := h
  have f3 := AutoSeq1.sub_list_list
  wp_walk using wpAny_loadPart' hl, wpAny_loadPart' hb
  exact ⟨plainId_quiet plain_eq_loop _, codeAny_builtin entry_eq_loop (by
    rw [Around.under_plainId plain_eq_loop _]
    exact zcZ l b items items2 n n2 dd dd2 sl sl2 ns ms hi hj _ 0 rfl (Nat.zero_le _) (Nat.zero_le _) prog w A R _ ⟨hl, hb, by simpa using h⟩)⟩
end
section
variable {prog : Program} {w : World} {A : Around} {E : Value → Shared → Prop} {s : Shared}
theorem Vm {l b : Addr} {items items2 : Array Value} {ns ms : List Int} {Q : Value → Shared → Prop} (hl : s.heap.IsList l items) (hb : s.heap.IsList b items2) (hi : IntsAre items.toList ns) (hj : IntsAre items2.toList ms)
    (hu : A.units < cLine) (h : Q (.bool (lexLt ns ms)) s) : wpAny (model prog w) A (richCompare .Lt (.ref l) (.ref b)) Q E s := by
  obtain ⟨⟨cls, dd, data, sl⟩, ho, hc, n, hd⟩ := id hl
  obtain ⟨⟨cls2, dd2, data2, sl2⟩, ho2, hc2, n2, hd2⟩ := id hb
  simp only at hc hd hc2 hd2
  subst hc hd hc2 hd2
  exact richCompare_meets_room (op := .Lt) ⟨_, ho, rfl⟩ ⟨_, ho2, rfl⟩ PySem.F.slot_list_lt PySem.F.entry_list_lt (PySem.F.args_list_lt_2 _ _) (Wk l b items items2 n n2 dd dd2 sl sl2 ns ms hi hj)
    ⟨ho, ho2, show Value.bool (lexLt ns ms) ≠ Value.notImplemented ∧ Q (.bool (lexLt ns ms)) s from ⟨(fun x => nomatch x), h⟩⟩ hu
end
open PySem PyProof.Rows PySem.W
def W2 {α : Type} (c : Nat → Nat → Bool) : KasT α → α
  | .ret a => a
  | .ask i j k => W2 c (k (c i j))
def kin {α : Type} (n : Nat) : KasT α → Bool
  | .ret _ => true
  | .ask i j k => decide (i < n) && decide (j < n) && kin n (k true) && kin n (k false)
theorem Jk {α : Type} {n : Nat} {c : Nat → Nat → Bool} {cmp : Nat → Nat → (Bool → Shared → Prop) → Shared → Prop} {s : Shared} {Q : α → Shared → Prop} (hc : ∀ i j C, i < n → j < n → C (c i j) s → cmp i j C s) :
    ∀ t : KasT α, kin n t = true → Q (W2 c t) s → t.kasWp cmp Q s
  | .ret a, _, q => q
  | .ask i j k, h, q => by
    unfold kin at h
    simp only [Bool.and_eq_true, decide_eq_true_eq] at h
    refine hc i j _ h.1.1.1 h.1.1.2 ?_
    have q' : Q (W2 c (k (c i j))) s := q
    cases e : c i j with
    | true => rw [e] at q'; exact Jk hc (k true) h.1.2 q'
    | false => rw [e] at q'; exact Jk hc (k false) h.2 q'
theorem jY {α : Type} {n : Nat} {c d : Nat → Nat → Bool} (h : ∀ i j, i < n → j < n → c i j = d i j) : ∀ t : KasT α, kin n t = true → W2 c t = W2 d t
  | .ret a, _ => rfl
  | .ask i j k, hk => by
    unfold kin at hk
    simp only [Bool.and_eq_true, decide_eq_true_eq] at hk
    unfold W2
    rw [h i j hk.1.1.1 hk.1.1.2]
    cases d i j with
    | true => exact jY h (k true) hk.1.2
    | false => exact jY h (k false) hk.2
def tab (b : Nat → Nat → Bool) (i j : Nat) : Bool := if i < j then b i j else if j < i then !b j i else false
def Xy (n : Nat) (c : Nat → Nat → Bool) (p : List Nat) : Bool := p.isPerm (List.range n) && (List.range n).all fun i => (List.range n).all fun j => !decide (i < j) || c (p.getD i 0) (p.getD j 0)
def tr3 (n : Nat) (c : Nat → Nat → Bool) : Bool := (List.range n).all fun i => (List.range n).all fun j => (List.range n).all fun k => !c i j || !c j k || c i k
def half (b01 b02 b03 b12 b13 b23 : Bool) (i j : Nat) : Bool := match i, j with
  | 0, 1 => b01 | 0, 2 => b02 | 0, 3 => b03 | 1, 2 => b12 | 1, 3 => b13 | 2, 3 => b23 | _, _ => false
theorem zeV : kin 2 (kas_sort 2) = true := by decide +kernel
theorem zeU : kin 3 (kas_sort 3) = true := by decide +kernel
theorem zeu : kin 4 (kas_sort 4) = true := by decide +kernel
theorem ze6 : ∀ b01 : Bool, Xy 2 (tab (half b01 true true true true true)) (W2 (tab (half b01 true true true true true)) (kas_sort 2)).toList = true := by decide +kernel
theorem zff : ∀ b01 b02 b12 : Bool, tr3 3 (tab (half b01 b02 true b12 true true)) = true → Xy 3 (tab (half b01 b02 true b12 true true)) (W2 (tab (half b01 b02 true b12 true true)) (kas_sort 3)).toList = true := by decide +kernel
theorem zex : ∀ b01 b02 b03 b12 b13 b23 : Bool, tr3 4 (tab (half b01 b02 b03 b12 b13 b23)) = true → Xy 4 (tab (half b01 b02 b03 b12 b13 b23)) (W2 (tab (half b01 b02 b03 b12 b13 b23)) (kas_sort 4)).toList = true := by decide +kernel
theorem uC : ∀ a : List Int, lexLt a a = false
  | [] => rfl
  | x :: a => by rw [qK, if_pos rfl, uC a]
theorem Yj : ∀ a b : List Int, a ≠ b → lexLt b a = !lexLt a b
  | [], [], h => absurd rfl h
  | [], _ :: _, _ => rfl
  | _ :: _, [], _ => rfl
  | x :: a, y :: b, h => by
    rw [qK, qK]
    by_cases e : x = y
    · subst e
      rw [if_pos rfl, if_pos rfl]
      exact Yj a b fun z => h (by rw [z])
    · rw [if_neg e, if_neg (Ne.symm e), Bool.eq_iff_iff]
      simp
      omega
theorem qW : ∀ a b c : List Int, lexLt a b = true → lexLt b c = true → lexLt a c = true
  | [], [], _, h, _ => by rw [XC] at h; cases h
  | [], _ :: _, [], _, h => by rw [tZ] at h; cases h
  | [], _ :: _, _ :: _, _, _ => rfl
  | _ :: _, [], _, h, _ => by rw [tZ] at h; cases h
  | _ :: _, _ :: _, [], _, h => by rw [tZ] at h; cases h
  | x :: a, y :: b, z :: c, h1, h2 => by
    rw [qK] at h1 h2 ⊢
    by_cases e1 : x = y
    · subst e1
      rw [if_pos rfl] at h1
      by_cases e2 : x = z
      · subst e2
        rw [if_pos rfl] at h2 ⊢
        exact qW a b c h1 h2
      · rw [if_neg e2] at h2 ⊢; exact h2
    · rw [if_neg e1] at h1
      have h1' := of_decide_eq_true h1
      by_cases e2 : y = z
      · subst e2
        rw [if_neg e1]; exact h1
      · rw [if_neg e2] at h2
        have h2' := of_decide_eq_true h2
        rw [if_neg (show x ≠ z by omega)]
        exact decide_eq_true (by omega)
theorem QZ {n : Nat} (hn : n ≤ 4) {c : Nat → Nat → Bool} {b01 b02 b03 b12 b13 b23 : Bool} (h01 : 1 < n → b01 = c 0 1) (h02 : 2 < n → b02 = c 0 2) (h03 : 3 < n → b03 = c 0 3) (h12 : 2 < n → b12 = c 1 2) (h13 : 3 < n → b13 = c 1 3) (h23 : 3 < n → b23 = c 2 3) :
    ∀ i j, i < j → j < n → half b01 b02 b03 b12 b13 b23 i j = c i j := by
  intro i j h1 h2
  have hh : (i = 0 ∧ j = 1) ∨ (i = 0 ∧ j = 2) ∨ (i = 0 ∧ j = 3) ∨ (i = 1 ∧ j = 2) ∨ (i = 1 ∧ j = 3) ∨ (i = 2 ∧ j = 3) := by omega
  rcases hh with ⟨rfl, rfl⟩ | ⟨rfl, rfl⟩ | ⟨rfl, rfl⟩ | ⟨rfl, rfl⟩ | ⟨rfl, rfl⟩ | ⟨rfl, rfl⟩
  · exact h01 h2
  · exact h02 h2
  · exact h03 h2
  · exact h12 h2
  · exact h13 h2
  · exact h23 h2
theorem zdm {ls : List (List Int)} (nd : ls.Nodup) (h2 : 2 ≤ ls.length) (h4 : ls.length ≤ 4) :
    kin ls.length (kas_sort ls.length) = true ∧ Xy ls.length (fun i j => lexLt (ls.getD i []) (ls.getD j [])) (W2 (fun i j => lexLt (ls.getD i []) (ls.getD j [])) (kas_sort ls.length)).toList = true := by
  generalize hc : (fun i j => lexLt (ls.getD i []) (ls.getD j [])) = c
  have cd : ∀ i j, c i j = lexLt (ls.getD i []) (ls.getD j []) := fun i j => by rw [← hc]
  have flip : ∀ i j, i < ls.length → j < ls.length → i ≠ j → c j i = !c i j := fun i j hi hj hij => by
    rw [cd, cd]
    refine Yj _ _ fun e => hij ?_
    have e1 : ls.getD i [] = ls[i] := by rw [List.getD_eq_getElem?_getD, List.getElem?_eq_getElem hi]; rfl
    have e2 : ls.getD j [] = ls[j] := by rw [List.getD_eq_getElem?_getD, List.getElem?_eq_getElem hj]; rfl
    rw [e1, e2] at e
    exact (List.getElem_inj nd).mp e
  have tabc : ∀ b : Nat → Nat → Bool, (∀ i j, i < j → j < ls.length → b i j = c i j) → ∀ i j, i < ls.length → j < ls.length → tab b i j = c i j := fun b hb i j hi hj => by
    unfold tab
    by_cases h : i < j
    · rw [if_pos h, hb i j h hj]
    · rw [if_neg h]
      by_cases h' : j < i
      · rw [if_pos h', hb j i h' hi, flip j i hj hi (by omega)]
      · rw [if_neg h']
        have : i = j := by omega
        subst this
        rw [cd, uC]
  have outc : ∀ (b : Nat → Nat → Bool) (p : List Nat), (∀ i j, i < ls.length → j < ls.length → tab b i j = c i j) → Xy ls.length (tab b) p = true → Xy ls.length c p = true := fun b p hb h => by
    unfold Xy at h ⊢
    rw [Bool.and_eq_true] at h ⊢
    refine ⟨h.1, ?_⟩
    have pm := List.isPerm_iff.mp h.1
    have hl : p.length = ls.length := by rw [pm.length_eq, List.length_range]
    rw [List.all_eq_true] at h ⊢
    intro i hi
    have q := h.2 i hi
    rw [List.all_eq_true] at q ⊢
    intro j hj
    have q2 := q j hj
    have hi' := List.mem_range.mp hi
    have hj' := List.mem_range.mp hj
    have m : ∀ k, k < ls.length → p.getD k 0 < ls.length := fun k hk => by
      have e : p.getD k 0 = p[k]'(by omega) := by rw [List.getD_eq_getElem?_getD, List.getElem?_eq_getElem (by omega)]; rfl
      rw [e]
      exact List.mem_range.mp (pm.mem_iff.mp (List.getElem_mem _))
    rw [hb _ _ (m i hi') (m j hj')] at q2
    exact q2
  have trc : ∀ (b : Nat → Nat → Bool), (∀ i j, i < ls.length → j < ls.length → tab b i j = c i j) → tr3 ls.length (tab b) = true := fun b hb => by
    unfold tr3
    simp only [List.all_eq_true, List.mem_range]
    intro i hi j hj k hk
    rw [hb i j hi hj, hb j k hj hk, hb i k hi hk]
    cases e1 : c i j
    · rfl
    · cases e2 : c j k
      · rfl
      · rw [cd] at e1 e2
        rw [cd, qW _ _ _ e1 e2]; rfl
  have hn : ls.length = 2 ∨ ls.length = 3 ∨ ls.length = 4 := by omega
  rcases hn with hn | hn | hn
  · rw [hn] at tabc outc trc ⊢
    have t := tabc (half (c 0 1) true true true true true) (QZ (by decide) (fun _ => rfl) (fun z => by omega) (fun z => by omega) (fun z => by omega) (fun z => by omega) (fun z => by omega))
    refine ⟨zeV, ?_⟩
    rw [jY (fun i j hi hj => (t i j hi hj).symm) _ zeV]
    exact outc _ _ t (ze6 _)
  · rw [hn] at tabc outc trc ⊢
    have t := tabc (half (c 0 1) (c 0 2) true (c 1 2) true true) (QZ (by decide) (fun _ => rfl) (fun _ => rfl) (fun z => by omega) (fun _ => rfl) (fun z => by omega) (fun z => by omega))
    refine ⟨zeU, ?_⟩
    rw [jY (fun i j hi hj => (t i j hi hj).symm) _ zeU]
    exact outc _ _ t (zff _ _ _ (trc _ t))
  · rw [hn] at tabc outc trc ⊢
    have t := tabc (half (c 0 1) (c 0 2) (c 0 3) (c 1 2) (c 1 3) (c 2 3)) (QZ (by decide) (fun _ => rfl) (fun _ => rfl) (fun _ => rfl) (fun _ => rfl) (fun _ => rfl) (fun _ => rfl))
    refine ⟨zeu, ?_⟩
    rw [jY (fun i j hi hj => (t i j hi hj).symm) _ zeu]
    exact outc _ _ t (zex _ _ _ _ _ _ (trc _ t))
end HT
namespace L2
open PySem PySem.Spec PyProof.Rows
section
variable {X : Cx}
def zfA (K : PySem.W.Frag) : R2 := fun x y H Q => ∃ (a b : Addr) (ns ms : List Int), x = .ref a ∧ y = .ref b ∧ SqL K H a (ns.map V.int) ∧ SqL K H b (ms.map V.int) ∧ Q (.bl (HT.lexLt ns ms)) H
theorem ze3 (K : PySem.W.Frag) (hu : X.A.units + 64 < cLine) (e : X.K = K := by rfl) : OpR X (compareOp .Lt) (zfA K) := by
  subst e
  intro pins s σ H x y v u Q I rx ry h
  obtain ⟨a, b, ns, ms, rfl, rfl, ha, hb, q⟩ := h
  cases rx
  cases ry
  obtain ⟨its, r1, p1, _⟩ := I.list ha
  obtain ⟨its2, r2, p2, _⟩ := I.list hb
  exact HT.Vm p1.isList p2.isList (intsAre_of r1) (intsAre_of r2) (by omega) ⟨.bl (HT.lexLt ns ms), H, I, rfl, q⟩
end
end L2
namespace HT
open PySem PyProof.Rows PySem.W
section
variable {prog : Program} {w : World} {A : Around} {E : Value → Shared → Prop} {s : Shared}
theorem zeh {l b : Addr} {items items2 : Array Value} {ns ms : List Int} {Q : Bool → Shared → Prop} (hl : s.heap.IsList l items) (hb : s.heap.IsList b items2) (hi : IntsAre items.toList ns) (hj : IntsAre items2.toList ms) (hu : A.units + 1 < cLine)
    (h : Q (lexLt ns ms) s) : wpAny (model prog w) A (keyLt' oneType' (.ref l) (.ref b)) Q E s := by
  obtain ⟨⟨cls, dd, data, sl⟩, ho, hc, n, hd⟩ := id hl
  obtain ⟨⟨cls2, dd2, data2, sl2⟩, ho2, hc2, n2, hd2⟩ := id hb
  simp only at hc hd hc2 hd2
  subst hc hd hc2 hd2
  rw [keyLt'_oneType, oneLt'_eq]
  simp only [if_true]
  refine wpAny_bind (wpAny_cRoomFor (by omega) (wpAny_bind (wpAny_callSpecialIfBound?_slot (T := "list") (name := "__lt__") ⟨_, ho, rfl⟩ PySem.F.slot_list_lt
    (call_meets PySem.F.slot_list_lt ⟨_, ho, rfl⟩ PySem.F.entry_list_lt (PySem.F.args_list_lt_2 _ _) (Wk l b items items2 n n2 dd dd2 sl sl2 ns ms hi hj) ⟨ho, ho2, ?_⟩))))
  exact wpAny_truthy_bool h
theorem Ve {α : Type} (d : α) (zs : List α) {p : List Nat} (h : p.Perm (List.range zs.length)) : (p.map fun i => zs.getD i d).Perm zs := by
  have e : (List.range zs.length).map (fun i => zs.getD i d) = zs := by
    apply List.ext_getElem?
    intro i
    rw [List.getElem?_map]
    by_cases hi : i < zs.length
    · rw [List.getElem?_range hi, Option.map_some, List.getD_eq_getElem?_getD, List.getElem?_eq_getElem hi]; rfl
    · rw [List.getElem?_eq_none (by simpa using hi), List.getElem?_eq_none (by omega)]; rfl
  have q := h.map fun i => zs.getD i d
  rw [e] at q
  exact q
theorem zaZ {a : Addr} {zs : List (Addr × List Int)} {n0 : Nat} {P : Fin → Shared → Prop} (ho : s.heap.get? a = some (seqObj "list" (zs.map fun z => Value.ref z.1).toArray n0))
    (hz : ∀ z ∈ zs, z.1 ≠ a ∧ ∃ its : List Value, s.heap.IsList z.1 its.toArray ∧ IntsAre its z.2) (nd : (zs.map (·.2)).Nodup) (h4 : zs.length ≤ 4) (hu : A.units + 1 < cLine)
    (h : ∀ zs' : List (Addr × List Int), zs'.Perm zs → zs'.Pairwise (fun x y => lexLt x.2 y.2 = true) → P (.done (.ret .none)) { s with heap := sortedHeap s.heap a (zs.map fun z => Value.ref z.1) (zs'.map fun z => Value.ref z.1).toArray }) :
    wpAny (model prog w) A (Builtin.«list.sort» ⟨[.ref a], []⟩) P E s := by
  rw [list_sort_plain]
  generalize hvs : (zs.map fun z => Value.ref z.1) = vs at ho h ⊢
  have hvl : vs.length = zs.length := by rw [← hvs, List.length_map]
  have hsl : vs.length ≤ sizeLine := by rw [hvl, sizeLine_eq]; omega
  have ha : a < s.heap.objs.size := Heap.lt_size ho
  obtain ⟨e1, ho1⟩ : ∃ e1, (s.heap.update a (Obj.mapSeq fun _ => #[])).get? a = some (seqObj "list" #[] e1) := ⟨_, get?_update_seq ho (fun _ => #[])⟩
  refine wpAny_bind (listItems_at ho rfl (wpAny_bind (listUpdate_at ho rfl (wpAny_bind (seqEpoch_at ho1 rfl (wpAny_bind (wpAny_newTuple (wpAny_bind (wpAny_newList (wpAny_holding ?_) (Nat.zero_le _))) (by show vs.length ≤ _; exact hsl))))) (by rw [List.size_toArray]; exact hsl) (Nat.zero_le _))))
  generalize hG : (((s.heap.update a (Obj.mapSeq fun _ => (#[] : Array Value))).push (seqObj "tuple" vs.toArray 0)).push (seqObj "list" #[] 0)) = G
  have ho6 : G.get? a = some (seqObj "list" #[] e1) := by
    rw [← hG, Heap.get?_push_ne _ _ _ (by rw [size_push', Heap.size_update]; exact Nat.ne_of_lt (Nat.lt_succ_of_lt ha)), Heap.get?_push_ne _ _ _ (by rw [Heap.size_update]; exact Nat.ne_of_lt ha)]; exact ho1
  have keep : ∀ b o, b ≠ a → s.heap.get? b = some o → G.get? b = some o := fun b o hb e => by
    have hlt := Heap.lt_size e
    rw [← hG, Heap.get?_push_ne _ _ _ (by rw [size_push', Heap.size_update]; exact Nat.ne_of_lt (Nat.lt_succ_of_lt hlt)), Heap.get?_push_ne _ _ _ (by rw [Heap.size_update]; exact Nat.ne_of_lt hlt), Heap.get?_update_other _ _ (Ne.symm hb)]; exact e
  show wpAny (model prog w) A _ P E { s with heap := G }
  dsimp only
  by_cases h2 : vs.toArray.size < 2
  · rw [if_pos h2, if_pos h2]
    refine wpAny_bind (wpAny_pure ?_)
    rw [StateT.run_pure]
    refine wpAny_bind (wpAny_pure ?_)
    dsimp only
    have hout : (arrOf (SortSt.mk' general' (vs.toArray.zip vs.toArray) #[] 7 none)).map (·.2) = vs.toArray := by
      show (vs.toArray.zip vs.toArray).map (·.2) = vs.toArray
      apply Array.toList_inj.mp
      rw [Array.toList_map, Array.toList_zip, List.map_snd_zip (by simp)]
    rw [hout]
    refine wpAny_bind (seqEpoch_at ho6 rfl (wpAny_bind (listUpdate_at ho6 rfl ?_ (Nat.zero_le _) (by rw [List.size_toArray]; exact Nat.le_succ_of_le hsl))))
    have q := h zs (List.Perm.refl _) (by
      rw [List.size_toArray, hvl] at h2
      match zs, h2 with
      | [], _ => exact .nil
      | [_], _ => exact List.pairwise_singleton _ _)
    rw [hvs] at q
    simp only [bne_self_eq_false, Bool.false_eq_true, if_false]
    have e2 : G.update a (Obj.mapSeq fun _ => vs.toArray) = sortedHeap s.heap a vs vs.toArray := by rw [← hG]; rfl
    rw [e2]
    exact wpAny_pure q
  · rw [if_neg h2, if_neg h2]
    rw [List.size_toArray, hvl] at h2
    have ls2 : (zs.map (·.2)).length = zs.length := List.length_map ..
    obtain ⟨hkin, hok⟩ := zdm nd (by rw [ls2]; omega) (by rw [ls2]; exact h4)
    rw [ls2] at hkin hok
    generalize hcd : (fun i j => lexLt ((zs.map (·.2)).getD i []) ((zs.map (·.2)).getD j [])) = c at hok
    have gz : ∀ i, i < zs.length → vs.getD i Value.none = .ref (zs.getD i (0, [])).1 ∧ (zs.map (·.2)).getD i [] = (zs.getD i (0, [])).2 ∧ zs.getD i (0, []) ∈ zs := fun i hi => by
      have e : zs.getD i (0, []) = zs[i] := by rw [List.getD_eq_getElem?_getD, List.getElem?_eq_getElem hi]; rfl
      rw [e]
      refine ⟨?_, ?_, List.getElem_mem _⟩
      · rw [← hvs, List.getD_eq_getElem?_getD, List.getElem?_map, List.getElem?_eq_getElem hi]; rfl
      · rw [List.getD_eq_getElem?_getD, List.getElem?_map, List.getElem?_eq_getElem hi]; rfl
    refine wpAny_bind (kas_kind (T := .type "list") (by rw [hvl]; omega) (fun v hv => ?_) (by decide) (by decide) ?_)
    · rw [← hvs] at hv
      obtain ⟨z, hzm, rfl⟩ := List.mem_map.mp hv
      obtain ⟨hza, its, hl, _⟩ := hz z hzm
      obtain ⟨o, e, hcl, _⟩ := hl
      intro A' Q' E' s' k q
      exact wpAny_typeOf (T := "list") ⟨o, k _ _ (keep _ _ hza e), hcl⟩ q
    have est : SortSt.mk' oneType' (vs.toArray.zip vs.toArray) #[] 7 none = kas_st oneType' (pairsOf vs) (List.toArray (List.range vs.length)) := by
      have e := kas_range (pairsOf vs)
      rw [pairsOf_size] at e
      unfold kas_st; rw [e]; rfl
    have ask : (kas_sort vs.length).kasWp (kas_cmp prog w A oneType' (pairsOf vs)) (fun p s' => s' = { s with heap := G } ∧ p = W2 c (kas_sort zs.length)) { s with heap := G } := by
      rw [hvl, ← kas_ask_eq]
      refine Jk (n := zs.length) (c := c) (fun i j C hi hj hC => ?_) _ hkin ⟨rfl, rfl⟩
      obtain ⟨a1, a2, a3⟩ := gz i hi
      obtain ⟨b1, b2, b3⟩ := gz j hj
      obtain ⟨hza, its, hl, hI⟩ := hz _ a3
      obtain ⟨hzb, its2, hl2, hI2⟩ := hz _ b3
      unfold kas_ask
      rw [a1, b1]
      refine zeh (s := { s with heap := G }) (hl.at fun o e => keep _ o hza e) (hl2.at fun o e => keep _ o hzb e) (by simpa using hI) (by simpa using hI2) hu ?_
      rw [← hcd] at hC
      simp only [a2, b2] at hC
      exact hC
    have run := kas_runs (E := E) (Q := fun _ st' s' => s' = { s with heap := G } ∧ arrOf st' = (W2 c (kas_sort zs.length)).map (kas_item (pairsOf vs)) ∧ failedOf st' = none) (by rw [hvl]; omega) (by rw [hvl]; omega)
      (fun p' st' s' a1 a2 a3 a4 => ⟨a4.1, by rw [a2, a4.2], a3⟩) ask
    rw [← est] at run
    refine wpAny_bind (wpAny_mono run ?_ fun _ _ e => e)
    rintro ⟨⟨⟩, st'⟩ s' ⟨rfl, har, hf⟩
    dsimp only
    generalize hp : W2 c (kas_sort zs.length) = p at har hok
    have hout : (arrOf st').map (·.2) = ((p.toList.map fun i => zs.getD i (0, [])).map fun z => Value.ref z.1).toArray := by
      apply Array.toList_inj.mp
      rw [har, Array.map_map, Array.toList_map, List.map_map]
      refine List.map_congr_left fun i hi => ?_
      show (kas_item (pairsOf vs) i).2 = _
      rw [kas_item_eq]
      unfold Xy at hok
      rw [Bool.and_eq_true] at hok
      exact (gz i (List.mem_range.mp ((List.isPerm_iff.mp hok.1).mem_iff.mp hi))).1
    rw [hout]
    have pm : p.toList.Perm (List.range zs.length) := by
      unfold Xy at hok
      rw [Bool.and_eq_true] at hok
      exact List.isPerm_iff.mp hok.1
    have q := h (p.toList.map fun i => zs.getD i (0, [])) (Ve _ zs pm) (by
      rw [List.pairwise_map, List.pairwise_iff_getElem]
      intro i j hi hj hij
      have hpl : p.toList.length = zs.length := by rw [pm.length_eq, List.length_range]
      unfold Xy at hok
      simp only [Bool.and_eq_true, List.all_eq_true, List.mem_range] at hok
      have q1 := hok.2 i (by omega) j (by omega)
      rw [decide_eq_true hij] at q1
      have e1 : p.toList.getD i 0 = p.toList[i] := by rw [List.getD_eq_getElem?_getD, List.getElem?_eq_getElem hi]; rfl
      have e2 : p.toList.getD j 0 = p.toList[j] := by rw [List.getD_eq_getElem?_getD, List.getElem?_eq_getElem hj]; rfl
      rw [e1, e2, ← hcd] at q1
      have m1 := List.mem_range.mp (pm.mem_iff.mp (List.getElem_mem hi))
      have m2 := List.mem_range.mp (pm.mem_iff.mp (List.getElem_mem hj))
      rw [← (gz _ m1).2.1, ← (gz _ m2).2.1]
      simpa using q1)
    have hol : ((p.toList.map fun i => zs.getD i (0, [])).map fun z => Value.ref z.1).length = zs.length := by rw [List.length_map, List.length_map, pm.length_eq, List.length_range]
    refine wpAny_bind (seqEpoch_at ho6 rfl (wpAny_bind (listUpdate_at ho6 rfl ?_ (Nat.zero_le _) (by rw [List.size_toArray, hol]; rw [hvl] at hsl; exact Nat.le_succ_of_le hsl))))
    rw [hf]
    simp only [bne_self_eq_false, Bool.false_eq_true, if_false]
    have e2 : ∀ out : Array Value, G.update a (Obj.mapSeq fun _ => out) = sortedHeap s.heap a vs out := fun out => by rw [← hG]; rfl
    rw [e2]
    exact wpAny_pure q
theorem zc4 {l : Addr} {zs : List (Addr × List Int)} {Q : Value → Shared → Prop} (hl : s.heap.IsList l (zs.map fun z => Value.ref z.1).toArray) (hz : ∀ z ∈ zs, ∃ its : List Value, s.heap.IsList z.1 its.toArray ∧ IntsAre its z.2) (nd : (zs.map (·.2)).Nodup) (h4 : zs.length ≤ 4) (hu : A.units + 8 < cLine)
    (h : ∀ zs' : List (Addr × List Int), zs'.Perm zs → zs'.Pairwise (fun x y => lexLt x.2 y.2 = true) → Q (.ref (s.heap.objs.size + 1)) { s with heap := sortedAll s.heap (zs.map fun z => Value.ref z.1) (zs'.map fun z => Value.ref z.1).toArray }) :
    wpAny (model prog w) A (call (.builtin "sorted") [.ref l]) Q E s := by
  have hsl : (zs.map fun z => Value.ref z.1).length ≤ sizeLine := by rw [List.length_map, sizeLine_eq]; omega
  refine Calls.call_function_entry kind_sorted plain_sorted entry_sorted (args_sorted1 _) ?_
  unfold Builtin.«sorted»
  refine wpAny_bind (m := checkCount "sorted" 1 1 _) (wpAny_pure (wpAny_bind (collect_list hl (wpAny_bind (wpAny_newList ?_ hsl)) hsl)))
  generalize hB : (s.heap.push (seqObj "list" #[] 0)).update s.heap.objs.size (Obj.mapSeq (· ++ (zs.map fun z => Value.ref z.1).toArray)) = B
  have hsz : B.objs.size = s.heap.objs.size + 1 := by rw [← hB, Heap.size_update, size_push']
  have keep : ∀ b o, s.heap.get? b = some o → (B.push (seqObj "list" (zs.map fun z => Value.ref z.1).toArray 0)).get? b = some o := fun b o q => by
    have hlt : b < s.heap.objs.size := Heap.lt_size q
    rw [Heap.get?_push_ne _ _ _ (by rw [hsz]; exact Nat.ne_of_lt (Nat.lt_succ_of_lt hlt)), ← hB, Heap.get?_update_ne _ _ _ _ (Nat.ne_of_lt hlt), Heap.get?_push_ne _ _ _ (Nat.ne_of_lt hlt)]; exact q
  have hoL : (B.push (seqObj "list" (zs.map fun z => Value.ref z.1).toArray 0)).get? (s.heap.objs.size + 1) = some (seqObj "list" (zs.map fun z => Value.ref z.1).toArray 0) := by
    rw [← hsz]; exact Heap.get?_push_size _ rfl
  show wpAny _ _ _ _ _ { s with heap := B.push (seqObj "list" (zs.map fun z => Value.ref z.1).toArray 0) }
  dsimp only
  rw [hsz]
  refine wpAny_bind (wpAny_holding (wpAny_call_entry slot_list_sort ⟨_, hoL, rfl⟩ entry_list_sort (zaZ (A := A.in1.in1) (s := { s with heap := B.push (seqObj "list" (zs.map fun z => Value.ref z.1).toArray 0) }) hoL (fun z hzm => ?_) nd h4 (by show A.units + 1 + 1 + 1 < cLine; omega) fun zs' a1 a2 => ⟨_, rfl, ?_⟩) (args_list_sort _)))
  · obtain ⟨its, hl', hI⟩ := hz z hzm
    obtain ⟨o, e, _⟩ := id hl'
    exact ⟨Nat.ne_of_lt (Nat.lt_succ_of_lt (Heap.lt_size e)), its, hl'.at fun o e => keep _ o e, hI⟩
  · have q := h zs' a1 a2
    have e2 : sortedHeap (B.push (seqObj "list" (zs.map fun z => Value.ref z.1).toArray 0)) (s.heap.objs.size + 1) (zs.map fun z => Value.ref z.1) (zs'.map fun z => Value.ref z.1).toArray = sortedAll s.heap (zs.map fun z => Value.ref z.1) (zs'.map fun z => Value.ref z.1).toArray := by rw [← hB]; rfl
    show wpAny _ _ _ _ _ { s with heap := sortedHeap (B.push (seqObj "list" (zs.map fun z => Value.ref z.1).toArray 0)) (s.heap.objs.size + 1) (zs.map fun z => Value.ref z.1) (zs'.map fun z => Value.ref z.1).toArray }
    rw [e2]
    exact wpAny_pure ⟨_, rfl, q⟩
end
end HT
namespace L2
open PySem PySem.Spec PyProof.Rows
section
variable {X : Cx}
def zd6 (K : PySem.W.Frag) : List V → Hp → VK → Prop := fun xs H Q => ∃ (a : Addr) (zs : List (Addr × List Int)), xs = [.ref a] ∧ SqL K H a (zs.map fun z => V.ref z.1) ∧ zs.length ≤ 4 ∧ (∀ z ∈ zs, SqL K H z.1 (z.2.map V.int)) ∧ (zs.map (·.2)).Nodup ∧
  ∀ (p : Addr) (zs' : List (Addr × List Int)), H p = none → zs'.Perm zs → zs'.Pairwise (fun x y => HT.lexLt x.2 y.2 = true) → Q (.ref p) (upd H p (.lst (zs'.map fun z => V.ref z.1)))
theorem W5 : ∀ {zs : List (Addr × List Int)} {its : List Value}, Vals (zs.map fun z => V.ref z.1) its → its = zs.map fun z => Value.ref z.1
  | [], its, h => by cases h; rfl
  | z :: zs, its, h => by
    cases h with
    | cons r t => rw [W5 t]; cases r; rfl
theorem Xn : ∀ (zs : List (Addr × List Int)), Vals (zs.map fun z => V.ref z.1) (zs.map fun z => Value.ref z.1)
  | [] => .nil
  | z :: zs => .cons rfl (Xn zs)
theorem zdk (K : PySem.W.Frag) (hu : X.A.units + 64 < cLine) (e : X.K = K := by rfl) : uK X (.builtin "sorted") (zd6 K) := by
  subst e
  intro pins s σ H xs us Q I r h
  obtain ⟨a, zs, rfl, ha, h4, hz, nd, q⟩ := h
  obtain ⟨u, rfl, rx⟩ := vals1 r
  cases rx
  obtain ⟨its, r1, p1, _⟩ := I.list ha
  have e1 := W5 r1
  subst e1
  refine HT.zc4 p1.isList (fun z hzm => ?_) nd h4 (by omega) fun zs' pm pw => ?_
  · obtain ⟨its, r2, p2, _⟩ := I.list (hz z hzm)
    exact ⟨its, p2.isList, by simpa using intsAre_of r2⟩
  · obtain ⟨c, hat⟩ := sortedAll_at s.heap (zs.map fun z => Value.ref z.1) (zs'.map fun z => Value.ref z.1).toArray
    have hfree : H (s.heap.objs.size + 1) = none := I.hok.fresh (Nat.le_succ _)
    refine ⟨.ref (s.heap.objs.size + 1), _, I.laid (t' := s.toks) (o := .lst (zs'.map fun z => V.ref z.1)) (fun b o e => sortedAll_old e) (Nat.le_succ _) ?_, rfl, q _ zs' hfree pm pw⟩
    exact ⟨by rw [List.length_map, pm.length_eq]; exact Nat.le_trans h4 (by decide), _, c, Xn zs', hat⟩
end
end L2
namespace Lw
def Uu (st fs : List Int) : Bool := (List.range fs.length).any fun k => decide ((fs.drop k).take st.length = st)
theorem Zj {st fs : List Int} (h : st ≠ []) : Uu st fs = true ↔ ∃ k, (fs.drop k).take st.length = st := by
  unfold Uu
  simp only [List.any_eq_true, List.mem_range, decide_eq_true_eq]
  constructor
  · rintro ⟨k, _, e⟩; exact ⟨k, e⟩
  · rintro ⟨k, e⟩
    refine ⟨k, ?_, e⟩
    have hl := congrArg List.length e
    rw [List.length_take, List.length_drop] at hl
    have : 0 < st.length := List.length_pos_iff.mpr h
    omega
theorem zaF {st fs : List Int} (h : st ≠ []) : Uu st fs = (List.range ((fs.length : Int) - st.length + 1).toNat).any fun k => decide ((fs.drop k).take st.length = st) := by
  rw [Bool.eq_iff_iff, Zj h]
  simp only [List.any_eq_true, List.mem_range, decide_eq_true_eq]
  constructor
  · rintro ⟨k, e⟩
    refine ⟨k, ?_, e⟩
    have hl := congrArg List.length e
    rw [List.length_take, List.length_drop] at hl
    have : 0 < st.length := List.length_pos_iff.mpr h
    omega
  · rintro ⟨k, _, e⟩; exact ⟨k, e⟩
def lacks (ls : List (List Int)) (fs : List Int) : Bool := !ls.any fun st => Uu st fs
theorem zcm {st fs gs : List Int} (h : st ≠ []) (q : Uu st fs = true) : Uu st (fs ++ gs) = true := by
  rw [Zj h] at q ⊢
  obtain ⟨k, e⟩ := q
  refine ⟨k, ?_⟩
  have hl := congrArg List.length e
  rw [List.length_take, List.length_drop] at hl
  have hp : 0 < st.length := List.length_pos_iff.mpr h
  rw [List.drop_append_of_le_length (by omega), List.take_append_of_le_length (by rw [List.length_drop]; omega)]
  exact e
theorem WR {ls : List (List Int)} {fs gs : List Int} (ne : ∀ l ∈ ls, l ≠ []) (h : lacks ls (fs ++ gs) = true) : lacks ls fs = true := by
  unfold lacks at *
  rw [Bool.not_eq_true', List.any_eq_false] at h ⊢
  intro l hl q
  exact h l hl (zcm (ne l hl) q)
def Yx (ls : List (List Int)) (fs : List Int) : Bool := ls.any fun st => decide (st.take fs.length = fs)
def zY (ls : List (List Int)) : List Int → List Int
  | [] => []
  | x :: fs => if Yx ls (x :: fs) then x :: fs else zY ls fs
theorem Yv {ls : List (List Int)} : ∀ (i : Nat) (fs : List Int), i ≤ fs.length → (∀ k, k < i → Yx ls (fs.drop k) = false) → zY ls fs = zY ls (fs.drop i)
  | 0, _, _, _ => rfl
  | i + 1, [], h, _ => by simp at h
  | i + 1, x :: fs, h, q => by
    have h0 := q 0 (by omega)
    rw [List.drop_zero] at h0
    rw [zY, if_neg (by rw [h0]; decide), List.drop_succ_cons]
    exact Yv i fs (by simpa using h) fun k hk => by have := q (k + 1) (by omega); rwa [List.drop_succ_cons] at this
theorem zaB {ls : List (List Int)} {fs : List Int} (h : Yx ls fs = true) : zY ls fs = fs := by
  cases fs with
  | nil => rfl
  | cons x fs => rw [zY, if_pos h]
theorem zck {ls : List (List Int)} {fs : List Int} {i : Nat} (hi : i ≤ fs.length) (h : ∀ k, k < i → Yx ls (fs.drop k) = false) (q : Yx ls (fs.drop i) = true) : zY ls fs = fs.drop i := by
  rw [Yv i fs hi h, zaB q]
theorem zaR {ls : List (List Int)} {fs : List Int} (h : ∀ k, k < fs.length → Yx ls (fs.drop k) = false) : zY ls fs = [] := by
  rw [Yv fs.length fs (Nat.le_refl _) h, List.drop_length]; rfl
end Lw
namespace HT
open PySem PyProof.Rows PySem.W
def KW {α : Type} (c : Nat → Nat → Bool) (n : Nat) : KasT α → (α → Prop) → Prop
  | .ret a, Q => Q a
  | .ask i j k, Q => i < n ∧ j < n ∧ KW c n (k (c i j)) Q
theorem KW.bind {α β : Type} {c : Nat → Nat → Bool} {n : Nat} {f : α → KasT β} {Q : β → Prop} : ∀ {t : KasT α}, KW c n t (fun a => KW c n (f a) Q) → KW c n (t.bind f) Q
  | .ret _, h => h
  | .ask _ _ k, h => ⟨h.1, h.2.1, KW.bind (t := k _) h.2.2⟩
theorem KW.mono {α : Type} {c : Nat → Nat → Bool} {n : Nat} {Q Q' : α → Prop} (hq : ∀ a, Q a → Q' a) : ∀ {t : KasT α}, KW c n t Q → KW c n t Q'
  | .ret a, h => hq a h
  | .ask _ _ k, h => ⟨h.1, h.2.1, KW.mono hq (t := k _) h.2.2⟩
theorem KW.wp {α : Type} {n : Nat} {c : Nat → Nat → Bool} {cmp : Nat → Nat → (Bool → Shared → Prop) → Shared → Prop} {s : Shared} {Q : α → Prop} (hc : ∀ i j C, i < n → j < n → C (c i j) s → cmp i j C s) :
    ∀ t : KasT α, KW c n t Q → t.kasWp cmp (fun a s' => s' = s ∧ Q a) s
  | .ret _, h => ⟨rfl, h⟩
  | .ask i j k, h => hc i j _ h.1 h.2.1 (KW.wp hc (k (c i j)) h.2.2)
structure Ord (c : Nat → Nat → Bool) (n : Nat) : Prop where
  tr : ∀ i j k, i < n → j < n → k < n → c i j = true → c j k = true → c i k = true
  tot : ∀ i j, i < n → j < n → i ≠ j → c i j = false → c j i = true
  asy : ∀ i j, i < n → j < n → c i j = true → c j i = false
structure Pm (n : Nat) (p : Array Nat) : Prop where
  sz : p.size = n
  pm : p.toList.Perm (List.range n)
theorem Pm.lt {n : Nat} {p : Array Nat} (h : Pm n p) (i : Nat) (hi : i < n) : p.getD i 0 < n := by
  have hs := h.sz
  have e : p.getD i 0 = p[i] := by simp [Array.getD, hs, hi]
  rw [e]
  exact List.mem_range.mp (h.pm.mem_iff.mp (by simp))
theorem Pm.ne {n : Nat} {p : Array Nat} (h : Pm n p) {i j : Nat} (hi : i < n) (hj : j < n) (hij : i ≠ j) : p.getD i 0 ≠ p.getD j 0 := by
  have hs := h.sz
  have e1 : p.getD i 0 = p.toList[i]'(by simp [hs, hi]) := by simp [Array.getD, hs, hi]
  have e2 : p.getD j 0 = p.toList[j]'(by simp [hs, hj]) := by simp [Array.getD, hs, hj]
  rw [e1, e2]
  have nd : p.toList.Nodup := h.pm.nodup_iff.mpr List.nodup_range
  intro z
  exact hij ((List.getElem_inj nd).mp z)
theorem Pm.of {n : Nat} {p q : Array Nat} (h : Pm n p) (z : q.Perm p) : Pm n q := ⟨by rw [z.size_eq]; exact h.sz, (Array.perm_iff_toList_perm.mp z).trans h.pm⟩
def Up (c : Nat → Nat → Bool) (p : Array Nat) (m : Nat) : Prop := ∀ i j, i < j → j < m → c (p.getD i 0) (p.getD j 0) = true
def Dn (c : Nat → Nat → Bool) (p : Array Nat) (m : Nat) : Prop := ∀ i j, i < j → j < m → c (p.getD j 0) (p.getD i 0) = true
section
variable {c : Nat → Nat → Bool} {n : Nat}
theorem zaS (O : Ord c n) {p : Array Nat} (hp : Pm n p) : ∀ (f m : Nat), 1 ≤ m → m + f ≤ n → Up c p m → KW c n (kas_asc p f m) (fun r => m ≤ r ∧ r ≤ m + f ∧ Up c p r ∧ (r < m + f → c (p.getD r 0) (p.getD (r - 1) 0) = true))
  | 0, m, _, _, u => ⟨Nat.le_refl _, Nat.le_refl _, u, fun z => absurd z (Nat.lt_irrefl _)⟩
  | f + 1, m, h1, h2, u => by
    refine ⟨hp.lt m (by omega), hp.lt (m - 1) (by omega), ?_⟩
    cases e : c (p.getD m 0) (p.getD (m - 1) 0) with
    | true => exact ⟨Nat.le_refl _, by omega, u, fun _ => e⟩
    | false =>
      have hs : c (p.getD (m - 1) 0) (p.getD m 0) = true := O.tot _ _ (hp.lt m (by omega)) (hp.lt (m - 1) (by omega)) (hp.ne (by omega) (by omega) (by omega)) e
      have u' : Up c p (m + 1) := fun i j hij hj => by
        by_cases hjm : j < m
        · exact u i j hij hjm
        · have ej : j = m := by omega
          subst ej
          by_cases hi : i = j - 1
          · rw [hi]; exact hs
          · exact O.tr _ _ _ (hp.lt i (by omega)) (hp.lt (j - 1) (by omega)) (hp.lt j (by omega)) (u i (j - 1) (by omega) (by omega)) hs
      refine KW.mono (fun r h => ?_) (zaS O hp f (m + 1) (by omega) (by omega) u')
      exact ⟨by omega, by omega, h.2.2.1, fun z => h.2.2.2 (by omega)⟩
theorem zbl (O : Ord c n) {p : Array Nat} (hp : Pm n p) : ∀ (f m : Nat), 1 ≤ m → m + f ≤ n → Dn c p m → KW c n (kas_desc f p m 0) (fun r => r.1 = p ∧ r.2.2 = 0 ∧ m ≤ r.2.1 ∧ r.2.1 ≤ m + f ∧ Dn c p r.2.1)
  | 0, m, _, _, u => ⟨rfl, rfl, Nat.le_refl _, Nat.le_refl _, u⟩
  | f + 1, m, h1, h2, u => by
    refine ⟨hp.lt m (by omega), hp.lt (m - 1) (by omega), ?_⟩
    cases e : c (p.getD m 0) (p.getD (m - 1) 0) with
    | true =>
      have u' : Dn c p (m + 1) := fun i j hij hj => by
        by_cases hjm : j < m
        · exact u i j hij hjm
        · have ej : j = m := by omega
          subst ej
          by_cases hi : i = j - 1
          · rw [hi]; exact e
          · exact O.tr _ _ _ (hp.lt j (by omega)) (hp.lt (j - 1) (by omega)) (hp.lt i (by omega)) e (u i (j - 1) (by omega) (by omega))
      refine KW.mono (fun r h => ?_) (zbl O hp f (m + 1) (by omega) (by omega) u')
      exact ⟨h.1, h.2.1, by omega, by omega, h.2.2.2.2⟩
    | false =>
      have hs : c (p.getD (m - 1) 0) (p.getD m 0) = true := O.tot _ _ (hp.lt m (by omega)) (hp.lt (m - 1) (by omega)) (hp.ne (by omega) (by omega) (by omega)) e
      refine ⟨hp.lt (m - 1) (by omega), hp.lt m (by omega), ?_⟩
      rw [hs]
      exact ⟨rfl, rfl, Nat.le_refl _, (show m ≤ m + (f + 1) by omega), u⟩
theorem rev_getD {p : Array Nat} {m : Nat} (hm : m ≤ p.size) (k : Nat) : (kas_rev p 0 m).getD k 0 = if k < m then p.getD (m - 1 - k) 0 else p.getD k 0 := by
  have q := getElem?_mirror_all (xs := p) (i := 0) hm k
  have e : ∀ (a : Array Nat) (j : Nat), a.getD j 0 = (a[j]?).getD 0 := fun a j => by simp [Array.getD_eq_getD_getElem?]
  unfold kas_rev
  rw [e, q]
  by_cases h : k < m
  · rw [if_pos ⟨Nat.zero_le _, h⟩, if_pos h, e, Nat.zero_add]
  · rw [if_neg (by omega), if_neg h, e]
theorem zcw (O : Ord c n) {p : Array Nat} (hp : Pm n p) {m : Nat} (h1 : 1 ≤ m) (h2 : m ≤ n) (u : Dn c p m) : KW c n (kas_tail3 m n p) (fun r => 1 ≤ r.1 ∧ r.1 ≤ n ∧ Pm n r.2 ∧ Up c r.2 r.1) := by
  have hr : Pm n (kas_rev p 0 m) := hp.of (mirror_perm _ _ _ _)
  have hsz : m ≤ p.size := by rw [hp.sz]; exact h2
  have u' : Up c (kas_rev p 0 m) m := fun i j hij hj => by
    rw [rev_getD hsz, rev_getD hsz, if_pos (by omega), if_pos hj]
    exact u _ _ (by omega) (by omega)
  refine KW.bind (KW.mono (fun r h => ?_) (zaS O hr (n - m) m h1 (by omega) u'))
  exact ⟨by omega, by omega, hr, h.2.2.1⟩
theorem zcS (O : Ord c n) {p : Array Nat} (hp : Pm n p) (h2 : 2 ≤ n) : KW c n (kas_count n p) (fun r => 1 ≤ r.1 ∧ r.1 ≤ n ∧ Pm n r.2 ∧ Up c r.2 r.1) := by
  refine KW.bind (KW.mono (fun r h => ?_) (zaS O hp (n - 1) 1 (Nat.le_refl _) (by omega) (fun i j hij hj => by omega)))
  obtain ⟨h1, h3, u, st⟩ := h
  by_cases e : r = n
  · subst e
    rw [if_pos (by simp)]
    exact ⟨h1, Nat.le_refl _, hp, u⟩
  · rw [if_neg (by simpa using e)]
    by_cases hr : r > 1
    · rw [if_pos hr]
      refine ⟨hp.lt 0 (by omega), hp.lt (r - 1) (by omega), ?_⟩
      rw [u 0 (r - 1) (by omega) (by omega)]
      exact ⟨h1, by omega, hp, u⟩
    · rw [if_neg hr]
      have er : r = 1 := by omega
      subst er
      have s1 := st (by omega)
      have d : Dn c p 2 := fun i j hij hj => by
        have ei : i = 0 := by omega
        have ej : j = 1 := by omega
        subst ei; subst ej
        exact s1
      refine KW.bind (KW.mono (fun r h => ?_) (zbl O hp (n - 2) 2 (by omega) (by omega) d))
      obtain ⟨a1, a2, a3, a4, a5⟩ := h
      obtain ⟨q, m, z⟩ := r
      simp only at a1 a2 a3 a4 a5
      subst a1; subst a2
      show KW c n (if 0 > 0 then _ else _) _
      rw [if_neg (Nat.lt_irrefl 0)]
      exact zcw O hp (show 1 ≤ m by omega) (show m ≤ n by omega) a5
theorem U7 (O : Ord c n) {p : Array Nat} (hp : Pm n p) {k : Nat} (hk : k < n) (u : Up c p k) : ∀ (f l r : Nat), l ≤ r → r ≤ k → r - l ≤ f → (∀ i, i < l → c (p.getD i 0) (p.getD k 0) = true) → (∀ i, r ≤ i → i < k → c (p.getD k 0) (p.getD i 0) = true) →
    KW c n (kas_place p k f l r) (fun l => l ≤ k ∧ (∀ i, i < l → c (p.getD i 0) (p.getD k 0) = true) ∧ (∀ i, l ≤ i → i < k → c (p.getD k 0) (p.getD i 0) = true))
  | 0, l, r, h1, h2, h3, lo, hi => ⟨by omega, lo, fun i a b => hi i (by omega) b⟩
  | f + 1, l, r, h1, h2, h3, lo, hi => by
    unfold kas_place
    by_cases hlr : l ≥ r
    · rw [if_pos hlr]
      exact ⟨by omega, lo, fun i a b => hi i (by omega) b⟩
    · rw [if_neg hlr]
      have hm : (l + r) / 2 < k := by omega
      refine ⟨hp.lt k hk, hp.lt _ (by omega), ?_⟩
      cases e : c (p.getD k 0) (p.getD ((l + r) / 2) 0) with
      | true =>
        dsimp only
        rw [if_pos rfl]
        refine U7 O hp hk u f l ((l + r) / 2) (by omega) (by omega) (by omega) lo fun i a b => ?_
        by_cases ei : i = (l + r) / 2
        · rw [ei]; exact e
        · exact O.tr _ _ _ (hp.lt k hk) (hp.lt _ (by omega)) (hp.lt i (by omega)) e (u _ _ (by omega) b)
      | false =>
        dsimp only
        rw [if_neg Bool.false_ne_true]
        have hs : c (p.getD ((l + r) / 2) 0) (p.getD k 0) = true := O.tot _ _ (hp.lt k hk) (hp.lt _ (by omega)) (hp.ne hk (by omega) (by omega)) e
        refine U7 O hp hk u f ((l + r) / 2 + 1) r (by omega) h2 (by omega) (fun i a => ?_) hi
        by_cases ei : i = (l + r) / 2
        · rw [ei]; exact hs
        · exact O.tr _ _ _ (hp.lt i (by omega)) (hp.lt _ (by omega)) (hp.lt k hk) (u _ _ (by omega) (by omega)) hs
theorem JF {p : Array Nat} {k l : Nat} (hk : k < p.size) (hl : l ≤ k) (i : Nat) : (bubble p k (k - l)).getD i 0 = if i = l then p.getD k 0 else if l < i ∧ i ≤ k then p.getD (i - 1) 0 else p.getD i 0 := by
  have q := getElem?_bubble hk (k - l) (by omega) i
  have e : ∀ (a : Array Nat) (j : Nat), a.getD j 0 = (a[j]?).getD 0 := fun a j => by simp [Array.getD_eq_getD_getElem?]
  rw [show k - (k - l) = l by omega] at q
  rw [e, e p k, e p (i - 1), e p i, q]
  split
  · rfl
  · split
    · rfl
    · rfl
theorem zb8 (O : Ord c n) : ∀ (f : Nat) {p : Array Nat} {k : Nat}, Pm n p → 1 ≤ k → k + f = n → Up c p k → KW c n (kas_bin f p k) (fun q => Pm n q ∧ Up c q n)
  | 0, p, k, hp, h1, h2, u => by
    have : k = n := by omega
    subst this
    exact ⟨hp, u⟩
  | f + 1, p, k, hp, h1, h2, u => by
    refine KW.bind (KW.mono (fun l h => ?_) (U7 O hp (show k < n by omega) u k 0 k (Nat.zero_le _) (Nat.le_refl _) (by omega) (fun i hi => by omega) (fun i a b => by omega)))
    obtain ⟨hlk, lo, hi⟩ := h
    have hks : k < p.size := by rw [hp.sz]; omega
    refine zb8 O f (hp.of (bubble_perm _ _ _)) (by omega) (by omega) fun i j hij hj => ?_
    rw [JF hks hlk, JF hks hlk]
    by_cases hi1 : i = l
    · rw [if_pos hi1, if_neg (by omega), if_pos (by omega)]
      exact hi _ (by omega) (by omega)
    · rw [if_neg hi1]
      by_cases hi2 : l < i ∧ i ≤ k
      · rw [if_pos hi2, if_neg (by omega), if_pos (by omega)]
        exact u _ _ (by omega) (by omega)
      · rw [if_neg hi2]
        by_cases hj1 : j = l
        · rw [if_pos hj1]
          exact lo _ (by omega)
        · rw [if_neg hj1]
          by_cases hj2 : l < j ∧ j ≤ k
          · rw [if_pos hj2]
            exact u _ _ (by omega) (by omega)
          · rw [if_neg hj2]
            exact u _ _ (by omega) (by omega)
theorem zdA (O : Ord c n) (h2 : 2 ≤ n) : KW c n (kas_sort n) (fun p => Pm n p ∧ Up c p n) := by
  have h0 : Pm n (List.toArray (List.range n)) := ⟨by simp, by simp⟩
  refine KW.bind (KW.mono (fun r h => ?_) (zcS O h0 h2))
  obtain ⟨h1, h3, hp, u⟩ := h
  by_cases hr : r.1 < n
  · rw [if_pos hr, Nat.max_eq_left h1]
    exact zb8 O _ hp h1 (by omega) u
  · rw [if_neg hr]
    have : r.1 = n := by omega
    rw [this] at u
    exact ⟨hp, u⟩
end
end HT
namespace L2
open PySem PySem.Spec PyProof.Rows PySem.W
def zbi (c : Addr) (q : Str) : HO := .ext fun h => h.CodeRec (.ref c) q
def za9 (P : Addr) (pos : Pos) (q : Str) (H : Hp) (c : Addr) : Prop := H P = some (.tbl #[rawInt pos.line, rawInt pos.col, .ref c]) ∧ H c = some (zbi c q)
def W3 (P : Addr) (pos : Pos) (q : Str) (H : Hp) : Prop := H P = some (.tbl #[]) ∨ ∃ c, za9 P pos q H c
section
variable {P : Program} {w : World} {K : Frag} {mg : Str → Option Value} {base : Heap} {N ps : List Str} {k : Nat} {A : Around} {outer : List Env} {s : Shared} {H : Hp} {us : List Value} {vs : List V} {Q : VK} {E : XK} {f : Addr} {o : Obj}
  {name qual : Str} {params : Arguments} {body : Expr} {scope : Scope} {pm cdv ct : Value} {args : Args}
theorem zdw (ho : s.heap.get? f = some o) (hd : o.data = .func (kla_fn name qual params body scope [] pm cdv ct)) (hcd : s.heap.CodeRec cdv qual) (S : zG N ps scope) (hr : Room (k + 1) A) (e0 : Env0 P w K mg base A outer s H)
    (hb : BindsTo s (kla_fn name qual params body scope [] pm cdv ct) args (ps.zip us)) (hl : vs.length = ps.length) (r : Vals vs us)
    (hbody : ∃ t, PE (Vs CX0 P w K mg base N qual scope f cdv A outer s H E) body t ∧ t (start N vs) H Q) : codeAny (model P w) A (.call (.ref f) args) (CR CX0 outer P w H s Q E) s := by
  have lim : s.heap.NoLimit := e0.mod.nolimit.keeps fun b o e => (e0.bs b o e).1
  have hkind : ∀ y ∈ ps.zip us, scope.names.lookup y.1 = some .local ∨ (scope.names.lookup y.1 = some .cell ∧ ((cellsFrom (s.heap.objs.size + 1) scope.names []).lookup y.1).isSome = true) := fun ⟨n, v⟩ hy => by
    rcases S.par n (List.of_mem_zip hy).1 with q | q
    · exact .inl q
    · exact .inr ⟨q, PySem.W.cellsFrom_some _ _ _ (.inl q)⟩
  refine kla_callFunE hr.depth ho hd S.co S.gen rfl hcd (hb _ _ _ _ ?_)
  refine wpAny_newFunctionEnv_cells S.kind hkind fun env he s1 x => ?_
  subst he
  refine ⟨lim.keeps x.toInCall.keep, kla_codeExpr ?_⟩
  obtain ⟨t, ht, hq⟩ := hbody
  have I : Inv (Vs CX0 P w K mg base N qual scope f cdv A outer s H E) [] (start N vs) H s1 := Qt S hr.hd e0 hl r x
  refine wpAny_mono (ht [] s1 (start N vs) H _ I hq) (fun u s' hs => ?_) fun e s' hs => hs
  obtain ⟨v, H', J, rv, q⟩ := hs
  exact ⟨v, H', J.os, J.bare, J.base, J.hok, rv, q⟩
end
section
variable {X : Cx} {pins : List (Addr × Obj)} {σ : St} {H : Hp} {s : Shared} {params : Arguments} {body : Expr} {scope : Scope} {pos : Pos} {c P : Addr} {Q : Value → Shared → Prop}
theorem zcY (I : Inv X pins σ H s) (hdef : defaultsOf params X.env = ([], [])) (hcl : closureFor scope X.env = pure []) (hcode : X.env.code = .ref c) (hK : codeHdIn X.K c P = true) (hB : X.base.BuiltinsAt X.mg P) (hgP : mainGlobals ≠ P)
    (hT : W3 P pos (X.env.qual ++ "<lambda>") H)
    (h : ∀ (f c' : Addr) (H' : Hp) (s' : Shared) (pm ct : Value), Inv X pins σ H' s' → za9 P pos (X.env.qual ++ "<lambda>") H' c' → s'.heap.get? f = some (kla_obj "<lambda>" (X.env.qual ++ "<lambda>") params body scope [] pm c' ct) → H' f = none → s.heap.objs.size ≤ f →
      (∀ b u, b ≠ P → H b = some u → H' b = some u) → Q (.ref f) s') :
    wpAny (model X.prog X.w) X.A (eval (.Lambda params body scope pos) X.env) Q X.xe s := by
  have C : CodeHd s.heap c P := codeHd_of_K I.kIn hK
  have hg : s.heap.Ns mainGlobals X.mg := I.mod.glob.keeps I.bk
  have hb : s.heap.BuiltinsAt X.mg P := by
    obtain ⟨bm, o, b1, b2, b3, b4, b5, b6, b7, b8⟩ := hB
    exact ⟨bm, o, b1, b2, b3, b4, I.bk _ _ b5, b6, b7, b8⟩
  refine kla_eval hdef ?_
  rcases hT with hP | ⟨c', hP, hc'⟩
  · have hPo : s.heap.get? P = some (tabObj #[]) := I.hok P _ hP
    refine kla_makeFunction hcl I.ok.glob hg hcode C hPo (show TriplesOk [] from trivial) rfl hgP hb fun c' ct h' tk hx hge hlt hrec htb => ?_
    have htb' : h'.get? P = some (tabObj #[rawInt pos.line, rawInt pos.col, .ref c']) := htb
    have hPc : P ≠ c' := fun z => by
      have := Heap.lt_size hPo
      rw [z] at this
      exact absurd (Nat.lt_of_lt_of_le this hge) (Nat.lt_irrefl _)
    have hHc : H c' = none := I.hok.fresh hge
    have old : ∀ b o, b ≠ P → s.heap.get? b = some o → (h'.push (kla_obj "<lambda>" (X.env.qual ++ "<lambda>") params body scope [] ((X.mg "__name__").getD .none) c' ct)).get? b = some o := fun b o hb e => Heap.get?_push_of_some _ (hx b o hb e)
    have nP : ∀ b, H b = none → b ≠ P := fun b n z => by rw [z, hP] at n; cases n
    have up : ∀ b u, b ≠ P → H b = some u → upd (upd H P (.tbl #[rawInt pos.line, rawInt pos.col, .ref c'])) c' (zbi c' (X.env.qual ++ "<lambda>")) b = some u := fun b u hb e => by
      rw [zx (fun z => by rw [z, hHc] at e; cases e), zx hb]; exact e
    have upn : ∀ b, b ≠ P → b ≠ c' → H b = none → upd (upd H P (.tbl #[rawInt pos.line, rawInt pos.col, .ref c'])) c' (zbi c' (X.env.qual ++ "<lambda>")) b = none := fun b h1 h2 e => by
      rw [zx h2, zx h1]; exact e
    have J : Inv X pins σ (upd (upd H P (.tbl #[rawInt pos.line, rawInt pos.col, .ref c'])) c' (zbi c' (X.env.qual ++ "<lambda>"))) { s with heap := h'.push (kla_obj "<lambda>" (X.env.qual ++ "<lambda>") params body scope [] ((X.mg "__name__").getD .none) c' ct), toks := tk } := by
      refine I.un ⟨fun b o e n _ _ => old b o (nP b n) e, fun b o e n _ _ => ⟨o.slots, old b o (nP b n) e⟩, fun b o e n _ => upn b (nP b n) (Nat.ne_of_lt (Nat.lt_of_lt_of_le (Heap.lt_size e) hge)) n, fun b o e _ => ?_, fun b xs e => up b _ (fun z => by rw [z, hP] at e; cases e) e, fun b o u e => up b _ (fun z => by rw [z, hP] at e; cases e) e, fun b ps e => ?_⟩ ?_
      · by_cases hb : b = P
        · rw [hb]; exact ⟨_, Heap.get?_push_of_some _ htb'⟩
        · exact ⟨o, old b o hb e⟩
      · by_cases hb : b = P
        · rw [hb] at e ⊢
          rw [hP] at e
          cases e
          exact ⟨#[rawInt pos.line, rawInt pos.col, .ref c'], by rw [zx hPc, zm]; rfl⟩
        · exact ⟨#[], by rw [up b _ hb e]; simp⟩
      · intro b u e
        by_cases hbc : b = c'
        · subst hbc
          rw [zm] at e
          cases e
          obtain ⟨c2, oc, vs, t, e1, e2, e3, e4⟩ := id hrec
          cases e1
          have q := Heap.get?_push_of_some (kla_obj "<lambda>" (X.env.qual ++ "<lambda>") params body scope [] ((X.mg "__name__").getD .none) b ct) e2
          refine ⟨⟨b, oc, vs, t, rfl, q, e3, e4⟩, ⟨oc, q⟩, fun h1 h2 ⟨c3, o3, v3, t3, a1, a2, a3, a4⟩ k => ?_⟩
          cases a1
          exact ⟨b, o3, v3, t3, rfl, k _ a2, a3, a4⟩
        · rw [zx hbc] at e
          by_cases hbP : b = P
          · rw [hbP] at e ⊢
            rw [zm] at e
            cases e
            exact Heap.get?_push_of_some _ htb'
          · rw [zx hbP] at e
            refine (I.hok b u e).stay (fun d v hd q => old d v ?_ q) (fun d q => ?_) fun d xs q => ?_
            · rcases hd with rfl | hd
              · exact hbP
              · intro z; rw [z, hP] at hd; cases hd
            · exact up d _ (fun z => by rw [z, hP] at q; cases q) q
            · exact up d _ (fun z => by rw [z, hP] at q; cases q) q
    have hsz : s.heap.objs.size ≤ h'.objs.size := Nat.le_of_lt (Nat.lt_of_le_of_lt hge hlt)
    refine h _ c' _ _ _ ct J ⟨by rw [zx hPc, zm], zm⟩ (Heap.get?_push_size _ rfl) ?_ hsz up
    exact upn _ (Nat.ne_of_gt (Nat.lt_of_lt_of_le (Heap.lt_size hPo) hsz)) (Nat.ne_of_gt hlt) (I.hok.fresh hsz)
  · have hPo : s.heap.get? P = some (tabObj #[rawInt pos.line, rawInt pos.col, .ref c']) := I.hok P _ hP
    refine kla_makeFunctionHit hcl I.ok.glob hg hcode C hPo (show TriplesOk [rawInt pos.line, rawInt pos.col, .ref c'] from trivial) (cv := .ref c') ?_ hb fun ct h' tk hk hsz => ?_
    · have := codeAmong_snoc (pos := pos) (c := .ref c') [] trivial rfl
      exact this
    · exact h _ c' H _ _ ct (I.kept (t' := tk) fun b u e => Heap.get?_push_of_some _ (hk b u e)) ⟨hP, hc'⟩ (Heap.get?_push_size _ rfl) (I.hok.fresh hsz) hsz (fun b u _ e => e)
end
end L2
namespace HT
def uD (a b : List Int) : Bool := if a.length = b.length then lexLt a b else decide (a.length < b.length)
theorem Wj (a : List Int) : uD a a = false := by unfold uD; rw [if_pos rfl, uC]
theorem Vr (a b c : List Int) (h1 : uD a b = true) (h2 : uD b c = true) : uD a c = true := by
  unfold uD at *
  by_cases e1 : a.length = b.length
  · rw [if_pos e1] at h1
    by_cases e2 : b.length = c.length
    · rw [if_pos e2] at h2
      rw [if_pos (e1.trans e2)]
      exact qW a b c h1 h2
    · rw [if_neg e2] at h2
      rw [if_neg (by omega)]
      have := of_decide_eq_true h2
      exact decide_eq_true (by omega)
  · rw [if_neg e1] at h1
    have h1' := of_decide_eq_true h1
    by_cases e2 : b.length = c.length
    · rw [if_neg (by omega)]
      exact decide_eq_true (by omega)
    · rw [if_neg e2] at h2
      have := of_decide_eq_true h2
      rw [if_neg (by omega)]
      exact decide_eq_true (by omega)
theorem zaM (a b : List Int) (h : a ≠ b) : uD b a = !uD a b := by
  unfold uD
  by_cases e : a.length = b.length
  · rw [if_pos e, if_pos e.symm, Yj a b h]
  · rw [if_neg e, if_neg (Ne.symm e), Bool.eq_iff_iff]
    simp
    omega
theorem zfD {ls : List (List Int)} (nd : ls.Nodup) : Ord (fun i j => uD (ls.getD i []) (ls.getD j [])) ls.length := by
  have ge : ∀ i, (h : i < ls.length) → ls.getD i [] = ls[i] := fun i h => by rw [List.getD_eq_getElem?_getD, List.getElem?_eq_getElem h]; rfl
  refine ⟨fun i j k _ _ _ h1 h2 => Vr _ _ _ h1 h2, fun i j hi hj hij h => ?_, fun i j hi hj h => ?_⟩
  · have ne : ls.getD i [] ≠ ls.getD j [] := fun z => by
      rw [ge i hi, ge j hj] at z
      exact hij ((List.getElem_inj nd).mp z)
    have := zaM _ _ ne
    rw [h] at this
    exact this
  · cases e : uD (ls.getD j []) (ls.getD i []) with
    | false => rfl
    | true =>
      have := Vr _ _ _ h e
      rw [Wj] at this
      cases this
end HT
namespace L2
open PySem PySem.Spec PyProof.Rows PySem.W
section
variable {X : Cx} {pins : List (Addr × Obj)} {σ : St} {H : Hp} {s : Shared}
theorem zaw (I : Inv X pins σ H s) {p z : Addr} {n : Int} (h : H p = some (.tup [.int n, .ref z])) : ∃ (t : Tok) (o : Obj) (m : Nat), s.heap.get? p = some o ∧ o.cls = .type "tuple" ∧ o.data = .seq #[.int n t, .ref z] m := by
  obtain ⟨_, its, r, o, e, hc, m, hd⟩ := I.hok p _ h
  cases r with
  | cons r1 r2 =>
    cases r2 with
    | cons r3 r4 =>
      cases r4
      obtain ⟨t, rfl⟩ := r1
      cases r3
      exact ⟨t, o, m, e, hc, hd⟩
theorem zei (I : Inv X pins σ H s) {A : Around} {p q za zb : Addr} {as bs : List Int} (hp : H p = some (.tup [.int as.length, .ref za])) (hq : H q = some (.tup [.int bs.length, .ref zb])) (ha : H za = some (.lst (as.map V.int))) (hb : H zb = some (.lst (bs.map V.int)))
    (hu : A.units + 2 < cLine) {Q : Bool → Shared → Prop} {E : Value → Shared → Prop} (h : Q (HT.uD as bs) s) : wpAny (model X.prog X.w) A (keyLt' (tuples' true) (.ref p) (.ref q)) Q E s := by
  obtain ⟨t, o, m, e, _, hd⟩ := zaw I hp
  obtain ⟨t', o', m', e', _, hd'⟩ := zaw I hq
  refine kat_lt e hd e' hd' ?_
  refine kat_cons (wpAny_eqBool_int ?_)
  unfold HT.uD at h
  by_cases hl : as.length = bs.length
  · rw [if_pos hl] at h
    have e1 : ((as.length : Int) == (bs.length : Int)) = true := by rw [hl]; simp
    rw [e1]
    refine kat_yes (kat_cons ?_)
    refine (Jy I (A := A) 1 (t := vX as) (u := vX bs) (v := .ref za) (w := .ref zb) (by rw [Yq]; exact Nat.le_refl _) (TrAt.ints (SqL.of ha)) (TrAt.ints (SqL.of hb)) rfl rfl (by omega)).eq _ _ _ _ ?_
    rw [Z6]
    by_cases hab : as = bs
    · rw [decide_eq_true hab]
      refine kat_yes (kat_nil ?_)
      rw [hab, HT.uC] at h
      exact h
    · rw [decide_eq_false hab]
      refine kat_no (kat_one _ _ ?_)
      obtain ⟨its, r1, p1, _⟩ := I.list (SqL.of ha)
      obtain ⟨its2, r2, p2, _⟩ := I.list (SqL.of hb)
      exact HT.Vm p1.isList p2.isList (by simpa using intsAre_of r1) (by simpa using intsAre_of r2) (by omega) h
  · rw [if_neg hl] at h
    have e1 : ((as.length : Int) == (bs.length : Int)) = false := by simp; omega
    rw [e1]
    refine kat_no ?_
    refine oneLt_int ?_
    have : decide ((as.length : Int) < (bs.length : Int)) = decide (as.length < bs.length) := by
      rw [Bool.eq_iff_iff]; simp
    rw [this]
    exact h
end
end L2
set_option maxHeartbeats 4000000
namespace L2
open PySem PySem.Spec PyProof.Rows PySem.W
section
variable {X : Cx} {pins : List (Addr × Obj)} {σ : St} {H : Hp} {s : Shared}
structure zbM (X : Cx) (pins : List (Addr × Obj)) (n : Nat) (a : Addr) : Prop where
  s0 : X.s₀.heap.objs.size ≤ a
  lo : a ≠ X.env.locals
  ce : ∀ x c, X.env.cells.lookup x = some c → c ≠ a
  fs : a ∉ X.fs
  pn : ∀ p ∈ X.pn ++ pins, p.1 ≠ a
  ge : n ≤ a
theorem Inv.late (I : Inv X pins σ H s) {a : Addr} (h : s.heap.objs.size ≤ a) : zbM X pins s.heap.objs.size a :=
  ⟨Nat.le_trans I.sz h, Nat.ne_of_gt (Nat.lt_of_lt_of_le I.lt h), fun x c e z => by
    obtain ⟨v, o, ho, _⟩ := I.cell x c e
    rw [z] at ho
    exact absurd (Nat.lt_of_lt_of_le (Heap.lt_size ho) h) (Nat.lt_irrefl _), I.nofs h, fun p hp z => by
    obtain ⟨e, _⟩ := I.pin p hp
    rw [z] at e
    exact absurd (Nat.lt_of_lt_of_le (Heap.lt_size e) h) (Nat.lt_irrefl _), h⟩
theorem Inv.tell {a : Addr} {xs : List V} {its : List Value} {n : Nat} {h' : Heap} {t' : Nat} (I : Inv X pins σ H s) {m : Nat} (L : zbM X pins m a) (hn : H a = none) (k : ∀ b o, b ≠ a → s.heap.get? b = some o → h'.get? b = some o)
    (hv : Vals xs its) (hz : xs.length ≤ sizeLine) (ha : h'.get? a = some (seqObj "list" its.toArray n)) : Inv X pins σ (upd H a (.lst xs)) { s with heap := h', toks := t' } := by
  have na : ∀ b u, H b = some u → b ≠ a := fun b u e z => by rw [z, hn] at e; cases e
  refine I.step (g' := s.gens) (d' := s.drawn) (ch := [a]) (fun b hb => ?_) (fun b o _ _ hc e _ => k b o (fun z => hc (by simp [z])) e) (fun b o _ _ hc e _ => ⟨o.slots, k b o (fun z => hc (by simp [z])) e⟩) (fun b o hc e n => by rw [zx (fun z => hc (by simp [z]))]; exact n)
    (fun b o hc e => ⟨o, k b o (fun z => hc (by simp [z])) e⟩) (fun b xs e => by rw [zx (na b _ e)]; exact e) (fun b o u e => by rw [zx (na b _ e)]; exact e) (fun b ps e => ⟨#[], by rw [zx (na b _ e), e]; simp⟩) (fun m hm => ?_) (fun b u e => ?_) I.bare
  · have e : b = a := by simpa using hb
    subst e
    exact ⟨.inr L.s0, L.lo, L.ce, L.pn⟩
  · obtain ⟨o, es, ep, ho, r⟩ := hm
    exact ⟨o, es, ep, k _ o (Ne.symm L.lo) ho, r⟩
  · by_cases hb : b = a
    · subst hb
      rw [zm] at e
      cases e
      exact ⟨hz, its, n, hv, ha⟩
    · rw [zx hb] at e
      refine (I.hok b u e).stay (fun c v hc q => k c v ?_ q) (fun c q => by rw [zx (na c _ q)]; exact q) fun c xs q => by rw [zx (na c _ q)]; exact q
      rcases hc with rfl | hc
      · exact hb
      · exact na c _ hc
def zdW (H : Hp) (zs : List (Addr × List Int)) (pl : List Addr) : Prop := ∀ j z, zs[j]? = some z → j < pl.length → ∃ p, pl[j]? = some p ∧ H p = some (.tup [.int z.2.length, .ref z.1])
theorem kat_tups (I : Inv X pins σ H s) : ∀ pl : List Addr, (∀ p ∈ pl, ∃ (n : Int) (z : Addr), H p = some (.tup [.int n, .ref z])) → ∃ fs : List Value, KatTups s.heap (pl.map Value.ref) fs ∧ fs.length = pl.length ∧ ∀ v ∈ fs, ∃ n t, v = Value.int n t
  | [], _ => ⟨[], KatTups.nil, rfl, fun v hv => by cases hv⟩
  | p :: pl, h => by
    obtain ⟨fs, h1, h2, h3⟩ := kat_tups I pl fun q hq => h q (.tail _ hq)
    obtain ⟨n, z, e⟩ := h p (.head _)
    obtain ⟨t, o, m, e1, e2, e3⟩ := zaw I e
    refine ⟨.int n t :: fs, KatTups.cons e1 e2 e3 rfl h1, by simp [h2], fun v hv => ?_⟩
    rcases List.mem_cons.mp hv with rfl | hv
    · exact ⟨n, t, rfl⟩
    · exact h3 v hv
theorem zcy {zs : List (Addr × List Int)} {f kS a : Addr} {fo : Obj} {e1 : Nat} {A : Around} {P : PySem.Fin → Shared → Prop} {E : Value → Shared → Prop} {n : Nat}
    (I : Inv X ((f, fo) :: (a, seqObj "list" #[] e1) :: pins) σ H s) (La : zbM X pins n a) (Lk : zbM X ((f, fo) :: (a, seqObj "list" #[] e1) :: pins) n kS) (hkS : s.heap.get? kS = some (seqObj "list" #[] 0)) (hkn : H kS = none)
    (hz : ∀ z ∈ zs, H z.1 = some (.lst (z.2.map V.int))) (nd : (zs.map (·.2)).Nodup) (h60 : zs.length ≤ 60) (hu : A.units + 2 < cLine)
    (turn : ∀ (H' : Hp) (s' : Shared) (pins' : List (Addr × Obj)) (z : Addr × List Int), Inv X pins' σ H' s' → (f, fo) ∈ pins' → Same H H' → z ∈ zs →
      wpAny (model X.prog X.w) A (call (.ref f) [.ref z.1]) (EP X pins' σ fun v H2 => ∃ p, v = .ref p ∧ H' p = none ∧ H2 = upd H' p (.tup [.int z.2.length, .ref z.1])) (fun _ _ => False) s')
    (done : ∀ (H' : Hp) (s' : Shared) (zs' : List (Addr × List Int)), Inv X pins σ (upd H' a (.lst (zs'.map fun z => V.ref z.1))) s' → Same H H' → H' a = none → zs'.Perm zs → zs'.Pairwise (fun x y => HT.uD x.2 y.2 = true) → P (.done (.ret .none)) s') :
    wpAny (model X.prog X.w) A (ksk_rest a (.ref f) false (zs.map fun z => Value.ref z.1).toArray e1 (.ref kS)) P E s := by
  unfold ksk_rest
  refine wpAny_bind (wpAny_rule ?_)
  first
    | rw [List.forIn_toArray]
    | (rw [← Array.forIn_toList]; simp only [List.toList_toArray])
    | rw [← Array.forIn_toList]
  refine wpAny_bind (ksk_fold (fun i s' => ∃ (H' : Hp) (pl : List Addr) (e : Nat), Inv X ((f, fo) :: (a, seqObj "list" #[] e1) :: pins) σ H' s' ∧ s'.heap.get? kS = some (seqObj "list" (pl.map Value.ref).toArray e) ∧ H' kS = none ∧ pl.length = i ∧ zdW H' zs pl ∧ Same H H') (zs.map fun z => Value.ref z.1) 0 s
    ⟨H, [], 0, I, hkS, hkn, rfl, fun j z _ h => by simp at h, Same.refl _⟩ ?step ?fin)
  case step =>
    rintro j x s' hx ⟨H', pl, e, I', hk', hkn', hpl, hkeys, sm⟩
    rw [Nat.zero_add] at hpl ⊢
    rw [List.getElem?_map] at hx
    obtain ⟨z, hzj, ez⟩ := Option.map_eq_some_iff.mp hx
    subst ez
    have hzm := List.mem_of_getElem? hzj
    have hj : j < zs.length := (List.getElem?_eq_some_iff.mp hzj).1
    have I2 : Inv X ((kS, seqObj "list" (pl.map Value.ref).toArray e) :: (f, fo) :: (a, seqObj "list" #[] e1) :: pins) σ H' s' := I'.pins_of fun p hp => by
      rcases List.mem_cons.mp hp with rfl | hp
      · exact ⟨hk', hkn', Lk.lo, Lk.fs, fun v z => by cases z⟩
      · exact I'.pin p (List.mem_append_right _ hp)
    refine wpAny_bind (wpAny_attempt (wpAny_mono (turn H' s' _ z I2 (by simp) sm hzm) (fun v s'' he => ?_) fun _ _ hF => hF.elim))
    obtain ⟨v', H2, I3, rv, p, rfl, hpf, rfl⟩ := he
    cases rv
    have pk := I3.pin (kS, seqObj "list" (pl.map Value.ref).toArray e) (List.mem_append_right _ (.head _))
    have I4 : Inv X ((f, fo) :: (a, seqObj "list" #[] e1) :: pins) σ (upd H' p (.tup [.int z.2.length, .ref z.1])) s'' := I3.pins_of fun q hq => I3.pin q (List.mem_append_right _ (.tail _ hq))
    obtain ⟨c2, hc2⟩ : ∃ c2, (s''.heap.update kS (Obj.mapSeq (·.push (.ref p)))).get? kS = some (seqObj "list" ((pl.map Value.ref).toArray.push (.ref p)) c2) := ⟨_, get?_update_seq pk.1 (·.push (.ref p))⟩
    have hsl : (pl.map Value.ref).toArray.size ≤ 60 := by rw [List.size_toArray, List.length_map]; omega
    dsimp only
    refine wpAny_bind (listUpdate_at pk.1 rfl ?_ (Nat.le_trans hsl (by decide)) (by rw [Array.size_push]; exact Nat.le_trans (Nat.succ_le_succ hsl) (by decide)))
    refine wpAny_pure ⟨rfl, _, pl ++ [p], c2, I4.turned (t' := s''.toks) (fun b o hb q => ?_) pk.2.1 Lk.lo (.inr Lk.s0) Lk.ce Lk.pn, ?_, pk.2.1, by rw [List.length_append, List.length_singleton, hpl], fun i y hy hi => ?_, sm.trans (zp hpf)⟩
    · rw [Heap.get?_update_other _ _ (Ne.symm hb)]; exact q
    · rw [hc2]; simp
    · by_cases hlt : i < pl.length
      · obtain ⟨p', e1', e2'⟩ := hkeys i y hy hlt
        exact ⟨p', by rw [List.getElem?_append_left hlt]; exact e1', by rw [zx (zB e2' hpf)]; exact e2'⟩
      · have ei : i = pl.length := by rw [List.length_append, List.length_singleton] at hi; omega
        have ej : i = j := by omega
        rw [ej, hzj] at hy
        cases hy
        exact ⟨p, by rw [ei]; simp, zm⟩
  case fin =>
    rintro s' ⟨H', pl, e, I', hk', hkn', hpl, hkeys, sm⟩
    rw [Nat.zero_add, List.length_map] at hpl
    try dsimp only
    refine wpAny_bind (listItems_at hk' rfl ?_)
    have ga := I'.pin (a, seqObj "list" #[] e1) (List.mem_append_right _ (.tail _ (.head _)))
    have Ip : Inv X pins σ H' s' := I'.pins_of fun q hq => I'.pin q (by
      rcases List.mem_append.mp (List.mem_append_right X.pn hq) with h | h
      · exact List.mem_append_left _ h
      · exact List.mem_append_right _ (.tail _ (.tail _ h)))
    have nka : kS ≠ a := fun z => Lk.pn (a, seqObj "list" #[] e1) (List.mem_append_right _ (.tail _ (.head _))) z.symm
    have tail : ∀ (st : SortSt) (zs' : List (Addr × List Int)), (arrOf st).map (·.2) = (zs'.map fun z => Value.ref z.1).toArray → failedOf st = none → zs'.Perm zs → zs'.Pairwise (fun x y => HT.uD x.2 y.2 = true) →
        wpAny (model X.prog X.w) A (ksk_tail a false e1 (.ref kS) st) P E s' := by
      intro st zs' hout hfl pm pw
      have hlen : zs'.length ≤ 60 := by rw [pm.length_eq]; exact h60
      have s1 := Heap.SameBut.update s'.heap kS (Obj.mapSeq fun _ => (#[] : Array Value))
      have na1 : (s'.heap.update kS (Obj.mapSeq fun _ => (#[] : Array Value))).get? a = some (seqObj "list" #[] e1) := (s1.2 a nka.symm).trans ga.1
      obtain ⟨c2, hc2⟩ : ∃ c2, ((s'.heap.update kS (Obj.mapSeq fun _ => (#[] : Array Value))).update a (Obj.mapSeq fun _ => (zs'.map fun z => Value.ref z.1).toArray)).get? a = some (seqObj "list" (zs'.map fun z => Value.ref z.1).toArray c2) :=
        ⟨_, get?_update_seq na1 fun _ => (zs'.map fun z => Value.ref z.1).toArray⟩
      have I5 : Inv X pins σ H' { s' with heap := s'.heap.update kS (Obj.mapSeq fun _ => (#[] : Array Value)), toks := s'.toks } := Ip.turned (fun b o hb q => by rw [Heap.get?_update_other _ _ (Ne.symm hb)]; exact q) hkn' Lk.lo (.inr Lk.s0) Lk.ce (fun q hq => Lk.pn q (by
        rcases List.mem_append.mp hq with h | h
        · exact List.mem_append_left _ h
        · exact List.mem_append_right _ (.tail _ (.tail _ h))))
      have I6 := I5.tell (t' := s'.toks) (h' := (s'.heap.update kS (Obj.mapSeq fun _ => (#[] : Array Value))).update a (Obj.mapSeq fun _ => (zs'.map fun z => Value.ref z.1).toArray)) La ga.2.1 (fun b o hb q => by rw [Heap.get?_update_other _ _ (Ne.symm hb)]; exact q) (Xn zs') (by rw [List.length_map]; exact Nat.le_trans hlen (by decide)) hc2
      unfold ksk_tail
      try dsimp only
      refine wpAny_bind (listUpdate_at hk' rfl ?_ (by rw [List.size_toArray, List.length_map, hpl]; exact Nat.le_trans h60 (by decide)) (Nat.zero_le _))
      refine wpAny_bind (wpAny_letGo ?_)
      refine wpAny_bind (seqEpoch_at na1 rfl ?_)
      simp only [Bool.false_eq_true, if_false]
      rw [hout]
      refine wpAny_bind (listUpdate_at na1 rfl ?_ (Nat.zero_le _) (by rw [List.size_toArray, List.length_map]; exact Nat.le_trans hlen (by decide)))
      rw [hfl]
      simp only [bne_self_eq_false, Bool.false_eq_true, if_false]
      exact wpAny_pure (done H' _ zs' I6 sm ga.2.1 pm pw)
    unfold ksk_end
    try dsimp only
    simp only [Bool.false_eq_true, if_false]
    have hvl : (zs.map fun z => Value.ref z.1).toArray.size = zs.length := by rw [List.size_toArray, List.length_map]
    by_cases h2 : (zs.map fun z => Value.ref z.1).toArray.size < 2
    · rw [if_pos h2, if_pos h2]
      refine wpAny_bind (wpAny_pure ?_)
      rw [StateT.run_pure]
      refine wpAny_bind (wpAny_pure ?_)
      try dsimp only
      refine tail _ zs ?_ rfl (List.Perm.refl _) ?_
      · show (((pl.map Value.ref).toArray.zip (zs.map fun z => Value.ref z.1).toArray).map (·.2)) = _
        apply Array.toList_inj.mp
        rw [Array.toList_map, Array.toList_zip, List.map_snd_zip (by simp [hpl])]
      · rw [hvl] at h2
        match zs, h2 with
        | [], _ => exact .nil
        | [_], _ => exact List.pairwise_singleton _ _
    · rw [if_neg h2, if_neg h2]
      rw [hvl] at h2
      have hkl : (pl.map Value.ref).length = (zs.map fun z => Value.ref z.1).length := by rw [List.length_map, List.length_map, hpl]
      have hk2 : ∀ j, j < zs.length → ∃ p, pl[j]? = some p ∧ H' p = some (.tup [.int (zs.getD j (0, [])).2.length, .ref (zs.getD j (0, [])).1]) ∧ zs.getD j (0, []) ∈ zs := fun j hj => by
        have e : zs.getD j (0, []) = zs[j] := by rw [List.getD_eq_getElem?_getD, List.getElem?_eq_getElem hj]; rfl
        rw [e]
        obtain ⟨p, e1, e2⟩ := hkeys j zs[j] (List.getElem?_eq_getElem hj) (by omega)
        exact ⟨p, e1, e2, List.getElem_mem hj⟩
      obtain ⟨fs, ht, hfl, hfi⟩ := kat_tups I' pl fun p hp => by
        obtain ⟨j, hj, rfl⟩ := List.getElem_of_mem hp
        obtain ⟨p', e1, e2, _⟩ := hk2 j (by omega)
        rw [List.getElem?_eq_getElem hj] at e1
        cases e1
        exact ⟨_, _, e2⟩
      refine wpAny_bind (kat_kind (T := .type "int") ht (by omega) (fun v hv => ?_) (by decide) ?_)
      · obtain ⟨n, t, rfl⟩ := hfi v hv
        exact Looks.of_pure rfl
      have ls2 : (zs.map (·.2)).length = zs.length := List.length_map ..
      have ask : (kas_sort (zs.map fun z => Value.ref z.1).length).kasWp (kas_ask X.prog X.w A (tuples' true) (pl.map Value.ref)) (fun p s'' => s'' = s' ∧ (HT.Pm zs.length p ∧ HT.Up (fun i j => HT.uD ((zs.map (·.2)).getD i []) ((zs.map (·.2)).getD j [])) p zs.length)) s' := by
        rw [List.length_map]
        have O := HT.zfD nd
        rw [ls2] at O
        refine HT.KW.wp (n := zs.length) (fun i j C hi hj hC => ?_) _ (HT.zdA O (by omega))
        obtain ⟨p, e1, e2, e3⟩ := hk2 i hi
        obtain ⟨q, d1, d2, d3⟩ := hk2 j hj
        have ei : (zs.map (·.2)).getD i [] = (zs.getD i (0, [])).2 := by rw [List.getD_eq_getElem?_getD, List.getD_eq_getElem?_getD, List.getElem?_map, List.getElem?_eq_getElem hi]; rfl
        have ej : (zs.map (·.2)).getD j [] = (zs.getD j (0, [])).2 := by rw [List.getD_eq_getElem?_getD, List.getD_eq_getElem?_getD, List.getElem?_map, List.getElem?_eq_getElem hj]; rfl
        have gi : (pl.map Value.ref).getD i Value.none = .ref p := by rw [List.getD_eq_getElem?_getD, List.getElem?_map, e1]; rfl
        have gj : (pl.map Value.ref).getD j Value.none = .ref q := by rw [List.getD_eq_getElem?_getD, List.getElem?_map, d1]; rfl
        unfold kas_ask
        rw [gi, gj]
        refine zei I' e2 d2 (sm _ _ (hz _ e3)) (sm _ _ (hz _ d3)) hu ?_
        try dsimp only at hC
        rw [ei, ej] at hC
        exact hC
      have eT : (Value.type "int" != Value.type "tuple") = true := by decide
      rw [eT]
      refine wpAny_bind (wpAny_mono (kat_run (ks := pl.map Value.ref) (vs := zs.map fun z => Value.ref z.1) (Q := fun st' s'' => ∃ p : Array Nat, s'' = s' ∧ arrOf st' = p.map (kas_item ((pl.map Value.ref).toArray.zip (zs.map fun z => Value.ref z.1).toArray)) ∧ failedOf st' = none ∧ HT.Pm zs.length p ∧ HT.Up (fun i j => HT.uD ((zs.map (·.2)).getD i []) ((zs.map (·.2)).getD j [])) p zs.length)
        hkl (by rw [List.length_map]; omega) (by rw [List.length_map]; omega) (fun p st' s'' _ a2 a3 a4 => ⟨p, a4.1, a2, a3, a4.2⟩) ask) ?_ fun _ _ e => e)
      rintro ⟨⟨⟩, st'⟩ s'' ⟨p, rfl, har, hfl2, hpm, hup⟩
      try dsimp only
      have hout := kat_snds hkl har
      have hpl2 : p.toList.length = zs.length := by rw [hpm.pm.length_eq, List.length_range]
      refine tail st' (p.toList.map fun i => zs.getD i (0, [])) ?_ hfl2 (HT.Ve _ zs hpm.pm) ?_
      · rw [hout, List.map_map]
        congr 1
        refine List.map_congr_left fun i hi => ?_
        have hi' := List.mem_range.mp (hpm.pm.mem_iff.mp hi)
        show _ = Value.ref (zs.getD i (0, [])).1
        rw [List.getD_eq_getElem?_getD, List.getD_eq_getElem?_getD, List.getElem?_map, List.getElem?_eq_getElem hi']; rfl
      · rw [List.pairwise_map, List.pairwise_iff_getElem]
        intro i j hi hj hij
        have q1 := hup i j hij (by omega)
        have e1 : p.getD i 0 = p.toList[i] := by
          have : i < p.size := by rw [hpm.sz]; omega
          simp [Array.getD, this]
        have e2 : p.getD j 0 = p.toList[j] := by
          have : j < p.size := by rw [hpm.sz]; omega
          simp [Array.getD, this]
        rw [e1, e2] at q1
        have m1 := List.mem_range.mp (hpm.pm.mem_iff.mp (List.getElem_mem hi))
        have m2 := List.mem_range.mp (hpm.pm.mem_iff.mp (List.getElem_mem hj))
        have ei : (zs.map (·.2)).getD p.toList[i] [] = (zs.getD p.toList[i] (0, [])).2 := by rw [List.getD_eq_getElem?_getD, List.getD_eq_getElem?_getD, List.getElem?_map, List.getElem?_eq_getElem m1]; rfl
        have ej : (zs.map (·.2)).getD p.toList[j] [] = (zs.getD p.toList[j] (0, [])).2 := by rw [List.getD_eq_getElem?_getD, List.getD_eq_getElem?_getD, List.getElem?_map, List.getElem?_eq_getElem m2]; rfl
        try dsimp only at q1
        rw [ei, ej] at q1
        exact q1
end
section
variable {X : Cx} {pins : List (Addr × Obj)} {σ : St} {H : Hp} {s : Shared}
theorem JN {zs : List (Addr × List Int)} {f l : Addr} {fo : Obj} {Q : VK} (I : Inv X ((f, fo) :: pins) σ H s) (hl : H l = some (.lst (zs.map fun z => V.ref z.1))) (hz : ∀ z ∈ zs, H z.1 = some (.lst (z.2.map V.int))) (nd : (zs.map (·.2)).Nodup) (h60 : zs.length ≤ 60)
    (hu : X.A.in1.in1.units + 2 < cLine)
    (turn : ∀ (H' : Hp) (s' : Shared) (pins' : List (Addr × Obj)) (z : Addr × List Int), Inv X pins' σ H' s' → (f, fo) ∈ pins' → Same H H' → z ∈ zs →
      wpAny (model X.prog X.w) X.A.in1.in1 (call (.ref f) [.ref z.1]) (EP X pins' σ fun v H2 => ∃ p, v = .ref p ∧ H' p = none ∧ H2 = upd H' p (.tup [.int z.2.length, .ref z.1])) (fun _ _ => False) s')
    (q : ∀ (D : Addr) (H' : Hp) (zs' : List (Addr × List Int)), H D = none → Same H H' → H' D = none → zs'.Perm zs → zs'.Pairwise (fun x y => HT.uD x.2 y.2 = true) → Q (.ref D) (upd H' D (.lst (zs'.map fun z => V.ref z.1)))) :
    wpAny (model X.prog X.w) X.A (call (.builtin "sorted") [.ref l] [(Str.ofString "key", .ref f)]) (EP X pins σ Q) X.xe s := by
  obtain ⟨its, r1, p1, _⟩ := I.list (SqL.of hl)
  have e1 := W5 r1
  subst e1
  have hvl : (zs.map fun z => Value.ref z.1).length = zs.length := List.length_map ..
  have hsl : (zs.map fun z => Value.ref z.1).length ≤ sizeLine := by rw [hvl, sizeLine_eq]; omega
  refine call_function_entry_kw kind_sorted plain_sorted entry_sorted (ksk_s1 _ _) ?_
  unfold Builtin.«sorted»
  refine wpAny_bind (m := checkCount "sorted" 1 1 _) (wpAny_pure (wpAny_bind (collect_list p1.isList (wpAny_bind (wpAny_newList ?_ hsl)) hsl)))
  generalize hB : (s.heap.push (seqObj "list" #[] 0)).update s.heap.objs.size (Obj.mapSeq (· ++ (zs.map fun z => Value.ref z.1).toArray)) = B
  have hsz : B.objs.size = s.heap.objs.size + 1 := by rw [← hB, Heap.size_update, size_push']
  have keep : ∀ b o, s.heap.get? b = some o → (B.push (seqObj "list" (zs.map fun z => Value.ref z.1).toArray 0)).get? b = some o := fun b o q => by
    have hlt : b < s.heap.objs.size := Heap.lt_size q
    rw [Heap.get?_push_ne _ _ _ (by rw [hsz]; exact Nat.ne_of_lt (Nat.lt_succ_of_lt hlt)), ← hB, Heap.get?_update_ne _ _ _ _ (Nat.ne_of_lt hlt), Heap.get?_push_ne _ _ _ (Nat.ne_of_lt hlt)]; exact q
  have hoL : (B.push (seqObj "list" (zs.map fun z => Value.ref z.1).toArray 0)).get? (s.heap.objs.size + 1) = some (seqObj "list" (zs.map fun z => Value.ref z.1).toArray 0) := by
    rw [← hsz]; exact Heap.get?_push_size _ rfl
  have hszB : (B.push (seqObj "list" (zs.map fun z => Value.ref z.1).toArray 0)).objs.size = s.heap.objs.size + 2 := by rw [size_push', hsz]
  show wpAny _ _ _ _ _ { s with heap := B.push (seqObj "list" (zs.map fun z => Value.ref z.1).toArray 0) }
  dsimp only
  rw [hsz]
  refine wpAny_bind (wpAny_holding (wpAny_call_entry_kw slot_list_sort ⟨_, hoL, rfl⟩ entry_list_sort ?body (ksk_l1 _ _)))
  case body =>
    show wpAny (model X.prog X.w) X.A.in1.in1 (Builtin.«list.sort» ⟨[.ref (s.heap.objs.size + 1)], [(Str.ofString "key", .ref f)]⟩) _ _ _
    rw [ksk_t1]
    unfold ksk_tree
    generalize hG : B.push (seqObj "list" (zs.map fun z => Value.ref z.1).toArray 0) = G at keep hoL hszB
    generalize hLd : s.heap.objs.size + 1 = L at hoL
    have hLG : L < G.objs.size := Heap.lt_size hoL
    obtain ⟨e1, ho1⟩ : ∃ e1, (G.update L (Obj.mapSeq fun _ => (#[] : Array Value))).get? L = some (seqObj "list" #[] e1) := ⟨_, get?_update_seq hoL fun _ => #[]⟩
    refine wpAny_bind (listItems_at (s := { s with heap := G }) hoL rfl ?_)
    refine wpAny_bind (listUpdate_at (s := { s with heap := G }) hoL rfl ?_ (by rw [List.size_toArray]; exact hsl) (Nat.zero_le _))
    refine wpAny_bind (seqEpoch_at ho1 rfl ?_)
    refine wpAny_bind (wpAny_newTuple ?_ (by show (zs.map fun z => Value.ref z.1).length ≤ _; exact hsl))
    refine wpAny_bind (wpAny_newList ?_ (Nat.zero_le _))
    refine wpAny_holding ?_
    generalize hM : (G.update L (Obj.mapSeq fun _ => (#[] : Array Value))).push (seqObj "tuple" (zs.map fun z => Value.ref z.1).toArray 0) = M
    have hMs : M.objs.size = s.heap.objs.size + 3 := by rw [← hM, size_push', Heap.size_update, hszB]
    have hkS : (M.push (seqObj "list" #[] 0)).get? (s.heap.objs.size + 3) = some (seqObj "list" #[] 0) := by rw [← hMs]; exact Heap.get?_push_size _ rfl
    have hL2 : (M.push (seqObj "list" #[] 0)).get? L = some (seqObj "list" #[] e1) := Heap.get?_push_of_some _ (by rw [← hM]; exact Heap.get?_push_of_some _ ho1)
    have keep2 : ∀ b o, s.heap.get? b = some o → (M.push (seqObj "list" #[] 0)).get? b = some o := fun b o q => by
      have hlt : b < s.heap.objs.size := Heap.lt_size q
      refine Heap.get?_push_of_some _ ?_
      rw [← hM]
      refine Heap.get?_push_of_some _ ?_
      rw [Heap.get?_update_ne _ _ _ _ (by rw [← hLd]; exact Nat.ne_of_lt (Nat.lt_succ_of_lt hlt))]
      exact keep b o q
    have La0 := I.late (a := L) (by rw [← hLd]; exact Nat.le_succ _)
    have Lk0 := I.late (a := s.heap.objs.size + 3) (by omega)
    have I1 : Inv X ((f, fo) :: pins) σ H { s with heap := M.push (seqObj "list" #[] 0), toks := s.toks } := I.kept keep2
    have hLn : H L = none := I.hok.fresh (by rw [← hLd]; exact Nat.le_succ _)
    have I2 : Inv X ((f, fo) :: (L, seqObj "list" #[] e1) :: pins) σ H { s with heap := M.push (seqObj "list" #[] 0), toks := s.toks } := I1.pins_of fun p hp => by
      rcases List.mem_cons.mp hp with rfl | hp
      · exact I1.pin _ (List.mem_append_right _ (.head _))
      · rcases List.mem_cons.mp hp with rfl | hp
        · exact ⟨hL2, hLn, La0.lo, La0.fs, fun v z => by cases z⟩
        · exact I1.pin p (List.mem_append_right _ (.tail _ hp))
    have La : zbM X pins s.heap.objs.size L := ⟨La0.s0, La0.lo, La0.ce, La0.fs, fun p hp => La0.pn p (by
      rcases List.mem_append.mp hp with h | h
      · exact List.mem_append_left _ h
      · exact List.mem_append_right _ (.tail _ h)), La0.ge⟩
    have Lk : zbM X ((f, fo) :: (L, seqObj "list" #[] e1) :: pins) s.heap.objs.size (s.heap.objs.size + 3) := ⟨Lk0.s0, Lk0.lo, Lk0.ce, Lk0.fs, fun p hp => by
      rcases List.mem_append.mp hp with h | h
      · exact Lk0.pn p (List.mem_append_left _ h)
      · rcases List.mem_cons.mp h with rfl | h
        · exact Lk0.pn _ (List.mem_append_right _ (.head _))
        · rcases List.mem_cons.mp h with rfl | h
          · show L ≠ _
            rw [← hLd]; omega
          · exact Lk0.pn p (List.mem_append_right _ (.tail _ h)), Lk0.ge⟩
    rw [hMs]
    refine zcy (s := { s with heap := M.push (seqObj "list" #[] 0) }) I2 La Lk hkS (I.hok.fresh (by omega)) hz nd h60 hu turn fun H' s' zs' I' sm hn pm pw => ⟨_, rfl, ?_⟩
    exact wpAny_pure ⟨_, rfl, .ref L, _, I', rfl, q L H' zs' hLn sm hn pm pw⟩
end
section
variable {X : Cx} {σ : St} {H : Hp} {s : Shared} {params : Arguments} {body : Expr} {scope : Scope} {pos lpos kpos p : Pos} {c P : Addr} {y : Str} {e : Expr} {te : TE}
theorem zcW {pins : List (Addr × Obj)} {f c' : Addr} {q : Str} {pm ct : Value} {k : Nat} {v : V} {u : Value} {Q : VK} (I : Inv X pins σ H s) (hf : (f, kla_obj "<lambda>" q params body scope [] pm c' ct) ∈ pins) (hL : za9 P lpos q H c') (S : zG [y] [y] scope) (hr : Room (k + 1) X.A.in1.in1)
    (hb : ∀ (pm ct : Value) (u : Value), bindArgs (kla_fn "<lambda>" q params body scope [] pm (.ref c') ct) ⟨[u], []⟩ = pure [(y, u)]) (rv : RelV v u)
    (hbody : ∃ t, PE (Vs CX0 X.prog X.w X.K X.mg X.base [y] q scope f (.ref c') X.A.in1.in1 X.stack s H E0) body t ∧ t (start [y] [v]) H Q) :
    wpAny (model X.prog X.w) X.A.in1.in1 (call (.ref f) [u]) (EP X pins σ Q) (fun _ _ => False) s := by
  have pf := I.pin _ (List.mem_append_right X.pn hf)
  have hcd : s.heap.CodeRec (.ref c') q := (I.hok c' _ hL.2).1
  refine wpAny_call (codeAny_mono (zdw (k := k) (N := [y]) (ps := [y]) (us := [u]) (vs := [v]) (E := E0) pf.1 rfl hcd S hr I.env0.in1.in1 (BindsTo.of_eq (hb pm ct u)) rfl (.cons rv .nil) hbody) fun r s' hq => ?_)
  cases r with
  | error e => exact hq
  | ok fl =>
    cases fl with
    | ret u => exact I.after hq
    | next => exact False.elim hq
    | brk => exact False.elim hq
    | cont => exact False.elim hq
def zcl (P : Addr) (lpos : Pos) (q : Str) (te : TE) : TE := fun σ H Q => te σ H fun x H1 => ∃ (l : Addr) (zs : List (Addr × List Int)), x = .ref l ∧ H1 l = some (.lst (zs.map fun z => V.ref z.1)) ∧ (∀ z ∈ zs, H1 z.1 = some (.lst (z.2.map V.int))) ∧ (zs.map (·.2)).Nodup ∧ zs.length ≤ 60 ∧ W3 P lpos q H1 ∧
  ∀ (D : Addr) (zs' : List (Addr × List Int)) (H2 : Hp), H1 D = none → H2 D = none → (∀ b u, b ≠ P → H1 b = some u → H2 b = some u) → W3 P lpos q H2 → zs'.Perm zs → zs'.Pairwise (fun x y => HT.uD x.2 y.2 = true) → Q (.ref D) (upd H2 D (.lst (zs'.map fun z => V.ref z.1)))
theorem za4 {k : Nat} (he : PE X e te) (hg : Gl X "sorted") (hm : X.mg "sorted" = none) (hr : Room (k + 3) X.A) (hdef : defaultsOf params X.env = ([], [])) (hcl : closureFor scope X.env = pure []) (hcode : X.env.code = .ref c) (hK : codeHdIn X.K c P = true) (hB : X.base.BuiltinsAt X.mg P) (hgP : mainGlobals ≠ P)
    (S : zG [y] [y] scope) (hb : ∀ (pm cd ct : Value) (u : Value), bindArgs (kla_fn "<lambda>" (X.env.qual ++ "<lambda>") params body scope [] pm cd ct) ⟨[u], []⟩ = pure [(y, u)])
    (hbody : ∀ (f c' : Addr) (s : Shared) (H : Hp) (z : Addr × List Int), H z.1 = some (.lst (z.2.map V.int)) → ∃ t, PE (Vs CX0 X.prog X.w X.K X.mg X.base [y] (X.env.qual ++ "<lambda>") scope f (.ref c') X.A.in1.in1 X.stack s H E0) body t ∧
      t (start [y] [.ref z.1]) H fun v H2 => ∃ p, v = .ref p ∧ H p = none ∧ H2 = upd H p (.tup [.int z.2.length, .ref z.1]))
    (hs1 : starEach [e] X.env = [(false, eval e X.env)] := by rfl) :
    PE X (.Call (.Name "sorted" p) [e] [⟨some "key", .Lambda params body scope lpos, kpos⟩] pos) (zcl P lpos (X.env.qual ++ "<lambda>") te) := by
  intro pins s σ H Q I h
  refine wpAny_Call_Name_kw (jt I hg hm boot_sorted ?_ (by decide) (by decide))
  have ha : PA X [e] (zdM te ze1) := zc he zf hs1
  refine callWith_kw (thn (ha pos pins s σ H (fun vs H1 => match vs with
    | [x] => ∃ (l : Addr) (zs : List (Addr × List Int)), x = .ref l ∧ H1 l = some (.lst (zs.map fun z => V.ref z.1)) ∧ (∀ z ∈ zs, H1 z.1 = some (.lst (z.2.map V.int))) ∧ (zs.map (·.2)).Nodup ∧ zs.length ≤ 60 ∧ W3 P lpos (X.env.qual ++ "<lambda>") H1 ∧
      ∀ (D : Addr) (zs' : List (Addr × List Int)) (H2 : Hp), H1 D = none → H2 D = none → (∀ b u, b ≠ P → H1 b = some u → H2 b = some u) → W3 P lpos (X.env.qual ++ "<lambda>") H2 → zs'.Perm zs → zs'.Pairwise (fun x y => HT.uD x.2 y.2 = true) → Q (.ref D) (upd H2 D (.lst (zs'.map fun z => V.ref z.1)))
    | _ => False) I h) fun us s1 ⟨vs, H1, I1, r1, q1⟩ => ?_) (by rw [hs1]; rfl) (by rw [hs1]; rfl)
  match vs, q1 with
  | [x], q1 =>
    obtain ⟨l, zs, rfl, hl, hz, nd, h60, hT, q⟩ := q1
    obtain ⟨u, rfl, rx⟩ := vals1 r1
    cases rx
    show wpAny _ _ (evalAll ((do let v ← eval (.Lambda params body scope lpos) X.env; standAt pos; pure v) :: [])) _ _ s1
    refine wpAny_evalAll_cons (wpAny_bind (zcY I1 hdef hcl hcode hK hB hgP hT fun f c' H2 s2 pm ct I2 hL hfo hfn hsz up => wpAny_bind (wpAny_standAt (wpAny_pure ?_))))
    refine wpAny_evalAll_nil ?_
    have Lf := I1.late hsz
    have I3 : Inv X ((f, kla_obj "<lambda>" (X.env.qual ++ "<lambda>") params body scope [] pm c' ct) :: pins) σ H2 s2 := I2.pins_of fun p hp => by
      rcases List.mem_cons.mp hp with rfl | hp
      · exact ⟨hfo, hfn, Lf.lo, Lf.fs, fun v z => by cases z⟩
      · exact I2.pin p (List.mem_append_right _ hp)
    have hPl : ∀ b xs, H1 b = some (.lst xs) → b ≠ P := fun b xs e z => by
      rw [z] at e
      rcases hT with t | ⟨c2, t, _⟩
      · rw [t] at e; cases e
      · rw [t] at e; cases e
    have hr2 : Room (k + 1) X.A.in1.in1 := (hr.in1).in1
    show wpAny _ _ (call (.builtin "sorted") [.ref l] [(Str.ofString "key", .ref f)]) _ _ s2
    refine JN I3 (up _ _ (hPl _ _ hl) hl) (fun z hzm => up _ _ (hPl _ _ (hz z hzm)) (hz z hzm)) nd h60 (by have := hr2.units; omega) (fun H' s' pins' z I' hf sm hzm => ?_) fun D H' zs' hD sm hn pm pw => ?_
    · have hL' : za9 P lpos (X.env.qual ++ "<lambda>") H' c' := ⟨sm _ _ hL.1, sm _ _ hL.2⟩
      exact zcW (v := .ref z.1) I' hf hL' S hr2 (fun pm ct u => hb pm (.ref c') ct u) rfl (hbody f c' s' H' z (sm _ _ (up _ _ (hPl _ _ (hz z hzm)) (hz z hzm))))
    · refine q D zs' H' ?_ hn (fun b u hb e => sm _ _ (up b u hb e)) (.inr ⟨c', sm _ _ hL.1, sm _ _ hL.2⟩) pm pw
      cases e : H1 D with
      | none => rfl
      | some u =>
        by_cases hDP : D = P
        · rw [hDP, hL.1] at hD; cases hD
        · rw [up D u hDP e] at hD; cases hD
end
theorem zb2 {P : Program} {w : World} {K : Frag} {mg mb : Str → Option Value} {CX : CXT} {k : Nat} {fa a c T : Addr} {fd : FuncData} {x : Str} {sp : Sp} {s₁ : Shared} {vs : List Value} {ns : List Int}
    (KX : K.In s₁.heap) (hns : s₁.heap.Ns mainGlobals mg) (hb : s₁.heap.Ns builtinsNs mb) (hbb : ∀ x : Str, x ≠ "__name__" → mb x = bootBuiltins x) (hlim : s₁.heap.NoLimit) (hg : s₁.gens = #[])
    (hBM : ∃ bm ob, mg "__builtins__" = some (.ref bm) ∧ bm ≠ builtinsNs ∧ s₁.heap.get? bm = some ob ∧ ob.cls = .type "module" ∧ ob.dict = some builtinsNs ∧ ob.data = .plain)
    (hT : s₁.heap.get? T = some (tabObj #[])) (hKT : K.lookup T = none) (hcT : codeHdIn K c T = true)
    (ha : s₁.heap.get? a = some { cls := .type "list", data := .seq vs.toArray }) (hi : IntsAre vs ns) (hl : ns.length ≤ sizeLine) (hr : Room k callerA)
    (F : ∀ base : Heap, K.In base → base.Ns mainGlobals mg → base.BuiltinsAt mg T → FnOk P w K mg base CX k fa fd [x] sp) (hbind : ∀ (s : Shared) (u : Value), BindsTo s fd ⟨[u], []⟩ [(x, u)])
    (hsp : ∀ H : Hp, H T = some (.tbl #[]) → SqL K H a (ns.map V.int) → sp [.ref a] H (fun v _ => v = .bl true) fun _ _ _ => False)
    (hCX : ∀ H e s', CX [] H s₁ (fun _ _ _ => False) e s' → False) :
    codeAny (model P w) callerA (.call (.ref fa) ⟨[.ref a], []⟩) (fun r s' => r = .ok (.ret (.bool true)) ∧ OldK s₁.heap s'.heap ∧ s'.os = s₁.os ∧ AllBare s'.gens) s₁ := by
  have rv := QQ hi
  have lenV := hi.length
  have tabT : s₁.heap.TableAt c T #[] := (codeHd_of_K KX hcT).tab hT
  have core : ∀ H : Hp, H T = some (.tbl #[]) → SqL K H a (ns.map V.int) → HOk P w H s₁.heap → (∀ b, H b ≠ none → b = a ∨ b = T) → (∀ b, b ≠ T → H b = none ∨ ∃ o xs, H b = some (.frz o (.lst xs))) → (∀ b, H b ≠ none → K.lookup b = none) →
      codeAny (model P w) callerA (.call (.ref fa) ⟨[.ref a], []⟩) (fun r s' => r = .ok (.ret (.bool true)) ∧ OldK s₁.heap s'.heap ∧ s'.os = s₁.os ∧ AllBare s'.gens) s₁ := by
    intro H hHT hS hok hA hO hK
    have base_of : ∀ {b : Addr} {o : Obj}, s₁.heap.get? b = some o → H b = none → (Qg s₁.heap H).get? b = some o := fun e n => zcR e n
    have noA : ∀ {b : Addr} {o : Obj}, s₁.heap.get? b = some o → (∀ xs n, o.data ≠ .seq xs n) → (∀ ps, o.data ≠ .fields ps) → H b = none := fun {b o} e d1 d2 => by
      cases q : H b with
      | none => rfl
      | some u =>
        rcases hA b (by rw [q]; simp) with e' | e'
        · subst e'
          rw [ha] at e; cases e
          exact absurd rfl (d1 _ _)
        · subst e'
          rw [hT] at e; cases e
          exact absurd rfl (d2 _)
    have nsK : ∀ {b : Addr} {m : Str → Option Value}, s₁.heap.Ns b m → (Qg s₁.heap H).Ns b m := fun {b m} ⟨o, es, ep, e, d, r⟩ => ⟨o, es, ep, base_of e (noA e (fun xs n z => by rw [d] at z; cases z) (fun ps z => by rw [d] at z; cases z)), d, r⟩
    have hKb : K.In (Qg s₁.heap H) := fun b o e => base_of (KX b o e) (by
      cases q : H b with
      | none => rfl
      | some u => rw [hK b (by rw [q]; simp)] at e; cases e)
    have hM : Mod K mg (Qg s₁.heap H) := ⟨hKb, nsK hns, ⟨mb, nsK hb, hbb⟩, let ⟨mc, h1, h2⟩ := hlim; ⟨mc, nsK h1, h2⟩⟩
    have hBA : (Qg s₁.heap H).BuiltinsAt mg T := by
      obtain ⟨bm, ob, b1, b2, b3, b4, b5, b6⟩ := hBM
      refine ⟨bm, ob, b1, b2, fun z => ?_, fun z => ?_, base_of b3 (noA b3 (fun xs n z => by rw [b6] at z; cases z) (fun ps z => by rw [b6] at z; cases z)), b4, b5, b6⟩
      · obtain ⟨o, es, ep, e, hd, _⟩ := hns
        rw [z, e] at b3; cases b3
        rw [hd] at b6; cases b6
      · rw [z, hT] at b3; cases b3; cases b4
    have e0 : Env0 P w K mg (Qg s₁.heap H) callerA [] s₁ H := ⟨rfl, hM, fun b o e => zdp e, Nat.le_of_eq (zbN _ _), trivial, fun b hb => absurd (show b ∈ ([] : List Addr) from hb) (by simp), hok, .of_eq hg⟩
    refine codeAny_mono ((F _ hKb (nsK hns) hBA).run callerA [] s₁ H ⟨[.ref a], []⟩ [.ref a] [.ref a] _ _ hr e0 (hbind s₁ (.ref a)) (.cons rfl .nil) (hsp H hHT hS)) fun r s' h => ?_
    cases r with
    | error e => exact (hCX H e s' h).elim
    | ok fl =>
      cases fl with
      | next => exact False.elim h
      | brk => exact False.elim h
      | cont => exact False.elim h
      | ret u =>
        obtain ⟨v, H', os, bare, un, hok', r', q⟩ := h
        have q' : v = .bl true := q
        subst q'
        obtain rfl : u = Value.bool true := r'
        have oth : ∀ b o, b ≠ T → s₁.heap.get? b = some o → s'.heap.get? b = some o := fun b o hbT e => by
          cases q : H b with
          | none => exact un.keep b o e q (by intro z; exact absurd (show b ∈ ([] : List Addr) from z) (by simp)) (by simp)
          | some u =>
            rcases hO b hbT with z | ⟨ob, xs, z⟩
            · rw [q] at z; cases z
            · have z2 := un.frzs b ob _ z
              obtain ⟨e1, _⟩ := hok b _ z
              obtain ⟨e2, _⟩ := hok' b _ z2
              rw [e] at e1; cases e1
              exact e2
        obtain ⟨more, hm⟩ := un.tbls T _ hHT
        have hTm : s'.heap.get? T = some { cls := .none, data := .fields (#[] ++ more) } := hok' T _ hm
        refine ⟨rfl, ⟨fun b o e => ?_, fun b o e => ?_⟩, os, bare⟩
        · by_cases hbT : b = T
          · subst hbT
            rw [hT] at e; cases e
            exact .inr (.inl ⟨tabT.isCodeTable, rfl, #[], more, rfl, hTm⟩)
          · exact .inl (oth b o hbT e)
        · by_cases hbT : b = T
          · subst hbT; exact ⟨_, hTm⟩
          · exact ⟨o, oth b o hbT e⟩
  have hTa : T ≠ a := fun z => by rw [z, ha] at hT; cases hT
  cases hk : K.lookup a with
  | some o =>
    have e := KX a o hk
    rw [ha] at e
    cases e
    refine core (fun b => if b = T then some (.tbl #[]) else none) (if_pos rfl) (.inr ⟨_, vs.toArray, _, hk, rfl, rfl, rfl, by rw [List.size_toArray, lenV]; exact hl, by simpa using rv⟩) (fun b u z => ?_) (fun b z => ?_) (fun b hb => .inl (if_neg hb)) fun b z => ?_
    · by_cases hb : b = T
      · have z' := (if_pos hb).symm.trans z
        cases z'
        subst hb
        exact hT
      · have z' := (if_neg hb).symm.trans z
        cases z'
    · by_cases hb : b = T
      · exact .inr hb
      · exact absurd (if_neg hb) z
    · by_cases hb : b = T
      · rw [hb]; exact hKT
      · exact absurd (if_neg hb) z
  | none =>
    refine core (fun b => if b = a then some (.frz { cls := .type "list", data := .seq vs.toArray } (.lst (ns.map V.int))) else if b = T then some (.tbl #[]) else none) (by rw [if_neg hTa, if_pos rfl]) (.inl (.inr ⟨{ cls := .type "list", data := .seq vs.toArray }, if_pos rfl⟩)) (fun b u z => ?_) (fun b z => ?_) (fun b hb => ?_) fun b z => ?_
    · by_cases hb : b = a
      · have z' := (if_pos hb).symm.trans z
        cases z'
        subst hb
        exact ⟨ha, by rw [List.length_map]; exact hl, vs, _, rv, ha⟩
      · have z' := (if_neg hb).symm.trans z
        by_cases hb2 : b = T
        · have z2 := (if_pos hb2).symm.trans z'
          cases z2
          subst hb2
          exact hT
        · have z2 := (if_neg hb2).symm.trans z'
          cases z2
    · by_cases hb : b = a
      · exact .inl hb
      · by_cases hb2 : b = T
        · exact .inr hb2
        · exact absurd (by rw [if_neg hb, if_neg hb2]) z
    · by_cases hba : b = a
      · exact .inr ⟨_, _, if_pos hba⟩
      · exact .inl (by rw [if_neg hba, if_neg hb])
    · by_cases hb : b = a
      · rw [hb]; exact hk
      · by_cases hb2 : b = T
        · rw [hb2]; exact hKT
        · exact absurd (by rw [if_neg hb, if_neg hb2]) z
theorem zfa {l : PySem.W.OpenLaw} {n k : Nat} {q : Program} {loose : List Str} {XP : (Str → Option Value) → Heap → Prop} {YP : World → Heap → Prop} {d : DefRec} {K : Params → PySem.W.Frag} {sp : World → Sp} {x : Str} {c T : Addr}
    (hn : l.most = some n) (hn2 : n ≤ sizeLine) (hdf : d.params.defaults = []) (hr : Room k callerA)
    (hY : ∀ (w : World) (h : Heap), YP w h → (K w.params).In h) (hYT : ∀ (w : World) (h : Heap), YP w h → h.get? T = some (tabObj #[])) (hKT : ∀ w : World, (K w.params).lookup T = none) (hcT : ∀ w : World, codeHdIn (K w.params) c T = true)
    (F : ∀ (w : World) (mg : Str → Option Value) (fa : Addr) (h : Heap), (K w.params).In h → h.Ns mainGlobals mg → mg d.name = some (.ref fa) →
      ∃ fd : FuncData, (∀ (s : Shared) (u : Value), BindsTo s fd ⟨[u], []⟩ [(x, u)]) ∧
        ∀ base : Heap, (K w.params).In base → base.Ns mainGlobals mg → base.BuiltinsAt mg T → FnOk l.prog w (K w.params) mg base CX0 k fa fd [x] (sp w))
    (hsp : ∀ (w : World) (H : Hp) (a : Addr) (ns : List Int), ns.length ≤ n → H T = some (.tbl #[]) → SqL (K w.params) H a (ns.map V.int) → sp w [.ref a] H (fun v _ => v = .bl true) fun _ _ _ => False) :
    PySem.W.WalkO q loose XP YP l.row.toRowW d [] (fun f vs => PySem.call f vs) := by
  refine Att.J2 hn hdf fun w s₀ s₁ mg mb fa o pm cd doc a vs ns G Y ho hd hcd hmg hobj hints hlen hg => ?_
  have KX := hY w _ Y
  obtain ⟨fd, hb, hF⟩ := F w mg fa _ KX G.T.g hmg
  exact zb2 KX G.T.g G.T.b G.T.builtins G.T.nolimit hg G.T.bmain (hYT w _ Y) (hKT w) (hcT w) hobj hints (Nat.le_trans hlen hn2) hr hF hb (fun H hO hS => hsp w H a ns hlen hO hS) fun H e s' h => h
open PySem PySem.Spec PyProof.Rows
def zbw (lo c : Int) (n : Nat) : It := ⟨fun i _ => i < n, fun i H x H' => H' = H ∧ x = .int (lo + i * c), fun i _ => n ≤ i⟩
theorem JG {P : Program} {w : World} {K : PySem.W.Frag} {tg : Expr} (it : Addr) (lo c : Int) (n : Nat) : Turn P w K tg (zbw lo c n) [it] it (fun i h => IsRangeIter h it (lo + (i : Nat) * c) ((n : Int) - (i : Nat)) c) where
  mem := by simp
  obj := fun i h st b hb => by
    have e : b = it := by simpa using hb
    subst e
    exact ⟨_, st, fun v z => by
      have z' : Data.fields _ = Data.cell v := z
      cases z'⟩
  keep := fun i h h' st k => k it (by simp) _ st
  item := by
    intro X hP hw hK hc i pins s σ H E I hf st hg
    subst hP hw hK
    obtain ⟨f0, f1, f2, f3, f4, f5⟩ := hf it (by simp)
    have W := Walks.range (prog := X.prog) (w := X.w) (I.ok.hd hc) it lo c n
    refine W.item i s _ _ hg st fun v h' tk hv st' kk => ?_
    obtain ⟨t, rfl⟩ := hv
    have I1 : Inv X pins σ H { s with heap := h', toks := tk } := I.turned (fun b o hb e => kk b o (by simpa using hb) e) f0 f1 f3 f4 f5
    exact ⟨_, rfl, zb4 (s := { s with heap := h', toks := tk }) (n := "range_iterator") st' rfl rfl (by decide) ⟨.int (lo + i * c), H, I1, ⟨t, rfl⟩, ⟨rfl, rfl⟩, st', fun b hb => (hf b hb).1⟩⟩
  done := by
    intro X hP hw hK hc i pins s σ H E I hf st hg
    subst hP hw hK
    obtain ⟨f0, f1, f2, f3, f4, f5⟩ := hf it (by simp)
    exact wpAny_pyNext_range_end (I.ok.hd hc) st (by have : n ≤ i := hg; omega) fun h' eb => ⟨rfl, I.turned (t' := s.toks) (fun b o hb e => eb b o hb e) f0 f1 f3 f4 f5⟩
  self := fun _ _ _ _ _ st h => wpAny_pyIter_rangeiter st h
section
variable {X : Cx} {tg : Expr}
theorem zaA {lo c : Int} {n : Nat} {g : TG} {tb : TS} {D : Ends} {σ : St} {H : Hp} (Pv : Nat → St → Hp → Prop) (h0 : Pv 0 σ H)
    (hs : ∀ i σ H, i < n → Pv i σ H → g (.int (lo + i * c)) σ H fun σ2 H2 => tb { D with nx := Pv (i + 1), ct := Pv (i + 1), bk := D.nx } σ2 H2) (hd : ∀ σ H, Pv n σ H → D.nx σ H) :
    ∃ W : Nat → Nat → St → Hp → Prop, (∃ m, W 0 m σ H) ∧ ∀ i m σ H, W i m σ H →
      ((zbw lo c n).stop i H ∧ D.nx σ H) ∨ ((zbw lo c n).go i H ∧ ∃ N : St → Hp → Prop, (∀ σ' H', N σ' H' → ∃ m', m' < m ∧ W (i + 1) m' σ' H') ∧ ∀ x H', (zbw lo c n).yld i H x H' → g x σ H' fun σ2 H2 => tb { D with nx := N, ct := N, bk := D.nx } σ2 H2) := by
  refine ⟨fun i m σ H => m = n - i ∧ i ≤ n ∧ Pv i σ H, ⟨n, by simp, Nat.zero_le _, h0⟩, ?_⟩
  rintro i m σ H ⟨rfl, hi, p⟩
  by_cases hlt : i < n
  · refine .inr ⟨hlt, Pv (i + 1), fun σ' H' p' => ⟨n - (i + 1), by omega, rfl, hlt, p'⟩, fun x H' y => ?_⟩
    obtain ⟨e, y⟩ := y
    subst e y
    exact hs i σ _ hlt p
  · have e : i = n := by omega
    subst e
    exact .inl ⟨Nat.le_refl _, hd σ H p⟩
end
end L2
namespace Lw
def zej (ls : List (List Int)) (x : List Int) : Prop := x = [] ∨ ∃ st ∈ ls, ∃ k, 1 ≤ k ∧ k < st.length ∧ x = st.take k ∧ lacks ls x = true
structure StandsL (ls : List (List Int)) (xs : List (List Int)) : Prop where
  mem : ∀ x, x ∈ xs ↔ zej ls x
  up : xs.Pairwise fun x y => HT.uD x y = true
theorem StandsL.nodup {ls xs : List (List Int)} (h : StandsL ls xs) : xs.Nodup := by
  refine h.up.imp fun {x y} q z => ?_
  rw [z, HT.Wj] at q
  cases q
theorem zce {ls : List (List Int)} (h : ∀ st ∈ ls, st.length ≤ 4) {x : List Int} (q : zej ls x) : x.length ≤ 3 := by
  rcases q with rfl | ⟨st, hst, k, h1, h2, rfl, _⟩
  · decide
  · have := h st hst
    rw [List.length_take]; omega
theorem zbL {ls : List (List Int)} {y : List Int} {x : Int} (h : Yx ls (y ++ [x]) = true) : Yx ls y = true := by
  unfold Yx at *
  rw [List.any_eq_true] at h ⊢
  obtain ⟨st, hst, q⟩ := h
  refine ⟨st, hst, decide_eq_true ?_⟩
  have q := of_decide_eq_true q
  have e := congrArg (List.take y.length) q
  rw [List.take_left, List.take_take, List.length_append] at e
  rw [Nat.min_eq_left (by omega)] at e
  exact e
theorem Yk {ls : List (List Int)} : ∀ fs : List Int, ∃ j, j ≤ fs.length ∧ zY ls fs = fs.drop j ∧ (∀ k, k < j → Yx ls (fs.drop k) = false) ∧ (j < fs.length → Yx ls (fs.drop j) = true)
  | [] => ⟨0, Nat.le_refl _, rfl, fun k hk => by omega, fun h => by simp at h⟩
  | x :: fs => by
    by_cases h : Yx ls (x :: fs) = true
    · exact ⟨0, Nat.zero_le _, by rw [zY, if_pos h]; rfl, fun k hk => by omega, fun _ => h⟩
    · obtain ⟨j, h1, h2, h3, h4⟩ := Yk (ls := ls) fs
      refine ⟨j + 1, by rw [List.length_cons]; omega, by rw [zY, if_neg h, h2, List.drop_succ_cons], fun k hk => ?_, fun hj => by rw [List.drop_succ_cons]; exact h4 (by rw [List.length_cons] at hj; omega)⟩
      cases k with
      | zero => rw [List.drop_zero]; simpa using h
      | succ k => rw [List.drop_succ_cons]; exact h3 k (by omega)
theorem Zg {ls : List (List Int)} (fs : List Int) (x : Int) : zY ls (zY ls fs ++ [x]) = zY ls (fs ++ [x]) := by
  obtain ⟨j, h1, h2, h3, _⟩ := Yk (ls := ls) fs
  rw [h2, Yv j (fs ++ [x]) (by rw [List.length_append]; omega) (fun k hk => ?_), List.drop_append_of_le_length h1]
  rw [List.drop_append_of_le_length (by omega)]
  cases e : Yx ls (fs.drop k ++ [x]) with
  | false => rfl
  | true => rw [← h3 k hk, zbL e]
theorem zbB {st fs : List Int} (ne : st ≠ []) {j : Nat} (h : Uu st (fs.drop j) = true) : Uu st fs = true := by
  rw [Zj ne] at h ⊢
  obtain ⟨k, e⟩ := h
  exact ⟨j + k, by rw [← List.drop_drop]; exact e⟩
theorem U5 {ls : List (List Int)} (ne : ∀ l ∈ ls, l ≠ []) {fs : List Int} (j : Nat) (h : lacks ls fs = true) : lacks ls (fs.drop j) = true := by
  unfold lacks at *
  rw [Bool.not_eq_true', List.any_eq_false] at h ⊢
  intro st hst q
  exact h st hst (zbB (ne st hst) q)
theorem Zf {ls : List (List Int)} (ne : ∀ l ∈ ls, l ≠ []) {fs : List Int} (x : Int) (h : lacks ls fs = true) : lacks ls (zY ls fs ++ [x]) = lacks ls (fs ++ [x]) := by
  obtain ⟨j, h1, h2, h3, _⟩ := Yk (ls := ls) fs
  rw [h2, ← List.drop_append_of_le_length h1]
  rw [Bool.eq_iff_iff]
  constructor
  · intro q
    unfold lacks at *
    rw [Bool.not_eq_true', List.any_eq_false] at h q ⊢
    intro st hst hs
    rw [Zj (ne st hst)] at hs
    obtain ⟨k, e⟩ := hs
    have hp : 0 < st.length := List.length_pos_iff.mpr (ne st hst)
    have hl := congrArg List.length e
    rw [List.length_take, List.length_drop, List.length_append, List.length_singleton] at hl
    by_cases hin : k + st.length ≤ fs.length
    · refine h st hst ((Zj (ne st hst)).mpr ⟨k, ?_⟩)
      rw [List.drop_append_of_le_length (by omega), List.take_append_of_le_length (by rw [List.length_drop]; omega)] at e
      exact e
    · have hk : k + st.length = fs.length + 1 := by omega
      rw [List.take_of_length_le (by rw [List.length_drop, List.length_append, List.length_singleton]; omega)] at e
      by_cases hkj : j ≤ k
      · refine q st hst ((Zj (ne st hst)).mpr ⟨k - j, ?_⟩)
        rw [List.drop_drop, show j + (k - j) = k by omega, e, List.take_of_length_le (Nat.le_refl _)]
      · have h3k := h3 k (by omega)
        rw [List.drop_append_of_le_length (by omega)] at e
        unfold Yx at h3k
        rw [List.any_eq_false] at h3k
        refine h3k st hst (decide_eq_true ?_)
        rw [← e, List.take_left]
  · intro q
    exact U5 ne j q
theorem Yr {ls : List (List Int)} (ne : ∀ l ∈ ls, l ≠ []) {fs : List Int} (h : lacks ls fs = true) : zej ls (zY ls fs) := by
  obtain ⟨j, h1, h2, _, h4⟩ := Yk (ls := ls) fs
  rw [h2]
  by_cases hj : j < fs.length
  · have q := h4 hj
    unfold Yx at q
    rw [List.any_eq_true] at q
    obtain ⟨st, hst, q⟩ := q
    have q := of_decide_eq_true q
    have hl := congrArg List.length q
    rw [List.length_take] at hl
    have hlen : (fs.drop j).length = fs.length - j := List.length_drop ..
    have hlk := U5 ne j h
    refine .inr ⟨st, hst, (fs.drop j).length, by omega, ?_, q.symm, hlk⟩
    by_cases hlt : (fs.drop j).length < st.length
    · exact hlt
    · exfalso
      have hle : st.length ≤ (fs.drop j).length := by omega
      rw [List.take_of_length_le hle] at q
      unfold lacks at hlk
      rw [Bool.not_eq_true', List.any_eq_false] at hlk
      refine hlk st hst ((Zj (ne st hst)).mpr ⟨0, ?_⟩)
      rw [List.drop_zero, ← q, List.take_of_length_le (Nat.le_refl _)]
  · left
    exact List.drop_of_length_le (by omega)
theorem StandsL.first {ls xs : List (List Int)} (a : StandsL ls xs) : ∃ r, xs = [] :: r := by
  have h0 : ([] : List Int) ∈ xs := (a.mem []).mpr (.inl rfl)
  cases xs with
  | nil => cases h0
  | cons x r =>
    rcases List.mem_cons.mp h0 with e | e
    · exact ⟨r, by rw [e]⟩
    · have := (List.pairwise_cons.mp a.up).1 [] e
      unfold HT.uD at this
      by_cases hl : x.length = ([] : List Int).length
      · have : x = [] := List.eq_nil_of_length_eq_zero hl
        exact ⟨r, by rw [this]⟩
      · rw [if_neg hl] at this
        have := of_decide_eq_true this
        simp at this
end Lw
namespace L2
open PySem PySem.Spec PyProof.Rows PySem.SeqAt
section
variable {X : Cx}
def zbj (K : PySem.W.Frag) : V → List V → Hp → VK → Prop := fun x vs H Q => ∃ l xs y ts u j, x = .ref l ∧ vs = [y] ∧ SqL K H l xs ∧ TrsAt K H ts xs ∧ TrAt K H u y ∧ tK ts ≤ 8 ∧ j < ts.length ∧
  (∀ t, ts[j]? = some t → teq t u = true) ∧ (∀ m t, m < j → ts[m]? = some t → teq t u = false) ∧ Q (.int (j : Nat)) H
open Classical in
theorem zbR (hu : X.A.units + 64 < cLine) : MtM X "list.index" (zbj X.K) := by
  intro pins s σ H x vs v us Q I rx rv h
  obtain ⟨l, xs, y, ts, u, j, rfl, rfl, hq, hts, ht, hd, hj, hit, hno, q⟩ := h
  cases rx
  obtain ⟨u0, rfl, ru⟩ := Vals.one rv
  obtain ⟨its, r, pl, hz⟩ := I.list hq
  obtain ⟨⟨cls, dd, data, sl⟩, ho, hc, n, hdat⟩ := id pl.isList
  simp only at hc hdat
  subst hc hdat
  have l1 := hts.length
  have m1 := r.length
  have val : ∀ (m : Nat) (hm : m < its.length) (t : Tr), ts[m]? = some t → decide (∃ t x, RelV x its[m] ∧ TrAt X.K H t x ∧ teq t u = true) = teq t u := by
    intro m hm t et
    obtain ⟨z, ez, hz'⟩ := hts.get et
    obtain ⟨w, ew, rw'⟩ := r.get ez
    have e' : its[m] = w := by
      rw [List.getElem?_eq_getElem hm] at ew
      exact Option.some.inj ew
    rw [e', Bool.eq_iff_iff, decide_eq_true_iff]
    constructor
    · rintro ⟨t', x', r', h', e3⟩
      rw [rw'.inj r'] at hz'
      rw [V5 I 8 (Nat.le_trans (Xh (List.mem_of_getElem? et)) hd) hz' h']; exact e3
    · intro e3
      exact ⟨t, z, rw', hz', e3⟩
  have hjs : j < its.length := by omega
  have hsl : (sizeLine : Int) < 2 ^ 63 - 1 := by decide
  refine call_meets PySem.F.slot_list_index ⟨_, ho, rfl⟩ PySem.F.entry_list_index (PySem.F.args_list_index_2 _ _)
    (list_indexAt l its.toArray n dd sl u0 (fun y => decide (∃ t x, RelV x y ∧ TrAt X.K H t x ∧ teq t u = true)) j (by simpa using hjs) (by omega) ?_ ?_) ⟨ho, Q8 I hu ht ru hd hts r, ?_⟩
  · have q := val j hjs _ (List.getElem?_eq_getElem hj)
    rw [hit _ (List.getElem?_eq_getElem hj)] at q
    simpa using q
  · intro m hm hlt
    have hm' : m < ts.length := by omega
    have q := val m (by omega) _ (List.getElem?_eq_getElem hm')
    rw [hno m _ hlt (List.getElem?_eq_getElem hm')] at q
    simpa using q
  · exact ⟨.int (j : Nat), H, I.kept fun b o e => e, ⟨_, rfl⟩, q⟩
theorem zcX (K : PySem.W.Frag) (hu : X.A.units + 64 < cLine) (e : X.K = K := by rfl) : MtM X "list.index" (zbj K) := by subst e; exact zbR hu
end
section
variable {X : Cx}
def ze7 (K : PySem.W.Frag) : List V → Hp → VK → Prop := fun xs H Q => ∃ (a : Addr) (ns : List Int), xs = [.ref a] ∧ SqL K H a (ns.map V.int) ∧ Q (.int ns.sum) H
theorem zcT (hc : X.calm = true) : uK X (.builtin "sum") (ze7 X.K) := by
  intro pins s σ H xs us Q I r h
  obtain ⟨a, ns, rfl, hq, q⟩ := h
  obtain ⟨u, rfl, rx⟩ := vals1 r
  cases rx
  obtain ⟨its, rv, pl, hz⟩ := I.list hq
  have hi := intsAre_of rv
  obtain ⟨ys, hy⟩ := hi.allInts.items
  have hn : (ys.toList.map (·.1)).sum = ns.sum := by
    have e := hi.numsOf
    have e2 := nums_intItems ys
    rw [← hy] at e2
    rw [← e, ← e2]
  refine sum_intListG (xs := ys) (I.ok.hd hc) (by rw [← hy]; exact pl.isList) fun h' tk t' hk => ?_
  refine ⟨.int ns.sum, H, I.kept fun b o e => hk b o e, ?_, q⟩
  refine ⟨t', ?_⟩
  rw [preSum_eq, List.take_of_length_le (by simp), hn]
theorem QM (K : PySem.W.Frag) (hc : X.calm = true) (e : X.K = K := by rfl) : uK X (.builtin "sum") (ze7 K) := by subst e; exact zcT hc
end
end L2
namespace Lw
def cnt (ls : List (List Int)) (b : Nat) : Nat → List Int → Nat
  | 0, _ => 1
  | t + 1, x => ((List.range b).map fun (c : Nat) => if lacks ls (x ++ [(c : Int)]) = true then cnt ls b t (zY ls (x ++ [(c : Int)])) else 0).sum
def vp (b : Nat) : Nat → Nat → List Int
  | 0, _ => []
  | t + 1, r => ((r / b ^ t : Nat) : Int) :: vp b t (r % b ^ t)
def many (p : Nat → Bool) : Nat → Nat
  | 0 => 0
  | n + 1 => many p n + (if p n = true then 1 else 0)
theorem uQ {p q : Nat → Bool} : ∀ {N : Nat}, (∀ n, n < N → p n = q n) → many p N = many q N
  | 0, _ => rfl
  | N + 1, h => by rw [many, many, uQ (N := N) fun n hn => h n (by omega), h N (by omega)]
theorem Xp {p : Nat → Bool} : ∀ {N : Nat}, (∀ n, n < N → p n = false) → many p N = 0
  | 0, _ => rfl
  | N + 1, h => by rw [many, Xp (N := N) fun n hn => h n (by omega), h N (by omega)]; rfl
theorem Xf (p : Nat → Bool) (A : Nat) : ∀ B : Nat, many p (A + B) = many p A + many (fun n => p (A + n)) B
  | 0 => rfl
  | B + 1 => by rw [← Nat.add_assoc, many, many, Xf p A B, Nat.add_assoc]
theorem V2 (p : Nat → Bool) (B : Nat) : ∀ A : Nat, many p (A * B) = ((List.range A).map fun c => many (fun r => p (c * B + r)) B).sum
  | 0 => by simp [many]
  | A + 1 => by
    rw [Nat.succ_mul, Xf, V2 p B A, List.range_succ, List.map_append, List.sum_append]
    simp
theorem jW (p : Nat → Bool) {A B : Nat} (h : A ≤ B) : many p A ≤ many p B := by
  obtain ⟨k, rfl⟩ := Nat.exists_eq_add_of_le h
  rw [Xf]; omega
theorem VV (p : Nat → Bool) {A B : Nat} (h : A < B) (q : p A = true) : many p A < many p B := by
  have e : many p (A + 1) = many p A + 1 := by rw [many, if_pos q]
  have := jW p (A := A + 1) (B := B) h
  omega
theorem qj {b t c r : Nat} (hr : r < b ^ t) : vp b (t + 1) (c * b ^ t + r) = (c : Int) :: vp b t r := by
  have h0 : 0 < b ^ t := by omega
  rw [vp, Nat.add_comm, Nat.add_mul_div_right _ _ h0, Nat.div_eq_of_lt hr, Nat.zero_add, Nat.add_mul_mod_self_right, Nat.mod_eq_of_lt hr]
theorem qO {f g : Nat → Nat} : ∀ {N : Nat}, (∀ c, c < N → f c = g c) → ((List.range N).map f).sum = ((List.range N).map g).sum := by
  intro N h
  congr 1
  apply List.map_congr_left
  intro c hc
  exact h c (List.mem_range.mp hc)
theorem Uw {ls : List (List Int)} (ne : ∀ l ∈ ls, l ≠ []) {b t : Nat} (ih : ∀ x, lacks ls x = true → many (fun r => lacks ls (x ++ vp b t r)) (b ^ t) = cnt ls b t (zY ls x)) {x : List Int} (c : Nat) :
    many (fun r => lacks ls (x ++ vp b (t + 1) (c * b ^ t + r))) (b ^ t) = if lacks ls (x ++ [(c : Int)]) = true then cnt ls b t (zY ls (x ++ [(c : Int)])) else 0 := by
  have e1 : many (fun r => lacks ls (x ++ vp b (t + 1) (c * b ^ t + r))) (b ^ t) = many (fun r => lacks ls (x ++ [(c : Int)] ++ vp b t r)) (b ^ t) := by
    apply uQ
    intro r hr
    show lacks ls _ = lacks ls _
    rw [qj hr, List.append_assoc]
    rfl
  rw [e1]
  by_cases h : lacks ls (x ++ [(c : Int)]) = true
  · rw [if_pos h, ih _ h]
  · rw [if_neg h]
    apply Xp
    intro r _
    cases hc : lacks ls (x ++ [(c : Int)] ++ vp b t r) with
    | false => rfl
    | true => exact absurd (WR ne hc) h
theorem VP {ls : List (List Int)} (ne : ∀ l ∈ ls, l ≠ []) {b : Nat} : ∀ (t : Nat) (x : List Int), lacks ls x = true → many (fun r => lacks ls (x ++ vp b t r)) (b ^ t) = cnt ls b t (zY ls x)
  | 0, x, h => by
    rw [Nat.pow_zero, many, many, cnt, vp, List.append_nil, if_pos h]
  | t + 1, x, h => by
    rw [Nat.pow_succ', V2, cnt]
    apply qO
    intro c _
    rw [Uw ne (VP ne t), Zf ne _ h, Zg]
def gd (ls : List (List Int)) (b n : Nat) : Bool := lacks ls (yp b n)
theorem UJ {b : Nat} : ∀ (t n : Nat), vp b (t + 1) n = tops b t n
  | 0, n => by simp [vp, tops]
  | t + 1, n => by rw [vp, UJ t, tops]
theorem V1 {b t c r : Nat} (h2 : 2 ≤ b) (h1 : 1 ≤ c) (hc : c < b) (hr : r < b ^ t) : yp b (c * b ^ t + r) = (c : Int) :: vp b t r := by
  rw [← qj hr, UJ]
  refine (Xl h2 t _ ?_ (.inr ?_)).symm
  · rw [Nat.pow_succ']
    have : (c + 1) * b ^ t ≤ b * b ^ t := Nat.mul_le_mul_right _ hc
    rw [Nat.succ_mul] at this
    omega
  · have : 1 * b ^ t ≤ c * b ^ t := Nat.mul_le_mul_right _ h1
    omega
def jr (ls : List (List Int)) (b : Nat) : Nat → Nat
  | 0 => if lacks ls [0] = true then 1 else 0
  | t + 1 => ((List.range b).map fun (c : Nat) => if c = 0 then jr ls b t else if lacks ls [(c : Int)] = true then cnt ls b t (zY ls [(c : Int)]) else 0).sum
theorem QB {ls : List (List Int)} (ne : ∀ l ∈ ls, l ≠ []) {b t c : Nat} (h2 : 2 ≤ b) (h1 : 1 ≤ c) (hc : c < b) : many (fun r => gd ls b (c * b ^ t + r)) (b ^ t) = if lacks ls [(c : Int)] = true then cnt ls b t (zY ls [(c : Int)]) else 0 := by
  have e := Uw (x := []) ne (b := b) (t := t) (VP ne t) c
  rw [List.nil_append] at e
  rw [← e]
  apply uQ
  intro r hr
  show gd ls b _ = lacks ls _
  rw [gd, V1 h2 h1 hc hr, List.nil_append, qj hr]
theorem jX {ls : List (List Int)} (ne : ∀ l ∈ ls, l ≠ []) {b : Nat} (h2 : 2 ≤ b) : ∀ t : Nat, jr ls b t = many (gd ls b) (b ^ t)
  | 0 => by
    rw [Nat.pow_zero, many, many, jr, Nat.zero_add]
    unfold gd
    rw [tL (show 0 < b by omega)]
    rfl
  | t + 1 => by
    rw [Nat.pow_succ', V2, jr]
    apply qO
    intro c hc
    by_cases h0 : c = 0
    · subst h0
      rw [if_pos rfl, jX ne h2 t]
      apply uQ
      intro r _
      rw [Nat.zero_mul, Nat.zero_add]
    · rw [if_neg h0, QB ne h2 (by omega) hc]
theorem WP {b n k : Nat} (h2 : 2 ≤ b) (hn : n < b ^ (k + 1)) (h : k = 0 ∨ b ^ k ≤ n) : (yp b n).length = k + 1 := by
  rw [← Xl h2 k n hn h, zaa]
theorem zbt {b : Nat} (h2 : 2 ≤ b) (n : Nat) : ∃ k, n < b ^ (k + 1) ∧ (k = 0 ∨ b ^ k ≤ n) := by
  have key : ∀ K : Nat, n < b ^ (K + 1) → ∃ k, n < b ^ (k + 1) ∧ (k = 0 ∨ b ^ k ≤ n) := by
    intro K
    induction K with
    | zero => intro h; exact ⟨0, h, .inl rfl⟩
    | succ K ih =>
      intro h
      by_cases q : n < b ^ (K + 1)
      · exact ih q
      · exact ⟨K + 1, h, .inr (by omega)⟩
  refine key n ?_
  have : n < 2 ^ n := Nat.lt_two_pow_self
  have h3 : 2 ^ n ≤ b ^ n := Nat.pow_le_pow_left h2 n
  have h4 : b ^ n ≤ b ^ (n + 1) := Nat.pow_le_pow_right (by omega) (Nat.le_succ n)
  omega
theorem zap {b n k : Nat} (h2 : 2 ≤ b) : (yp b n).length = k + 1 ↔ n < b ^ (k + 1) ∧ (k = 0 ∨ b ^ k ≤ n) := by
  refine ⟨fun h => ?_, fun h => WP h2 h.1 h.2⟩
  obtain ⟨m, h1, h3⟩ := zbt h2 n
  have e := WP h2 h1 h3
  rw [h] at e
  obtain rfl : k = m := by omega
  exact ⟨h1, h3⟩
end Lw
namespace HT
open PySem PyProof.Rows PySem.W
section
variable {prog : Program} {w : World} {A : Around} {E : Value → Shared → Prop} {s : Shared}
theorem zaz {a : Addr} {vs : List Value} {n0 : Nat} {κ : SortKind} {c : Nat → Nat → Bool} {P : PySem.Fin → Shared → Prop} (ho : s.heap.get? a = some (seqObj "list" vs.toArray n0)) (h60 : vs.length ≤ 60) (O : Ord c vs.length)
    (hkind : ∀ G : Heap, (∀ b o, b ≠ a → s.heap.get? b = some o → G.get? b = some o) → 2 ≤ vs.length → ∀ Q : SortKind → Shared → Prop, Q κ { s with heap := G } → wpAny (model prog w) A (keyKind' vs.toArray) Q E { s with heap := G })
    (hcmp : ∀ G : Heap, (∀ b o, b ≠ a → s.heap.get? b = some o → G.get? b = some o) → ∀ i j (C : Bool → Shared → Prop), i < vs.length → j < vs.length → C (c i j) { s with heap := G } → kas_ask prog w A κ vs i j C { s with heap := G })
    (h : ∀ p : List Nat, p.Perm (List.range vs.length) → p.Pairwise (fun i j => c i j = true) → P (.done (.ret .none)) { s with heap := sortedHeap s.heap a vs (p.map fun i => vs.getD i Value.none).toArray }) :
    wpAny (model prog w) A (Builtin.«list.sort» ⟨[.ref a], []⟩) P E s := by
  rw [list_sort_plain]
  have hsl : vs.length ≤ sizeLine := Nat.le_trans h60 (by decide)
  have ha : a < s.heap.objs.size := Heap.lt_size ho
  obtain ⟨e1, ho1⟩ : ∃ e1, (s.heap.update a (Obj.mapSeq fun _ => #[])).get? a = some (seqObj "list" #[] e1) := ⟨_, get?_update_seq ho (fun _ => #[])⟩
  refine wpAny_bind (listItems_at ho rfl (wpAny_bind (listUpdate_at ho rfl (wpAny_bind (seqEpoch_at ho1 rfl (wpAny_bind (wpAny_newTuple (wpAny_bind (wpAny_newList (wpAny_holding ?_) (Nat.zero_le _))) (by show vs.length ≤ _; exact hsl))))) (by rw [List.size_toArray]; exact hsl) (Nat.zero_le _))))
  generalize hG : (((s.heap.update a (Obj.mapSeq fun _ => (#[] : Array Value))).push (seqObj "tuple" vs.toArray 0)).push (seqObj "list" #[] 0)) = G
  have ho6 : G.get? a = some (seqObj "list" #[] e1) := by
    rw [← hG, Heap.get?_push_ne _ _ _ (by rw [size_push', Heap.size_update]; exact Nat.ne_of_lt (Nat.lt_succ_of_lt ha)), Heap.get?_push_ne _ _ _ (by rw [Heap.size_update]; exact Nat.ne_of_lt ha)]; exact ho1
  have keep : ∀ b o, b ≠ a → s.heap.get? b = some o → G.get? b = some o := fun b o hb e => by
    have hlt := Heap.lt_size e
    rw [← hG, Heap.get?_push_ne _ _ _ (by rw [size_push', Heap.size_update]; exact Nat.ne_of_lt (Nat.lt_succ_of_lt hlt)), Heap.get?_push_ne _ _ _ (by rw [Heap.size_update]; exact Nat.ne_of_lt hlt), Heap.get?_update_other _ _ (Ne.symm hb)]; exact e
  show wpAny (model prog w) A _ P E { s with heap := G }
  dsimp only
  have e2 : ∀ out : Array Value, G.update a (Obj.mapSeq fun _ => out) = sortedHeap s.heap a vs out := fun out => by rw [← hG]; rfl
  by_cases h2 : vs.toArray.size < 2
  · rw [if_pos h2, if_pos h2]
    refine wpAny_bind (wpAny_pure ?_)
    rw [StateT.run_pure]
    refine wpAny_bind (wpAny_pure ?_)
    dsimp only
    rw [List.size_toArray] at h2
    have hout : (arrOf (SortSt.mk' general' (vs.toArray.zip vs.toArray) #[] 7 none)).map (·.2) = ((List.range vs.length).map fun i => vs.getD i Value.none).toArray := by
      show ((vs.toArray.zip vs.toArray).map (·.2)) = _
      apply Array.toList_inj.mp
      rw [Array.toList_map, Array.toList_zip, List.map_snd_zip (by simp)]
      apply List.ext_getElem?
      intro i
      rw [List.getElem?_map]
      by_cases hi : i < vs.length
      · rw [List.getElem?_range hi, Option.map_some, List.getD_eq_getElem?_getD, List.getElem?_eq_getElem hi]; rfl
      · rw [List.getElem?_eq_none (by simpa using hi), List.getElem?_eq_none (by simpa using hi)]; rfl
    rw [hout]
    refine wpAny_bind (seqEpoch_at ho6 rfl (wpAny_bind (listUpdate_at ho6 rfl ?_ (Nat.zero_le _) (by rw [List.size_toArray, List.length_map, List.length_range]; exact Nat.le_succ_of_le hsl))))
    simp only [bne_self_eq_false, Bool.false_eq_true, if_false]
    rw [e2]
    refine wpAny_pure (h _ (List.Perm.refl _) ?_)
    rw [List.pairwise_iff_getElem]
    intro i j hi hj hij
    rw [List.length_range] at hj
    omega
  · rw [if_neg h2, if_neg h2]
    rw [List.size_toArray] at h2
    refine wpAny_bind (hkind G keep (by omega) _ ?_)
    have ask : (kas_sort vs.length).kasWp (kas_ask prog w A κ vs) (fun p s' => s' = { s with heap := G } ∧ (Pm vs.length p ∧ Up c p vs.length)) { s with heap := G } :=
      KW.wp (n := vs.length) (fun i j C hi hj hC => hcmp G keep i j C hi hj hC) _ (zdA O (by omega))
    refine wpAny_bind (wpAny_mono (kat_run (E := E) (ks := vs) (vs := vs) (Q := fun st' s' => ∃ p : Array Nat, s' = { s with heap := G } ∧ arrOf st' = p.map (kas_item (vs.toArray.zip vs.toArray)) ∧ failedOf st' = none ∧ Pm vs.length p ∧ Up c p vs.length)
      rfl (by omega) (by omega) (fun p st' s' _ a2 a3 a4 => ⟨p, a4.1, a2, a3, a4.2⟩) ask) ?_ fun _ _ e => e)
    rintro ⟨⟨⟩, st'⟩ s' ⟨p, rfl, har, hfl, hpm, hup⟩
    dsimp only
    have hpl : p.toList.length = vs.length := by rw [hpm.pm.length_eq, List.length_range]
    have hol : (p.toList.map fun i => vs.getD i Value.none).length = vs.length := by rw [List.length_map, hpl]
    rw [kat_snds rfl har]
    refine wpAny_bind (seqEpoch_at ho6 rfl (wpAny_bind (listUpdate_at ho6 rfl ?_ (Nat.zero_le _) (by rw [List.size_toArray, hol]; exact Nat.le_succ_of_le hsl))))
    rw [hfl]
    simp only [bne_self_eq_false, Bool.false_eq_true, if_false]
    rw [e2]
    refine wpAny_pure (h _ hpm.pm ?_)
    rw [List.pairwise_iff_getElem]
    intro i j hi hj hij
    have q1 := hup i j hij (by omega)
    have g1 : p.getD i 0 = p.toList[i] := by
      have : i < p.size := by rw [hpm.sz]; omega
      simp [Array.getD, this]
    have g2 : p.getD j 0 = p.toList[j] := by
      have : j < p.size := by rw [hpm.sz]; omega
      simp [Array.getD, this]
    rw [g1, g2] at q1
    exact q1
theorem zc7 {r : Addr} {n : Nat} {κ : SortKind} {Pv : List Value → Prop} {Q : Value → Shared → Prop} (h60 : n ≤ 60)
    (hcol : ∀ R : List Value → Shared → Prop, (∀ h' tk vs, (∀ b o, s.heap.get? b = some o → h'.get? b = some o) → vs.length = n → Pv vs → R vs { s with heap := h', toks := tk }) → wpAny (model prog w) A.in1 (collect (.ref r)) R E s)
    (hord : ∀ vs, vs.length = n → Pv vs → ∃ c : Nat → Nat → Bool, Ord c n ∧
      (∀ (G : Heap) (tk : Nat), (∀ b o, s.heap.get? b = some o → G.get? b = some o) → 2 ≤ n → ∀ Q : SortKind → Shared → Prop, Q κ { s with heap := G, toks := tk } → wpAny (model prog w) A.in1.in1 (keyKind' vs.toArray) Q E { s with heap := G, toks := tk }) ∧
      (∀ (G : Heap) (tk : Nat), (∀ b o, s.heap.get? b = some o → G.get? b = some o) → ∀ i j (C : Bool → Shared → Prop), i < n → j < n → C (c i j) { s with heap := G, toks := tk } → kas_ask prog w A.in1.in1 κ vs i j C { s with heap := G, toks := tk }) ∧
      ∀ (p : List Nat) (h' h'' : Heap) (tk e : Nat), p.Perm (List.range n) → p.Pairwise (fun i j => c i j = true) → (∀ b o, s.heap.get? b = some o → h'.get? b = some o) → (∀ b o, h'.get? b = some o → h''.get? b = some o) → h''.get? h'.objs.size = some (seqObj "list" (p.map fun i => vs.getD i Value.none).toArray e) → Q (.ref h'.objs.size) { s with heap := h'', toks := tk }) :
    wpAny (model prog w) A (call (.builtin "sorted") [.ref r]) Q E s := by
  refine Calls.call_function_entry kind_sorted plain_sorted entry_sorted (args_sorted1 _) ?_
  unfold Builtin.«sorted»
  refine wpAny_bind (m := checkCount "sorted" 1 1 _) (wpAny_pure (wpAny_bind (hcol _ fun h' tk vs hk hl pv => ?_)))
  obtain ⟨c, O, hkind, hcmp, fin⟩ := hord vs hl pv
  subst hl
  have hsl : vs.length ≤ sizeLine := Nat.le_trans h60 (by decide)
  refine wpAny_bind (wpAny_newList ?_ hsl)
  have hoL : (h'.push (seqObj "list" vs.toArray 0)).get? h'.objs.size = some (seqObj "list" vs.toArray 0) := Heap.get?_push_size _ rfl
  have ne : ∀ b o, s.heap.get? b = some o → b ≠ h'.objs.size := fun b o q => Nat.ne_of_lt (Heap.lt_size (hk b o q))
  show wpAny _ _ _ _ _ { s with heap := h'.push (seqObj "list" vs.toArray 0), toks := tk }
  dsimp only
  refine wpAny_bind (wpAny_holding (wpAny_call_entry slot_list_sort ⟨_, hoL, rfl⟩ entry_list_sort (zaz (A := A.in1.in1) (s := { s with heap := h'.push (seqObj "list" vs.toArray 0), toks := tk }) (κ := κ) (c := c) hoL h60 O (fun G kG h2 Q' hq => hkind G tk (fun b o q => kG b o (ne b o q) (Heap.get?_push_of_some _ (hk b o q))) h2 Q' hq)
    (fun G kG i j C hi hj hC => hcmp G tk (fun b o q => kG b o (ne b o q) (Heap.get?_push_of_some _ (hk b o q))) i j C hi hj hC) fun p hp hw => ⟨_, rfl, ?_⟩) (args_list_sort _)))
  refine wpAny_pure ⟨_, rfl, ?_⟩
  obtain ⟨e, he⟩ := sortedHeap_at (out := (p.map fun i => vs.getD i Value.none).toArray) hoL
  refine fin p h' _ tk e hp hw hk (fun b o q => ?_) he
  have hlt := Heap.lt_size q
  rw [sortedHeap_old (Nat.ne_of_lt hlt) (by rw [size_push']; exact Nat.lt_succ_of_lt hlt)]
  exact Heap.get?_push_of_some _ q
end
def RawD (h : Heap) (d : Addr) (ks : List Value) (ep : Nat) : Prop := ∃ (o : Obj) (es : Array DictEntry), h.get? d = some o ∧ o.ExactDict ∧ o.data = .dict es ep ∧ es.toList.map (·.key) = ks
theorem RawD.at {h h' : Heap} {d : Addr} {ks : List Value} {ep : Nat} (x : RawD h d ks ep) (e : ∀ o, h.get? d = some o → h'.get? d = some o) : RawD h' d ks ep := let ⟨o, es, ho, r⟩ := x; ⟨o, es, e _ ho, r⟩
theorem RawD.lt {h : Heap} {d : Addr} {ks : List Value} {ep : Nat} (x : RawD h d ks ep) : d < h.objs.size := let ⟨_, _, ho, _⟩ := x; Heap.lt_size ho
theorem RawD.ty {s : Shared} {d : Addr} {ks : List Value} {ep : Nat} (x : RawD s.heap d ks ep) : s.TypeIs (.ref d) "dict" := let ⟨o, _, ho, hc, _⟩ := x; ⟨o, ho, hc.1⟩
section
variable {prog : Program} {w : World} {A : Around} {E : Value → Shared → Prop} {s : Shared} {d it : Addr} {ks : List Value} {ep i : Nat}
theorem zdu {Q : Value → Shared → Prop} (hd : (d == sysModules) = false) (hm : RawD s.heap d ks ep) (hQ : Q (.ref s.heap.objs.size) { s with heap := s.heap.push { cls := .type "dict_keyiterator", data := .fields #[.ref d, .int 0 0, .int ks.length 0, .int ep 0] } }) :
    wpAny (model prog w) A (pyIter (.ref d)) Q E s := by
  obtain ⟨o, es, ho, hc, hdat, hk⟩ := id hm
  refine wpAny_pyIter_slot hm.ty F.slot_dict_iter (wpAny_call_entry F.slot_dict_iter hm.ty F.entry_dict_iter ?_ (F.args_dict_iter_1 _))
  unfold Builtin.«dict.__iter__» Builtin.Dict.dictSlotNone
  refine wpAny_bind (wpAny_bind (wpAny_notOrdered_dict hm.ty ?_))
  show wpAny _ _ (pure (Value.ref d)) _ _ s
  refine wpAny_pure ?_
  show wpAny _ _ (Builtin.Dict.showsAll d >>= _) _ _ s
  unfold Builtin.Dict.showsAll
  rw [hd, if_neg Bool.false_ne_true]
  have hsz : es.size = ks.length := by rw [← hk]; simp
  refine wpAny_bind (wpAny_pure (wpAny_bind (wpAny_dictEntries ho hdat (wpAny_bind (wpAny_dictEpoch ho hdat (wpAny_bind (wpAny_newObj_type (wpAny_pure ⟨_, rfl, "dict_keyiterator", _, ⟨_, Heap.get?_push_size _ rfl, rfl⟩, F.slot_dict_keyiterator_next.lookup, ?_⟩))))))))
  simpa [rawInt, hsz] using hQ
theorem zdh {v : Value} {Q : Option Value → Shared → Prop} (hit : s.heap.IsKeyIter it d i ks.length ep) (hm : RawD s.heap d ks ep) (hx : ks[i]? = some v)
    (hQ : ∀ h', h'.IsKeyIter it d (i + 1) ks.length ep → Heap.SameBut it s.heap h' → Q (some v) { s with heap := h' }) : wpAny (model prog w) A (pyNext (.ref it)) Q E s := by
  obtain ⟨o, ho, hc, hd⟩ := id hit
  obtain ⟨od, es, hod, hcd, hdd, hk⟩ := id hm
  have hsz : es.size = ks.length := by rw [← hk]; simp
  have hlt : i < es.size := by rw [hsz]; exact (List.getElem?_eq_some_iff.mp hx).1
  have hkey : es[i].key = v := by
    rw [← hk, List.getElem?_map] at hx
    simpa [hlt] using hx
  have hown : Builtin.Dict_items.ownsTuple "dict_keyiterator" = false := by decide
  unfold pyNext
  refine wpAny_bind (wpAny_attempt (wpAny_callSpecial?_slot (name := Str.ofString "__next__") hit.typeIs F.slot_dict_keyiterator_next (wpAny_call_entry F.slot_dict_keyiterator_next hit.typeIs F.entry_dict_keyiterator_next ?_ (F.args_dict_keyiterator_next_1 _))))
  refine wpAny_bind (wpAny_pure (wpAny_bind (wpAny_bind ?_)))
  first | refine wpAny_bind (wpAny_typeNameOfWhole_keyiter hit.typeIs (wpAny_pure (wpAny_bind (wpAny_fieldsOf ho hd ?_)))) | refine wpAny_bind (wpAny_typeNameOf_keyiter hit.typeIs (wpAny_pure (wpAny_bind (wpAny_fieldsOf ho hd ?_))))
  simp only [hown, Bool.false_eq_true, if_false]
  show wpAny _ _ (if (Value.ref d == Value.none) = true then _ else _) _ _ s
  rw [if_neg (show ¬ ((Value.ref d == Value.none) = true) from Bool.false_ne_true)]
  refine wpAny_bind (wpAny_pure (wpAny_bind (wpAny_dictEntries hod hdd ?_)))
  rw [if_neg (by rw [hsz]; simp)]
  refine wpAny_bind (wpAny_pure (wpAny_bind (wpAny_dictEpoch hod hdd ?_)))
  rw [if_neg (by simp)]
  refine wpAny_pure ?_
  simp only [show ¬ ((i : Int) < 0) from by omega, if_false, Int.toNat_natCast, Array.getElem?_eq_getElem hlt]
  refine wpAny_bind ?_
  first | refine wpAny_bind (wpAny_typeNameOfWhole_keyiter hit.typeIs (wpAny_pure (wpAny_bind (wpAny_isOneOf_keyiter hit.typeIs ?_)))) | refine wpAny_bind (wpAny_typeNameOf_keyiter hit.typeIs (wpAny_pure (wpAny_bind (wpAny_isOneOf_keyiter hit.typeIs ?_))))
  show wpAny _ _ (setField (.ref it) 1 (rawInt ((i : Int) + 1)) >>= _) _ _ s
  refine wpAny_bind (wpAny_setField ho hd (by simp) ?_)
  have hit' : (s.heap.update it (Obj.mapFields (·.setIfInBounds 1 (rawInt ((i : Int) + 1))))).IsKeyIter it d (i + 1) ks.length ep :=
    ⟨_, Heap.get?_update_self _ ho (Obj.isFreed_of_fields (Obj.data_mapFields hd _)), (Obj.cls_mapFields ..).trans hc, by rw [Obj.data_mapFields hd]; simp [rawInt]⟩
  refine wpAny_bind (wpAny_holding (wpAny_bind (wpAny_isOneOf_keyiter (s := { s with heap := s.heap.update it (Obj.mapFields (·.setIfInBounds 1 (rawInt ((i : Int) + 1)))) }) hit'.typeIs ?_)))
  show wpAny _ _ (pure es[i].key) _ _ _
  rw [hkey]
  exact wpAny_pure (wpAny_pure ⟨_, rfl, wpAny_pure (hQ _ hit' (Heap.SameBut.update ..))⟩)
theorem zeq {Q : Option Value → Shared → Prop} (hh : A.handled = none) (hit : s.heap.IsKeyIter it d ks.length ks.length ep) (hm : RawD s.heap d ks ep) (hQ : ∀ h', Heap.ExtBut it s.heap h' → Q none { s with heap := h' }) : wpAny (model prog w) A (pyNext (.ref it)) Q E s := by
  obtain ⟨o, ho, hc, hd⟩ := id hit
  obtain ⟨od, es, hod, hcd, hdd, hk⟩ := id hm
  have hsz : es.size = ks.length := by rw [← hk]; simp
  have hge : es.size ≤ ks.length := Nat.le_of_eq hsz
  have hown : Builtin.Dict_items.ownsTuple "dict_keyiterator" = false := by decide
  unfold pyNext
  refine wpAny_bind (wpAny_attempt (wpAny_callSpecial?_slot (name := Str.ofString "__next__") hit.typeIs F.slot_dict_keyiterator_next (wpAny_call_entry F.slot_dict_keyiterator_next hit.typeIs F.entry_dict_keyiterator_next ?_ (F.args_dict_keyiterator_next_1 _))))
  refine wpAny_bind (wpAny_pure (wpAny_bind (wpAny_bind ?_)))
  first | refine wpAny_bind (wpAny_typeNameOfWhole_keyiter hit.typeIs (wpAny_pure (wpAny_bind (wpAny_fieldsOf ho hd ?_)))) | refine wpAny_bind (wpAny_typeNameOf_keyiter hit.typeIs (wpAny_pure (wpAny_bind (wpAny_fieldsOf ho hd ?_))))
  simp only [hown, Bool.false_eq_true, if_false]
  show wpAny _ _ (if (Value.ref d == Value.none) = true then _ else _) _ _ s
  rw [if_neg (show ¬ ((Value.ref d == Value.none) = true) from Bool.false_ne_true)]
  refine wpAny_bind (wpAny_pure (wpAny_bind (wpAny_dictEntries hod hdd ?_)))
  rw [if_neg (by rw [hsz]; simp)]
  refine wpAny_bind (wpAny_pure (wpAny_bind (wpAny_dictEpoch hod hdd ?_)))
  rw [if_neg (by simp)]
  refine wpAny_pure ?_
  simp only [show ¬ ((ks.length : Int) < 0) from by omega, if_false, Int.toNat_natCast, Array.getElem?_eq_none hge]
  refine wpAny_bind ?_
  first | refine wpAny_bind (wpAny_typeNameOfWhole_keyiter hit.typeIs (wpAny_pure ?_)) | refine wpAny_bind (wpAny_typeNameOf_keyiter hit.typeIs (wpAny_pure ?_))
  show wpAny _ _ (setField (.ref it) 0 .none >>= _) _ _ s
  refine wpAny_bind (wpAny_setField ho hd (by simp) ?_)
  show wpAny _ _ (newExc (.type "StopIteration") [] >>= _) _ _ _
  refine wpAny_bind ?_
  simp only [newExc, newTuple]
  refine wpAny_bind (wpAny_newObj_type (wpAny_bind (m := firstArgMember _ _) (wpAny_of_eq (a := Value.none) (by first | rfl | (simp only [firstArgMember]; rfl)) (wpAny_newObj_type ?_ (by size_fits)))) (by size_fits))
  simp only [raiseNew]
  refine wpAny_bind (wpAny_handled ?_)
  rw [show A.in1.handled = none from hh]
  refine wpAny_bind (wpAny_pure (wpAny_throw ?_))
  refine wpAny_bind (wpAny_isInstance (T := "StopIteration") (b := true) ⟨_, Heap.get?_push_size _ rfl, rfl⟩ isSubtype_stop ?_)
  exact wpAny_pure (hQ _ (((Heap.SameBut.update ..).extBut.push _).push _))
theorem zcM (hh : A.handled = none) (I d : Addr) (hne : d ≠ I) (ks : List Value) (ep : Nat) : Walks prog w A I [I, d] [I] ks.length (fun i v => ks[i]? = some v) (fun i h => h.IsKeyIter I d i ks.length ep ∧ RawD h d ks ep) where
  sub := fun b hb => by simp at hb; simp [hb]
  frame := fun _ _ _ st hk => ⟨st.1.at fun o e => hk I (by simp) o e, st.2.at fun o e => hk d (by simp) o e⟩
  item := fun i s Q E hi st hQ => by
    refine zdh (v := ks[i]) st.1 st.2 (List.getElem?_eq_getElem hi) fun h' hit' hs' => hQ _ h' s.toks (List.getElem?_eq_getElem hi) ⟨hit', st.2.at fun o e => hs'.extBut _ _ hne e⟩ fun b o hb e => hs'.extBut b o (fun h => hb (by simp [h])) e
  done := fun s Q E st hQ => zeq hh st.1 st.2 fun h' he' => hQ h' s.toks fun b o hb e => he' b o (fun h => hb (by simp [h])) e
  self := fun _ _ _ _ st hQ => wpAny_pyIter_keyiter st.1 hQ
theorem zd0 (lo : (d == sysModules) = false) : KdlSrc prog w "dict" d d ks.length (fun i v => ks[i]? = some v) (fun h => RawD h d ks ep) where
  type := fun _ hm => hm.ty
  there := fun _ hm => ⟨hm.lt, hm.lt⟩
  keep := fun _ _ hm hk => hm.at fun o e => hk d (.inl rfl) o e
  notList := by decide
  notTuple := by decide
  hint := fun _ _ _ _ hm hq => kdl_hint_dict hm.ty hq
  iter := fun _ _ hh hm => ⟨_, _, (fun _ _ hq => zdu lo hm hq), zcM hh _ d (Nat.ne_of_lt hm.lt) ks ep, ⟨⟨_, Heap.get?_push_size _ rfl, rfl, rfl⟩, hm.at fun o e => Heap.get?_push_of_some _ e⟩⟩
end
end HT
namespace L2
open PySem PySem.Spec PyProof.Rows PySem.W
def kI (ns : List Int) : List Key := ns.map Sum.inl
theorem zeY (ns : List Int) : (kI ns).map kV = ns.map V.int := by unfold kI; rw [List.map_map]; rfl
theorem zd7 {a b : List Int} (e : kI a = kI b) : a = b := by
  unfold kI at e
  exact List.map_inj_right (fun x y h => by cases h; rfl) |>.mp e
section
variable {X : Cx} {pins : List (Addr × Obj)} {σ : St} {H : Hp} {s : Shared}
theorem Jg (I : Inv X pins σ H s) {p : Addr} {ns : List Int} (h : H p = some (.tup (ns.map V.int))) : ∃ (its : List Value) (o : Obj) (m : Nat), IntsAre its ns ∧ s.heap.get? p = some o ∧ o.cls = .type "tuple" ∧ o.data = .seq its.toArray m := by
  obtain ⟨_, its, r, o, e, hc, m, hd⟩ := I.hok p _ h
  exact ⟨its, o, m, by simpa using intsAre_of r, e, hc, hd⟩
end
theorem zan {prog : Program} {w : World} {A : Around} {Q : Bool → Shared → Prop} {s : Shared} {f : Bool} : ∀ {xs ys : List Value} {as bs : List Int} (i : Nat), IntsAre xs as → IntsAre ys bs → f = decide (as.length < bs.length) → Q (HT.lexLt as bs) s → KatLex prog w A true f Q (xs.zip ys) i s
  | [], _, _, _, i, .nil, .nil, hf, h => by subst hf; exact kat_nil h
  | [], _, _, _, i, .nil, .cons m u hj, hf, h => by subst hf; exact kat_nil h
  | _, [], _, _, i, .cons n t hi, .nil, hf, h => by subst hf; exact kat_nil h
  | _, _, _, _, i, .cons n t (ns := as) hi, .cons m u (ns := bs) hj, hf, h => by
    rw [List.zip_cons_cons]
    refine kat_cons (wpAny_eqBool_int ?_)
    rw [HT.qK] at h
    by_cases e : n = m
    · rw [if_pos e] at h
      rw [show (n == m) = true by simp [e]]
      exact kat_yes (zan (i + 1) hi hj (by rw [hf]; simp) h)
    · rw [if_neg e] at h
      rw [show (n == m) = false by simp [e]]
      refine kat_no ?_
      by_cases hi0 : i = 0
      · subst hi0
        exact oneLt_int h
      · rw [show (true && i == 0) = false by simp [hi0]]
        exact kat_one _ _ (HT.zad A s n t m u prog w _ _ h)
section
variable {X : Cx} {pins : List (Addr × Obj)} {σ : St} {H : Hp} {s : Shared}
theorem zc1 (I : Inv X pins σ H s) {A : Around} {p q : Addr} {as bs : List Int} (hp : H p = some (.tup (as.map V.int))) (hq : H q = some (.tup (bs.map V.int))) {Q : Bool → Shared → Prop} {E : Value → Shared → Prop} (h : Q (HT.lexLt as bs) s) :
    wpAny (model X.prog X.w) A (keyLt' (tuples' true) (.ref p) (.ref q)) Q E s := by
  obtain ⟨its, o, m, hi, e, _, hd⟩ := Jg I hp
  obtain ⟨its', o', m', hi', e', _, hd'⟩ := Jg I hq
  refine kat_lt e hd e' hd' ?_
  rw [List.size_toArray, List.size_toArray, hi.length, hi'.length]
  exact zan 0 (by simpa using hi) (by simpa using hi') rfl h
end
theorem Qx {X : Cx} {pins : List (Addr × Obj)} {σ : St} {H : Hp} {s : Shared} (I : Inv X pins σ H s) : ∀ zs : List (Addr × List Int), (∀ z ∈ zs, H z.1 = some (.tup (z.2.map V.int)) ∧ z.2 ≠ []) → ∃ fs : List Value, KatTups s.heap (zs.map fun z => Value.ref z.1) fs ∧ fs.length = zs.length ∧ ∀ v ∈ fs, ∃ n t, v = Value.int n t
  | [], _ => ⟨[], KatTups.nil, rfl, fun v hv => by cases hv⟩
  | z :: zs, h => by
    obtain ⟨fs, h1, h2, h3⟩ := Qx I zs fun q hq => h q (.tail _ hq)
    obtain ⟨za, zl⟩ := z
    obtain ⟨hz, hne⟩ := h (za, zl) (.head _)
    obtain ⟨its, o, m, hi, e, hc, hd⟩ := Jg I hz
    simp only at hi hne
    cases hi with
    | nil => exact absurd rfl hne
    | cons n t hi =>
      refine ⟨.int n t :: fs, KatTups.cons e hc hd (by simp) h1, by simp [h2], fun v hv => ?_⟩
      rcases List.mem_cons.mp hv with rfl | hv
      · exact ⟨n, t, rfl⟩
      · exact h3 v hv
theorem zeg {ls : List (List Int)} (nd : ls.Nodup) : HT.Ord (fun i j => HT.lexLt (ls.getD i []) (ls.getD j [])) ls.length := by
  have ge : ∀ i, (h : i < ls.length) → ls.getD i [] = ls[i] := fun i h => by rw [List.getD_eq_getElem?_getD, List.getElem?_eq_getElem h]; rfl
  refine ⟨fun i j k _ _ _ h1 h2 => HT.qW _ _ _ h1 h2, fun i j hi hj hij h => ?_, fun i j hi hj h => ?_⟩
  · have ne : ls.getD i [] ≠ ls.getD j [] := fun z => by
      rw [ge i hi, ge j hj] at z
      exact hij ((List.getElem_inj nd).mp z)
    have := HT.Yj _ _ ne
    rw [h] at this
    exact this
  · cases e : HT.lexLt (ls.getD j []) (ls.getD i []) with
    | false => rfl
    | true =>
      have := HT.qW _ _ _ h e
      rw [HT.uC] at this
      cases this
theorem zcd {zs : List (Addr × List Int)} {p : List Nat} (hp : p.Perm (List.range zs.length)) (hw : p.Pairwise (fun i j => HT.lexLt ((zs.map (·.2)).getD i []) ((zs.map (·.2)).getD j []) = true)) :
    ∃ zs' : List (Addr × List Int), zs'.Perm zs ∧ zs'.Pairwise (fun x y => HT.lexLt x.2 y.2 = true) ∧ (p.map fun i => (zs.map fun z => Value.ref z.1).getD i Value.none) = zs'.map fun z => Value.ref z.1 := by
  have g : ∀ i ∈ p, (zs.map (·.2)).getD i [] = (zs.getD i (0, [])).2 ∧ (zs.map fun z => Value.ref z.1).getD i Value.none = Value.ref (zs.getD i (0, [])).1 := fun i hi => by
    have hi' := List.mem_range.mp (hp.mem_iff.mp hi)
    constructor
    · rw [List.getD_eq_getElem?_getD, List.getD_eq_getElem?_getD, List.getElem?_map, List.getElem?_eq_getElem hi']; rfl
    · rw [List.getD_eq_getElem?_getD, List.getD_eq_getElem?_getD, List.getElem?_map, List.getElem?_eq_getElem hi']; rfl
  refine ⟨p.map fun i => zs.getD i (0, []), HT.Ve _ zs hp, ?_, ?_⟩
  · rw [List.pairwise_map]
    refine List.Pairwise.imp_of_mem ?_ hw
    intro i j hi hj h
    rw [(g i hi).1, (g j hj).1] at h
    exact h
  · rw [List.map_map]
    exact List.map_congr_left fun i hi => (g i hi).2
theorem zae {H : Hp} : ∀ {kvs : List (List Key × V)} {xs : List (List Key × Addr × Value)} {ls : List (List Int)}, KT H kvs xs → kvs.map (·.1) = ls.map kI → ∃ zs : List (Addr × List Int), zs.map (·.2) = ls ∧ (xs.map fun x => Value.ref x.2.1) = zs.map (fun z => Value.ref z.1) ∧ (∀ z ∈ zs, H z.1 = some (.tup (z.2.map V.int))) ∧ xs.map (·.1) = ls.map kI
  | [], [], ls, .nil, e => by
    cases ls with
    | nil => exact ⟨[], rfl, rfl, by simp, rfl⟩
    | cons _ _ => simp at e
  | p :: kvs, q :: xs, ls, .cons h t, e => by
    cases ls with
    | nil => simp at e
    | cons l ls =>
      rw [List.map_cons, List.map_cons] at e
      injection e with e1 e2
      obtain ⟨zs, h1, h2, h3, h4⟩ := zae t e2
      refine ⟨(q.2.1, l) :: zs, by simp [h1], by simp [h2], fun z hz => ?_, ?_⟩
      · rcases List.mem_cons.mp hz with rfl | hz
        · have := h.2.1
          rw [e1, zeY] at this
          exact this
        · exact h3 z hz
      · rw [List.map_cons, List.map_cons, h4, ← h.1, e1]
section
variable {X : Cx}
def zea : List V → Hp → VK → Prop := fun xs H Q => ∃ (a : Addr) (kvs : List (List Key × V)) (ls : List (List Int)), xs = [.ref a] ∧ H a = some (.dT kvs) ∧ kvs.map (·.1) = ls.map kI ∧ ls.length ≤ 60 ∧ (∀ l ∈ ls, l ≠ []) ∧
  ∀ (p : Addr) (zs' : List (Addr × List Int)), H p = none → (zs'.map (·.2)).Perm ls → zs'.Pairwise (fun x y => HT.lexLt x.2 y.2 = true) → (∀ z ∈ zs', H z.1 = some (.tup (z.2.map V.int))) → Q (.ref p) (upd H p (.lst (zs'.map fun z => V.ref z.1)))
theorem zdd (hcalm : X.calm = true := by rfl) : uK X (.builtin "sorted") zea := by
  intro pins s σ H xs us Q I r h
  obtain ⟨a, kvs, ls, rfl, ha, hks, h60, hne, q⟩ := h
  obtain ⟨u, rfl, rx⟩ := vals1 r
  cases rx
  obtain ⟨z, hd, xs, rel, o, es, ep, h1, h2, h3, h4, h5, h6⟩ := zdF I.hok ha
  obtain ⟨zs, hz2, hzr, hzt, hx1⟩ := zae rel hks
  have hzl : zs.length = ls.length := by rw [← hz2, List.length_map]
  have nd : (zs.map (·.2)).Nodup := by
    rw [hz2]
    rw [hx1] at h6
    exact (List.pairwise_map.mp h6).imp fun hab e => hab (by rw [e])
  have hraw : HT.RawD s.heap a (zs.map fun z => Value.ref z.1) ep := ⟨o, es, h1, h2, h3, by rw [h4, List.map_map, ← hzr]; rfl⟩
  have hkl : (zs.map fun z => Value.ref z.1).length = zs.length := List.length_map ..
  have hO := zeg nd
  rw [List.length_map] at hO
  have hzt' : ∀ z ∈ zs, H z.1 = some (.tup (z.2.map V.int)) ∧ z.2 ≠ [] := fun z hz => ⟨hzt z hz, hne _ (by rw [← hz2]; exact List.mem_map.mpr ⟨z, hz, rfl⟩)⟩
  refine HT.zc7 (n := zs.length) (κ := tuples' true) (Pv := fun vs => vs = zs.map fun z => Value.ref z.1) (by omega) (fun R hR => ?_) fun vs hl hv => ?_
  · refine kdu_collect (A := X.A.in1) (HT.zd0 (ks := zs.map fun z => Value.ref z.1) (ep := ep) hd) (I.ok.hd hcalm) hraw (by rw [hkl]; exact Nat.le_trans (show zs.length ≤ 60 by omega) (by decide)) fun h' tk acc hk hacc => ?_
    have hal : acc.toList.length = zs.length := by rw [Array.length_toList, hacc.1, hkl]
    refine hR h' tk acc.toList hk hal ?_
    apply List.ext_getElem?
    intro i
    cases e : acc.toList[i]? with
    | some v => exact (hacc.2 i v (by rw [← Array.getElem?_toList]; exact e)).symm
    | none => rw [List.getElem?_eq_none (by rw [hkl, ← hal]; exact List.getElem?_eq_none_iff.mp e)]
  · subst hv
    have gr : ∀ i, i < zs.length → (zs.map fun z => Value.ref z.1).getD i Value.none = .ref (zs.getD i (0, [])).1 ∧ (zs.map (·.2)).getD i [] = (zs.getD i (0, [])).2 ∧ zs.getD i (0, []) ∈ zs := fun i hi => by
      have e : zs.getD i (0, []) = zs[i] := by rw [List.getD_eq_getElem?_getD, List.getElem?_eq_getElem hi]; rfl
      rw [e]
      refine ⟨?_, ?_, List.getElem_mem _⟩
      · rw [List.getD_eq_getElem?_getD, List.getElem?_map, List.getElem?_eq_getElem hi]; rfl
      · rw [List.getD_eq_getElem?_getD, List.getElem?_map, List.getElem?_eq_getElem hi]; rfl
    refine ⟨_, hO, fun G tk kG hn2 Q' hq => ?_, fun G tk kG i j C hi hj hC => ?_, fun p h' h'' tk e hp hw k1 k2 hat => ?_⟩
    · obtain ⟨fs, ht, hfl, hfi⟩ := Qx (I.kept (t' := tk) kG) zs hzt'
      refine kat_kind (T := .type "int") ht (by omega) (fun v hv => ?_) (by decide) (by rw [show (Value.type "int" != Value.type "tuple") = true by decide]; exact hq)
      obtain ⟨n, t, rfl⟩ := hfi v hv
      exact Looks.of_pure rfl
    · obtain ⟨a1, a2, a3⟩ := gr i hi
      obtain ⟨b1, b2, b3⟩ := gr j hj
      unfold kas_ask
      rw [a1, b1]
      refine zc1 (I.kept (t' := tk) kG) (hzt _ a3) (hzt _ b3) ?_
      rw [a2, b2] at hC
      exact hC
    · obtain ⟨zs', pm, pw, hm⟩ := zcd hp hw
      rw [hm] at hat
      have I1 := I.kept (t' := tk) k1
      have hfree : H h'.objs.size = none := I1.hok.fresh (Nat.le_refl _)
      have hl' : zs'.length = zs.length := pm.length_eq
      refine ⟨.ref h'.objs.size, _, I1.laid (t' := tk) (o := .lst (zs'.map fun z => V.ref z.1)) k2 (Nat.le_refl _) ⟨by rw [List.length_map]; exact Nat.le_trans (show zs'.length ≤ 60 by omega) (by decide), _, e, Xn zs', hat⟩, rfl, q _ zs' hfree (by rw [← hz2]; exact pm.map _) pw fun z hz => hzt z (pm.mem_iff.mp hz)⟩
end
open PySem PySem.Spec PyProof.Rows
theorem xK {X : Cx} (K : PySem.W.Frag) {e : Expr} {f : Str} {pos : Pos} {ta : TE} (he : PE X e ta) (hb : attributeBase e f X.env (eval e X.env) = eval e X.env := by rfl) (ek : X.K = K := by rfl) : PE X (.Attribute e f pos) (zeQ K ta f) := by subst ek; exact zd2 he hb
structure Mt (K : PySem.W.Frag) (C : Addr) (q x : Str) (st : Stmt) (ps : List Str) (f : Addr) (fd : FuncData) : Prop where
  fn : Fun K x q st f fd
  b : Binds K fd ps []
  m : Meth K C x f
theorem w5 {X : Cx} {C : Addr} {q x : Str} {st : Stmt} {ps : List Str} {f : Addr} {fd : FuncData} {k : Nat} {sp : Sp} {o e : Expr} {es : List Expr} {ta : TE} {t : TA} {apos pos : Pos} {pl : Sem Bool} (D : Mt X.K C q x st ps f fd) (c : Cls X.K C) (G : FnOk X.prog X.w X.K X.mg X.base CX0 k f fd ps sp) (hr : Room k X.A) (he : PE X o ta) (ha : PA X (e :: es) t)
    (hst : starEach (e :: es) X.env = (false, eval e X.env) :: starEach es X.env := by rfl) (hpl : (backTo pos (starEach es X.env)).any (·.1) = false := by rfl)
    (ht : eval (.Call (.Attribute o x apos) (e :: es) [] pos) X.env = (do
      let ov ← eval o X.env
      standAt apos.atName
      let (f, first) ← holding [ov] (getMethod ov x pl)
      callWith pos f first (backTo pos (starEach (e :: es) X.env)) (backToKw pos (keywordEach [] X.env))) := by rfl) : PE X (.Call (.Attribute o x apos) (e :: es) [] pos) (zdK C x sp [] E0 ta t) :=
  zdv he c D.m G hr D.b .nil XD ha hst hpl ht
structure Qd (mg : Str → Option Value) : Prop where
  n_sum : mg "sum" = none
  n_abs : mg "abs" = none
  n_zip : mg "zip" = none
  n_str : mg "str" = none
theorem zco {a : Int} (h : -1 ≤ a) : Builtin.Range.rangeSize a (-1) (-1) = a + 1 := by
  unfold Builtin.Range.rangeSize
  rw [if_neg (by omega)]
  by_cases h1 : -1 < a
  · rw [if_pos h1, show (a - -1 - 1) = a by omega, show (- -1 : Int) = 1 from rfl, Int.ediv_one]
  · rw [if_neg h1]
    omega
theorem zdb {a : Int} (h : -1 ≤ a) (h2 : a ≤ 1000) : Builtin.Range.small a (-1) (-1) = true := by
  unfold Builtin.Range.small
  rw [zco h]
  simp only [Builtin.Range.rangeFitsLong, Bool.and_eq_true, Bool.or_eq_true, decide_eq_true_eq, beq_iff_eq]
  first
    | omega
    | (simp; omega)
def zeT (ta : TA) : TI := fun σ H R => ta σ H fun vs H1 => ∃ i : Int, vs = [.int i, .int (-1), .int (-1)] ∧ -1 ≤ i ∧ i ≤ 1000 ∧ R (zbw i (-1) (i + 1).toNat) H1
section
variable {X : Cx} {tg : Expr}
theorem zbY {pins : List (Addr × Obj)} {σ : St} {H : Hp} {s : Shared} {R : It → Hp → Prop} {E : Value → Shared → Prop} {lo : Int} {t u v : Tok} {tk : Nat} (I : Inv X pins σ H s) (h1 : -1 ≤ lo) (h2 : lo ≤ 1000)
    (q : R (zbw lo (-1) (lo + 1).toNat) H) : wpAny (model X.prog X.w) X.A (pyIter (.ref s.heap.objs.size)) (PIE X pins σ tg R) E { s with heap := s.heap.push { cls := .type "range", data := .fields #[.int lo t, .int (-1) u, .int (-1) v] }, toks := tk } := by
  refine wpAny_pyIter_range (IsRange.new ..) (zdb h1 h2) ?_
  have I1 : Inv X pins σ H { s with heap := s.heap.push { cls := .type "range", data := .fields #[.int lo t, .int (-1) u, .int (-1) v] }, toks := tk } := I.kept fun b o e => Heap.get?_push_of_some _ e
  refine ⟨_, [(s.heap.push { cls := .type "range", data := .fields #[.int lo t, .int (-1) u, .int (-1) v] }).objs.size], _, _, H, rfl,
    I1.kept (t' := tk) fun b o e => Heap.get?_push_of_some _ e, JG _ lo (-1) (lo + 1).toNat, ?_, fun b hb => ?_, q⟩
  · have e1 : lo + ((0 : Nat) : Int) * (-1) = lo := by simp
    have e2 : (((lo + 1).toNat : Nat) : Int) - ((0 : Nat) : Int) = Builtin.Range.rangeSize lo (-1) (-1) := by rw [zco h1]; omega
    show IsRangeIter _ _ (lo + ((0 : Nat) : Int) * (-1)) ((((lo + 1).toNat : Nat) : Int) - ((0 : Nat) : Int)) (-1)
    rw [e1, e2]
    exact Heap.get?_push_size _ rfl
  · have e : b = (s.heap.push { cls := .type "range", data := .fields #[.int lo t, .int (-1) u, .int (-1) v] }).objs.size := by simpa using hb
    subst e
    exact I1.fpOk (Nat.le_refl _) (I1.hok.fresh (Nat.le_refl _))
theorem zbW {a b d : Expr} {ta : TA} {p pos : Pos} (hg : Gl X "range") (hm : X.mg "range" = none) (ha : PA X [a, b, d] ta) (hs : starEach [a, b, d] X.env = [(false, eval a X.env), (false, eval b X.env), (false, eval d X.env)] := by rfl) (hs2 : starEach [b, d] X.env = [(false, eval b X.env), (false, eval d X.env)] := by rfl) :
    PI X tg (.Call (.Name "range" p) [a, b, d] [] pos) (zeT ta) := by
  intro pins s σ H R I h
  refine Call_ (jt I hg hm boot_range (PyProof.Rows.callWith_type1 (thn (ha pos pins s σ H _ I h) fun us s1 ⟨vs, H1, I1, r1, q1⟩ => ?_) (by rw [hs, hs2]) (by rw [hs2]; rfl)))
  obtain ⟨i, e, q1, q2, q⟩ := q1
  subst e
  cases r1 with
  | cons r rr =>
    cases rr with
    | cons r' rr =>
      cases rr with
      | cons r'' rr =>
        cases rr
        obtain ⟨t, rfl⟩ := r
        obtain ⟨t', rfl⟩ := r'
        obtain ⟨t'', rfl⟩ := r''
        exact call_range_3 (by omega) (zbY I1 q1 q2 q) (Or.inl (PyProof.noPylong_small (by omega)))
end
theorem Inv.turned2 {X : Cx} {pins : List (Addr × Obj)} {σ : St} {H : Hp} {s : Shared} {h' : Heap} {e it T : Addr} {o : HO} {t' : Nat} (I : Inv X pins σ H s) (k : ∀ b o, b ≠ e → b ≠ it → s.heap.get? b = some o → h'.get? b = some o) (fe : WF X pins H e) (fi : WF X pins H it) (hT : s.heap.objs.size ≤ T)
    (new : ObjOk X.prog X.w (upd H T o) h' T o) : Inv X pins σ (upd H T o) { s with heap := h', toks := t' } := by
  have hn : H T = none := I.hok.fresh hT
  have na : ∀ b u, H b = some u → b ≠ T := fun b u e z => by rw [z, hn] at e; cases e
  have ne : ∀ b u, H b = some u → b ≠ e := fun b u q z => by rw [z, fe.1] at q; cases q
  have ni : ∀ b u, H b = some u → b ≠ it := fun b u q z => by rw [z, fi.1] at q; cases q
  have k' : ∀ b o, b ∉ [e, it] → s.heap.get? b = some o → h'.get? b = some o := fun b o hb q => k b o (fun z => hb (by simp [z])) (fun z => hb (by simp [z])) q
  refine I.step (g' := s.gens) (d' := s.drawn) (ch := [e, it]) (fun b hb => ?_) (fun b o _ _ hc q _ => k' b o hc q) (fun b o _ _ hc q _ => ⟨o.slots, k' b o hc q⟩) (fun b o hc q n => by rw [zx (Nat.ne_of_lt (Nat.lt_of_lt_of_le (Heap.lt_size q) hT))]; exact n)
    (fun b o hc q => ⟨o, k' b o hc q⟩) (fun b xs q => by rw [zx (na b _ q)]; exact q) (fun b o u q => by rw [zx (na b _ q)]; exact q) (fun b ps q => ⟨#[], by rw [zx (na b _ q), q]; simp⟩) (fun m hm => ?_) (fun b u q => ?_) I.bare
  · rcases List.mem_cons.mp hb with z | hb
    · subst z; exact ⟨fe.2.2.2.1, fe.2.1, fe.2.2.2.2.1, fe.2.2.2.2.2⟩
    · have z : b = it := by simpa using hb
      subst z; exact ⟨fi.2.2.2.1, fi.2.1, fi.2.2.2.2.1, fi.2.2.2.2.2⟩
  · obtain ⟨o, es, ep, ho, r⟩ := hm
    exact ⟨o, es, ep, k _ o (Ne.symm fe.2.1) (Ne.symm fi.2.1) ho, r⟩
  · by_cases hb : b = T
    · subst hb
      rw [zm] at q
      cases q
      exact new
    · rw [zx hb] at q
      refine (I.hok b u q).stay (fun c v hc z => k c v ?_ ?_ z) (fun c z => by rw [zx (na c _ z)]; exact z) fun c xs z => by rw [zx (na c _ z)]; exact z
      · rcases hc with rfl | hc
        · exact ne _ _ q
        · exact ne _ _ hc
      · rcases hc with rfl | hc
        · exact ni _ _ q
        · exact ni _ _ hc
def Ite (K : PySem.W.Frag) (a : Addr) : It :=
  ⟨fun i H => ∃ xs x, SqL K H a xs ∧ xs[i]? = some x, fun i H v H' => ∃ T x, v = .ref T ∧ H T = none ∧ H' = upd H T (.tup [.int (i : Nat), x]) ∧ ∀ xs, SqL K H a xs → xs[i]? = some x, fun i H => ∃ xs, SqL K H a xs ∧ xs.length ≤ i⟩
theorem zb1 {P : Program} {w : World} {K : PySem.W.Frag} {elts : List Expr} {k : Nat} {tp : Pos} (a e it : Addr) (hei : e ≠ it) : Turn P w K (.Tuple elts k tp) (Ite K a) [e, it] e (fun i h => (∃ old, IsEnum h e it i old) ∧ h.IsListIter it a i) where
  mem := by simp
  obj := fun i h st b hb => by
    obtain ⟨⟨old, he⟩, o, hi, c, d⟩ := st
    rcases List.mem_cons.mp hb with z | hb
    · subst z
      exact ⟨_, he, fun v z => by
        have z' : Data.fields _ = Data.cell v := z
        cases z'⟩
    · have z : b = it := by simpa using hb
      subst z
      exact ⟨o, hi, fun v z => by rw [d] at z; cases z⟩
  keep := fun i h h' st k => by
    obtain ⟨⟨old, he⟩, hi⟩ := st
    exact ⟨⟨old, k e (by simp) _ he⟩, hi.at fun o q => k it (by simp) o q⟩
  item := by
    intro X hP hw hK hc i pins s σ H E I hf st hg
    subst hP hw hK
    obtain ⟨xs, x, hq, hx⟩ := hg
    obtain ⟨its, rv, p, hz⟩ := I.list hq
    obtain ⟨u, hu, ru⟩ := rv.get hx
    obtain ⟨⟨old, he⟩, hi⟩ := st
    refine wpAny_pyNext_enum_item he hi p.isList (x := u) (by simpa using hu) hei fun h' ho hi' hT hsz hk => ?_
    refine ⟨_, rfl, ?_⟩
    refine wpAny_letOwnedTupleGo_enum (s := { s with heap := h', toks := s.toks + 1 }) ho fun h'' he' hs' => ?_
    have helt : e < s.heap.objs.size := Heap.lt_size he
    have hT2 : h''.get? s.heap.objs.size = some { cls := .type "tuple", data := .seq #[.int i s.toks, u] } := (hs'.2 _ (Nat.ne_of_gt helt)).trans hT
    have fe := hf e (by simp)
    have fi := hf it (by simp)
    have I1 : Inv X pins σ (upd H s.heap.objs.size (.tup [.int (i : Nat), x])) { s with heap := h'', toks := s.toks + 1 } := by
      refine I.turned2 (fun b o hb1 hb2 q => (hs'.2 b hb1).trans (hk b o hb1 hb2 q)) fe fi (Nat.le_refl _) ⟨by show 2 ≤ sizeLine; decide, [.int i s.toks, u], .cons ⟨_, rfl⟩ (.cons ru .nil), _, hT2, rfl, 0, rfl⟩
    refine ⟨.ref s.heap.objs.size, _, I1, rfl, ⟨s.heap.objs.size, x, rfl, I.hok.fresh (Nat.le_refl _), rfl, fun ys hy => by rw [I.list_inj hy hq]; exact hx⟩, ⟨⟨_, by simpa using he'⟩, hi'.at fun o q => (hs'.2 it (Ne.symm hei)).trans q⟩, fun b hb => ?_⟩
    have hbl : b < s.heap.objs.size := by
      rcases List.mem_cons.mp hb with z | hb
      · rw [z]; exact helt
      · have z : b = it := by simpa using hb
        obtain ⟨o, q, _⟩ := hi
        rw [z]; exact Heap.lt_size q
    rw [zx (Nat.ne_of_lt hbl)]
    exact (hf b hb).1
  done := by
    intro X hP hw hK hc i pins s σ H E I hf st hg
    subst hP hw hK
    obtain ⟨xs, hq, hx⟩ := hg
    obtain ⟨its, rv, p, hz⟩ := I.list hq
    obtain ⟨⟨old, he⟩, hi⟩ := st
    obtain ⟨f0, f1, f2, f3, f4, f5⟩ := hf it (by simp)
    have hl := rv.length
    exact wpAny_pyNext_enum_end (I.ok.hd hc) he hi p.isList (by simp; omega) fun h' eb => ⟨rfl, I.turned (t' := s.toks) (fun b o hb q => eb b o hb q) f0 f1 f3 f4 f5⟩
  self := fun _ _ _ _ _ st h => by
    obtain ⟨⟨old, he⟩, _⟩ := st
    exact wpAny_pyIter_enum he h
section
variable {X : Cx}
def zey (K : PySem.W.Frag) (tl : TA) : TI := fun σ H R => tl σ H fun vs H1 => ∃ a, vs = [.ref a] ∧ (∃ xs, SqL K H1 a xs) ∧ R (Ite K a) H1
theorem Jp (K : PySem.W.Frag) {elts : List Expr} {k : Nat} {tp : Pos} {a : Expr} {ta : TA} {p pos : Pos} (hg : Gl X "enumerate") (hm : X.mg "enumerate" = none) (ha : PA X [a] ta) (hs : starEach [a] X.env = [(false, eval a X.env)] := by rfl) (ek : X.K = K := by rfl) :
    PI X (.Tuple elts k tp) (.Call (.Name "enumerate" p) [a] [] pos) (zey K ta) := by
  subst ek
  intro pins s σ H R I h
  refine Call_ (jt I hg hm boot_enumerate (PyProof.Rows.callWith_type1 (thn (ha pos pins s σ H _ I h) fun us s1 ⟨vs, H1, I1, r1, q1⟩ => ?_) (by rw [hs]; rfl) (by rfl)))
  obtain ⟨l, e, ⟨xs, hq⟩, q⟩ := q1
  subst e
  cases r1 with
  | cons r rr =>
    cases rr
    cases r
    obtain ⟨its, rv, pl, hz⟩ := I1.list hq
    refine call_enumerate_list pl.isList fun h' he hi hsz hk => ?_
    refine wpAny_pyIter_enum (s := { s1 with heap := h' }) he ?_
    have I2 : Inv X pins σ H1 { s1 with heap := h' } := I1.kept (t' := s1.toks) fun b o q => hk b o q
    refine ⟨s1.heap.objs.size + 1, [s1.heap.objs.size + 1, s1.heap.objs.size], _, _, H1, rfl, I2, zb1 l _ _ (Nat.succ_ne_self _), ⟨⟨_, he⟩, hi⟩, fun b hb => ?_, q⟩
    have hb2 : s1.heap.objs.size ≤ b := by
      rcases List.mem_cons.mp hb with z | hb
      · rw [z]; exact Nat.le_succ _
      · have z : b = s1.heap.objs.size := by simpa using hb
        rw [z]; exact Nat.le_refl _
    exact I1.fpOk hb2 (I1.hok.fresh hb2)
theorem JH {K : PySem.W.Frag} {a : Addr} {xs : List V} {g : TG} {tb : TS} {D : Ends} {σ : St} {H : Hp} (Pv : Nat → St → Hp → Prop) (h0 : Pv 0 σ H) (hl : ∀ i σ H, i ≤ xs.length → Pv i σ H → SqL K H a xs)
    (hs : ∀ i x σ H T, xs[i]? = some x → Pv i σ H → H T = none → g (.ref T) σ (upd H T (.tup [.int (i : Nat), x])) fun σ2 H2 => tb { D with nx := Pv (i + 1), ct := Pv (i + 1), bk := D.nx } σ2 H2) (hd : ∀ σ H, Pv xs.length σ H → D.nx σ H) :
    ∃ W : Nat → Nat → St → Hp → Prop, (∃ m, W 0 m σ H) ∧ ∀ i m σ H, W i m σ H →
      ((Ite K a).stop i H ∧ D.nx σ H) ∨ ((Ite K a).go i H ∧ ∃ N : St → Hp → Prop, (∀ σ' H', N σ' H' → ∃ m', m' < m ∧ W (i + 1) m' σ' H') ∧ ∀ x H', (Ite K a).yld i H x H' → g x σ H' fun σ2 H2 => tb { D with nx := N, ct := N, bk := D.nx } σ2 H2) := by
  refine ⟨fun i m σ H => m = xs.length - i ∧ i ≤ xs.length ∧ Pv i σ H, ⟨xs.length, by simp, Nat.zero_le _, h0⟩, ?_⟩
  rintro i m σ H ⟨rfl, hi, p⟩
  have q := hl i σ H hi p
  by_cases hlt : i < xs.length
  · have hx : xs[i]? = some xs[i] := List.getElem?_eq_getElem hlt
    refine .inr ⟨⟨xs, xs[i], q, hx⟩, Pv (i + 1), fun σ' H' p' => ⟨xs.length - (i + 1), by omega, rfl, hlt, p'⟩, fun v H' y => ?_⟩
    obtain ⟨T, x, rfl, hT, rfl, hy⟩ := y
    have e2 := hy xs q
    rw [hx] at e2
    cases e2
    exact hs i xs[i] σ H T hx p hT
  · have e : i = xs.length := by omega
    subst e
    exact .inl ⟨⟨xs, q, Nat.le_refl _⟩, hd σ H p⟩
end
open PySem PySem.Spec PyProof.Rows PySem.SeqAt
section
variable {X : Cx}
def zbk (K : PySem.W.Frag) : V → List V → Hp → VK → Prop := fun x vs H Q => ∃ (l : Addr) (ns : List Int) (k : Int), x = .ref l ∧ vs = [.int k] ∧ SqL K H l (ns.map V.int) ∧ Q (.int (ns.count k : Nat)) H
theorem zbQ : MtM X "list.count" (zbk X.K) := by
  intro pins s σ H x vs v us Q I rx rv h
  obtain ⟨l, ns, k, rfl, rfl, hq, q⟩ := h
  cases rx
  obtain ⟨u0, rfl, ru⟩ := Vals.one rv
  obtain ⟨its, r, pl, hz⟩ := I.list hq
  obtain ⟨t, rfl⟩ := ru
  exact count_list_ints pl.isList (intsAre_of r) ⟨.int (ns.count k : Nat), H, I.kept fun b o e => e, ⟨_, rfl⟩, q⟩
theorem zcE (K : PySem.W.Frag) (e : X.K = K := by rfl) : MtM X "list.count" (zbk K) := by subst e; exact zbQ
end
theorem zaC {K : PySem.W.Frag} {a : Addr} {xs : List V} {ns : List Str} {js : List Nat} {g : TG} {tt : TT} {te : TE} {σ : St} {H : Hp} {Q : VK} (Pv : Nat → List V → Hp → Prop) (h0 : Pv 0 [] H) (hl : ∀ i ys H, i ≤ xs.length → Pv i ys H → SqL K H a xs)
    (hs : ∀ i x ys H T, xs[i]? = some x → Pv i ys H → H T = none → ys.length < sizeLine ∧ g (.ref T) (nones ns ++ vh js σ) (upd H T (.tup [.int (i : Nat), x])) fun σ' H1 => (∃ vs : St, vs.length = ns.length ∧ σ' = vs ++ vh js σ) ∧ tt σ' H1 fun b H2 => if b = true then te σ' H2 fun v H3 => Pv (i + 1) (ys ++ [v]) H3 else Pv (i + 1) ys H2)
    (hz : ∀ i ys H, i < xs.length → Pv i ys H → ys.length < sizeLine)
    (hd : ∀ ys H, Pv xs.length ys H → ∀ D, H D = none → Q (.ref D) (upd H D (.lst ys))) :
    Qz (Ite K a) ns js g tt te σ Q H := by
  refine ⟨fun i m ys H => m = xs.length - i ∧ i ≤ xs.length ∧ Pv i ys H, ⟨xs.length, by simp, Nat.zero_le _, h0⟩, ?_⟩
  rintro i m ys H ⟨rfl, hi, p⟩
  have q := hl i ys H hi p
  by_cases hlt : i < xs.length
  · have hx : xs[i]? = some xs[i] := List.getElem?_eq_getElem hlt
    refine .inr ⟨⟨xs, xs[i], q, hx⟩, hz i ys H hlt p, Pv (i + 1), fun ys' H' p' => ⟨xs.length - (i + 1), by omega, rfl, hlt, p'⟩, fun v H' y => ?_⟩
    obtain ⟨T, x, rfl, hT, rfl, hy⟩ := y
    have e2 := hy xs q
    rw [hx] at e2
    cases e2
    exact (hs i xs[i] ys H T hx p hT).2
  · have e : i = xs.length := by omega
    subst e
    exact .inl ⟨⟨xs, q, Nat.le_refl _⟩, hd ys H p⟩
end L2
namespace Lw
def ZC (ls : List (List Int)) (b t : Nat) : Option (List Int) → Nat → Nat
  | some x, c => if lacks ls (x ++ [(c : Int)]) = true then cnt ls b t (zY ls (x ++ [(c : Int)])) else 0
  | none, c => if c = 0 then jr ls b t else if lacks ls [(c : Int)] = true then cnt ls b t (zY ls [(c : Int)]) else 0
def under (ls : List (List Int)) (b t : Nat) (o : Option (List Int)) (s : Nat) : Nat := ((List.range s).map (ZC ls b t o)).sum
theorem XN (ls : List (List Int)) (b t : Nat) (o : Option (List Int)) : under ls b t o 0 = 0 := rfl
theorem Yg (ls : List (List Int)) (b t : Nat) (o : Option (List Int)) (s : Nat) : under ls b t o (s + 1) = under ls b t o s + ZC ls b t o s := by
  unfold under
  rw [List.range_succ, List.map_append, List.sum_append]
  simp
def Rep (ls : List (List Int)) (b m : Nat) (o : Option (List Int)) : Prop := (m = 0 ∧ o = none) ∨ (1 ≤ m ∧ gd ls b m = true ∧ o = some (zY ls (yp b m)))
theorem uY {b m c : Nat} (h2 : 2 ≤ b) (h1 : 1 ≤ m) (hc : c < b) : yp b (m * b + c) = yp b m ++ [(c : Int)] := by
  have hge : b ≤ m * b + c := by
    have : 1 * b ≤ m * b := Nat.mul_le_mul_right b h1
    omega
  rw [Wr h2 hge]
  have e1 : (m * b + c) / b = m := by rw [Nat.add_comm, Nat.add_mul_div_right _ _ (by omega), Nat.div_eq_of_lt hc, Nat.zero_add]
  have e2 : (m * b + c) % b = c := by rw [Nat.add_comm, Nat.add_mul_mod_self_right, Nat.mod_eq_of_lt hc]
  rw [e1, e2]
theorem JR {b m c : Nat} (h2 : 2 ≤ b) (h1 : 1 ≤ m) : 1 ≤ m * b + c := by
  have : 1 * b ≤ m * b := Nat.mul_le_mul_right b h1
  omega
theorem Xm {b m : Nat} (h2 : 2 ≤ b) (h1 : 1 ≤ m) : ∀ (t r : Nat), r < b ^ t → yp b (m * b ^ t + r) = yp b m ++ vp b t r
  | 0, r, hr => by
    have : r = 0 := by rw [Nat.pow_zero] at hr; omega
    subst this
    rw [Nat.pow_zero, Nat.mul_one, Nat.add_zero, vp, List.append_nil]
  | t + 1, r, hr => by
    have hp : 0 < b ^ t := Nat.pow_pos (by omega)
    have hc : r / b ^ t < b := by
      rw [Nat.div_lt_iff_lt_mul hp]
      rw [Nat.pow_succ', ] at hr
      exact hr
    have hm : r % b ^ t < b ^ t := Nat.mod_lt _ hp
    have e : m * b ^ (t + 1) + r = (m * b + r / b ^ t) * b ^ t + r % b ^ t := by
      have h := Nat.div_add_mod r (b ^ t)
      rw [Nat.pow_succ', Nat.add_mul, Nat.mul_assoc, Nat.add_assoc, Nat.mul_comm (r / b ^ t), h]
    have h1' : 1 ≤ m * b + r / b ^ t := JR h2 h1
    rw [e, Xm h2 h1' t _ hm, uY h2 h1 hc, vp, List.append_assoc]
    rfl
theorem Ub {ls : List (List Int)} (ne : ∀ l ∈ ls, l ≠ []) {b m : Nat} {o : Option (List Int)} (h2 : 2 ≤ b) (R : Rep ls b m o) (t : Nat) {c : Nat} (hc : c < b) : ZC ls b t o c = many (fun r => gd ls b ((m * b + c) * b ^ t + r)) (b ^ t) := by
  rcases R with ⟨rfl, rfl⟩ | ⟨h1, hg, rfl⟩
  · rw [Nat.zero_mul, Nat.zero_add]
    show (if c = 0 then _ else _) = _
    by_cases h0 : c = 0
    · subst h0
      rw [if_pos rfl, jX ne h2]
      apply uQ
      intro r _
      rw [Nat.zero_mul, Nat.zero_add]
    · rw [if_neg h0, QB ne h2 (by omega) hc]
  · have e := Uw (x := yp b m) ne (b := b) (t := t) (VP ne t) c
    show (if lacks ls (zY ls (yp b m) ++ [(c : Int)]) = true then cnt ls b t (zY ls (zY ls (yp b m) ++ [(c : Int)])) else 0) = _
    rw [Zf ne _ hg, Zg, ← e]
    apply uQ
    intro r hr
    show lacks ls _ = gd ls b _
    rw [gd, Xm h2 (JR h2 h1) t r hr, uY h2 h1 hc, qj hr, List.append_assoc]
    rfl
theorem Ze {ls : List (List Int)} (ne : ∀ l ∈ ls, l ≠ []) {b m : Nat} {o : Option (List Int)} (h2 : 2 ≤ b) (R : Rep ls b m o) (t : Nat) : ∀ {s : Nat}, s ≤ b → many (gd ls b) (m * b ^ (t + 1)) + under ls b t o s = many (gd ls b) ((m * b + s) * b ^ t)
  | 0, _ => by rw [XN, Nat.add_zero, Nat.pow_succ', show (m * b + 0) * b ^ t = m * (b * b ^ t) by rw [Nat.add_zero, Nat.mul_assoc]]
  | s + 1, hs => by
    rw [Yg, ← Nat.add_assoc, Ze ne h2 R t (s := s) (by omega), Ub ne h2 R t (show s < b by omega), ← Nat.add_assoc, Nat.succ_mul (m * b + s), Xf]
theorem Rep.step {ls : List (List Int)} (ne : ∀ l ∈ ls, l ≠ []) {b m : Nat} {o : Option (List Int)} (h2 : 2 ≤ b) (R : Rep ls b m o) {c : Nat} (hc : c < b) :
    (o = none ∧ c = 0 ∧ Rep ls b (m * b + c) none) ∨ (¬ (o = none ∧ c = 0) ∧ ((lacks ls (o.getD [] ++ [(c : Int)]) = true ∧ Rep ls b (m * b + c) (some (zY ls (o.getD [] ++ [(c : Int)])))) ∨ (lacks ls (o.getD [] ++ [(c : Int)]) = false ∧ 1 ≤ m * b + c ∧ gd ls b (m * b + c) = false))) := by
  rcases R with ⟨rfl, rfl⟩ | ⟨h1, hg, rfl⟩
  · by_cases h0 : c = 0
    · left; exact ⟨rfl, h0, .inl ⟨by rw [h0]; omega, rfl⟩⟩
    · right
      refine ⟨fun z => h0 z.2, ?_⟩
      rw [Nat.zero_mul, Nat.zero_add]
      show (lacks ls [(c : Int)] = true ∧ _) ∨ (lacks ls [(c : Int)] = false ∧ _)
      have eg : gd ls b c = lacks ls [(c : Int)] := by unfold gd; rw [tL hc]
      cases hl : lacks ls [(c : Int)] with
      | true => left; exact ⟨rfl, .inr ⟨by omega, by rw [eg]; exact hl, by rw [tL hc]; rfl⟩⟩
      | false => right; exact ⟨rfl, by omega, by rw [eg]; exact hl⟩
  · right
    refine ⟨fun z => (nomatch z.1), ?_⟩
    have hm : 1 ≤ m * b + c := JR h2 h1
    show (lacks ls (zY ls (yp b m) ++ [(c : Int)]) = true ∧ Rep ls b (m * b + c) (some (zY ls (zY ls (yp b m) ++ [(c : Int)])))) ∨ (lacks ls (zY ls (yp b m) ++ [(c : Int)]) = false ∧ _)
    rw [Zf ne _ hg, Zg]
    have eg : gd ls b (m * b + c) = lacks ls (yp b m ++ [(c : Int)]) := by unfold gd; rw [uY h2 h1 hc]
    cases hl : lacks ls (yp b m ++ [(c : Int)]) with
    | true => left; exact ⟨rfl, .inr ⟨hm, by rw [eg]; exact hl, by rw [uY h2 h1 hc]⟩⟩
    | false => right; exact ⟨rfl, hm, by rw [eg]; exact hl⟩
theorem zay {ls : List (List Int)} (ne : ∀ l ∈ ls, l ≠ []) {b m : Nat} (h2 : 2 ≤ b) (h1 : 1 ≤ m) (hg : gd ls b m = false) (t : Nat) {r : Nat} (hr : r ≤ b ^ t) : many (gd ls b) (m * b ^ t + r) = many (gd ls b) (m * b ^ t) := by
  rw [Xf, Xp (N := r)]
  · omega
  intro k hk
  show gd ls b _ = false
  cases hc : gd ls b (m * b ^ t + k) with
  | false => rfl
  | true =>
    unfold gd at hc hg
    rw [Xm h2 h1 t k (by omega)] at hc
    rw [WR ne hc] at hg
    cases hg
theorem JS {b : Nat} : ∀ {t n k : Nat}, k < t → n < b ^ t → (vp b t n)[k]? = some (((n / b ^ (t - 1 - k)) % b : Nat) : Int)
  | 0, _, _, hk, _ => by omega
  | t + 1, n, 0, _, hn => by
    have : n / b ^ t < b := by
      rw [Nat.pow_succ'] at hn
      rcases Nat.eq_zero_or_pos (b ^ t) with h | h
      · rw [h] at hn; omega
      · rw [Nat.div_lt_iff_lt_mul h]; exact hn
    rw [vp, List.getElem?_cons_zero, show t + 1 - 1 - 0 = t by omega, Nat.mod_eq_of_lt this]
  | t + 1, n, k + 1, hk, hn => by
    have hb : 0 < b := by
      rcases Nat.eq_zero_or_pos b with h | h
      · subst h; rw [Nat.zero_pow (by omega)] at hn; omega
      · exact h
    rw [vp, List.getElem?_cons_succ, JS (by omega) (Nat.mod_lt _ (Nat.pow_pos hb))]
    have e : t + 1 - 1 - (k + 1) = t - 1 - k := by omega
    rw [e]
    generalize hj : t - 1 - k = j
    obtain ⟨q, hq⟩ : ∃ q, t = j + (q + 1) := ⟨t - j - 1, by omega⟩
    rw [hq, Nat.pow_add, Nat.mod_mul_right_div_self, Nat.pow_succ', Nat.mod_mul_right_mod]
theorem J8 {b n N k : Nat} (h2 : 2 ≤ b) (hN : (yp b n).length = N) (hk : k < N) : (yp b n)[k]? = some (((n / b ^ (N - 1 - k)) % b : Nat) : Int) := by
  obtain ⟨K, rfl⟩ : ∃ K, N = K + 1 := ⟨N - 1, by omega⟩
  obtain ⟨h1, h3⟩ := (zap h2).mp hN
  rw [← Xl h2 K n h1 h3, ← UJ]
  exact JS hk h1
theorem YW {b n N : Nat} (h2 : 2 ≤ b) (hN : (yp b n).length = N) : n < b ^ N := by
  cases N with
  | zero => exact absurd (List.length_eq_zero_iff.mp hN) QT
  | succ K => exact ((zap h2).mp hN).1
theorem zaq {b n t : Nat} (hb : 0 < b) : n / b ^ t = n / b ^ (t + 1) * b + (n / b ^ t) % b := by
  have h := Nat.div_add_mod (n / b ^ t) b
  rw [Nat.div_div_eq_div_mul, ← Nat.pow_succ, Nat.mul_comm] at h
  exact h.symm
theorem V9 {p : Nat → Bool} {g n : Nat} (hg : p g = true) (h : many p n ≤ many p g) : n ≤ g := by
  by_cases z : n ≤ g
  · exact z
  · have := VV p (show g < n by omega) hg
    omega
theorem zaP {p : Nat → Bool} {g n : Nat} (h : many p g < many p n) : g < n := by
  by_cases z : g < n
  · exact z
  · have := jW p (show n ≤ g by omega)
    omega
theorem Z3 {ls ms : List (List Int)} (h : ∀ l ∈ ls, l ∈ ms) {fs : List Int} (q : lacks ms fs = true) : lacks ls fs = true := by
  unfold lacks at *
  rw [Bool.not_eq_true', List.any_eq_false] at q ⊢
  intro st hst
  exact q st (h st hst)
def wsum (w : Nat → Nat) (sc : Nat) : List Int → Nat
  | [] => 0
  | c :: l => sc ^ l.length * w c.toNat + wsum w sc l
def tot (p : Nat → Bool) (f : Nat → Nat) : Nat → Nat
  | 0 => 0
  | n + 1 => tot p f n + (if p n = true then f n else 0)
theorem vR {p q : Nat → Bool} {f g : Nat → Nat} : ∀ {N : Nat}, (∀ n, n < N → p n = q n) → (∀ n, n < N → f n = g n) → tot p f N = tot q g N
  | 0, _, _ => rfl
  | N + 1, h, k => by rw [tot, tot, vR (N := N) (fun n hn => h n (by omega)) (fun n hn => k n (by omega)), h N (by omega), k N (by omega)]
theorem Uv {p : Nat → Bool} {f : Nat → Nat} : ∀ {N : Nat}, (∀ n, n < N → p n = false) → tot p f N = 0
  | 0, _ => rfl
  | N + 1, h => by rw [tot, Uv (N := N) fun n hn => h n (by omega), h N (by omega)]; rfl
theorem Wx (p : Nat → Bool) (f : Nat → Nat) (A : Nat) : ∀ B : Nat, tot p f (A + B) = tot p f A + tot (fun n => p (A + n)) (fun n => f (A + n)) B
  | 0 => rfl
  | B + 1 => by rw [← Nat.add_assoc, tot, tot, Wx p f A B, Nat.add_assoc]
theorem Jw (p : Nat → Bool) (f : Nat → Nat) (B : Nat) : ∀ A : Nat, tot p f (A * B) = ((List.range A).map fun c => tot (fun r => p (c * B + r)) (fun r => f (c * B + r)) B).sum
  | 0 => by simp [tot]
  | A + 1 => by
    rw [Nat.succ_mul, Wx, Jw p f B A, List.range_succ, List.map_append, List.sum_append]
    simp
theorem V6 (p : Nat → Bool) (f : Nat → Nat) (a : Nat) : ∀ N : Nat, tot p (fun n => a + f n) N = a * many p N + tot p f N
  | 0 => by simp [tot, many]
  | N + 1 => by
    rw [tot, tot, many, V6 p f a N]
    by_cases h : p N = true
    · rw [if_pos h, if_pos h, if_pos h, Nat.mul_add]; omega
    · rw [if_neg h, if_neg h, if_neg h, Nat.add_zero, Nat.add_zero, Nat.add_zero]
theorem zb6 (p : Nat → Bool) (f : Nat → Nat) {A B : Nat} (h : A ≤ B) : tot p f A ≤ tot p f B := by
  obtain ⟨k, rfl⟩ := Nat.exists_eq_add_of_le h
  rw [Wx]; omega
theorem UL (b : Nat) : ∀ t r : Nat, (vp b t r).length = t
  | 0, _ => rfl
  | t + 1, r => by rw [vp, List.length_cons, UL b t]
def tt (ls : List (List Int)) (b : Nat) (w : Nat → Nat) (sc : Nat) : Nat → List Int → Nat
  | 0, _ => 0
  | t + 1, x => ((List.range b).map fun (c : Nat) => if lacks ls (x ++ [(c : Int)]) = true then sc ^ t * w c * cnt ls b t (zY ls (x ++ [(c : Int)])) + tt ls b w sc t (zY ls (x ++ [(c : Int)])) else 0).sum
def ttO (ls : List (List Int)) (b : Nat) (w : Nat → Nat) (sc : Nat) : Nat → Nat
  | 0 => w 0 * jr ls b 0
  | t + 1 => ((List.range b).map fun (c : Nat) => if c = 0 then ttO ls b w sc t else if lacks ls [(c : Int)] = true then sc ^ t * w c * cnt ls b t (zY ls [(c : Int)]) + tt ls b w sc t (zY ls [(c : Int)]) else 0).sum
theorem JD {ls : List (List Int)} (ne : ∀ l ∈ ls, l ≠ []) {b t sc : Nat} {w : Nat → Nat} (ih : ∀ x, lacks ls x = true → tot (fun r => lacks ls (x ++ vp b t r)) (fun r => wsum w sc (vp b t r)) (b ^ t) = tt ls b w sc t (zY ls x)) {x : List Int} (c : Nat) :
    tot (fun r => lacks ls (x ++ vp b (t + 1) (c * b ^ t + r))) (fun r => wsum w sc (vp b (t + 1) (c * b ^ t + r))) (b ^ t) = if lacks ls (x ++ [(c : Int)]) = true then sc ^ t * w c * cnt ls b t (zY ls (x ++ [(c : Int)])) + tt ls b w sc t (zY ls (x ++ [(c : Int)])) else 0 := by
  have e1 : tot (fun r => lacks ls (x ++ vp b (t + 1) (c * b ^ t + r))) (fun r => wsum w sc (vp b (t + 1) (c * b ^ t + r))) (b ^ t) = tot (fun r => lacks ls (x ++ [(c : Int)] ++ vp b t r)) (fun r => sc ^ t * w c + wsum w sc (vp b t r)) (b ^ t) := by
    apply vR
    · intro r hr
      show lacks ls _ = lacks ls _
      rw [qj hr, List.append_assoc]
      rfl
    · intro r hr
      show wsum w sc _ = _
      rw [qj hr, wsum, UL]
      rfl
  rw [e1, V6]
  by_cases h : lacks ls (x ++ [(c : Int)]) = true
  · rw [if_pos h, ih _ h, VP ne t _ h]
  · rw [if_neg h]
    have hn : ∀ r, r < b ^ t → lacks ls (x ++ [(c : Int)] ++ vp b t r) = false := by
      intro r _
      cases hc : lacks ls (x ++ [(c : Int)] ++ vp b t r) with
      | false => rfl
      | true => exact absurd (WR ne hc) h
    rw [Xp hn, Uv hn]
    simp
theorem zaT {ls : List (List Int)} (ne : ∀ l ∈ ls, l ≠ []) {b sc : Nat} {w : Nat → Nat} : ∀ (t : Nat) (x : List Int), lacks ls x = true → tot (fun r => lacks ls (x ++ vp b t r)) (fun r => wsum w sc (vp b t r)) (b ^ t) = tt ls b w sc t (zY ls x)
  | 0, x, h => by
    rw [Nat.pow_zero, tot, tot, tt, vp, wsum]
    simp
  | t + 1, x, h => by
    rw [Nat.pow_succ', Jw, tt]
    apply qO
    intro c _
    rw [JD ne (zaT ne t), Zf ne _ h, Zg]
theorem zaf {ls : List (List Int)} (ne : ∀ l ∈ ls, l ≠ []) {b t c sc : Nat} {w : Nat → Nat} (h2 : 2 ≤ b) (h1 : 1 ≤ c) (hc : c < b) : tot (fun r => gd ls b (c * b ^ t + r)) (fun r => wsum w sc (yp b (c * b ^ t + r))) (b ^ t) = if lacks ls [(c : Int)] = true then sc ^ t * w c * cnt ls b t (zY ls [(c : Int)]) + tt ls b w sc t (zY ls [(c : Int)]) else 0 := by
  have e := JD (x := []) ne (b := b) (t := t) (w := w) (sc := sc) (zaT ne t) c
  rw [List.nil_append] at e
  rw [← e]
  apply vR
  · intro r hr
    show gd ls b _ = lacks ls _
    rw [gd, V1 h2 h1 hc hr, List.nil_append, qj hr]
  · intro r hr
    show wsum w sc _ = wsum w sc _
    rw [V1 h2 h1 hc hr, qj hr]
theorem Jl {ls : List (List Int)} (ne : ∀ l ∈ ls, l ≠ []) {b sc : Nat} {w : Nat → Nat} (h2 : 2 ≤ b) : ∀ t : Nat, ttO ls b w sc t = tot (gd ls b) (fun n => wsum w sc (yp b n)) (b ^ t)
  | 0 => by
    rw [Nat.pow_zero, tot, tot, ttO, Nat.zero_add]
    unfold gd
    rw [tL (show 0 < b by omega), jr]
    show w 0 * (if lacks ls [0] = true then 1 else 0) = if lacks ls [0] = true then wsum w sc [0] else 0
    split <;> simp [wsum]
  | t + 1 => by
    rw [Nat.pow_succ', Jw, ttO]
    apply qO
    intro c hc
    by_cases h0 : c = 0
    · subst h0
      rw [if_pos rfl, Jl ne h2 t]
      apply vR <;> intro r _ <;> simp
    · rw [if_neg h0, zaf ne h2 (by omega) hc]
theorem wsum_snoc (w : Nat → Nat) (sc : Nat) (c : Int) : ∀ l : List Int, wsum w sc (l ++ [c]) = sc * wsum w sc l + w c.toNat
  | [] => by simp [wsum]
  | d :: l => by
    rw [List.cons_append, wsum, wsum, wsum_snoc w sc c l, List.length_append, List.length_singleton, Nat.pow_succ', Nat.mul_add, Nat.mul_assoc]
    omega
theorem JK {b : Nat} (h2 : 2 ≤ b) (n : Nat) : wsum (fun c => c) b (yp b n) = n := by
  induction n using Nat.strongRecOn with
  | _ n ih =>
    by_cases h : n < b
    · rw [tL h]; simp [wsum]
    · have h1 : 1 ≤ n / b := Nat.div_pos (by omega) (by omega)
      have hc : n % b < b := Nat.mod_lt _ (by omega)
      have e : n / b * b + n % b = n := by rw [Nat.mul_comm]; exact Nat.div_add_mod n b
      have ef := uY h2 h1 hc
      rw [e] at ef
      rw [ef, wsum_snoc, ih (n / b) (Nat.div_lt_self (by omega) (by omega)), Nat.mul_comm]
      exact e
theorem zbm {ls : List (List Int)} (ne : ∀ l ∈ ls, l ≠ []) {b : Nat} (h2 : 2 ≤ b) (t : Nat) : ttO ls b (fun c => c) b t = tot (gd ls b) (fun n => n) (b ^ t) := by
  rw [Jl ne h2]
  exact vR (fun _ _ => rfl) (fun n _ => JK h2 n)
theorem Wm {p q : Nat → Bool} {f : Nat → Nat} (h : ∀ n, p n = true → q n = true) : ∀ N : Nat, tot p f N ≤ tot q f N
  | 0 => Nat.le_refl _
  | N + 1 => by
    rw [tot, tot]
    have := Wm (f := f) h N
    by_cases hp : p N = true
    · rw [if_pos hp, if_pos (h N hp)]; omega
    · rw [if_neg hp]; omega
theorem zcu {p : Nat → Bool} {f : Nat → Nat} {hi : Nat} : ∀ {N : Nat}, (∀ n, n < N → p n = true → f n ≤ hi) → tot p f N ≤ many p N * hi
  | 0, _ => by simp [many, tot]
  | N + 1, h => by
    rw [many, tot]
    have := zcu (N := N) fun n hn => h n (by omega)
    by_cases hp : p N = true
    · have := h N (by omega) hp
      rw [if_pos hp, if_pos hp, Nat.add_mul]; omega
    · rw [if_neg hp, if_neg hp, Nat.add_zero, Nat.add_zero]; exact this
end Lw
namespace L2
open PySem PySem.Spec PyProof.Rows
section
variable {X : Cx}
def zaD (te : TE) : TE := fun σ H Q => te σ H fun x H1 => ∃ n : Nat, x = .int n ∧ n ≤ 1000 ∧ ∀ q, H1 q = none → Q (.ref q) (upd H1 q (.lst ((List.range n).map fun (c : Nat) => V.int c)))
theorem zaV : ∀ {n : Nat} {its : List Value}, its.length = n → (∀ (i : Nat) v, its[i]? = some v → ∃ t, v = Value.int (0 + (i : Int) * 1) t) → Vals ((List.range n).map fun (c : Nat) => V.int c) its := by
  intro n its hl h
  have key : ∀ (k : Nat) (its : List Value), (∀ (i : Nat) v, its[i]? = some v → ∃ t, v = Value.int ((k : Int) + (i : Int)) t) → Vals ((List.range' k its.length).map fun (c : Nat) => V.int c) its := by
    intro k its
    induction its generalizing k with
    | nil => intro _; exact .nil
    | cons x l ih =>
      intro h
      rw [List.length_cons, List.range'_succ, List.map_cons]
      refine .cons ?_ (ih (k + 1) fun i v e => ?_)
      · obtain ⟨t, e⟩ := h 0 x rfl
        exact ⟨t, by rw [e]; simp⟩
      · obtain ⟨t, e'⟩ := h (i + 1) v (by simpa using e)
        exact ⟨t, by rw [e']; congr 1; omega⟩
  subst hl
  rw [List.range_eq_range']
  exact key 0 its fun i v e => by
    obtain ⟨t, e'⟩ := h i v e
    exact ⟨t, by rw [e']; congr 1; omega⟩
theorem Wy {e : Expr} {te : TE} {p1 p2 pos1 pos2 : Pos} (hc : X.calm = true) (hg1 : Gl X "list") (hm1 : X.mg "list" = none) (hg2 : Gl X "range") (hm2 : X.mg "range" = none) (he : PE X e te)
    (hs : starEach [e] X.env = [(false, eval e X.env)] := by rfl) (hs2 : starEach [.Call (.Name "range" p2) [e] [] pos2] X.env = [(false, eval (.Call (.Name "range" p2) [e] [] pos2) X.env)] := by rfl) :
    PE X (.Call (.Name "list" p1) [.Call (.Name "range" p2) [e] [] pos2] [] pos1) (zaD te) := by
  intro pins s σ H Q I h
  refine wpAny_Call_Name_kw (jt I hg1 hm1 boot_list ?_)
  refine PyProof.Rows.callWith_type1 ?_ hs2 rfl
  rw [hs2]
  show wpAny _ _ (spliced ((false, eval (.Call (.Name "range" p2) [e] [] pos2) X.env) :: backTo pos1 [])) _ _ s
  refine Calls.spliced_cons ?_
  refine wpAny_Call_Name_kw (jt I hg2 hm2 boot_range ?_)
  refine PyProof.Rows.callWith_type1 ?_ hs rfl
  rw [hs]
  show wpAny _ _ (spliced ((false, eval e X.env) :: backTo pos2 [])) _ _ s
  refine Calls.spliced_cons (thn (he pins s σ H _ I h) fun v s1 ⟨x, H1, I1, r1, q1⟩ => Calls.spliced_nil ?_)
  obtain ⟨n, rfl, hn, q⟩ := q1
  obtain ⟨t, rfl⟩ := r1
  refine call_range_1 (Calls.spliced_nil ?_)
  have hsz : Builtin.Range.rangeSize 0 (n : Int) 1 = (n : Nat) := by rw [rangeSize_one]; split <;> omega
  refine call_list_range (n := n) (I1.ok.hd hc) (IsRange.new ..) (small_one (by decide) (by decide) (by omega) (by omega)) hsz (Nat.le_trans hn (by decide)) fun h' tk acc' c' hk hS hacc => ?_
  simp only [Heap.size_push] at hS ⊢
  have kept : ∀ b o, s1.heap.get? b = some o → h'.get? b = some o := fun b o e => hk b o (Heap.get?_push_of_some _ e)
  have rv : Vals ((List.range n).map fun (c : Nat) => V.int c) acc'.toList := zaV (by rw [Array.length_toList]; exact hacc.1) fun i v e => hacc.2 i v (by rw [← Array.getElem?_toList]; exact e)
  have hokL := I1.laid (a := s1.heap.objs.size + 1) (o := .lst ((List.range n).map fun (c : Nat) => V.int c)) (h' := h') (t' := tk) kept (Nat.le_succ _) ⟨by rw [List.length_map, List.length_range]; exact Nat.le_trans hn (by decide), acc'.toList, c', rv, by rw [hS]⟩
  exact ⟨.ref _, _, hokL, rfl, q _ (I1.hok.fresh (Nat.le_succ _))⟩
end
def CMulB (i j : Int) : Prop := i.natAbs < 2 ^ 100000 ∧ j.natAbs < 2 ^ 100000
theorem zbr {X : Cx} : OpR X (binaryOp .Mult) (rI CMulB fun i j => .int (i * j)) := opI fun i j _ _ _ _ _ hc q => by
  have h : (100000 : Nat) ≤ 2 ^ 20 := by decide
  exact mul_int q (IntMulOk.of_bits (Nat.le_trans (intBits_le hc.1) h) (Nat.le_trans (intBits_le hc.2) h))
theorem CMulB.nat {i j k l : Nat} (h1 : i < 2 ^ k) (h2 : j < 2 ^ l) (hk : k ≤ 100000) (hl : l ≤ 100000) : CMulB (i : Int) (j : Int) :=
  ⟨by rw [Int.natAbs_natCast]; exact Nat.lt_of_lt_of_le h1 (Nat.pow_le_pow_right (Nat.le_succ 1) hk), by rw [Int.natAbs_natCast]; exact Nat.lt_of_lt_of_le h2 (Nat.pow_le_pow_right (Nat.le_succ 1) hl)⟩
end L2
namespace Lw
def End (ls : List (List Int)) (b : Nat) : Prop := ∀ L : Nat, ∃ g, gd ls b g = true ∧ b ^ L ≤ g ∧ g < b ^ (L + 1)
def Vw (b m : Nat) : Nat := if m = 1 then 0 else b ^ (m - 1)
theorem zda {b m : Nat} (h2 : 2 ≤ b) : Vw b m ≤ b ^ m := by
  unfold Vw
  split
  · exact Nat.zero_le _
  · exact Nat.pow_le_pow_right (by omega) (by omega)
theorem zc3 {ls : List (List Int)} {b m : Nat} : tot (gd ls b) (fun n => n) (b ^ (m - 1)) = tot (gd ls b) (fun n => n) (Vw b m) := by
  unfold Vw
  split
  · rename_i h
    subst h
    rw [Nat.sub_self, Nat.pow_zero, tot, tot]
    split <;> rfl
  · rfl
theorem Xi {p : Nat → Bool} {f : Nat → Nat} {A B : Nat} (hAB : A ≤ B) (h : many p A = many p B) : tot p f B = tot p f A := by
  obtain ⟨k, rfl⟩ := Nat.exists_eq_add_of_le hAB
  rw [Wx, Uv (p := fun n => p (A + n)) (f := fun n => f (A + n)) (N := k) fun n hn => ?_]
  · rfl
  · show p (A + n) = false
    cases hp : p (A + n) with
    | false => rfl
    | true =>
      have := VV p (show A + n < A + k by omega) hp
      have := jW p (show A ≤ A + n by omega)
      omega
theorem End.less {ls ms : List (List Int)} {b : Nat} (h : ∀ l ∈ ls, l ∈ ms) (e : End ms b) : End ls b := fun L => by
  obtain ⟨g, h1, h2, h3⟩ := e L
  exact ⟨g, Z3 h h1, h2, h3⟩
theorem Vq (w : Nat → Nat) (sc : Nat) (k : List Int) : ∀ l : List Int, wsum w sc (l ++ k) = sc ^ k.length * wsum w sc l + wsum w sc k
  | [] => by simp [wsum]
  | c :: l => by
    rw [List.cons_append, wsum, wsum, Vq w sc k l, List.length_append, Nat.pow_add, Nat.mul_add, ← Nat.add_assoc]
    congr 2
    rw [Nat.mul_comm (sc ^ l.length), Nat.mul_assoc]
def ahd (w : Nat → Nat) (sc b m : Nat) : Nat := if m = 0 then 0 else wsum w sc (yp b m)
theorem zcc {w : Nat → Nat} {sc b m c : Nat} (h2 : 2 ≤ b) (hc : c < b) (h : 1 ≤ m * b + c) : ahd w sc b (m * b + c) = sc * ahd w sc b m + w c := by
  unfold ahd
  rw [if_neg (by omega)]
  by_cases hm : m = 0
  · subst hm
    rw [if_pos rfl, Nat.zero_mul, Nat.zero_add, tL hc]
    simp [wsum]
  · rw [if_neg hm, uY h2 (by omega) hc, wsum_snoc]
    rfl
def fw (w : Nat → Nat) (sc b n : Nat) : Nat := wsum w sc (yp b n)
theorem zbf (p : Nat → Bool) (g : Nat → Nat → Nat) (k : Nat → Nat) (M : Nat) : ∀ N : Nat, ((List.range M).map fun c => k c * tot p (g c) N).sum = tot p (fun n => ((List.range M).map fun c => k c * g c n).sum) N
  | 0 => by
    rw [tot]
    induction M with
    | zero => rfl
    | succ M ih => rw [List.range_succ, List.map_append, List.sum_append, ih]; simp [tot]
  | N + 1 => by
    rw [tot, ← zbf p g k M N]
    induction M with
    | zero => simp
    | succ M ih =>
      rw [List.range_succ, List.map_append, List.sum_append, List.map_append, List.sum_append, List.map_append, List.sum_append, ih]
      simp only [List.map_cons, List.map_nil, List.sum_cons, List.sum_nil, Nat.add_zero, tot]
      by_cases h : p N = true
      · rw [if_pos h, if_pos h, if_pos h, Nat.mul_add]; omega
      · rw [if_neg h, if_neg h, if_neg h, Nat.add_zero, Nat.add_zero, Nat.add_zero]
theorem JQ (w : Nat → Nat) : ∀ l : List Int, wsum w 1 l = (l.map fun c => w c.toNat).sum
  | [] => rfl
  | c :: l => by rw [wsum, JQ w l, Nat.one_pow, Nat.one_mul, List.map_cons, List.sum_cons]
def one (c : Nat) : Nat → Nat := fun d => if d = c then 1 else 0
theorem QS (k : Nat → Nat) (d : Nat) : ∀ M : Nat, ((List.range M).map fun c => k c * one c d).sum = if d < M then k d else 0
  | 0 => by simp
  | M + 1 => by
    rw [List.range_succ, List.map_append, List.sum_append, QS k d M]
    simp only [List.map_cons, List.map_nil, List.sum_cons, List.sum_nil, Nat.add_zero, one]
    by_cases h : d = M
    · subst h
      rw [if_neg (Nat.lt_irrefl _), if_pos rfl, if_pos (by omega)]; omega
    · rw [if_neg h, Nat.mul_zero, Nat.add_zero]
      by_cases h2 : d < M
      · rw [if_pos h2, if_pos (by omega)]
      · rw [if_neg h2, if_neg (by omega)]
theorem U8 (k : Nat → Nat) (M : Nat) : ∀ l : List Int, (∀ f ∈ l, f.toNat < M) → ((List.range M).map fun c => k c * wsum (one c) 1 l).sum = wsum k 1 l
  | [], _ => by
    simp only [wsum, Nat.mul_zero]
    induction M with
    | zero => rfl
    | succ M ih => rw [List.range_succ, List.map_append, List.sum_append, ih (by simp)]; rfl
  | f :: l, h => by
    have ih := U8 k M l fun x hx => h x (List.mem_cons_of_mem _ hx)
    have hf := QS k f.toNat M
    rw [if_pos (h f List.mem_cons_self)] at hf
    have add : ∀ (u v : Nat → Nat) (N : Nat), ((List.range N).map fun c => u c + v c).sum = ((List.range N).map u).sum + ((List.range N).map v).sum := by
      intro u v N
      induction N with
      | zero => rfl
      | succ N ih => rw [List.range_succ, List.map_append, List.sum_append, List.map_append, List.sum_append, List.map_append, List.sum_append, ih]; simp; omega
    have e : ((List.range M).map fun c => k c * wsum (one c) 1 (f :: l)).sum = ((List.range M).map fun c => k c * one c f.toNat + k c * wsum (one c) 1 l).sum := by
      congr 1
      apply List.map_congr_left
      intro c _
      rw [wsum, Nat.one_pow, Nat.one_mul, Nat.mul_add]
    rw [e, add, hf, ih, wsum, Nat.one_pow, Nat.one_mul]
theorem U4 (c : Nat) : ∀ l : List Int, (∀ f ∈ l, 0 ≤ f) → wsum (one c) 1 l = l.count (c : Int)
  | [], _ => rfl
  | f :: l, h => by
    rw [wsum, U4 c l fun x hx => h x (List.mem_cons_of_mem _ hx), Nat.one_pow, Nat.one_mul, List.count_cons]
    have h0 := h f List.mem_cons_self
    unfold one
    by_cases e : f = (c : Int)
    · subst e; simp; omega
    · rw [if_neg (by omega), if_neg (by simpa using e)]; omega
theorem JW : ∀ l : List Int, (∀ f ∈ l, 0 ≤ f) → ((wsum (fun c => c) 1 l : Nat) : Int) = l.sum
  | [], _ => rfl
  | f :: l, h => by
    rw [wsum, List.sum_cons, ← JW l fun x hx => h x (List.mem_cons_of_mem _ hx), Nat.one_pow, Nat.one_mul, Int.natCast_add]
    have h0 := h f List.mem_cons_self
    omega
theorem zbd : ∀ n : Nat, 2 * tot (fun _ => true) (fun k => k) n = n * (n - 1)
  | 0 => rfl
  | n + 1 => by
    rw [tot, if_pos rfl, Nat.mul_add, zbd n, Nat.add_sub_cancel]
    cases n with
    | zero => rfl
    | succ n => rw [Nat.add_sub_cancel, Nat.mul_comm (n + 1) n, ← Nat.add_mul]
theorem zbc {p : Nat → Bool} {f g : Nat → Nat} (h : ∀ n, f n ≤ g n) : ∀ N, tot p f N ≤ tot p g N
  | 0 => Nat.le_refl _
  | N + 1 => by
    rw [tot, tot]
    have := zbc (p := p) h N
    have := h N
    split <;> omega
theorem JL (p : Nat → Bool) : ∀ N, tot p (fun _ => 1) N = many p N
  | 0 => rfl
  | N + 1 => by rw [tot, many, JL p N]
end Lw
namespace PySem.W.Fast
def tw9786325683620014073:=0
def tw1401401439564794600:=0
def tw2920971071715629642:=0
def tw6895748128666208968:=0
def tw1818083375428747452:=0
def tw18062604499359668486:=0
def tw12993781894910812355:=0
def tw9410136935039150700:=0
def tw14651462765349639914:=0
def tw5288492386684679501:=0
def tw3126898300497032053:=0
def tw1049253760057657396:=0
def tw17316880725700123517:=0
def tw16783823782185983770:=0
def tw14739780428070169269:=0
def tw10364740616909738316:=0
def tw1371515921238472875:=0
def tw16666777397432882397:=0
def tw5396112902532084171:=0
def tw3910112134158615991:=0
def tw5176629121090585224:=0
def tw1620901132586781267:=0
def tw17243749690105985822:=0
def tw3205770335169880726:=0
def tw17763118435282258938:=0
def tw9186514003518978393:=0
def tw4579703423782645872:=0
def tw1035213634446568242:=0
def tw11902177881310218203:=0
def tw5126828293101217083:=0
def tw7395994298619442573:=0
def tw2672687699817954262:=0
def tw17048895336839778214:=0
def tw8726883072109458309:=0
def tw14811730265930654397:=0
def tw13401394653162122301:=0
def tw9835688543801889630:=0
def tw11764388981774688365:=0
def tw1318279538971229358:=0
def tw13479388663298665768:=0
def tw6320908607630224395:=0
def tw3090448767035125566:=0
def tw13076720106491635558:=0
def tw15509531518441144717:=0
def tw8485935770291386225:=0
def tw5749152343569706244:=0
def tw358607999908504862:=0
def tw12550118969613320754:=0
def tw15954277327278258297:=0
def tw6612819269671936781:=0
def tw16869678016717837093:=0
def tw5819078711839805376:=0
def tw12787144185158695163:=0
def tw14039050972331369787:=0
def tw12644891094527182737:=0
def tw14543336703424230390:=0
def tw15021294886059311291:=0
def tw16581284858256668866:=0
def tw15791038845593714498:=0
def tw6867210914109912163:=0
def tw16132131070134666056:=0
def tw5578173388909814974:=0
def tw13942133689953345731:=0
def tw5007954634874668904:=0
def tw3099189930241644344:=0
def tw17704879133119439116:=0
def tw8610518918027534263:=0
def tw3894650971249559935:=0
def tw12720097338554252455:=0
def tw15955851061303738063:=0
def tw190487178315376778:=0
def tw14203560097279800086:=0
def tw14643244159472477989:=0
def tw8208410802377305262:=0
def tw15077320119723116162:=0
def tw16096549134434815812:=0
def tw13749722393055761490:=0
def tw2042318978291363179:=0
def tw12595971087540104322:=0
def tw5865236956546988762:=0
def tw12021608912083583630:=0
def tw5913078900324920591:=0
def tw15874365193600037638:=0
def tw10957948110234755150:=0
def tw7680663920439906986:=0
def tw12822759755566632281:=0
def tw5731792546044524972:=0
def tw14218042423423537585:=0
def tw11203246912513308451:=0
def tw1833459223435993077:=0
def tw5252211726774902031:=0
def tw3653409831149711410:=0
def tw12222971793802449038:=0
def tw1052406018502854442:=0
def tw11284358941869446351:=0
def tw14707760122696348337:=0
def tw3021535925191663494:=0
def tw8964147303445344902:=0
def tw1563017429811592772:=0
def tw15326721402763171441:=0
def tw16932210138015812430:=0
def tw17803314955324052646:=0
def tw17820335561375353271:=0
def tw12254350043774637362:=0
def tw8765253126676318152:=0
def tw16476631517088655476:=0
def tw16438799295897536770:=0
def tw1140490585351382131:=0
def tw4833170331586648253:=0
def tw17829896028353005730:=0
def tw10191388477428390226:=0
def tw2585763777866044956:=0
def tw10245564647896005593:=0
def tw13681636337728496179:=0
def tw4073609146592866278:=0
def tw9292299122134662439:=0
def tw2587167764266125676:=0
def tw6265567955868726115:=0
def tw9599957151838150588:=0
def tw16023378424087290149:=0
def tw17985779618052183018:=0
def tw659650877631382560:=0
def tw6114447219493066089:=0
def tw4293289719045845645:=0
def tw4154007307921175108:=0
def tw1918285060158521366:=0
def tw3678470657189264261:=0
def tw526618978928556326:=0
def tw3750127976032302591:=0
def tw10653252206700045002:=0
def tw8099140972167467931:=0
def tw5245043831965072802:=0
def tw14674456418895891436:=0
def tw4978155933119406466:=0
def tw2429588238404411402:=0
def tw12061666075401416402:=0
def tw7893431696984280577:=0
def tw7499075530081309543:=0
def tw1231430357813701287:=0
def tw144044144391043436:=0
def tw3679633367260523288:=0
def tw16237296154172821530:=0
def tw11177020356063642779:=0
def tw7388853281189145979:=0
def tw898342089833519547:=0
def tw1723823452078221259:=0
def tw14880085411310898011:=0
def tw6162553378582578268:=0
def tw11573361828939197492:=0
def tw12040736619069739465:=0
def tw3660946199697317920:=0
def tw9795128985683984666:=0
def tw633702994690314644:=0
def tw7816583323079367890:=0
def tw5185306622877297312:=0
def tw11052029983062484948:=0
def tw7918738357397128653:=0
def tw7111022636968860397:=0
def tw9577448819624234831:=0
def tw14829988063001689250:=0
def tw17710710418593391129:=0
def tw7531663878850219501:=0
def tw11664069137493824762:=0
def tw14822262084618556164:=0
def tw7681460640294313221:=0
def tw3390037940366886204:=0
def tw3289875982370734820:=0
def tw4020998540991307133:=0
def tw11397844129405205432:=0
def tw1586095878814148199:=0
def tw11672540709232374867:=0
def tw10026924649276556574:=0
def tw1539157690428089947:=0
def tw17686444271563183675:=0
def tw12670285871870080180:=0
def tw15068173647926953441:=0
def tw2832233653160444346:=0
def tw6671720501068903431:=0
def tw11192323553774119885:=0
def tw13866470553010504661:=0
def tw2180161145493023579:=0
def tw13689854650447831732:=0
def tw17094070736422885380:=0
def tw15327107892698241104:=0
def tw11307071212704553243:=0
def tw16473075922528057344:=0
def tw14996592050652489257:=0
def tw4842620354178653773:=0
def tw16601719416879817578:=0
def tw7759028219028098203:=0
def tw8809412575201765031:=0
def tw925830140909503568:=0
def tw7340595048411095836:=0
def tw18326086152555407629:=0
def tw9686084817684605382:=0
def tw15626122105595811399:=0
def tw16124957315701744318:=0
def tw10152262436350015867:=0
def tw18089540003471180370:=0
def tw14831230393437055161:=0
def tw8614301351249060263:=0
def tw3181424717609661748:=0
def tw12339024883106897085:=0
def tw16663828455216329501:=0
def tw11608892738585980859:=0
def tw15874650707789313288:=0
def tw7458198139316746995:=0
def tw501407097915850341:=0
def tw10560187585035508646:=0
def tw14574439483460069263:=0
def tw16048930900991635768:=0
def tw13225158013418650249:=0
def tw1112427685004628568:=0
def tw11142740733924872887:=0
def tw5880885702593858019:=0
def tw12201026425694511880:=0
def tw3800079053860456390:=0
def tw15357480953314392979:=0
def tw10097612801331213991:=0
def tw12012810266197161198:=0
def tw1988772406834714828:=0
def tw8103189047736094821:=0
def tw11653159319278694093:=0
def tw1690034265197763139:=0
def tw2278074643686143782:=0
def tw10454764129150290216:=0
def tw3275019974225624953:=0
def tw16131320355664970502:=0
def tw7375219292369739328:=0
def tw3973264823558465604:=0
def tw4433719945183184790:=0
def tw11154501313424261170:=0
def tw3876780214200945907:=0
def tw8045168133112015119:=0
def tw9835209443068444770:=0
def tw15039547323082348335:=0
def tw821509713583272135:=0
def tw14729094498824961996:=0
def tw2128421561153724711:=0
def tw11807752902367673686:=0
def tw12055453663550941424:=0
def tw12311990072241560351:=0
def tw1111238737285441840:=0
def tw1490206305296525550:=0
def tw7687931204738900983:=0
def tw5259798068818665770:=0
def tw4253591554447875315:=0
def tw16021084927022419090:=0
def tw14946785630147597198:=0
def tw6868545646359694692:=0
def tw829671272490561261:=0
def tw15116609601007960908:=0
def tw4770980191845594137:=0
def tw11873033850407217637:=0
def tw9538586049297538651:=0
def tw776786171003352525:=0
def tw7839690460527015904:=0
def tw15085200126728392775:=0
def tw18172404157374661428:=0
def tw914680274585003973:=0
def tw2453477686240910251:=0
def tw14168098634210036002:=0
def tw3215465138366727158:=0
def tw10798296917125287207:=0
def tw18223425612387194645:=0
def tw11503125554076371176:=0
def tw7837715893797313932:=0
def tw14987386121949681332:=0
def tw14072846782378576102:=0
def tw4339564048186839665:=0
def tw6481848238577091771:=0
def tw5242769750999060969:=0
def tw17724550111419208572:=0
def tw13152621633909762219:=0
def tw4103108533652427721:=0
def tw13667334661772364381:=0
def tw542304927947061866:=0
def tw16402777523312652549:=0
def tw16539996192444804668:=0
def tw11535133361938182656:=0
def tw12045689986691583355:=0
def tw17466249302166094323:=0
def tw8287975749002552272:=0
def tw15353482163381831993:=0
def tw8478388169130842462:=0
def tw15064186670812152221:=0
def tw7453582690444306060:=0
def tw9370647766345089408:=0
def tw14451340501674377131:=0
def tw8360781333905713079:=0
def tw8121729024792698079:=0
def tw7031878154450523347:=0
def tw6065946311110950335:=0
def tw14831697578999002265:=0
def tw6180203352368018111:=0
def tw1678664019190748895:=0
def tw15055904208541880577:=0
def tw12482295368269996707:=0
def tw2604983218213954690:=0
def tw956116656528751589:=0
def tw9238763910045301762:=0
def tw14351127374584084470:=0
def tw16209772398029141481:=0
def tw9439708704235159373:=0
def tw2768636430607404996:=0
def tw11925788975379175349:=0
def tw10119611819449041374:=0
def tw9562870278340820086:=0
def tw3392083402530832782:=0
def tw13490331755345284362:=0
def tw2183593613925806124:=0
def tw2262835884050007864:=0
def tw8066292863601936518:=0
def tw12337781354615797955:=0
def tw17865076049221650678:=0
def tw11902318310828504569:=0
def tw3929791609982433755:=0
def tw13762954768224670743:=0
def tw15579386227259560701:=0
def tw10576596112515768901:=0
def tw15631397368814056682:=0
def tw751437651533003670:=0
def tw16448456078838484147:=0
def tw10204395554058310060:=0
def tw1888318073466731762:=0
def tw17029181483498040523:=0
def tw1326366384429258634:=0
def tw5952095410662215919:=0
def tw14530453106960060941:=0
def tw7505137861210586004:=0
def tw2275678700097684884:=0
def tw4297843683300357640:=0
def tw9986710809012848164:=0
def tw15198024340575506116:=0
def tw12050710928042504506:=0
def tw13528800091994543001:=0
def tw16402322461311203275:=0
def tw14718868918967047940:=0
def tw7683547456516476402:=0
def tw1813652058213605635:=0
def tw15367049326698667525:=0
def tw10314220869142776897:=0
def tw14943327857695933341:=0
def tw13388635291514266978:=0
def tw4523132183003931430:=0
def tw14436332624575438376:=0
def tw15795702943455908143:=0
def tw7807466611175074256:=0
def tw15942274500841147579:=0
def tw14906420974852134595:=0
def tw3197740862154959123:=0
def tw13976148492862845502:=0
def tw15545365835320415425:=0
def tw5661278395424559905:=0
def tw5764684630657531795:=0
def tw1216492335295387243:=0
def tw4373065149640331579:=0
def tw14796821426823602330:=0
def tw5094228545107386958:=0
def tw16924148403068039611:=0
def tw4475354511172694857:=0
def tw11977217956453071665:=0
def tw16414199838624869030:=0
def tw5262326017756068515:=0
def tw9215942983152127675:=0
def tw4189398616480664752:=0
def tw7646833249630233228:=0
def tw6019210327233576216:=0
def tw13647407012628076688:=0
def tw8896008418356322970:=0
def tw1189660955207723217:=0
def tw862693144556561040:=0
def tw10482610712612362296:=0
def tw18056162521374758036:=0
def tw1338855869725791919:=0
def tw447361876795039435:=0
def tw17850289499507831029:=0
def tw2990694314067983198:=0
def tw12865963980983553767:=0
def tw251308962818256278:=0
def tw5544003609425409138:=0
def tw12110189156930383620:=0
def tw15419317308276363681:=0
def tw7319215394203719452:=0
def tw467874154008364349:=0
def tw7314487762914137715:=0
def tw382536851372434534:=0
def tw14857390328069523361:=0
def tw7727965906407613878:=0
def tw11746407858427709800:=0
def tw14778132518258486564:=0
def tw14865992219747089351:=0
def tw9659506609131258311:=0
def tw17695309114130331634:=0
def tw12327702233689899059:=0
def tw10159708843074728603:=0
def tw15547107545421553570:=0
def tw11203561418763416281:=0
def tw14858535588746545667:=0
def tw3117750945655157335:=0
def tw7902721143325460624:=0
def tw9973682287451352347:=0
def tw16192653472705719384:=0
def tw6292323502377116342:=0
def tw9052569424331128015:=0
def tw15513295820769967877:=0
def tw13517637963004289842:=0
def tw18372751767967829450:=0
def tw987079390688533474:=0
def tw18116226434308583466:=0
def tw15141219145371143062:=0
def tw6187966942875186374:=0
def tw16811092217573023302:=0
def tw14005868620396270008:=0
def tw17400524028199140073:=0
def tw13531185141351521127:=0
def tw15456316147014350202:=0
def tw60625585606931265:=0
def tw1740634851223185604:=0
def tw6743176388960229671:=0
def tw12185337532053132003:=0
def tw3179506517356469690:=0
def tw10364143713387453514:=0
def tw11366410458911425656:=0
def tw3491817706287904050:=0
def tw12530778031785662731:=0
def tw18274476934443385192:=0
def tw3967938416369535459:=0
def tw5748018250720178264:=0
def tw10174923591713221987:=0
def tw16770303956037916125:=0
def tw18082931673118330431:=0
def tw8498849724745823038:=0
def tw4772555608048012782:=0
def tw7550798704684107699:=0
def tw874024792832423253:=0
def tw13585248269206944066:=0
def tw10844340696690081447:=0
def tw1676694512398781352:=0
def tw8880997665737608000:=0
def tw10390966836031904467:=0
def tw10223811317243698305:=0
def tw13025744860244964761:=0
def tw13057224892842513315:=0
def tw15255378144744235498:=0
def tw10371108494868588477:=0
def tw839602296807148926:=0
def tw3889063921680097713:=0
def tw5959901518976440614:=0
def tw1830241723321084147:=0
def tw73559915085878453:=0
def tw10542517088482827690:=0
def tw18037319589441808505:=0
def tw17957381306726087140:=0
def tw16258986009118846609:=0
def tw16600603035429619634:=0
def tw17728912187898380777:=0
def tw1411853206493805812:=0
def tw7616095438478138176:=0
def tw8189439272627186950:=0
def tw3653203521274930848:=0
def tw12328833951534544142:=0
def tw13228163269757993304:=0
end PySem.W.Fast
namespace Lw
open PySem L2 PyProof.Rows
def top (i : Nat) : Stmt := PySem.Challenge.pw_lackstretch_k21_whole_sums_together.main.body.getD i (.Pass ⟨0, 0, 0, 0⟩)
abbrev zdx : Stmt := top 0
abbrev uZ : Stmt := top 12
abbrev je : Stmt := top 13
abbrev Z2 : Stmt := top 14
abbrev jj : Stmt := top 15
abbrev uI : Stmt := top 16
abbrev jK : Stmt := top 17
abbrev jc : Stmt := top 18
abbrev uG : Stmt := top 19
abbrev Xo : Stmt := top 20
abbrev jE : Stmt := top 21
abbrev tW : Stmt := top 22
abbrev yM : Stmt := top 23
abbrev vN : Stmt := top 24
abbrev vA : Stmt := top 25
abbrev xG : Stmt := top 26
abbrev Xk : Stmt := top 27
abbrev qg : Stmt := top 29
abbrev uN : Stmt := top 30
abbrev yH : Stmt := top 31
abbrev tO : Stmt := top 34
abbrev tU : Stmt := top 35
abbrev jd : Stmt := top 36
abbrev qH : Stmt := inClass (top 37) 0
abbrev wZ : Stmt := inClass (top 37) 1
abbrev xX : Stmt := inClass (top 37) 2
abbrev xu : Stmt := inClass (top 37) 3
abbrev wB : Stmt := inClass (top 37) 4
abbrev yG : Stmt := inClass (top 37) 5
abbrev vW : Stmt := inClass (top 37) 6
abbrev xQ : Stmt := inClass (top 37) 7
abbrev Xr : Stmt := inClass (top 37) 8
abbrev wO : Stmt := top 39
abbrev qd : Stmt := inClass (top 40) 0
abbrev xn : Stmt := inClass (top 40) 1
abbrev wz : Stmt := inClass (top 40) 2
abbrev xN : Stmt := inClass (top 40) 3
abbrev yO : Stmt := inClass (top 40) 4
abbrev wI : Stmt := inClass (top 40) 5
abbrev vM : Stmt := top 41
abbrev vq : Stmt := top 42
abbrev xW : Stmt := top 43
abbrev wY : Stmt := top 44
abbrev vg : Stmt := top 46
abbrev vO : Stmt := top 47
abbrev jB : Stmt := top 48
abbrev uM : Stmt := top 49
abbrev j8 : Stmt := top 50
abbrev qU : Stmt := top 52
abbrev jg : Stmt := top 53
abbrev jF : Stmt := top 55
abbrev vz : Stmt := top 56
abbrev jb : Stmt := top 57
abbrev qP : Stmt := top 59
abbrev vI : Stmt := top 60
abbrev yI : Stmt := top 61
abbrev vV : Stmt := top 62
abbrev wJ : Stmt := top 63
abbrev wM : Stmt := top 64
abbrev UT : Stmt := top 65
section
variable {P : Program} {w : World} {K : PySem.W.Frag} {mg : Str → Option Value} {base : Heap}
def q9 : Sp := fun vs H Q _ => ∃ i : Int, vs = [.int i] ∧ Q (.bl true) H
theorem JT : zG ["thing"] ["thing"] (zu uZ) := ⟨rfl, rfl, rfl, by decide +kernel, rfl, by decide +kernel, by decide +kernel⟩
theorem Zt {f : Addr} {fd : FuncData} (D : Df K mg "is_whole" uZ ["thing"] f fd) (T : Blt mg) : FnOk P w K mg base CX0 1 f fd ["thing"] q9 := by
  refine D.fn.ok JT (fun vs H Q E h => ?_) (fun cdv A outer s H vs Q E hr h => ?_)
  · obtain ⟨i, rfl, _⟩ := h; rfl
  · obtain ⟨i, rfl, q⟩ := h
    refine ⟨_, (zq (zJ (jk (zK Uk (by rfl) T.n_isinstance boot_isinstance (zc (pv 0) (zc (Wg (v := .ty "int") rfl T.n_int boot_int rfl) zf))) (jq (zcP (zK Uk (by rfl) T.n_isinstance boot_isinstance (zc (pv 0) (zc (Wg (v := .ty "bool") rfl T.n_bool boot_bool rfl) zf)))))))), ?_⟩
    refine ⟨_, rfl, _, _, _, _, rfl, .int i, J4, _, rfl, ji ?_⟩
    refine ⟨_, rfl, _, _, _, _, rfl, .int i, Q0, _, rfl, ?_⟩
    exact q
def YG : Sp := fun vs H Q _ => ∃ i : Int, vs = [.int i] ∧ Q (.bl (decide (2 ≤ i ∧ i ≤ 16))) H
theorem zaI : zG ["thing"] ["thing"] (zu Z2) := ⟨rfl, rfl, rfl, by decide +kernel, rfl, by decide +kernel, by decide +kernel⟩
theorem za3 {f f1 : Addr} {fd fd1 : FuncData} {t1 t2 : Tok} (D : Df K mg "is_base" Z2 ["thing"] f fd) (xg : Df K mg "is_whole" uZ ["thing"] f1 fd1) (T : Blt mg) (Yd : mg "LEAST_BASE" = some (.int 2 t1)) (jo : mg "GREATEST_BASE" = some (.int 16 t2)) :
    FnOk P w K mg base CX0 2 f fd ["thing"] YG := by
  have jT : FnOk P w K mg base CX0 1 f1 fd1 ["thing"] q9 := Zt xg T
  refine D.fn.ok zaI (fun vs H Q E h => ?_) (fun cdv A outer s H vs Q E hr h => ?_)
  · obtain ⟨i, rfl, _⟩ := h; rfl
  · obtain ⟨i, rfl, q⟩ := h
    refine ⟨_, (zq (zJ (jk (zF xg jT (hr.mono (by decide)) (zc (pv 0) zf)) (jq (Wz YQ YQ (Ws (v := .int 2) rfl Yd ⟨_, rfl⟩) (pv 0) (Ws (v := .int 16) rfl jo ⟨_, rfl⟩)))))), ?_⟩
    refine ⟨_, rfl, i, rfl, _, rfl, ji ?_⟩
    refine ⟨_, rfl, _, _, rfl, rfl, _, rfl, ?_⟩
    refine Vu (fun h1 => ?_) (fun h1 => ?_)
    · have h1' : (2 : Int) ≤ i := of_decide_eq_true h1
      refine ⟨_, _, rfl, rfl, ?_⟩
      rw [show decide (2 ≤ i ∧ i ≤ 16) = decide (i ≤ 16) by simp [h1']] at q
      exact q
    · have h1' : ¬ (2 : Int) ≤ i := fun z => h1 (decide_eq_true z)
      rw [show decide (2 ≤ i ∧ i ≤ 16) = false by simp [h1']] at q
      exact q
def ZM : Sp := fun vs H Q _ => ∃ i : Int, vs = [.int i] ∧ 2 ≤ i ∧ i ≤ 16 ∧ Q .non H
theorem Qj : zG ["thing"] ["thing"] (zu jE) := ⟨rfl, rfl, rfl, by decide +kernel, rfl, by decide +kernel, by decide +kernel⟩
theorem Qq {f f1 : Addr} {fd fd1 : FuncData} (D : Df K mg "check_base" jE ["thing"] f fd) (Zh : Df K mg "is_base" Z2 ["thing"] f1 fd1) (Z4 : FnOk P w K mg base CX0 2 f1 fd1 ["thing"] YG) :
    FnOk P w K mg base CX0 3 f fd ["thing"] ZM := by
  refine D.fn.ok Qj (fun vs H Q E h => ?_) (fun cdv A outer s H vs Q E hr h => ?_)
  · obtain ⟨i, rfl, _⟩ := h; rfl
  · obtain ⟨i, rfl, h1, h2, q⟩ := h
    refine ⟨_, (zq (xP (tX (uE (zF Zh Z4 (hr.mono (by decide)) (zc (pv 0) zf))))
        (zq Y4)
        yh)), ?_⟩
    refine ⟨_, rfl, i, rfl, _, rfl, ?_⟩
    rw [decide_eq_true (show 2 ≤ i ∧ i ≤ 16 from ⟨h1, h2⟩)]
    exact qZ q
end
section
variable {P : Program} {w : World} {K : PySem.W.Frag} {mg : Str → Option Value} {base : Heap}
def jR : Sp := fun vs H Q _ => ∃ i : Int, vs = [.int i] ∧ Q (.bl (decide (0 ≤ i))) H
theorem Jo : zG ["thing"] ["thing"] (zu je) := ⟨rfl, rfl, rfl, by decide +kernel, rfl, by decide +kernel, by decide +kernel⟩
theorem Wn {f f1 : Addr} {fd fd1 : FuncData} (D : Df K mg "is_number" je ["thing"] f fd) (xg : Df K mg "is_whole" uZ ["thing"] f1 fd1) (T : Blt mg) :
    FnOk P w K mg base CX0 2 f fd ["thing"] jR := by
  have jT : FnOk P w K mg base CX0 1 f1 fd1 ["thing"] q9 := Zt xg T
  refine D.fn.ok Jo (fun vs H Q E h => ?_) (fun cdv A outer s H vs Q E hr h => ?_)
  · obtain ⟨i, rfl, _⟩ := h; rfl
  · obtain ⟨i, rfl, q⟩ := h
    refine ⟨_, (zq (zJ (jk (zF xg jT (hr.mono (by decide)) (zc (pv 0) zf)) (jq (wU za8 (pv 0) zj (yc _)))))), ?_⟩
    refine ⟨_, rfl, i, rfl, _, rfl, ji ?_⟩
    exact ⟨_, rfl, _, _, rfl, rfl, q⟩
def jx : Sp := fun vs H Q _ => ∃ i : Int, vs = [.int i] ∧ 0 ≤ i ∧ Q .non H
theorem Vt : zG ["thing"] ["thing"] (zu tW) := ⟨rfl, rfl, rfl, by decide +kernel, rfl, by decide +kernel, by decide +kernel⟩
theorem Vx {f f1 f2 : Addr} {fd fd1 fd2 : FuncData} (D : Df K mg "check_number" tW ["thing"] f fd) (ud : Df K mg "is_number" je ["thing"] f2 fd2) (xg : Df K mg "is_whole" uZ ["thing"] f1 fd1) (T : Blt mg) :
    FnOk P w K mg base CX0 3 f fd ["thing"] jx := by
  have Zk : FnOk P w K mg base CX0 2 f2 fd2 ["thing"] jR := Wn ud xg T
  refine D.fn.ok Vt (fun vs H Q E h => ?_) (fun cdv A outer s H vs Q E hr h => ?_)
  · obtain ⟨i, rfl, _⟩ := h; rfl
  · obtain ⟨i, rfl, h1, q⟩ := h
    refine ⟨_, (zq (xP (tX (uE (zF ud Zk (hr.mono (by decide)) (zc (pv 0) zf))))
        (zq Y4)
        yh)), ?_⟩
    refine ⟨_, rfl, i, rfl, _, rfl, ?_⟩
    rw [decide_eq_true h1]
    exact qZ q
end
section
variable {P : Program} {w : World} {K : PySem.W.Frag} {mg : Str → Option Value} {base : Heap}
def xF : Sp := fun vs H Q _ => ∃ b n : Nat, vs = [.int b, .int n] ∧ 2 ≤ b ∧ b ≤ 16 ∧ n < 2 ^ 900 ∧
  ∀ l H', H l = none → H' l = some (.lst ((yp b n).map V.int)) → Same H H' → Q (.ref l) H'
theorem qT : zG ["base", "n", "backwards", "rest"] ["base", "n"] (zu xG) := ⟨rfl, rfl, rfl, by decide +kernel, rfl, by decide +kernel, by decide +kernel⟩
theorem Qn {f f1 f2 : Addr} {fd fd1 fd2 : FuncData} (D : Df K mg "figures_of" xG ["base", "n"] f fd) (Zy : Df K mg "check_base" jE ["thing"] f1 fd1) (Xj : FnOk P w K mg base CX0 3 f1 fd1 ["thing"] ZM)
    (qQ : Df K mg "check_number" tW ["thing"] f2 fd2) (ZQ : FnOk P w K mg base CX0 3 f2 fd2 ["thing"] jx) (T : Blt mg) : FnOk P w K mg base CX0 4 f fd ["base", "n"] xF := by
  refine D.fn.ok qT (fun vs H Q E h => ?_) (fun cdv A outer s H vs Q E hr h => ?_)
  · obtain ⟨b, n, rfl, _⟩ := h; rfl
  · obtain ⟨b, n, rfl, h2, h16, hn, k⟩ := h
    refine ⟨_, (zg (yP (zF Zy Xj (hr.mono (by decide)) (zc (pv 0) zf)))
      (zg (yP (zF qQ ZQ (hr.mono (by decide)) (zc (pv 1) zf)))
      (zg (zH (i := 2) qT.nd rfl (Or.inl rfl) (xm (zc (zA yQ (pv 1) (pv 0)) zf)))
      (zg (zH (i := 3) qT.nd rfl (Or.inl rfl) (zA uL (pv 1) (pv 0)))
      (zg (Wq PassesOwn.never (ym zbh (pv 3) zj (yc _))
        (zg (yP (YM PySem.F.plainAttrs_list PySem.F.slot_list_append PySem.F.type_list_append vQ (pv 2) (zc (zA yQ (pv 3) (pv 0)) zf)))
        (zq (zH (i := 3) qT.nd rfl (Or.inl rfl) (zA uL (pv 3) (pv 0))))))
      (zq (zJ (za1 rfl rfl T.n_list rfl T.n_reversed (pv 2))))))))), ?_⟩
    refine ⟨_, rfl, (b : Int), rfl, by omega, by omega, ?_⟩
    refine ⟨_, rfl, (n : Int), rfl, by omega, ?_⟩
    refine ⟨_, rfl, _, rfl, _, _, rfl, rfl, (by omega : (0 : Int) < b), (by decide : 1 ≤ sizeLine), fun l hl => ?_⟩
    refine ⟨_, rfl, _, rfl, _, _, rfl, rfl, ⟨by omega, by omega⟩, ?_⟩
    have hlen := tR h2 900 n hn
    refine Wd (fun σ H2 => ∃ (r : Nat) (L : List Int), σ = [some (.int b), some (.int n), some (.ref l), some (.int r)] ∧ H2 l = some (.lst (L.map V.int)) ∧ Same H H2 ∧ yp b n = ahead b r ++ L.reverse)
      (fun σ _ => match σ with | [_, _, _, some (.int r)] => r.toNat | _ => 0) ?_ ?_ ?_
    · refine ⟨n / b, [((n % b : Nat) : Int)], ?_, ?_, zp hl, ?_⟩
      · rfl
      · rw [zm]; simp
      · rw [QD h2]; simp
    · rintro σ H2 ⟨r, L, rfl, hL, sH, he⟩
      refine ⟨_, rfl, _, _, rfl, rfl, _, rfl, ?_⟩
      refine Vu (fun h1 => ?_) (fun h1 => ?_)
      · have hr0 : 0 < r := by have := of_decide_eq_true h1; omega
        have hLl : L.length ≤ 901 := by
          have := congrArg List.length he
          rw [List.length_append, List.length_reverse] at this
          omega
        refine ⟨_, rfl, .inl ⟨rfl, _, SqL.of hL⟩, _, rfl, _, rfl, _, _, rfl, rfl, (by omega : (0 : Int) < b), l, _, _, rfl, rfl, hL, by rw [List.length_map]; exact Nat.lt_of_le_of_lt hLl (by decide), ?_⟩
        refine ⟨_, rfl, _, rfl, _, _, rfl, rfl, ⟨by omega, by omega⟩, ?_⟩
        refine ⟨⟨r / b, L ++ [((r % b : Nat) : Int)], ?_, ?_, ?_, ?_⟩, ?_⟩
        · simp
        · rw [zm]; simp
        · exact fun b' o e => by rw [zx (zB e hl)]; exact sH b' o e
        · rw [he, zaO h2 hr0, List.reverse_append]; simp
        · show ((r : Int) / (b : Int)).toNat < (r : Int).toNat
          have : r / b < r := Nat.div_lt_self hr0 (by omega)
          omega
      · have hr0 : r = 0 := by
          by_cases z : r = 0
          · exact z
          · exact absurd (decide_eq_true (by omega : (0 : Int) < r)) h1
        subst hr0
        refine ⟨_, rfl, l, _, rfl, SqL.of hL, fun q hq => ?_⟩
        have hlq : q ≠ l := fun z => by rw [z, hL] at hq; cases hq
        refine k q _ (sH.free hq) ?_ (sH.trans (zp hq))
        rw [zm, he]
        simp [ahead]
    · intro σ H2 Q Q' hq
      rintro ⟨v, e, i, j, e1, e2, k, e3, q⟩
      exact ⟨v, e, i, j, e1, e2, k, e3, hq _ _ q⟩
end
section
variable {P : Program} {w : World} {K : PySem.W.Frag} {mg : Str → Option Value} {base : Heap}
def jC : Sp := fun vs H Q _ => ∃ b i : Int, vs = [.int b, .int i] ∧ Q (.bl (decide (0 ≤ i ∧ i < b))) H
theorem Jd : zG ["base", "thing"] ["base", "thing"] (zu jj) := ⟨rfl, rfl, rfl, by decide +kernel, rfl, by decide +kernel, by decide +kernel⟩
theorem QX {f f1 : Addr} {fd fd1 : FuncData} (D : Df K mg "is_figure" jj ["base", "thing"] f fd) (xg : Df K mg "is_whole" uZ ["thing"] f1 fd1) (T : Blt mg) : FnOk P w K mg base CX0 2 f fd ["base", "thing"] jC := by
  have jT : FnOk P w K mg base CX0 1 f1 fd1 ["thing"] q9 := Zt xg T
  refine D.fn.ok Jd (fun vs H Q E h => ?_) (fun cdv A outer s H vs Q E hr h => ?_)
  · obtain ⟨b, i, rfl, _⟩ := h; rfl
  · obtain ⟨b, i, rfl, q⟩ := h
    refine ⟨_, (zq (zJ (jk (zF xg jT (hr.mono (by decide)) (zc (pv 1) zf)) (jq (Wz YQ zdz zj (pv 1) (pv 0)))))), ?_⟩
    refine ⟨_, rfl, i, rfl, _, rfl, ji ?_⟩
    refine ⟨_, rfl, _, _, rfl, rfl, _, rfl, ?_⟩
    refine Vu (fun h1 => ?_) (fun h1 => ?_)
    · have h1' : (0 : Int) ≤ i := of_decide_eq_true h1
      refine ⟨_, rfl, _, _, rfl, rfl, ?_⟩
      rw [show decide (0 ≤ i ∧ i < b) = decide (i < b) by simp [h1']] at q
      exact q
    · have h1' : ¬ (0 : Int) ≤ i := fun z => h1 (decide_eq_true z)
      rw [show decide (0 ≤ i ∧ i < b) = false by simp [h1']] at q
      exact q
def j9 : Sp := fun vs H Q _ => ∃ (b : Int) (a : Addr) (ns : List Int), vs = [.int b, .ref a] ∧ H a = some (.lst (ns.map V.int)) ∧ ns.length ≤ 1000 ∧ ∀ H', Same H H' → Q (.bl (ns.all fun i => decide (0 ≤ i ∧ i < b))) H'
theorem UW : zG ["base", "thing"] ["base", "thing"] (zu uI) := ⟨rfl, rfl, rfl, by decide +kernel, rfl, by decide +kernel, by decide +kernel⟩
theorem Ut {f f1 : Addr} {fd fd1 : FuncData} (D : Df K mg "are_figures" uI ["base", "thing"] f fd) (tD : Df K mg "is_figure" jj ["base", "thing"] f1 fd1) (qL : FnOk P w K mg base CX0 2 f1 fd1 ["base", "thing"] jC) (T : Blt mg) :
    FnOk P w K mg base CX0 3 f fd ["base", "thing"] j9 := by
  refine D.fn.ok UW (fun vs H Q E h => ?_) (fun cdv A outer s H vs Q E hr h => ?_)
  · obtain ⟨b, a, ns, rfl, _⟩ := h; rfl
  · obtain ⟨b, a, ns, rfl, ha, hlen, kk⟩ := h
    refine ⟨_, (zq (zJ (jk (zK (zcr K) (by rfl) T.n_isinstance boot_isinstance (zc (pv 1) (zc (Wg (v := .ty "list") rfl T.n_list boot_list rfl) zf))) (jq (zK (k_all K rfl) (by rfl) T.n_all boot_all (zc (uO (show CScope (zu uI) _ "each" ["base", "thing"] ["base"] [0] from ⟨rfl, by decide +kernel, by decide +kernel, rfl, by decide +kernel, rfl, by decide +kernel, by decide +kernel⟩) rfl (Qe K (pv 1)) (fun _ _ _ _ => wK) (fun _ _ _ _ => (zF tD qL (hr.mono (by decide)) (zc (pv 1) (zc (pv 0) zf))))) zf)))))), ?_⟩
    refine ⟨_, rfl, _, _, _, _, rfl, .lst ha, XF, _, rfl, ji ?_⟩
    refine ⟨_, rfl, a, rfl, ⟨_, SqL.of ha⟩, tG (K := K) (a := a) (xs := ns.map V.int) (fun i ys H4 => ys = ((ns.take i).map fun i => decide (0 ≤ i ∧ i < b)).map V.bl ∧ H4 = H) ⟨by simp, rfl⟩ (fun i ys H4 _ ⟨_, e⟩ => by rw [e]; exact SqL.of ha) ?_ ?_⟩
    · rintro j x ys H4 hx ⟨rfl, rfl⟩
      refine ⟨?_, ?_⟩
      · rw [List.length_map, List.length_map, List.length_take]
        exact Nat.lt_of_le_of_lt (Nat.le_trans (Nat.min_le_right _ _) hlen) (by decide)
      obtain ⟨z, hz, rfl⟩ : ∃ z, ns[j]? = some z ∧ x = V.int z := by
        rw [List.getElem?_map] at hx
        obtain ⟨z, h, e⟩ := Option.map_eq_some_iff.mp hx
        exact ⟨z, h, e.symm⟩
      unfold YS
      dsimp only
      rw [if_pos rfl]
      refine ⟨_, rfl, _, rfl, b, z, rfl, ?_, rfl⟩
      rw [List.take_succ, hz]
      simp
    · rintro ys H4 ⟨rfl, rfl⟩ Dd hD
      refine ⟨Dd, _, rfl, SqL.of zm, ?_⟩
      have q := kk _ (zp hD (o := .lst (((ns.take (ns.map V.int).length).map fun i => decide (0 ≤ i ∧ i < b)).map V.bl)))
      rw [List.length_map, List.take_length] at q ⊢
      rw [List.all_map]
      exact q
end
section
variable {P : Program} {w : World} {K : PySem.W.Frag} {mg : Str → Option Value} {base : Heap}
structure RuleAt (H : Hp) (r : Addr) (b : Nat) (bl : Addr) (zs : List (Addr × List Int)) : Prop where
  tu : H r = some (.tup [.int b, .ref bl])
  li : H bl = some (.lst (zs.map fun z => V.ref z.1))
  st : ∀ z ∈ zs, H z.1 = some (.lst (z.2.map V.int))
theorem RuleAt.same {H H' : Hp} {r bl : Addr} {b : Nat} {zs : List (Addr × List Int)} (R : RuleAt H r b bl zs) (s : Same H H') : RuleAt H' r b bl zs := ⟨s _ _ R.tu, s _ _ R.li, fun z hz => s _ _ (R.st z hz)⟩
structure Uo (b : Nat) (l : List Int) : Prop where
  ne : l ≠ []
  len : l.length ≤ 4
  fig : ∀ f ∈ l, 0 ≤ f ∧ f < b
structure GoodRule (b : Nat) (ls : List (List Int)) : Prop where
  b2 : 2 ≤ b
  b16 : b ≤ 16
  len : ls.length ≤ 4
  st : ∀ l ∈ ls, Uo b l
  up : ls.Pairwise fun x y => HT.lexLt x y = true
theorem zbD {b : Nat} {ns : List Int} (h : ∀ f ∈ ns, 0 ≤ f ∧ f < (b : Int)) : (ns.all fun i => decide (0 ≤ i ∧ i < (b : Int))) = true := by
  rw [List.all_eq_true]; intro x hx; exact decide_eq_true (h x hx)
def ZL : Sp := fun vs H Q _ => ∃ (b : Nat) (a : Addr) (ns : List Int), vs = [.int b, .ref a] ∧ H a = some (.lst (ns.map V.int)) ∧ Uo b ns ∧ ∀ H', Same H H' → Q (.bl true) H'
theorem Qh : zG ["base", "thing"] ["base", "thing"] (zu jK) := ⟨rfl, rfl, rfl, by decide +kernel, rfl, by decide +kernel, by decide +kernel⟩
theorem U9 {f f1 : Addr} {fd fd1 : FuncData} {t1 : Tok} (D : Df K mg "is_stretch" jK ["base", "thing"] f fd) (jH : Df K mg "are_figures" uI ["base", "thing"] f1 fd1) (Yu : FnOk P w K mg base CX0 3 f1 fd1 ["base", "thing"] j9) (tM : mg "LONGEST_STRETCH" = some (.int 4 t1)) (T : Blt mg) :
    FnOk P w K mg base CX0 4 f fd ["base", "thing"] ZL := by
  refine D.fn.ok Qh (fun vs H Q E h => ?_) (fun cdv A outer s H vs Q E hr h => ?_)
  · obtain ⟨b, a, ns, rfl, _⟩ := h; rfl
  · obtain ⟨b, a, ns, rfl, ha, g, kk⟩ := h
    refine ⟨_, (zq (zJ (jk (zF jH Yu (hr.mono (by decide)) (zc (pv 0) (zc (pv 1) zf))) (jq (Wz YQ YQ zj (zK (vB K) (by rfl) T.n_len PySem.boot_len (zc (pv 1) zf)) (Ws (v := .int 4) rfl tM ⟨_, rfl⟩)))))), ?_⟩
    have hlen := g.len
    refine ⟨_, rfl, _, rfl, b, a, ns, rfl, ha, Nat.le_trans hlen (by decide), fun H1 s1 => ?_⟩
    rw [zbD g.fig]
    refine ⟨_, rfl, ji ?_⟩
    have hpos : 0 < ns.length := List.length_pos_iff.mpr g.ne
    refine ⟨_, rfl, a, _, rfl, .inl (SqL.of (s1 _ _ ha)), _, _, rfl, rfl, _, rfl, ?_⟩
    rw [List.length_map, decide_eq_true (show (1 : Int) ≤ (ns.length : Int) by omega)]
    refine ji ?_
    refine ⟨_, _, rfl, rfl, ?_⟩
    dsimp only
    rw [decide_eq_true (show (ns.length : Int) ≤ 4 by omega)]
    exact kk H1 s1
def Yz : Sp := fun vs H Q _ => ∃ (bl : Addr) (zs : List (Addr × List Int)), vs = [.ref bl] ∧ H bl = some (.lst (zs.map fun z => V.ref z.1)) ∧ (∀ z ∈ zs, H z.1 = some (.lst (z.2.map V.int))) ∧ zs.length ≤ 4 ∧ (zs.map (·.2)).Pairwise (fun x y => HT.lexLt x y = true) ∧ ∀ H', Same H H' → Q (.bl true) H'
theorem Q9 : zG ["stretches"] ["stretches"] (zu jc) := ⟨rfl, rfl, rfl, by decide +kernel, rfl, by decide +kernel, by decide +kernel⟩
theorem zbn {n : Nat} : (List.replicate n true).all id = true := by
  rw [List.all_eq_true]; intro x hx; exact (List.mem_replicate.mp hx).2
theorem Wi {f : Addr} {fd : FuncData} (D : Df K mg "is_rising" jc ["stretches"] f fd) (T : Blt mg) : FnOk P w K mg base CX0 1 f fd ["stretches"] Yz := by
  refine D.fn.ok Q9 (fun vs H Q E h => ?_) (fun cdv A outer s H vs Q E hr h => ?_)
  · obtain ⟨bl, zs, rfl, _⟩ := h; rfl
  · obtain ⟨bl, zs, rfl, hb, hz, h4, up, kk⟩ := h
    have HU := zbZ hr
    refine ⟨_, (zq (zJ (zK (k_all K rfl) (by rfl) T.n_all boot_all (zc (uO (show CScope (zu jc) _ "k" ["stretches"] ["stretches"] [0] from ⟨rfl, by decide +kernel, by decide +kernel, rfl, by decide +kernel, rfl, by decide +kernel, by decide +kernel⟩) rfl (yw rfl T.n_range (zc (zA xV (zK (vB K) (by rfl) T.n_len PySem.boot_len (zc (pv 0) zf)) zj) zf)) (fun _ _ _ _ => wK) (fun _ _ _ _ => (wU (ze3 K HU) (zP (yR K) (pv 1) (pv 0) (fun _ _ => rfl)) (zP (yR K) (pv 1) (zA yN (pv 0) zj) (fun _ _ => rfl)) (yc _)))) zf)))), ?_⟩
    refine ⟨_, rfl, bl, _, rfl, .inl (SqL.of hb), _, _, rfl, rfl, _, rfl, ?_⟩
    rw [List.length_map]
    refine ⟨by omega, by omega, vK (lo := 0) (n := ((zs.length : Int) - 1).toNat) (fun i ys H4 => ys = (List.replicate i true).map V.bl ∧ H4 = H) ⟨by simp, rfl⟩ ?_ ?_⟩
    · rintro i ys H4 hi ⟨rfl, rfl⟩
      refine ⟨by rw [List.length_map, List.length_replicate]; exact Nat.lt_of_lt_of_le (show i < 5 by omega) (by decide), ?_⟩
      unfold YS
      dsimp only
      rw [if_pos rfl]
      have hi0 : i < zs.length := by omega
      have hi1 : i + 1 < zs.length := by omega
      have g0 : atI (zs.map fun z => V.ref z.1) (0 + (i : Int)) = some (.ref (zs[i]).1) := by rw [Int.zero_add]; exact xU (by rw [List.getElem?_map, List.getElem?_eq_getElem hi0]; rfl)
      have g1 : atI (zs.map fun z => V.ref z.1) (0 + (i : Int) + 1) = some (.ref (zs[i + 1]).1) := by rw [Int.zero_add]; exact xU (j := i + 1) (by rw [List.getElem?_map, List.getElem?_eq_getElem hi1]; rfl)
      refine ⟨_, rfl, _, rfl, bl, _, _, _, rfl, rfl, SqL.of hb, g0, ?_⟩
      refine ⟨_, rfl, _, rfl, _, _, rfl, rfl, bl, _, _, _, rfl, rfl, SqL.of hb, g1, ?_⟩
      refine ⟨_, _, _, _, rfl, rfl, SqL.of (hz _ (List.getElem_mem hi0)), SqL.of (hz _ (List.getElem_mem hi1)), ?_, rfl⟩
      rw [List.pairwise_map, List.pairwise_iff_getElem] at up
      rw [up i (i + 1) hi0 hi1 (by omega), List.replicate_succ']
      simp
    · rintro ys H4 ⟨rfl, rfl⟩ Dd hD
      refine ⟨Dd, _, rfl, SqL.of zm, ?_⟩
      rw [zbn]
      exact kk _ (zp hD)
def Za : Sp := fun vs H Q _ => ∃ (b : Nat) (bl : Addr) (zs : List (Addr × List Int)), vs = [.int b, .ref bl] ∧ H bl = some (.lst (zs.map fun z => V.ref z.1)) ∧ (∀ z ∈ zs, H z.1 = some (.lst (z.2.map V.int))) ∧ GoodRule b (zs.map (·.2)) ∧ ∀ H', Same H H' → Q (.bl true) H'
theorem V7 : zG ["base", "thing"] ["base", "thing"] (zu uG) := ⟨rfl, rfl, rfl, by decide +kernel, rfl, by decide +kernel, by decide +kernel⟩
theorem V0 {f f1 f2 : Addr} {fd fd1 fd2 : FuncData} {t1 : Tok} (D : Df K mg "is_bad_list" uG ["base", "thing"] f fd) (Zw : Df K mg "is_stretch" jK ["base", "thing"] f1 fd1) (Y7 : FnOk P w K mg base CX0 4 f1 fd1 ["base", "thing"] ZL) (j5 : Df K mg "is_rising" jc ["stretches"] f2 fd2) (qG : mg "MOST_STRETCHES" = some (.int 4 t1)) (T : Blt mg) :
    FnOk P w K mg base CX0 5 f fd ["base", "thing"] Za := by
  have Ui : FnOk P w K mg base CX0 1 f2 fd2 ["stretches"] Yz := Wi j5 T
  refine D.fn.ok V7 (fun vs H Q E h => ?_) (fun cdv A outer s H vs Q E hr h => ?_)
  · obtain ⟨b, bl, zs, rfl, _⟩ := h; rfl
  · obtain ⟨b, bl, zs, rfl, hb, hz, g, kk⟩ := h
    have h4 : zs.length ≤ 4 := by have := g.len; rwa [List.length_map] at this
    refine ⟨_, (zg (xP (PW.pt (Qv (tX (uE (zK (zcr K) (by rfl) T.n_isinstance boot_isinstance (zc (pv 1) (zc (Wg (v := .ty "list") rfl T.n_list boot_list rfl) zf))))) (W9 (ym zbh (zK (vB K) (by rfl) T.n_len PySem.boot_len (zc (pv 1) zf)) (Ws (v := .int 4) rfl qG ⟨_, rfl⟩) (yc _)))))
        (zq (zJ jA))
        yh)
      (zq (zJ (jk (zK (k_all K rfl) (by rfl) T.n_all boot_all (zc (uO (show CScope (zu uG) _ "each" ["base", "thing"] ["base"] [0] from ⟨rfl, by decide +kernel, by decide +kernel, rfl, by decide +kernel, rfl, by decide +kernel, by decide +kernel⟩) rfl (Qe K (pv 1)) (fun _ _ _ _ => wK) (fun _ _ _ _ => (zF Zw Y7 (hr.mono (by decide)) (zc (pv 1) (zc (pv 0) zf))))) zf)) (jq (zF j5 Ui (hr.mono (by decide)) (zc (pv 1) zf))))))), ?_⟩
    refine ⟨_, rfl, _, _, _, _, rfl, .lst hb, XF, _, rfl, qZ ?_⟩
    refine ⟨_, rfl, bl, _, rfl, .inl (SqL.of hb), _, _, rfl, rfl, _, rfl, ?_⟩
    rw [List.length_map, decide_eq_false (show ¬ (4 : Int) < (zs.length : Int) by omega)]
    refine qZ ?_
    refine ⟨_, rfl, bl, rfl, ⟨_, SqL.of hb⟩, tG (K := K) (a := bl) (xs := zs.map fun z => V.ref z.1) (fun i ys H4 => ys = (List.replicate i true).map V.bl ∧ Same H H4) ⟨by simp, Same.refl _⟩ (fun i ys H4 _ ⟨_, e⟩ => SqL.of (e _ _ hb)) ?_ ?_⟩
    · rintro j x ys H4 hx ⟨rfl, s4⟩
      rw [List.getElem?_map] at hx
      obtain ⟨z, hzj, e⟩ := Option.map_eq_some_iff.mp hx
      subst e
      have hzm := List.mem_of_getElem? hzj
      have hj : j < zs.length := (List.getElem?_eq_some_iff.mp hzj).1
      refine ⟨by rw [List.length_map, List.length_replicate]; exact Nat.lt_of_lt_of_le (show j < 5 by omega) (by decide), ?_⟩
      unfold YS
      dsimp only
      rw [if_pos rfl]
      refine ⟨_, rfl, _, rfl, b, z.1, z.2, rfl, s4 _ _ (hz z hzm), g.st _ (List.mem_map.mpr ⟨z, hzm, rfl⟩), fun H5 s5 => ⟨?_, s4.trans s5⟩⟩
      rw [List.replicate_succ']; simp
    · rintro ys H4 ⟨rfl, s4⟩ Dd hD
      refine ⟨Dd, _, rfl, SqL.of zm, ?_⟩
      rw [zbn]
      have s5 := s4.trans (zp hD (o := .lst ((List.replicate (zs.map fun z => V.ref z.1).length true).map V.bl)))
      refine ⟨_, rfl, ji ?_⟩
      exact ⟨_, rfl, bl, zs, rfl, s5 _ _ hb, fun z hzm => s5 _ _ (hz z hzm), h4, g.up, fun H6 s6 => kk H6 (s5.trans s6)⟩
def X3 : Sp := fun vs H Q _ => ∃ (r : Addr) (b : Nat) (bl : Addr) (zs : List (Addr × List Int)), vs = [.ref r] ∧ RuleAt H r b bl zs ∧ GoodRule b (zs.map (·.2)) ∧ ∀ H', Same H H' → Q (.bl true) H'
theorem zaN : zG ["thing"] ["thing"] (zu Xo) := ⟨rfl, rfl, rfl, by decide +kernel, rfl, by decide +kernel, by decide +kernel⟩
theorem zaK {f f1 f2 : Addr} {fd fd1 fd2 : FuncData} (D : Df K mg "is_rule" Xo ["thing"] f fd) (Zh : Df K mg "is_base" Z2 ["thing"] f1 fd1) (Z4 : FnOk P w K mg base CX0 2 f1 fd1 ["thing"] YG) (jP : Df K mg "is_bad_list" uG ["base", "thing"] f2 fd2) (Yw : FnOk P w K mg base CX0 5 f2 fd2 ["base", "thing"] Za) (T : Blt mg) :
    FnOk P w K mg base CX0 6 f fd ["thing"] X3 := by
  refine D.fn.ok zaN (fun vs H Q E h => ?_) (fun cdv A outer s H vs Q E hr h => ?_)
  · obtain ⟨r, b, bl, zs, rfl, _⟩ := h; rfl
  · obtain ⟨r, b, bl, zs, rfl, R, g, kk⟩ := h
    have b2 := g.b2
    have b16 := g.b16
    refine ⟨_, (zg (xP (PW.pt (Qv (tX (uE (zK (zcr K) (by rfl) T.n_isinstance boot_isinstance (zc (pv 0) (zc (Wg (v := .ty "tuple") rfl T.n_tuple boot_tuple rfl) zf))))) (W9 (ym Vi (zK (vB K) (by rfl) T.n_len PySem.boot_len (zc (pv 0) zf)) zj (yc _)))))
        (zq (zJ jA))
        yh)
      (zq (zJ (jk (zF Zh Z4 (hr.mono (by decide)) (zc (zP (xM K) (pv 0) zj (fun _ _ => rfl)) zf)) (jq (zF jP Yw (hr.mono (by decide)) (zc (zP (xM K) (pv 0) zj (fun _ _ => rfl)) (zc (zP (xM K) (pv 0) zj (fun _ _ => rfl)) zf)))))))), ?_⟩
    refine ⟨_, rfl, _, _, _, _, rfl, .tup R.tu, Vv, _, rfl, qZ ?_⟩
    refine ⟨_, rfl, r, _, rfl, .inr (SqT.of R.tu), rfl, _, rfl, ?_⟩
    refine qZ ?_
    refine ⟨_, rfl, r, _, _, V.int b, rfl, rfl, SqT.of R.tu, rfl, (b : Int), rfl, ?_⟩
    rw [decide_eq_true (show (2 : Int) ≤ b ∧ (b : Int) ≤ 16 from ⟨by omega, by omega⟩)]
    refine ⟨_, rfl, ji ?_⟩
    refine ⟨_, rfl, r, _, _, V.int b, rfl, rfl, SqT.of R.tu, rfl, _, rfl, r, _, _, V.ref bl, rfl, rfl, SqT.of R.tu, rfl, b, bl, zs, rfl, R.li, R.st, g, kk⟩
def yK : Sp := fun vs H Q _ => ∃ (r : Addr) (b : Nat) (bl : Addr) (zs : List (Addr × List Int)), vs = [.ref r] ∧ RuleAt H r b bl zs ∧ GoodRule b (zs.map (·.2)) ∧ ∀ H', Same H H' → Q .non H'
theorem Qf : zG ["thing"] ["thing"] (zu yM) := ⟨rfl, rfl, rfl, by decide +kernel, rfl, by decide +kernel, by decide +kernel⟩
theorem Qm {f f1 : Addr} {fd fd1 : FuncData} (D : Df K mg "check_rule" yM ["thing"] f fd) (Wo : Df K mg "is_rule" Xo ["thing"] f1 fd1) (Uh : FnOk P w K mg base CX0 6 f1 fd1 ["thing"] X3) : FnOk P w K mg base CX0 7 f fd ["thing"] yK := by
  refine D.fn.ok Qf (fun vs H Q E h => ?_) (fun cdv A outer s H vs Q E hr h => ?_)
  · obtain ⟨r, b, bl, zs, rfl, _⟩ := h; rfl
  · obtain ⟨r, b, bl, zs, rfl, R, g, kk⟩ := h
    refine ⟨_, (zq (xP (tX (uE (zF Wo Uh (hr.mono (by decide)) (zc (pv 0) zf))))
        (zq Y4)
        yh)), ?_⟩
    exact ⟨_, rfl, r, b, bl, zs, rfl, R, g, fun H1 s1 => ⟨_, rfl, qZ (kk H1 s1)⟩⟩
end
section
variable {P : Program} {w : World} {K : PySem.W.Frag} {mg : Str → Option Value} {base : Heap}
theorem zcf (xs : List V) (k m : Nat) : jm xs (some (k : Int)) (some (m : Int)) = (xs.drop k).take (m - k) := by
  unfold jm
  rw [HT.VL, HT.VL]
  by_cases hk : k ≤ xs.length
  · rw [Nat.min_eq_left hk]
    by_cases hm : m ≤ xs.length
    · rw [Nat.min_eq_left hm]
    · rw [Nat.min_eq_right (by omega), List.take_of_length_le (by rw [List.length_drop]; omega), List.take_of_length_le (by rw [List.length_drop]; omega)]
  · rw [List.drop_of_length_le (show xs.length ≤ k by omega), Nat.min_eq_right (show xs.length ≤ k by omega), List.drop_of_length_le (Nat.le_refl _)]
    simp
def qD : Sp := fun vs H Q _ => ∃ (sa fa : Addr) (st fs : List Int), vs = [.ref sa, .ref fa] ∧ H sa = some (.lst (st.map V.int)) ∧ H fa = some (.lst (fs.map V.int)) ∧ st ≠ [] ∧ st.length ≤ 1000 ∧ fs.length ≤ 1000 ∧ ∀ H', Same H H' → Q (.bl (Uu st fs)) H'
theorem Z9 : zG ["stretch", "figures", "size"] ["stretch", "figures"] (zu vN) := ⟨rfl, rfl, rfl, by decide +kernel, rfl, by decide +kernel, by decide +kernel⟩
theorem ZZ {f : Addr} {fd : FuncData} (D : Df K mg "stands_within" vN ["stretch", "figures"] f fd) (T : Blt mg) : FnOk P w K mg base CX0 1 f fd ["stretch", "figures"] qD := by
  refine D.fn.ok Z9 (fun vs H Q E h => ?_) (fun cdv A outer s H vs Q E hr h => ?_)
  · obtain ⟨sa, fa, st, fs, rfl, _⟩ := h; rfl
  · obtain ⟨sa, fa, st, fs, rfl, hs, hf, ne, hl1, hl2, kk⟩ := h
    have HU := zbZ hr
    refine ⟨_, (zg (zH (i := 2) Z9.nd rfl (Or.inr rfl) (zK (vB K) (by rfl) T.n_len PySem.boot_len (zc (pv 0) zf)))
      (zq (zJ (zK (zca K rfl) (by rfl) T.n_any boot_any (zc (uO (show CScope (zu vN) _ "k" ["stretch", "figures", "size"] ["stretch", "figures", "size"] [0, 1, 2] from ⟨rfl, by decide +kernel, by decide +kernel, rfl, by decide +kernel, rfl, by decide +kernel, by decide +kernel⟩) rfl (yw rfl T.n_range (zc (zA yN (zA xV (zK (vB K) (by rfl) T.n_len PySem.boot_len (zc (pv 1) zf)) (pv 2)) zj) zf)) (fun _ _ _ _ => wK) (fun _ _ _ _ => (wU (zdJ K HU) (uH (Xz K) (pv 2) (ql (pv 0)) (ql (zA yN (pv 0) (pv 3)))) (pv 1) (yc _)))) zf))))), ?_⟩
    refine ⟨_, rfl, sa, _, rfl, .inl (SqL.of hs), ?_⟩
    rw [List.length_map]
    refine ⟨_, rfl, fa, _, rfl, .inl (SqL.of hf), _, rfl, _, _, rfl, rfl, _, _, rfl, rfl, _, rfl, ?_⟩
    rw [List.length_map]
    refine ⟨by omega, by omega, vK (lo := 0) (n := ((fs.length : Int) - st.length + 1).toNat) (fun i ys H4 => ys = ((List.range i).map fun k => decide ((fs.drop k).take st.length = st)).map V.bl ∧ Same H H4) ⟨by simp, Same.refl _⟩ ?_ ?_⟩
    · rintro i ys H4 hi ⟨rfl, s4⟩
      refine ⟨by rw [List.length_map, List.length_map, List.length_range]; exact Nat.lt_of_lt_of_le (show i < 2000 by omega) (by decide), ?_⟩
      unfold YS
      dsimp only
      rw [if_pos rfl]
      refine ⟨_, rfl, _, rfl, _, rfl, _, rfl, _, rfl, _, _, rfl, rfl, _, rfl, fa, _, rfl, SqL.of (s4 _ _ hf), fun p hp => ?_⟩
      have e1 : jm (fs.map V.int) (some (0 + (i : Int))) (some (0 + (i : Int) + (st.length : Int))) = ((fs.drop i).take st.length).map V.int := by
        have e : (0 + (i : Int) + (st.length : Int)) = ((i + st.length : Nat) : Int) := by omega
        rw [e, Int.zero_add, zcf, List.map_take, List.map_drop, Nat.add_sub_cancel_left]
      rw [e1]
      refine ⟨_, rfl, vX ((fs.drop i).take st.length), vX st, TrAt.ints (a := p) (SqL.of zm), TrAt.ints (a := sa) (SqL.of (zp hp _ _ (s4 _ _ hs))), (by rw [Yq]; decide), ?_, s4.trans (zp hp)⟩
      rw [List.range_succ, List.map_append, List.map_append]
      have e2 := Z6 ((fs.drop i).take st.length) st
      show _ = _ ++ [V.bl (decide ((fs.drop i).take st.length = st))]
      rw [← e2]; rfl
    · rintro ys H4 ⟨rfl, s4⟩ Dd hD
      refine ⟨Dd, _, rfl, SqL.of zm, ?_⟩
      have q := kk _ (s4.trans (zp hD (o := .lst (((List.range ((fs.length : Int) - st.length + 1).toNat).map fun k => decide ((fs.drop k).take st.length = st)).map V.bl))))
      rw [zaF ne] at q
      rw [List.any_map]
      exact q
def uq : Sp := fun vs H Q _ => ∃ (bl fa : Addr) (zs : List (Addr × List Int)) (fs : List Int), vs = [.ref bl, .ref fa] ∧ H bl = some (.lst (zs.map fun z => V.ref z.1)) ∧ (∀ z ∈ zs, H z.1 = some (.lst (z.2.map V.int))) ∧ H fa = some (.lst (fs.map V.int)) ∧ zs.length ≤ 100 ∧ fs.length ≤ 1000 ∧ (∀ z ∈ zs, z.2 ≠ [] ∧ z.2.length ≤ 1000) ∧ ∀ H', Same H H' → Q (.bl (lacks (zs.map (·.2)) fs)) H'
theorem Jv : zG ["bad", "figures"] ["bad", "figures"] (zu vA) := ⟨rfl, rfl, rfl, by decide +kernel, rfl, by decide +kernel, by decide +kernel⟩
theorem Js {f f1 : Addr} {fd fd1 : FuncData} (D : Df K mg "lacks_all" vA ["bad", "figures"] f fd) (ug : Df K mg "stands_within" vN ["stretch", "figures"] f1 fd1) (T : Blt mg) : FnOk P w K mg base CX0 2 f fd ["bad", "figures"] uq := by
  have Y9 : FnOk P w K mg base CX0 1 f1 fd1 ["stretch", "figures"] qD := ZZ ug T
  refine D.fn.ok Jv (fun vs H Q E h => ?_) (fun cdv A outer s H vs Q E hr h => ?_)
  · obtain ⟨bl, fa, zs, fs, rfl, _⟩ := h; rfl
  · obtain ⟨bl, fa, zs, fs, rfl, hb, hz, hf, hl1, hl2, ne, kk⟩ := h
    refine ⟨_, (zq (zJ (zcP (zK (zca K rfl) (by rfl) T.n_any boot_any (zc (uO (show CScope (zu vA) _ "stretch" ["bad", "figures"] ["figures"] [1] from ⟨rfl, by decide +kernel, by decide +kernel, rfl, by decide +kernel, rfl, by decide +kernel, by decide +kernel⟩) rfl (Qe K (pv 0)) (fun _ _ _ _ => wK) (fun _ _ _ _ => (zF ug Y9 (hr.mono (by decide)) (zc (pv 0) (zc (pv 1) zf))))) zf))))), ?_⟩
    refine ⟨_, rfl, bl, rfl, ⟨_, SqL.of hb⟩, tG (K := K) (a := bl) (xs := zs.map fun z => V.ref z.1) (fun i ys H4 => ys = ((zs.take i).map fun z => Uu z.2 fs).map V.bl ∧ Same H H4) ⟨by simp, Same.refl _⟩ (fun i ys H4 _ ⟨_, e⟩ => SqL.of (e _ _ hb)) ?_ ?_⟩
    · rintro j x ys H4 hx ⟨rfl, s4⟩
      rw [List.getElem?_map] at hx
      obtain ⟨z, hzj, e⟩ := Option.map_eq_some_iff.mp hx
      subst e
      have hzm := List.mem_of_getElem? hzj
      refine ⟨?_, ?_⟩
      · rw [List.length_map, List.length_map, List.length_take]
        exact Nat.lt_of_le_of_lt (Nat.le_trans (Nat.min_le_right _ _) hl1) (by decide)
      unfold YS
      dsimp only
      rw [if_pos rfl]
      refine ⟨_, rfl, _, rfl, z.1, fa, z.2, fs, rfl, s4 _ _ (hz z hzm), s4 _ _ hf, (ne z hzm).1, (ne z hzm).2, hl2, fun H5 s5 => ⟨?_, s4.trans s5⟩⟩
      rw [List.take_succ, hzj]
      simp
    · rintro ys H4 ⟨rfl, s4⟩ Dd hD
      refine ⟨Dd, _, rfl, SqL.of zm, _, rfl, ?_⟩
      have q := kk _ (s4.trans (zp hD (o := .lst (((zs.take (zs.map fun z => V.ref z.1).length).map fun z => Uu z.2 fs).map V.bl))))
      rw [List.length_map, List.take_length] at q ⊢
      unfold lacks at q
      rw [List.any_map] at q ⊢
      exact q
end
section
variable {P : Program} {w : World} {K : PySem.W.Frag} {mg : Str → Option Value} {base : Heap}
def X4 : Sp := fun vs H Q _ => ∃ (r : Addr) (b : Nat) (bl : Addr) (zs : List (Addr × List Int)) (n : Nat), vs = [.ref r, .int n] ∧ RuleAt H r b bl zs ∧ GoodRule b (zs.map (·.2)) ∧ n < 2 ^ 900 ∧ ∀ H', Same H H' → Q (.bl (lacks (zs.map (·.2)) (yp b n))) H'
theorem zaH : zG ["rule", "n"] ["rule", "n"] (zu Xk) := ⟨rfl, rfl, rfl, by decide +kernel, rfl, by decide +kernel, by decide +kernel⟩
theorem zau {f f1 f2 f3 : Addr} {fd fd1 fd2 fd3 : FuncData} (D : Df K mg "is_good" Xk ["rule", "n"] f fd) (zM : Df K mg "check_rule" yM ["thing"] f1 fd1) (zN : FnOk P w K mg base CX0 7 f1 fd1 ["thing"] yK)
    (xr : Df K mg "lacks_all" vA ["bad", "figures"] f2 fd2) (xY : FnOk P w K mg base CX0 2 f2 fd2 ["bad", "figures"] uq) (zW : Df K mg "figures_of" xG ["base", "n"] f3 fd3) (zZ : FnOk P w K mg base CX0 4 f3 fd3 ["base", "n"] xF) (T : Blt mg) :
    FnOk P w K mg base CX0 8 f fd ["rule", "n"] X4 := by
  refine D.fn.ok zaH (fun vs H Q E h => ?_) (fun cdv A outer s H vs Q E hr h => ?_)
  · obtain ⟨r, b, bl, zs, n, rfl, _⟩ := h; rfl
  · obtain ⟨r, b, bl, zs, n, rfl, R, g, hn, kk⟩ := h
    refine ⟨_, (zg (yP (zF zM zN (hr.mono (by decide)) (zc (pv 0) zf)))
      (zq (zJ (zF xr xY (hr.mono (by decide)) (zc (zP (xM K) (pv 0) zj (fun _ _ => rfl)) (zc (zF zW zZ (hr.mono (by decide)) (zc (zP (xM K) (pv 0) zj (fun _ _ => rfl)) (zc (pv 1) zf))) zf)))))), ?_⟩
    refine ⟨_, rfl, r, b, bl, zs, rfl, R, g, fun H1 s1 => ?_⟩
    have R1 := R.same s1
    refine ⟨_, rfl, r, _, _, V.ref bl, rfl, rfl, SqT.of R1.tu, rfl, ?_⟩
    refine ⟨_, rfl, r, _, _, V.int b, rfl, rfl, SqT.of R1.tu, rfl, _, rfl, b, n, rfl, g.b2, g.b16, hn, fun l H2 hl hv s2 => ?_⟩
    have R2 := R1.same s2
    have hfl := tR g.b2 900 n hn
    have h4 : zs.length ≤ 4 := by have := g.len; rwa [List.length_map] at this
    exact ⟨bl, l, zs, yp b n, rfl, R2.li, R2.st, hv, by omega, by omega, fun z hz => ⟨(g.st _ (List.mem_map.mpr ⟨z, hz, rfl⟩)).ne, Nat.le_trans (g.st _ (List.mem_map.mpr ⟨z, hz, rfl⟩)).len (by decide)⟩, fun H3 s3 => kk H3 ((s1.trans s2).trans s3)⟩
end
theorem Z8 (xs : List V) (m : Nat) : jm xs none (some (m : Int)) = xs.take m := by
  unfold jm
  rw [HT.VL, HT.zar, List.drop_zero, Nat.sub_zero]
  by_cases h : m ≤ xs.length
  · rw [Nat.min_eq_left h]
  · rw [Nat.min_eq_right (by omega), List.take_of_length_le (Nat.le_refl _), List.take_of_length_le (by omega)]
theorem jU (xs : List V) (m : Nat) : jm xs (some (m : Int)) none = xs.drop m := by
  unfold jm
  rw [HT.VL, HT.zar]
  by_cases h : m ≤ xs.length
  · rw [Nat.min_eq_left h, List.take_of_length_le (by rw [List.length_drop]; omega)]
  · rw [Nat.min_eq_right (by omega), List.drop_of_length_le (Nat.le_refl _), List.drop_of_length_le (by omega)]; simp
theorem RuleAt.all {fp : List Addr} {r bl : Addr} {H : Hp} {b : Nat} {zs : List (Addr × List Int)} (R : RuleAt (aw fp H) r b bl zs) : RuleAt H r b bl zs := R.same (zU fp H)
theorem QK {ls : List (List Int)} {x : List Int} : ((ls.map vX).any fun t => teq t (vX x)) = decide (x ∈ ls) := by
  rw [Bool.eq_iff_iff]
  simp only [List.any_eq_true, List.mem_map, decide_eq_true_eq]
  constructor
  · rintro ⟨t, ⟨l, hl, rfl⟩, e⟩
    rw [Z6] at e
    rw [← of_decide_eq_true e]; exact hl
  · intro h
    exact ⟨vX x, ⟨x, h, rfl⟩, J5 _⟩
theorem ZF : ∀ ls : List (List Int), tK (ls.map vX) ≤ 1
  | [] => by simp [tK]
  | l :: ls => by rw [List.map_cons, tK, Yq]; have := ZF ls; omega
theorem TrsAt.lists {K : PySem.W.Frag} {H : Hp} : ∀ {zs : List (Addr × List Int)}, (∀ z ∈ zs, H z.1 = some (.lst (z.2.map V.int))) → TrsAt K H ((zs.map (·.2)).map vX) (zs.map fun z => V.ref z.1)
  | [], _ => by rw [List.map_nil, List.map_nil, TrsAt]; rfl
  | z :: zs, h => by
    rw [List.map_cons, List.map_cons, TrsAt]
    exact ⟨_, _, rfl, TrAt.ints (SqL.of (h z List.mem_cons_self)), TrsAt.lists fun z hz => h z (List.mem_cons_of_mem _ hz)⟩
section
variable {P : Program} {w : World} {K : PySem.W.Frag} {mg : Str → Option Value} {base : Heap}
def ZK : Sp := fun vs H Q _ => ∃ (bl fa : Addr) (zs : List (Addr × List Int)) (fs : List Int), vs = [.ref bl, .ref fa] ∧ H bl = some (.lst (zs.map fun z => V.ref z.1)) ∧ (∀ z ∈ zs, H z.1 = some (.lst (z.2.map V.int))) ∧ H fa = some (.lst (fs.map V.int)) ∧ zs.length ≤ 100 ∧ ∀ H', Same H H' → Q (.bl (Yx (zs.map (·.2)) fs)) H'
theorem Qc : zG ["bad", "figures"] ["bad", "figures"] (zu qg) := ⟨rfl, rfl, rfl, by decide +kernel, rfl, by decide +kernel, by decide +kernel⟩
theorem Xx {f : Addr} {fd : FuncData} (D : Df K mg "begins_one" qg ["bad", "figures"] f fd) (T : Blt mg) : FnOk P w K mg base CX0 1 f fd ["bad", "figures"] ZK := by
  refine D.fn.ok Qc (fun vs H Q E h => ?_) (fun cdv A outer s H vs Q E hr h => ?_)
  · obtain ⟨bl, fa, zs, fs, rfl, _⟩ := h; rfl
  · obtain ⟨bl, fa, zs, fs, rfl, hb, hz, hf, hl1, kk⟩ := h
    have HU := zbZ hr
    refine ⟨_, (zq (zJ (zK (zca K rfl) (by rfl) T.n_any boot_any (zc (uO (show CScope (zu qg) _ "stretch" ["bad", "figures"] ["figures"] [1] from ⟨rfl, by decide +kernel, by decide +kernel, rfl, by decide +kernel, rfl, by decide +kernel, by decide +kernel⟩) rfl (Qe K (pv 0)) (fun _ _ _ _ => wK) (fun _ _ _ _ => (wU (zdJ K HU) (uH (Xz K) (pv 0) jD (ql (zK (vB K) (by rfl) T.n_len PySem.boot_len (zc (pv 1) zf)))) (pv 1) (yc _)))) zf)))), ?_⟩
    refine ⟨_, rfl, bl, rfl, ⟨_, SqL.of hb⟩, tG (K := K) (a := bl) (xs := zs.map fun z => V.ref z.1) (fun i ys H4 => ys = ((zs.take i).map fun z => decide (z.2.take fs.length = fs)).map V.bl ∧ Same H H4) ⟨by simp, Same.refl _⟩ (fun i ys H4 _ ⟨_, e⟩ => SqL.of (e _ _ hb)) ?_ ?_⟩
    · rintro j x ys H4 hx ⟨rfl, s4⟩
      rw [List.getElem?_map] at hx
      obtain ⟨z, hzj, e⟩ := Option.map_eq_some_iff.mp hx
      subst e
      have hzm := List.mem_of_getElem? hzj
      refine ⟨?_, ?_⟩
      · rw [List.length_map, List.length_map, List.length_take]
        exact Nat.lt_of_le_of_lt (Nat.le_trans (Nat.min_le_right _ _) hl1) (by decide)
      unfold YS
      dsimp only
      rw [if_pos rfl]
      refine ⟨_, rfl, _, rfl, fa, _, rfl, .inl (SqL.of (s4 _ _ hf)), _, rfl, z.1, _, rfl, SqL.of (s4 _ _ (hz z hzm)), fun p hp => ?_⟩
      rw [List.length_map, Z8, ← List.map_take]
      refine ⟨_, rfl, vX (z.2.take fs.length), vX fs, TrAt.ints (a := p) (SqL.of zm), TrAt.ints (a := fa) (SqL.of (zp hp _ _ (s4 _ _ hf))), (by rw [Yq]; decide), ?_, s4.trans (zp hp)⟩
      rw [List.take_succ, hzj]
      have e2 := Z6 (z.2.take fs.length) fs
      show _ ++ [V.bl (teq _ _)] = _
      rw [e2]
      simp
    · rintro ys H4 ⟨rfl, s4⟩ Dd hD
      refine ⟨Dd, _, rfl, SqL.of zm, ?_⟩
      have q := kk _ (s4.trans (zp hD (o := .lst (((zs.take (zs.map fun z => V.ref z.1).length).map fun z => decide (z.2.take fs.length = fs)).map V.bl))))
      rw [List.length_map, List.take_length] at q ⊢
      unfold Yx at q
      rw [List.any_map] at q ⊢
      exact q
def zdU (ls : List (List Int)) (fs : List Int) (H H' : Hp) (v : V) : Prop := (lacks ls fs = false ∧ v = .non) ∨ (lacks ls fs = true ∧ ∃ l, v = .ref l ∧ H l = none ∧ H' l = some (.lst ((zY ls fs).map V.int)))
def qt : Sp := fun vs H Q _ => ∃ (bl fa : Addr) (zs : List (Addr × List Int)) (fs : List Int), vs = [.ref bl, .ref fa] ∧ H bl = some (.lst (zs.map fun z => V.ref z.1)) ∧ (∀ z ∈ zs, H z.1 = some (.lst (z.2.map V.int))) ∧ H fa = some (.lst (fs.map V.int)) ∧ zs.length ≤ 100 ∧ fs.length ≤ 1000 ∧ (∀ z ∈ zs, z.2 ≠ [] ∧ z.2.length ≤ 1000) ∧
  ∀ v H', zdU (zs.map (·.2)) fs H H' v → Same H H' → Q v H'
theorem Z1 : zG ["bad", "figures", "start"] ["bad", "figures"] (zu uN) := ⟨rfl, rfl, rfl, by decide +kernel, rfl, by decide +kernel, by decide +kernel⟩
theorem Va {f f1 f2 : Addr} {fd fd1 fd2 : FuncData} (D : Df K mg "longest_stand" uN ["bad", "figures"] f fd) (xr : Df K mg "lacks_all" vA ["bad", "figures"] f1 fd1) (xY : FnOk P w K mg base CX0 2 f1 fd1 ["bad", "figures"] uq)
    (qY : Df K mg "begins_one" qg ["bad", "figures"] f2 fd2) (T : Blt mg) : FnOk P w K mg base CX0 3 f fd ["bad", "figures"] qt := by
  have Vn : FnOk P w K mg base CX0 1 f2 fd2 ["bad", "figures"] ZK := Xx qY T
  refine D.fn.ok Z1 (fun vs H Q E h => ?_) (fun cdv A outer s H vs Q E hr h => ?_)
  · obtain ⟨bl, fa, zs, fs, rfl, _⟩ := h; rfl
  · obtain ⟨bl, fa, zs, fs, rfl, hb, hz, hf, hl1, hl2, ne, kk⟩ := h
    refine ⟨_, (zg (xP (tX (uE (zF xr xY (hr.mono (by decide)) (zc (pv 0) (zc (pv 1) zf)))))
        (zq (zJ tY))
        yh)
      (zg (vU PassesOwn.never rfl (yw rfl T.n_range (zc (zK (vB K) (by rfl) T.n_len PySem.boot_len (zc (pv 1) zf)) zf)) (yZ (i := 2) Z1.nd rfl (Or.inl rfl))
        (zq (xP (uE (zF qY Vn (hr.mono (by decide)) (zc (pv 0) (zc (uH (Xz K) (pv 1) (ql (pv 2)) jD) zf))))
          (zq (zJ (uH (Xz K) (pv 1) (ql (pv 2)) jD)))
          yh)))
      (zq (zJ (xm zf))))), ?_⟩
    refine ⟨_, rfl, _, rfl, bl, fa, zs, fs, rfl, hb, hz, hf, hl1, hl2, ne, fun H1 s1 => ⟨_, rfl, ?_⟩⟩
    cases hL : lacks (zs.map (·.2)) fs with
    | false => exact ji (kk _ _ (.inl ⟨hL, rfl⟩) s1)
    | true =>
      refine qZ ?_
      refine ⟨_, rfl, fa, _, rfl, .inl (SqL.of (s1 _ _ hf)), (((fs.map V.int).length : Nat) : Int), rfl, by rw [List.length_map]; omega, by rw [List.length_map]; omega, wy (lo := 0) (n := (((fs.map V.int).length : Nat) : Int).toNat) (fun i σ H2 => ∃ v1 : Option V, σ = [some (.ref bl), some (.ref fa), v1] ∧ Same H H2 ∧ ∀ k, k < i → Yx (zs.map (·.2)) (fs.drop k) = false) ⟨none, rfl, s1, fun k hk => by omega⟩ ?_ ?_⟩
      · rintro i σ H2 hi ⟨v1, rfl, s2, hno⟩
        have hi' : i < fs.length := by rw [List.length_map] at hi; omega
        refine ⟨_, rfl, _, rfl, _, rfl, _, rfl, fa, _, rfl, SqL.of (s2 _ _ hf), fun p hp => ?_⟩
        rw [Int.zero_add, jU, ← List.map_drop]
        have t := s2.trans (zp hp (o := .lst ((fs.drop i).map V.int)))
        refine ⟨bl, p, zs, fs.drop i, rfl, t _ _ hb, fun z hzm => t _ _ (hz z hzm), zm, hl1, fun H3 s3 => ⟨_, rfl, ?_⟩⟩
        have t3 := t.trans s3
        cases hB : Yx (zs.map (·.2)) (fs.drop i) with
        | true =>
          refine ji ⟨_, rfl, _, rfl, _, rfl, fa, _, rfl, SqL.of (t3 _ _ hf), fun q hq => ?_⟩
          rw [jU, ← List.map_drop]
          refine kk _ _ (.inr ⟨hL, q, rfl, t3.free hq, ?_⟩) (t3.trans (zp hq))
          rw [zm, zck (by omega) hno hB]
        | false =>
          refine qZ ⟨_, rfl, t3, fun k hk => ?_⟩
          by_cases e : k < i
          · exact hno k e
          · have : k = i := by omega
            rw [this]; exact hB
      · rintro σ H2 ⟨v1, rfl, s2, hno⟩
        refine ⟨(by decide : 0 ≤ sizeLine), fun q hq => kk _ _ (.inr ⟨hL, q, rfl, s2.free hq, ?_⟩) (s2.trans (zp hq))⟩
        rw [zm, zaR (fun k hk => hno k (by rw [List.length_map]; omega))]
        rfl
end
section
variable {P : Program} {w : World} {K : PySem.W.Frag} {mg : Str → Option Value} {base : Heap} {T0 : Addr}
def lamP : Pos := ⟨85, 29, 85, 59⟩
def zdD : Scope := match (wN yH).getLast? with
  | some (.Return (some (.Call _ _ [⟨_, .Lambda _ _ sc _, _⟩] _)) _) => sc
  | _ => zu yH
theorem zer : zG ["each"] ["each"] zdD := ⟨rfl, rfl, rfl, by decide +kernel, rfl, by decide +kernel, by decide +kernel⟩
theorem zcz {H H' : Hp} {p : Addr} {o : HO} (s : Same H H') (h : H p = none) : Same H (upd H' p o) := fun b u e => by rw [zx (zB e h)]; exact s b u e
def SameL (T : Addr) (H H' : Hp) : Prop := ∀ b u, b ≠ T → H b = some u → H' b = some u
abbrev LT (T : Addr) (H : Hp) : Prop := W3 T lamP ((("stands_of" : Str) ++ (".<locals>." : Str)) ++ ("<lambda>" : Str)) H
theorem SameL.of {T : Addr} {H H' : Hp} (s : Same H H') : SameL T H H' := fun b u _ e => s b u e
theorem SameL.trans {T : Addr} {H H1 H2 : Hp} (a : SameL T H H1) (b : SameL T H1 H2) : SameL T H H2 := fun c u h e => b c u h (a c u h e)
theorem LT.same {T : Addr} {H H' : Hp} (h : LT T H) (s : Same H H') : LT T H' := by
  rcases h with h | ⟨c, h1, h2⟩
  · exact .inl (s _ _ h)
  · exact .inr ⟨c, s _ _ h1, s _ _ h2⟩
theorem LT.lst {T : Addr} {H : Hp} (h : LT T H) {b : Addr} {xs : List V} (e : H b = some (.lst xs)) : b ≠ T := fun z => by
  rw [z] at e
  rcases h with h | ⟨c, h, _⟩
  · rw [h] at e; cases e
  · rw [h] at e; cases e
theorem LT.tup {T : Addr} {H : Hp} (h : LT T H) {b : Addr} {xs : List V} (e : H b = some (.tup xs)) : b ≠ T := fun z => by
  rw [z] at e
  rcases h with h | ⟨c, h, _⟩
  · rw [h] at e; cases e
  · rw [h] at e; cases e
theorem LT.none {T : Addr} {H : Hp} (h : LT T H) {b : Addr} (e : H b = none) : b ≠ T := fun z => by
  rw [z] at e
  rcases h with h | ⟨c, h, _⟩
  · rw [h] at e; cases e
  · rw [h] at e; cases e
def YF (T : Addr) : Sp := fun vs H Q _ => ∃ (bl : Addr) (zs : List (Addr × List Int)), vs = [.ref bl] ∧ H bl = some (.lst (zs.map fun z => V.ref z.1)) ∧ (∀ z ∈ zs, H z.1 = some (.lst (z.2.map V.int))) ∧ zs.length ≤ 4 ∧ (∀ z ∈ zs, z.2 ≠ [] ∧ z.2.length ≤ 4) ∧ LT T H ∧
  ∀ (D : Addr) (ws : List (Addr × List Int)) (H' : Hp), H D = none → H' D = some (.lst (ws.map fun z => V.ref z.1)) → (∀ z ∈ ws, H z.1 = none ∧ H' z.1 = some (.lst (z.2.map V.int)) ∧ z.1 ≠ D) → StandsL (zs.map (·.2)) (ws.map (·.2)) → ws.length ≤ 13 → SameL T H H' → LT T H' → Q (.ref D) H'
theorem t8 : zG ["bad", "found", "stretch", "size", "stand"] ["bad"] (zu yH) := ⟨rfl, rfl, rfl, by decide +kernel, rfl, by decide +kernel, by decide +kernel⟩
theorem Ju {f f1 c : Addr} {fd fd1 : FuncData} (D : Df K mg "stands_of" yH ["bad"] f fd) (hc : fd.code = .ref c) (hcT : PySem.W.codeHdIn K c T0 = true) (hBM : base.BuiltinsAt mg T0) (hgT : mainGlobals ≠ T0) (xr : Df K mg "lacks_all" vA ["bad", "figures"] f1 fd1) (xY : FnOk P w K mg base CX0 2 f1 fd1 ["bad", "figures"] uq) (T : Blt mg) :
    FnOk P w K mg base CX0 6 f fd ["bad"] (YF T0) := by
  obtain ⟨oc, od, kV, doc, pm, an, cdv, ct, osl, rfl, lk, hcd⟩ := D.fn.ex
  obtain rfl : cdv = .ref c := hc
  refine zdE lk hcd t8 (fun vs H Q E h => ?_) (fun A outer s H vs Q E hr h => ?_)
  · obtain ⟨bl, zs, rfl, _⟩ := h; rfl
  · obtain ⟨bl, zs, rfl, hb, hz, h4, hst, hLT, kk⟩ := h
    have HU := zbZ hr
    have lam_body : ∀ (f' c' : Addr) (s' : Shared) (H' : Hp) (z : Addr × List Int), H' z.1 = some (.lst (z.2.map V.int)) → ∃ t, PE (Vs CX0 P w K mg base ["each"] ((("stands_of" : Str) ++ (".<locals>." : Str)) ++ ("<lambda>" : Str)) zdD f' (.ref c') (A.deeper (envOfC "stands_of" (zu yH) s.heap.objs.size f (.ref c))).in1.in1 (envOfC "stands_of" (zu yH) s.heap.objs.size f (.ref c) :: outer) s' H' E0)
        (match (wN yH).getLast? with
          | some (.Return (some (.Call _ _ [⟨_, .Lambda _ b _ _, _⟩] _)) _) => b
          | _ => .Constant .none 0 ⟨0, 0, 0, 0⟩) t ∧
        t (start ["each"] [.ref z.1]) H' fun v H2 => ∃ p, v = .ref p ∧ H' p = none ∧ H2 = upd H' p (.tup [.int z.2.length, .ref z.1]) := by
      intro f' c' s' H' z hz'
      refine ⟨_, (Ue (zc (zK (vB K) (by rfl) T.n_len PySem.boot_len (zc (pv 0) zf)) (zc (pv 0) zf))), ?_⟩
      refine ⟨_, rfl, z.1, _, rfl, .inl (SqL.of hz'), _, rfl, (by show 2 ≤ sizeLine; decide), fun p hp => ⟨p, rfl, hp, ?_⟩⟩
      rw [List.length_map]
    refine Exists.elim (?key : ∃ t, PSs (Vs CX0 P w K mg base ["bad", "found", "stretch", "size", "stand"] "stands_of" (zu yH) f (.ref c) A outer s H E).nox (wN yH) t ∧ t { nx := fun _ H' => Q .non H', rt := Q } (start ["bad", "found", "stretch", "size", "stand"] [.ref bl]) H) fun t h => ⟨t, h.1.nox, h.2⟩
    refine ⟨_, (zg (zH (i := 1) t8.nd rfl (Or.inl rfl) (xm (zc (xm zf) zf)))
      (zg (vU PassesOwn.never rfl (Qe K (pv 0)) (yZ (i := 2) t8.nd rfl (Or.inl rfl))
        (zq (vU PassesOwn.never rfl (zbX rfl T.n_range (zc zj (zc (zK (vB K) (by rfl) T.n_len PySem.boot_len (zc (pv 2) zf)) zf))) (yZ (i := 3) t8.nd rfl (Or.inl rfl))
          (zg (zH (i := 4) t8.nd rfl (Or.inl rfl) (uH (Xz K) (pv 2) jD (ql (pv 3))))
          (zq (xP (PW.pt (zch (ym (zcC K HU) (pv 4) (pv 1) (by with_unfolding_all rfl)) (za6 (uE (zF xr xY (hr.mono (by decide)) (zc (pv 0) (zc (pv 4) zf)))))))
            (zq (yP (YM PySem.F.plainAttrs_list PySem.F.slot_list_append PySem.F.type_list_append vQ (pv 1) (zc (pv 4) zf))))
            yh))))))
      (zq (zJ (za4 (k := 1) (pv 1) rfl T.n_sorted (hr.mono (by decide)) rfl rfl rfl hcT hBM hgT zer (fun _ _ _ _ => rfl) lam_body))))), ?_⟩
    have hls : ∀ st ∈ zs.map (·.2), st ≠ [] ∧ st.length ≤ 4 := fun st h => by obtain ⟨z, hz, rfl⟩ := List.mem_map.mp h; exact hst z hz
    refine ⟨(by decide : 0 ≤ sizeLine), fun e0 he0 => ⟨(by show 1 ≤ sizeLine; decide), fun fo hfo => ?_⟩⟩
    have hfoH : H fo = none := (zp he0).free hfo
    have nef : e0 ≠ fo := fun z => by rw [← z, zm] at hfo; cases hfo
    let Inv1 : List (Addr × List Int) → (List Int → Prop) → Hp → Prop := fun ws M H2 => H2 fo = some (.lst (ws.map fun z => V.ref z.1)) ∧ (∀ z ∈ ws, H z.1 = none ∧ H2 z.1 = some (.lst (z.2.map V.int)) ∧ z.1 ≠ fo) ∧ (ws.map (·.2)).Nodup ∧ (∀ x, x ∈ ws.map (·.2) ↔ M x) ∧ Same H H2
    let M1 : Nat → List Int → Prop := fun i x => x = [] ∨ ∃ z ∈ zs.take i, ∃ k, 1 ≤ k ∧ k < z.2.length ∧ x = z.2.take k ∧ lacks (zs.map (·.2)) x = true
    refine ⟨_, rfl, bl, rfl, ⟨_, SqL.of ((zp he0).trans (zp hfo) _ _ hb)⟩, J6 (K := K) (a := bl) (xs := zs.map fun z => V.ref z.1) (fun i σ H2 => ∃ (v2 v3 v4 : Option V) (ws : List (Addr × List Int)), σ = [some (.ref bl), some (.ref fo), v2, v3, v4] ∧ Inv1 ws (M1 i) H2 ∧ ws.length ≤ 1 + 3 * i)
      ⟨none, none, none, [(e0, [])], rfl, ⟨zm, fun z hz' => ?_, by simp, fun x => ?_, (zp he0).trans (zp hfo)⟩, by simp⟩ (fun i σ H2 _ ⟨_, _, _, _, _, ⟨_, _, _, _, e⟩, _⟩ => SqL.of (e _ _ hb)) ?_ ?_⟩
    · have e : z = (e0, []) := by simpa using hz'
      subst e
      exact ⟨he0, by rw [zx nef, zm]; rfl, nef⟩
    · constructor
      · intro hx
        exact .inl (by simpa using hx)
      · rintro (rfl | ⟨z, hz', _⟩)
        · simp
        · simp at hz'
    · rintro i x σ H2 hx ⟨v2, v3, v4, ws, rfl, ⟨hF, hW, ndW, hM, sm⟩, hlen⟩
      rw [List.getElem?_map] at hx
      obtain ⟨z, hzj, e⟩ := Option.map_eq_some_iff.mp hx
      subst e
      have hzm := List.mem_of_getElem? hzj
      have hi4 : i < zs.length := (List.getElem?_eq_some_iff.mp hzj).1
      obtain ⟨hne, hz4⟩ := hst z hzm
      have hpos : 0 < z.2.length := List.length_pos_iff.mpr hne
      refine ⟨_, rfl, z.1, _, rfl, .inl (SqL.of (sm _ _ (hz z hzm))), 1, _, rfl, ?_, ?_⟩
      · rw [List.length_map]; omega
      rw [List.length_map]
      refine wy (lo := 1) (n := ((z.2.length : Int) - 1).toNat) (fun j σ H3 => ∃ (v3 v4 : Option V) (ws : List (Addr × List Int)), σ = [some (.ref bl), some (.ref fo), some (.ref z.1), v3, v4] ∧ Inv1 ws (fun x => M1 i x ∨ ∃ k, 1 ≤ k ∧ k ≤ j ∧ x = z.2.take k ∧ lacks (zs.map (·.2)) x = true) H3 ∧ ws.length ≤ 1 + 3 * i + j)
        ⟨_, _, ws, rfl, ⟨hF, hW, ndW, fun x => ?_, sm⟩, hlen⟩ ?_ ?_
      · rw [hM]
        constructor
        · exact .inl
        · rintro (h | ⟨k, h1, h2, _⟩)
          · exact h
          · omega
      · rintro j σ H3 hj ⟨v3, v4, ws, rfl, ⟨hF, hW, ndW, hM, sm⟩, hlen⟩
        have hj' : j + 1 < z.2.length := by omega
        refine ⟨_, rfl, _, rfl, _, rfl, z.1, _, rfl, SqL.of (sm _ _ (hz z hzm)), fun p hp => ?_⟩
        rw [show (1 : Int) + (j : Int) = ((j + 1 : Nat) : Int) by omega, Z8, ← List.map_take]
        have sm2 := sm.trans (zp hp (o := .lst ((z.2.take (j + 1)).map V.int)))
        have hF2 : (upd H3 p (.lst ((z.2.take (j + 1)).map V.int))) fo = some (.lst (ws.map fun z => V.ref z.1)) := zp hp _ _ hF
        have hW2 : ∀ y ∈ ws, H y.1 = none ∧ (upd H3 p (.lst ((z.2.take (j + 1)).map V.int))) y.1 = some (.lst (y.2.map V.int)) ∧ y.1 ≠ fo := fun y hy => ⟨(hW y hy).1, zp hp _ _ (hW y hy).2.1, (hW y hy).2.2⟩
        have npf : p ≠ fo := fun y => by rw [y, hF] at hp; cases hp
        have hpH : H p = none := sm.free hp
        generalize hx : z.2.take (j + 1) = x at *
        have hxl : x.length ≤ 4 := by rw [← hx, List.length_take]; omega
        have stay : (x ∈ ws.map (·.2) ∨ lacks (zs.map (·.2)) x = false) → ∀ y, y ∈ ws.map (·.2) ↔ (M1 i y ∨ ∃ k, 1 ≤ k ∧ k ≤ j + 1 ∧ y = z.2.take k ∧ lacks (zs.map (·.2)) y = true) := fun hor y => by
          constructor
          · intro hy
            rcases (hM y).mp hy with h | ⟨k, h1, h2, h3⟩
            · exact .inl h
            · exact .inr ⟨k, h1, by omega, h3⟩
          · rintro (h | ⟨k, h1, h2, h3, h4⟩)
            · exact (hM y).mpr (.inl h)
            · by_cases hk : k ≤ j
              · exact (hM y).mpr (.inr ⟨k, h1, hk, h3, h4⟩)
              · have : k = j + 1 := by omega
                rw [this, hx] at h3
                rw [h3] at h4 ⊢
                rcases hor with h | h
                · exact h
                · rw [h] at h4; cases h4
        refine ⟨_, rfl, _, rfl, fo, _, (ws.map (·.2)).map vX, vX x, rfl, SqL.of hF2, TrsAt.lists (fun y hy => (hW2 y hy).2.1), TrAt.ints (a := p) (SqL.of zm), Nat.le_trans (ZF _) (by decide), _, rfl, ?_⟩
        rw [if_pos rfl, QK]
        by_cases hin : x ∈ ws.map (·.2)
        · rw [decide_eq_true hin]
          refine qZ ?_
          exact qZ ⟨_, _, ws, rfl, ⟨hF2, hW2, ndW, stay (.inl hin), sm2⟩, by omega⟩
        · rw [decide_eq_false hin]
          refine ji ?_
          refine ⟨_, rfl, _, rfl, bl, p, zs, x, rfl, sm2 _ _ hb, fun y hy => sm2 _ _ (hz y hy), zm, by omega, by omega, fun y hy => ⟨(hst y hy).1, Nat.le_trans (hst y hy).2 (by decide)⟩, fun H4 s4 => ⟨_, rfl, ?_⟩⟩
          have sm4 := sm2.trans s4
          have hF4 := s4 _ _ hF2
          have hW4 : ∀ y ∈ ws, H y.1 = none ∧ H4 y.1 = some (.lst (y.2.map V.int)) ∧ y.1 ≠ fo := fun y hy => ⟨(hW2 y hy).1, s4 _ _ (hW2 y hy).2.1, (hW2 y hy).2.2⟩
          have hp4 := s4 _ _ (zm (H := H3) (a := p) (o := .lst (x.map V.int)))
          cases hLk : lacks (zs.map (·.2)) x with
          | false => exact qZ ⟨_, _, ws, rfl, ⟨hF4, hW4, ndW, stay (.inr hLk), sm4⟩, by omega⟩
          | true =>
            refine ji ⟨_, rfl, .inl ⟨rfl, _, SqL.of hF4⟩, _, rfl, fo, _, _, rfl, rfl, hF4, by rw [List.length_map]; exact Nat.lt_of_le_of_lt (show ws.length ≤ 100 by omega) (by decide), ?_⟩
            refine ⟨_, _, ws ++ [(p, x)], rfl, ⟨by rw [zm, List.map_append]; rfl, fun y hy => ?_, ?_, fun y => ?_, zcz sm4 hfoH⟩, by rw [List.length_append, List.length_singleton]; omega⟩
            · rcases List.mem_append.mp hy with hy | hy
              · obtain ⟨a1, a2, a3⟩ := hW4 y hy
                exact ⟨a1, by rw [zx a3]; exact a2, a3⟩
              · rw [List.mem_singleton.mp hy]
                exact ⟨hpH, by rw [zx npf]; exact hp4, npf⟩
            · rw [List.map_append]
              refine List.nodup_append.mpr ⟨ndW, by simp, fun a ha b hb' => ?_⟩
              have e : b = x := by simpa using hb'
              rw [e]
              exact fun q => hin (q ▸ ha)
            · rw [List.map_append, List.mem_append]
              constructor
              · rintro (h | h)
                · rcases (hM y).mp h with h | ⟨k, h1, h2, h3⟩
                  · exact .inl h
                  · exact .inr ⟨k, h1, by omega, h3⟩
                · have e : y = x := by simpa using h
                  rw [e]
                  exact .inr ⟨j + 1, by omega, Nat.le_refl _, hx.symm, hLk⟩
              · rintro (h | ⟨k, h1, h2, h3, h4⟩)
                · exact .inl ((hM y).mpr (.inl h))
                · by_cases hk : k ≤ j
                  · exact .inl ((hM y).mpr (.inr ⟨k, h1, hk, h3, h4⟩))
                  · have : k = j + 1 := by omega
                    rw [this, hx] at h3
                    exact .inr (by simp [h3])
      · rintro σ H3 ⟨v3, v4, ws, rfl, ⟨hF, hW, ndW, hM, sm⟩, hlen⟩
        refine ⟨_, _, _, ws, rfl, ⟨hF, hW, ndW, fun x => ?_, sm⟩, by omega⟩
        rw [hM]
        constructor
        · rintro ((h | ⟨y, hy, h⟩) | ⟨k, h1, h2, h3⟩)
          · exact .inl h
          · exact .inr ⟨y, by rw [List.take_succ]; exact List.mem_append_left _ hy, h⟩
          · exact .inr ⟨z, by rw [List.take_succ, hzj]; simp, k, h1, by omega, h3⟩
        · rintro (h | ⟨y, hy, k, h1, h2, h3⟩)
          · exact .inl (.inl h)
          · rw [List.take_succ, hzj] at hy
            rcases List.mem_append.mp hy with hy | hy
            · exact .inl (.inr ⟨y, hy, k, h1, h2, h3⟩)
            · have e : y = z := by simpa using hy
              rw [e] at h2 h3
              exact .inr ⟨k, h1, by omega, h3⟩
    · rintro σ H2 ⟨v2, v3, v4, ws, rfl, ⟨hF, hW, ndW, hM, sm⟩, hlen⟩
      rw [List.length_map] at hM hlen
      refine ⟨_, rfl, fo, ws, rfl, hF, fun z hz' => (hW z hz').2.1, ndW, by omega, hLT.same sm, fun D ws' H3 hD hD3 up lt pm pw => ?_⟩
      have lt2 := hLT.same sm
      have inw : ∀ z ∈ ws', z ∈ ws := fun z hz' => pm.mem_iff.mp hz'
      refine kk D ws' _ (sm.free hD) zm (fun z hz' => ?_) ⟨fun x => ?_, by rw [List.pairwise_map]; exact pw⟩ (by rw [pm.length_eq]; omega) (fun b u hb' e => ?_) ?_
      · obtain ⟨a1, a2, a3⟩ := hW z (inw z hz')
        have n1 : z.1 ≠ D := zB a2 hD
        exact ⟨a1, by rw [zx n1]; exact up _ _ (lt2.lst a2) a2, n1⟩
      · have e : x ∈ ws'.map (·.2) ↔ x ∈ ws.map (·.2) := (pm.map (·.2)).mem_iff
        rw [e, hM]
        show (x = [] ∨ _) ↔ (x = [] ∨ _)
        constructor
        · rintro (h | ⟨z, hz', k, h1, h2, h3, h4⟩)
          · exact .inl h
          · rw [List.take_length] at hz'
            exact .inr ⟨z.2, List.mem_map.mpr ⟨z, hz', rfl⟩, k, h1, h2, h3, h4⟩
        · rintro (h | ⟨st, hst', k, h1, h2, h3, h4⟩)
          · exact .inl h
          · obtain ⟨z, hz', rfl⟩ := List.mem_map.mp hst'
            exact .inr ⟨z, by rw [List.take_length]; exact hz', k, h1, h2, h3, h4⟩
      · have q := up b u hb' (sm _ _ e)
        rw [zx (zB q hD3)]; exact q
      · exact LT.same (show LT T0 H3 from lt) (zp hD3)
end
section
variable {P : Program} {w : World} {K : PySem.W.Frag} {mg : Str → Option Value} {base : Heap} {T0 : Addr}
def plc (ls ws : List (List Int)) (fs : List Int) : V := if lacks ls fs = true then .int ((ws.idxOf (zY ls fs) : Nat) : Int) else .non
theorem YL {x : List Int} : ∀ {xs : List (List Int)} {m : Nat}, m < xs.idxOf x → ∀ h : m < xs.length, xs[m] ≠ x
  | [], m, h, h' => by simp at h'
  | y :: ys, m, h, h' => by
    rw [List.idxOf_cons] at h
    by_cases e : y = x
    · subst e; simp at h
    · have e' : (y == x) = false := by simpa using e
      rw [e'] at h
      cases m with
      | zero => simpa using e
      | succ m => simpa using YL (x := x) (xs := ys) (m := m) (by simpa using h) (by simpa using h')
def jy : Sp := fun vs H Q _ => ∃ (bl Dd fa : Addr) (zs ws : List (Addr × List Int)) (fs : List Int), vs = [.ref bl, .ref Dd, .ref fa] ∧ H bl = some (.lst (zs.map fun z => V.ref z.1)) ∧ (∀ z ∈ zs, H z.1 = some (.lst (z.2.map V.int))) ∧ H Dd = some (.lst (ws.map fun z => V.ref z.1)) ∧ (∀ z ∈ ws, H z.1 = some (.lst (z.2.map V.int))) ∧ H fa = some (.lst (fs.map V.int)) ∧ zs.length ≤ 4 ∧ ws.length ≤ 13 ∧ fs.length ≤ 1000 ∧ (∀ z ∈ zs, z.2 ≠ [] ∧ z.2.length ≤ 4) ∧
  (lacks (zs.map (·.2)) fs = true → zY (zs.map (·.2)) fs ∈ ws.map (·.2)) ∧ ∀ H', Same H H' → Q (plc (zs.map (·.2)) (ws.map (·.2)) fs) H'
theorem YK : zG ["bad", "stands", "figures", "stand"] ["bad", "stands", "figures"] (zu tO) := ⟨rfl, rfl, rfl, by decide +kernel, rfl, by decide +kernel, by decide +kernel⟩
theorem VB {f f1 : Addr} {fd fd1 : FuncData} (D : Df K mg "place_behind" tO ["bad", "stands", "figures"] f fd) (tQ : Df K mg "longest_stand" uN ["bad", "figures"] f1 fd1) (Zn : FnOk P w K mg base CX0 3 f1 fd1 ["bad", "figures"] qt) : FnOk P w K mg base CX0 4 f fd ["bad", "stands", "figures"] jy := by
  refine D.fn.ok YK (fun vs H Q E h => ?_) (fun cdv A outer s H vs Q E hr h => ?_)
  · obtain ⟨bl, Dd, fa, zs, ws, fs, rfl, _⟩ := h; rfl
  · obtain ⟨bl, Dd, fa, zs, ws, fs, rfl, hb, hz, hD, hw, hf, h4, h13, hl, hst, hin, kk⟩ := h
    have HU := zbZ hr
    refine ⟨_, (zg (zH (i := 3) YK.nd rfl (Or.inl rfl) (zF tQ Zn (hr.mono (by decide)) (zc (pv 0) (zc (pv 2) zf))))
      (zg (xP (ym X5 (pv 3) tY (yc _))
        (zq (zJ tY))
        yh)
      (zq (zJ (YM PySem.F.plainAttrs_list PySem.F.slot_list_index PySem.F.type_list_index (zcX K HU) (pv 1) (zc (pv 3) zf)))))), ?_⟩
    refine ⟨_, rfl, _, rfl, bl, fa, zs, fs, rfl, hb, hz, hf, by omega, hl, fun z hz => ⟨(hst z hz).1, Nat.le_trans (hst z hz).2 (by decide)⟩, fun v H1 sv s1 => ?_⟩
    have q := kk H1 s1
    unfold plc at q
    rcases sv with ⟨hL, rfl⟩ | ⟨hL, l, rfl, hn, hv⟩
    · rw [hL, if_neg (by decide)] at q
      exact ⟨_, rfl, rfl, _, rfl, ji q⟩
    · rw [if_pos hL] at q
      have hm := hin hL
      have hlt := List.idxOf_lt_length_iff.mpr hm
      refine ⟨_, rfl, rfl, _, rfl, qZ ?_⟩
      refine ⟨_, rfl, .inl ⟨rfl, _, SqL.of (s1 _ _ hD)⟩, _, rfl, Dd, _, _, (ws.map (·.2)).map vX, vX (zY (zs.map (·.2)) fs), (ws.map (·.2)).idxOf (zY (zs.map (·.2)) fs), rfl, rfl, SqL.of (s1 _ _ hD), TrsAt.lists (fun z hz => s1 _ _ (hw z hz)), TrAt.ints (a := l) (SqL.of hv), Nat.le_trans (ZF _) (by decide), by rw [List.length_map]; exact hlt, ?_, ?_, q⟩
      · intro t ht
        rw [List.getElem?_map, List.getElem?_eq_getElem hlt, Option.map_some] at ht
        rw [← Option.some.inj ht, List.getElem_idxOf hlt, Z6, decide_eq_true rfl]
      · intro m t hm' ht
        rw [List.getElem?_map, List.getElem?_eq_getElem (Nat.lt_trans hm' hlt), Option.map_some] at ht
        rw [← Option.some.inj ht, Z6, decide_eq_false]
        intro e
        have q3 := YL hm' (Nat.lt_trans hm' hlt)
        exact q3 e
def VD (ls ws : List (List Int)) (b : Nat) (x : List Int) : List V := (List.range b).map fun (c : Nat) => plc ls ws (x ++ [(c : Int)])
def ZW : Sp := fun vs H Q _ => ∃ (r : Addr) (b : Nat) (bl : Addr) (zs : List (Addr × List Int)) (Dd : Addr) (ws : List (Addr × List Int)) (sa : Addr) (xs : List Int), vs = [.ref r, .ref Dd, .ref sa] ∧ RuleAt H r b bl zs ∧ GoodRule b (zs.map (·.2)) ∧ H Dd = some (.lst (ws.map fun z => V.ref z.1)) ∧ (∀ z ∈ ws, H z.1 = some (.lst (z.2.map V.int))) ∧ StandsL (zs.map (·.2)) (ws.map (·.2)) ∧ ws.length ≤ 13 ∧ H sa = some (.lst (xs.map V.int)) ∧ xs.length ≤ 100 ∧
  ∀ p H', H p = none → Same H H' → H' p = some (.lst (VD (zs.map (·.2)) (ws.map (·.2)) b xs)) → Q (.ref p) H'
theorem Ql : zG ["rule", "stands", "stand"] ["rule", "stands", "stand"] (zu tU) := ⟨rfl, rfl, rfl, by decide +kernel, rfl, by decide +kernel, by decide +kernel⟩
theorem Qi {f f1 : Addr} {fd fd1 : FuncData} (D : Df K mg "steps_from" tU ["rule", "stands", "stand"] f fd) (qR : Df K mg "place_behind" tO ["bad", "stands", "figures"] f1 fd1) (ZV : FnOk P w K mg base CX0 4 f1 fd1 ["bad", "stands", "figures"] jy) (T : Blt mg) : FnOk P w K mg base CX0 5 f fd ["rule", "stands", "stand"] ZW := by
  refine D.fn.ok Ql (fun vs H Q E h => ?_) (fun cdv A outer s H vs Q E hr h => ?_)
  · obtain ⟨r, b, bl, zs, Dd, ws, sa, xs, rfl, _⟩ := h; rfl
  · obtain ⟨r, b, bl, zs, Dd, ws, sa, xs, rfl, R, g, hD, hw, SL, h13, hs, hl, kk⟩ := h
    have h4 : zs.length ≤ 4 := by have := g.len; rwa [List.length_map] at this
    have ne : ∀ l ∈ zs.map (·.2), l ≠ [] := fun l hl => (g.st l hl).ne
    refine ⟨_, (zq (zJ (uO (show CScope (zu tU) _ "figure" ["rule", "stands", "stand"] ["stands", "rule", "stand"] [1, 0, 2] from ⟨rfl, by decide +kernel, by decide +kernel, rfl, by decide +kernel, rfl, by decide +kernel, by decide +kernel⟩) rfl (yw rfl T.n_range (zc (zP (xM K) (pv 0) zj (fun _ _ => rfl)) zf)) (fun _ _ _ _ => wK) (fun _ _ _ _ => (zF qR ZV (hr.mono (by decide)) (zc (zP (xM K) (pv 2) zj (fun _ _ => rfl)) (zc (pv 1) (zc (zA Wa (pv 3) (xm (zc (pv 0) zf))) zf)))))))), ?_⟩
    have b16 := g.b16
    refine ⟨_, rfl, r, _, _, V.int b, rfl, rfl, SqT.of R.tu, rfl, (b : Int), rfl, by omega, by omega, vK (lo := 0) (n := (b : Int).toNat) (fun i ys H4 => ys = VD (zs.map (·.2)) (ws.map (·.2)) i xs ∧ Same H H4) ⟨rfl, Same.refl _⟩ ?_ ?_⟩
    · rintro i ys H4 hi ⟨rfl, s4⟩
      have hi' : i < b := by omega
      refine ⟨?_, ?_⟩
      · unfold VD
        rw [List.length_map, List.length_range]
        exact Nat.lt_of_lt_of_le (show i < 16 by omega) (by decide)
      unfold YS
      dsimp only
      rw [if_pos rfl]
      have R4 := R.same s4
      have hs4 := s4 _ _ hs
      refine ⟨_, rfl, r, _, _, V.ref bl, rfl, rfl, SqT.of R4.tu, rfl, _, rfl, _, rfl, _, rfl, (by show 1 ≤ sizeLine; decide), fun p1 q1 => ?_⟩
      have n1 : sa ≠ p1 := zB hs4 q1
      refine ⟨sa, p1, _, _, rfl, rfl, by rw [zx n1]; exact hs4, zm, by rw [List.length_map]; exact Nat.le_trans (show xs.length + 1 ≤ 101 by omega) (by decide), fun p2 q2 => ?_⟩
      have t2 := s4.trans ((zp q1 (o := .lst [V.int (0 + (i : Int))])).trans (zp q2 (o := .lst (xs.map V.int ++ [V.int (0 + (i : Int))]))))
      have R5 := R.same t2
      refine ⟨bl, Dd, p2, zs, ws, xs ++ [0 + (i : Int)], rfl, R5.li, R5.st, t2 _ _ hD, fun z hz => t2 _ _ (hw z hz), by rw [zm, List.map_append]; rfl, h4, h13, by rw [List.length_append, List.length_singleton]; omega, fun z hz => ⟨(g.st _ (List.mem_map.mpr ⟨z, hz, rfl⟩)).ne, (g.st _ (List.mem_map.mpr ⟨z, hz, rfl⟩)).len⟩, fun h => (SL.mem _).mpr (Yr ne h), fun H5 s5 => ⟨?_, t2.trans s5⟩⟩
      unfold VD
      rw [List.range_succ, List.map_append, Int.zero_add]
      rfl
    · rintro ys H4 ⟨rfl, s4⟩ p hp
      refine kk p _ (s4.free hp) (s4.trans (zp hp)) ?_
      rw [zm, Int.toNat_natCast]
def YB (ls ws : List (List Int)) (b : Nat) : List (List V) := ws.map (VD ls ws b) ++ [V.int (ws.length : Nat) :: (VD ls ws b []).drop 1]
def YH : Sp := fun vs H Q _ => ∃ (r : Addr) (b : Nat) (bl : Addr) (zs : List (Addr × List Int)) (Dd : Addr) (ws : List (Addr × List Int)), vs = [.ref r, .ref Dd] ∧ RuleAt H r b bl zs ∧ GoodRule b (zs.map (·.2)) ∧ H Dd = some (.lst (ws.map fun z => V.ref z.1)) ∧ (∀ z ∈ ws, H z.1 = some (.lst (z.2.map V.int))) ∧ StandsL (zs.map (·.2)) (ws.map (·.2)) ∧ ws.length ≤ 13 ∧
  ∀ (p : Addr) (rs : List (Addr × List V)) (H' : Hp), H p = none → Same H H' → H' p = some (.lst (rs.map fun z => V.ref z.1)) → (∀ z ∈ rs, H z.1 = none ∧ H' z.1 = some (.lst z.2)) → rs.map (·.2) = YB (zs.map (·.2)) (ws.map (·.2)) b → Q (.ref p) H'
theorem We : zG ["rule", "stands", "steps"] ["rule", "stands"] (zu jd) := ⟨rfl, rfl, rfl, by decide +kernel, rfl, by decide +kernel, by decide +kernel⟩
theorem Jf {f f1 : Addr} {fd fd1 : FuncData} (D : Df K mg "all_steps" jd ["rule", "stands"] f fd) (Zu : Df K mg "steps_from" tU ["rule", "stands", "stand"] f1 fd1) (Xg : FnOk P w K mg base CX0 5 f1 fd1 ["rule", "stands", "stand"] ZW) (T : Blt mg) : FnOk P w K mg base CX0 6 f fd ["rule", "stands"] YH := by
  refine D.fn.ok We (fun vs H Q E h => ?_) (fun cdv A outer s H vs Q E hr h => ?_)
  · obtain ⟨r, b, bl, zs, Dd, ws, rfl, _⟩ := h; rfl
  · obtain ⟨r, b, bl, zs, Dd, ws, rfl, R, g, hD, hw, SL, h13, kk⟩ := h
    have l3 : ∀ z ∈ ws, z.2.length ≤ 3 := fun z hz => zce (fun st h => (g.st st h).len) ((SL.mem _).mp (List.mem_map.mpr ⟨z, hz, rfl⟩))
    obtain ⟨w1, hw1⟩ := SL.first
    refine ⟨_, (zg (jZ (i := 2) (show CScope (zu jd) _ "stand" ["rule", "stands", "steps"] ["rule", "stands"] [0, 1] from ⟨rfl, by decide +kernel, by decide +kernel, rfl, by decide +kernel, rfl, by decide +kernel, by decide +kernel⟩) rfl We.nd rfl (Or.inl rfl) (Qe K (pv 1)) (fun _ _ _ _ => wK) (fun _ _ _ _ => (zF Zu Xg (hr.mono (by decide)) (zc (pv 1) (zc (pv 2) (zc (pv 0) zf))))))
      (zq (zJ (zA Wa (pv 2) (xm (zc (zA Wa (xm (zc (zK (vB K) (by rfl) T.n_len PySem.boot_len (zc (pv 1) zf)) zf)) (uH (Xz K) (zP (yR K) (pv 2) zj (fun _ _ => rfl)) (ql zj) jD)) zf)))))), ?_⟩
    refine ⟨_, rfl, Dd, rfl, ⟨_, SqL.of hD⟩, tG (K := K) (a := Dd) (xs := ws.map fun z => V.ref z.1) (fun i ys H4 => ∃ rs : List (Addr × List V), ys = (rs.map fun z => V.ref z.1) ∧ (∀ z ∈ rs, H z.1 = none ∧ H4 z.1 = some (.lst z.2)) ∧ rs.map (·.2) = (ws.take i).map (fun z => VD (zs.map (·.2)) (ws.map (·.2)) b z.2) ∧ Same H H4) ⟨[], rfl, fun z hz => (by cases hz), rfl, Same.refl _⟩ (fun i ys H4 _ ⟨_, _, _, _, e⟩ => SqL.of (e _ _ hD)) ?_ ?_⟩
    · rintro j x ys H4 hx ⟨rs, rfl, hrs, hr2, s4⟩
      rw [List.getElem?_map] at hx
      obtain ⟨z, hzj, e⟩ := Option.map_eq_some_iff.mp hx
      subst e
      have hzm := List.mem_of_getElem? hzj
      refine ⟨?_, ?_⟩
      · have e1 := congrArg List.length hr2
        rw [List.length_map, List.length_map, List.length_take] at e1
        rw [List.length_map, e1]
        exact Nat.lt_of_le_of_lt (Nat.le_trans (Nat.min_le_right _ _) h13) (by decide)
      unfold YS
      dsimp only
      rw [if_pos rfl]
      refine ⟨_, rfl, _, rfl, _, rfl, r, b, bl, zs, Dd, ws, z.1, z.2, rfl, R.same s4, g, s4 _ _ hD, fun z hz => s4 _ _ (hw z hz), SL, h13, s4 _ _ (hw z hzm), Nat.le_trans (l3 z hzm) (by decide), fun p H5 hp s5 hv => ?_⟩
      refine ⟨rs ++ [(p, VD (zs.map (·.2)) (ws.map (·.2)) b z.2)], by simp, fun y hy => ?_, ?_, s4.trans s5⟩
      · rcases List.mem_append.mp hy with h | h
        · exact ⟨(hrs y h).1, s5 _ _ (hrs y h).2⟩
        · rw [List.mem_singleton] at h
          subst h
          exact ⟨s4.free hp, hv⟩
      · rw [List.map_append, hr2, List.take_succ, hzj]
        simp
    · rintro ys H4 ⟨rs, rfl, hrs, hr2, s4⟩ p hp
      have hl2 := congrArg List.length hr2
      rw [List.length_map, List.take_length] at hr2
      rw [List.length_map, List.length_map, List.length_take, List.length_map, Nat.min_self] at hl2
      obtain ⟨w0, ws', rfl⟩ : ∃ w0 ws', ws = w0 :: ws' := by
        cases ws with
        | nil => simp at hw1
        | cons a b => exact ⟨a, b, rfl⟩
      have hw0 : w0.2 = [] := by
        rw [List.map_cons] at hw1
        exact (List.cons.inj hw1).1
      obtain ⟨r0, rs', rfl⟩ : ∃ r0 rs', rs = r0 :: rs' := by
        cases rs with
        | nil => simp at hl2
        | cons a b => exact ⟨a, b, rfl⟩
      have hr0 : r0.2 = VD (zs.map (·.2)) ((w0 :: ws').map (·.2)) b [] := by
        have e := (List.cons.inj hr2).1
        rw [← hw0]
        exact e
      have t4 := s4.trans (zp hp (o := .lst ((r0 :: rs').map fun z => V.ref z.1)))
      have hr04 : ∀ z ∈ r0 :: rs', upd H4 p (.lst ((r0 :: rs').map fun z => V.ref z.1)) z.1 = some (.lst z.2) := fun z hz => zp hp _ _ (hrs z hz).2
      refine ⟨_, rfl, _, rfl, Dd, _, rfl, .inl (SqL.of (t4 _ _ hD)), (by show 1 ≤ sizeLine; decide), fun p1 q1 => ?_⟩
      have u1 := zp q1 (o := .lst [V.int (((w0 :: ws').map fun z => V.ref z.1).length : Nat)])
      refine ⟨_, rfl, p, _, _, V.ref r0.1, rfl, rfl, SqL.of (u1 _ _ zm), xU (j := 0) rfl, _, rfl, r0.1, _, rfl, SqL.of (u1 _ _ (hr04 r0 List.mem_cons_self)), fun p2 q2 => ?_⟩
      have hb1 : r0.2.length ≤ 16 := by
        rw [hr0]
        unfold VD
        rw [List.length_map, List.length_range]
        exact g.b16
      have u2 := u1.trans (zp q2 (o := .lst (jm r0.2 (some 1) none)))
      refine ⟨p1, p2, _, _, rfl, rfl, zp q2 _ _ zm, zm, ?_, fun p3 q3 => ?_⟩
      · rw [show (1 : Int) = ((1 : Nat) : Int) from rfl, jU, List.length_drop, List.length_singleton]
        exact Nat.le_trans (show 1 + (r0.2.length - 1) ≤ 100 by omega) (by decide)
      have ev : ([V.int (((w0 :: ws').map fun z => V.ref z.1).length : Nat)] ++ jm r0.2 (some 1) none) = V.int (((w0 :: ws').map (·.2)).length : Nat) :: (VD (zs.map (·.2)) ((w0 :: ws').map (·.2)) b []).drop 1 := by
        rw [show (1 : Int) = ((1 : Nat) : Int) from rfl, jU, hr0, List.length_map, List.length_map]
        rfl
      have u3 := u2.trans (zp q3 (o := .lst ([V.int (((w0 :: ws').map fun z => V.ref z.1).length : Nat)] ++ jm r0.2 (some 1) none)))
      refine ⟨(by show 1 ≤ sizeLine; decide), fun p4 q4 => ?_⟩
      have u4 := u3.trans (zp q4 (o := .lst [V.ref p3]))
      refine ⟨p, p4, _, _, rfl, rfl, u4 _ _ zm, zm, ?_, fun p5 q5 => ?_⟩
      · rw [List.length_map, List.length_singleton]
        exact Nat.le_trans (show (r0 :: rs').length + 1 ≤ 100 by omega) (by decide)
      have u5 := u4.trans (zp q5 (o := .lst ((r0 :: rs').map (fun z => V.ref z.1) ++ [V.ref p3])))
      refine kk p5 (r0 :: rs' ++ [(p3, [V.int (((w0 :: ws').map fun z => V.ref z.1).length : Nat)] ++ jm r0.2 (some 1) none)]) _ (t4.free (u4.free q5)) (t4.trans u5) ?_ ?_ ?_
      · rw [zm, List.map_append]
        rfl
      · intro z hz
        rcases List.mem_append.mp hz with h | h
        · exact ⟨(hrs z h).1, u5 _ _ (hr04 z h)⟩
        · rw [List.mem_singleton] at h
          subst h
          exact ⟨t4.free (u2.free q3), zp q5 _ _ (zp q4 _ _ zm)⟩
      · rw [List.map_append, hr2, ev]
        unfold YB
        rw [List.map_map]
        rfl
end
structure ClT (K : PySem.W.Frag) (mg : Str → Option Value) (C : Addr) : Prop where
  cl : Cls K C
  nm : mg "Tails" = some (.ref C)
  n_base : NoAttr K C "base"
  n_outset : NoAttr K C "outset"
  n_steps : NoAttr K C "steps"
  n_layers : NoAttr K C "layers"
def Xw (b n : Nat) (sa la : Addr) : List (Str × V) := yC "layers" (.ref la) (yC "steps" (.ref sa) (yC "outset" (.int n) (yC "base" (.int b) [])))
theorem W8 (b n : Nat) (sa la : Addr) : (Xw b n sa la).lookup ("base" : Str) = some (.int b) := by
  unfold Xw
  rw [zO, if_neg (by decide +kernel), zO, if_neg (by decide +kernel), zO, if_neg (by decide +kernel), zO, if_pos rfl]
theorem wL (b n : Nat) (sa la : Addr) : (Xw b n sa la).lookup ("outset" : Str) = some (.int n) := by
  unfold Xw
  rw [zO, if_neg (by decide +kernel), zO, if_neg (by decide +kernel), zO, if_pos rfl]
theorem ue (b n : Nat) (sa la : Addr) : (Xw b n sa la).lookup ("steps" : Str) = some (.ref sa) := by
  unfold Xw
  rw [zO, if_neg (by decide +kernel), zO, if_pos rfl]
theorem Zv (b n : Nat) (sa la : Addr) : (Xw b n sa la).lookup ("layers" : Str) = some (.ref la) := by
  unfold Xw
  rw [zO, if_pos rfl]
theorem wH (b n : Nat) (sa la : Addr) {m : Str} (h1 : ¬ m = "layers" := by decide +kernel) (h2 : ¬ m = "steps" := by decide +kernel) (h3 : ¬ m = "outset" := by decide +kernel) (h4 : ¬ m = "base" := by decide +kernel) : (Xw b n sa la).lookup m = none := by
  unfold Xw
  rw [zO, if_neg h1, zO, if_neg h2, zO, if_neg h3, zO, if_neg h4]
  rfl
def wg (ls ws : List (List Int)) (b t : Nat) : List Int := (ws.map fun x => ((cnt ls b t x : Nat) : Int)) ++ [((jr ls b t : Nat) : Int)]
def stepV (ls ws : List (List Int)) : Option (List Int) → Nat → V
  | some x, c => plc ls ws (x ++ [(c : Int)])
  | none, c => if c = 0 then .int (ws.length : Nat) else plc ls ws [(c : Int)]
theorem za5 (ls ws : List (List Int)) (x : List Int) (c : Nat) : stepV ls ws (some x) c = plc ls ws (x ++ [(c : Int)]) := rfl
theorem uh (ls ws : List (List Int)) (c : Nat) : stepV ls ws none c = if c = 0 then .int (ws.length : Nat) else plc ls ws [(c : Int)] := rfl
theorem Wb (ls : List (List Int)) (b t : Nat) (x : List Int) (c : Nat) : ZC ls b t (some x) c = if lacks ls (x ++ [(c : Int)]) = true then cnt ls b t (zY ls (x ++ [(c : Int)])) else 0 := rfl
theorem qw (ls : List (List Int)) (b t : Nat) (c : Nat) : ZC ls b t none c = if c = 0 then jr ls b t else if lacks ls [(c : Int)] = true then cnt ls b t (zY ls [(c : Int)]) else 0 := rfl
theorem Yp {ls ws : List (List Int)} {b i : Nat} (hb : 1 ≤ b) (hi : i ≤ ws.length) : (YB ls ws b)[i]? = some ((List.range b).map (stepV ls ws ws[i]?)) := by
  unfold YB
  by_cases h : i < ws.length
  · rw [List.getElem?_append_left (by rw [List.length_map]; exact h), List.getElem?_map, List.getElem?_eq_getElem h]
    rfl
  · have e : i = ws.length := by omega
    subst e
    rw [List.getElem?_append_right (by rw [List.length_map]; exact Nat.le_refl _), List.length_map, Nat.sub_self, List.getElem?_eq_none (Nat.le_refl _)]
    show some _ = some _
    congr 1
    obtain ⟨k, rfl⟩ : ∃ k, b = k + 1 := ⟨b - 1, by omega⟩
    unfold VD
    rw [List.range_succ_eq_map, List.map_cons, List.map_cons, List.drop_succ_cons, List.drop_zero]
    rw [List.map_map, List.map_map]
    rfl
structure TailsAt (C : Addr) (H : Hp) (p la : Addr) (b : Nat) (ls ws : List (List Int)) (L : Nat) : Prop where
  ob : ∃ (dx sa : Addr) (srs : List (Addr × List V)), aw [la] H p = some (.ins C dx (Xw b ws.length sa la)) ∧ aw [la] H sa = some (.lst (srs.map fun z => V.ref z.1)) ∧ (∀ z ∈ srs, aw [la] H z.1 = some (.lst z.2)) ∧ srs.map (·.2) = YB ls ws b
  ly : ∃ lrs : List (Addr × List Int), H la = some (.lst (lrs.map fun z => V.ref z.1)) ∧ (∀ z ∈ lrs, aw [la] H z.1 = some (.lst (z.2.map V.int))) ∧ lrs.map (·.2) = (List.range L).map (wg ls ws b)
  l1 : 1 ≤ L
structure GoodT (b : Nat) (ls ws : List (List Int)) : Prop where
  g : GoodRule b ls
  s : StandsL ls ws
  h13 : ws.length ≤ 13
theorem GoodT.ne {b : Nat} {ls ws : List (List Int)} (G : GoodT b ls ws) : ∀ l ∈ ls, l ≠ [] := fun l hl => (G.g.st l hl).ne
theorem TailsAt.same {C p la b : Nat} {H H' : Hp} {ls ws : List (List Int)} {L : Nat} (A : TailsAt C H p la b ls ws L) (m : Same H H') : TailsAt C H' p la b ls ws L := by
  obtain ⟨dx, sa, srs, h1, h2, h3, h4⟩ := A.ob
  obtain ⟨lrs, g1, g2, g3⟩ := A.ly
  have m' := m.aw [la]
  exact ⟨⟨dx, sa, srs, m' _ _ h1, m' _ _ h2, fun z hz => m' _ _ (h3 z hz), h4⟩, ⟨lrs, m _ _ g1, fun z hz => m' _ _ (g2 z hz), g3⟩, A.l1⟩
theorem Vj {ls ws : List (List Int)} {b t : Nat} (G : GoodT b ls ws) {i c : Nat} (hi : i ≤ ws.length) :
    (stepV ls ws ws[i]? c = .non ∧ ZC ls b t ws[i]? c = 0) ∨ ∃ j : Nat, stepV ls ws ws[i]? c = .int j ∧ j ≤ ws.length ∧ (wg ls ws b t)[j]? = some ((ZC ls b t ws[i]? c : Nat) : Int) := by
  have at_ : ∀ fs : List Int, lacks ls fs = true → ∃ j : Nat, plc ls ws fs = .int j ∧ j ≤ ws.length ∧ (wg ls ws b t)[j]? = some ((cnt ls b t (zY ls fs) : Nat) : Int) := by
    intro fs h
    have hm : zY ls fs ∈ ws := (G.s.mem _).mpr (Yr G.ne h)
    have hlt := List.idxOf_lt_length_iff.mpr hm
    refine ⟨ws.idxOf (zY ls fs), by unfold plc; rw [if_pos h], Nat.le_of_lt hlt, ?_⟩
    unfold wg
    rw [List.getElem?_append_left (by rw [List.length_map]; exact hlt), List.getElem?_map, List.getElem?_eq_getElem hlt, List.getElem_idxOf hlt]
    rfl
  cases hw : ws[i]? with
  | some x =>
    show (plc ls ws (x ++ [(c : Int)]) = .non ∧ (if lacks ls (x ++ [(c : Int)]) = true then _ else 0) = 0) ∨ _
    by_cases h : lacks ls (x ++ [(c : Int)]) = true
    · right
      obtain ⟨j, h1, h2, h3⟩ := at_ _ h
      refine ⟨j, h1, h2, ?_⟩
      rw [h3, Wb, if_pos h]
    · left
      exact ⟨by unfold plc; rw [if_neg h], by rw [if_neg h]⟩
  | none =>
    by_cases h0 : c = 0
    · right
      refine ⟨ws.length, by rw [uh, if_pos h0], Nat.le_refl _, ?_⟩
      unfold wg
      rw [qw, if_pos h0, List.getElem?_append_right (by rw [List.length_map]; exact Nat.le_refl _), List.length_map, Nat.sub_self]
      rfl
    · by_cases h : lacks ls [(c : Int)] = true
      · right
        obtain ⟨j, h1, h2, h3⟩ := at_ _ h
        refine ⟨j, by rw [uh, if_neg h0]; exact h1, h2, ?_⟩
        rw [h3, qw, if_neg h0, if_pos h]
      · left
        refine ⟨?_, ?_⟩
        · rw [uh, if_neg h0]; unfold plc; rw [if_neg h]
        · rw [qw, if_neg h0, if_neg h]
theorem Yh {fp : List Addr} {H : Hp} {b : Addr} {o : HO} (h : b ∈ fp) : aw fp (upd H b o) = aw fp H := by
  funext c
  by_cases hc : c ∈ fp
  · rw [Wl hc, Wl hc]
  · rw [yt hc, yt hc, zx (fun z : c = b => hc (by rw [z]; exact h))]
section
variable {P : Program} {w : World} {K : PySem.W.Frag} {mg : Str → Option Value} {base : Heap} {T0 C : Addr}
def Yn (C : Addr) : Sp := fun vs H Q _ => ∃ (p la : Addr) (b : Nat) (ls ws : List (List Int)) (L t : Nat) (lay : Addr) (i s : Nat), vs = [.ref p, .ref lay, .int i, .int s] ∧ TailsAt C H p la b ls ws L ∧ GoodT b ls ws ∧ H lay = some (.lst ((wg ls ws b t).map V.int)) ∧ i ≤ ws.length ∧ s ≤ b ∧
  ∀ H', Same H H' → Q (.int (under ls b t ws[i]? s : Nat)) H'
theorem Vc : zG ["self", "layer", "place", "stop"] ["self", "layer", "place", "stop"] (zu xX) := ⟨rfl, rfl, rfl, by decide +kernel, rfl, by decide +kernel, by decide +kernel⟩
theorem XM {f : Addr} {fd : FuncData} (D : Mt K C "Tails.many_by" "many_by" xX ["self", "layer", "place", "stop"] f fd) (zy : ClT K mg C) (T : Blt mg) (U : Qd mg) : FnOk P w K mg base CX0 1 f fd ["self", "layer", "place", "stop"] (Yn C) := by
  refine D.fn.ok Vc (fun vs H Q E h => ?_) (fun cdv A outer s H vs Q E hr h => ?_)
  · obtain ⟨p, la, b, ls, ws, L, t, lay, i, s, rfl, _⟩ := h; rfl
  · obtain ⟨p, la, b, ls, ws, L, t, lay, i, s, rfl, TA, G, hlay, hi, hs, kk⟩ := h
    obtain ⟨dx, sa, srs, h1, h2, h3, h4⟩ := TA.ob
    have b16 := G.g.b16
    have b2 := G.g.b2
    refine ⟨_, (zq (zJ (zK (QM K rfl) (by rfl) U.n_sum boot_sum (zc (uO (show CScope (zu xX) _ "behind" ["self", "layer", "place", "stop"] ["layer"] [1] from ⟨rfl, by decide +kernel, by decide +kernel, rfl, by decide +kernel, rfl, by decide +kernel, by decide +kernel⟩) rfl (Qe K (uH (Xz K) (zP (yR K) (xK K (pv 0)) (pv 2) (fun _ _ => rfl)) jD (ql (pv 3)))) (fun _ _ _ _ => (zdi (ym zbp (pv 0) tY (yc _)))) (fun _ _ _ _ => (zP (yR K) (pv 1) (pv 0) (fun _ _ => rfl)))) zf)))), ?_⟩
    have hrow := Yp (ls := ls) (b := b) (by omega) hi
    rw [← h4, List.getElem?_map] at hrow
    obtain ⟨z, hz, ez⟩ := Option.map_eq_some_iff.mp hrow
    have hzm := List.mem_of_getElem? hz
    have hz3 := zU _ _ _ _ (h3 z hzm)
    refine ⟨_, rfl, p, C, dx, _, _, rfl, zU _ _ _ _ h1, zy.cl, zy.n_steps, ue _ _ _ _, _, rfl, sa, _, _, V.ref z.1, rfl, rfl, SqL.of (zU _ _ _ _ h2), xU (by rw [List.getElem?_map, hz]; rfl), ?_⟩
    refine ⟨_, rfl, _, rfl, z.1, _, rfl, SqL.of hz3, fun q hq => ?_⟩
    have m1 := zp hq (o := .lst (jm z.2 none (some (s : Int))))
    have ecut : jm z.2 none (some (s : Int)) = (List.range s).map (stepV ls ws ws[i]?) := by
      rw [Z8, ez, ← List.map_take, List.take_range, Nat.min_eq_left hs]
    rw [ecut] at m1 ⊢
    refine ⟨q, rfl, ⟨_, SqL.of zm⟩, tG (K := K) (a := q) (xs := (List.range s).map (stepV ls ws ws[i]?)) (fun k ys H4 => H4 = upd H q (.lst ((List.range s).map (stepV ls ws ws[i]?))) ∧ ∃ ms : List Int, ys = ms.map V.int ∧ ms.length ≤ k ∧ ms.sum = ((under ls b t ws[i]? k : Nat) : Int)) ⟨rfl, [], rfl, Nat.le_refl _, by simp [under]⟩ (fun k ys H4 _ ⟨e, _⟩ => by rw [e]; exact SqL.of zm) ?_ ?_⟩
    · rintro k x ys H4 hx ⟨rfl, ms, rfl, hml, hms⟩
      rw [List.getElem?_map] at hx
      obtain ⟨c, hc, e⟩ := Option.map_eq_some_iff.mp hx
      have hk : k < s := by have := (List.getElem?_eq_some_iff.mp hc).1; rwa [List.length_range] at this
      have ec : c = k := by
        rw [List.getElem?_range hk] at hc
        exact (Option.some.inj hc).symm
      subst ec
      subst e
      refine ⟨by rw [List.length_map]; exact Nat.lt_of_le_of_lt (show ms.length ≤ 16 by omega) (by decide), ?_⟩
      have hus := Yg ls b t ws[i]? c
      rcases Vj (t := t) G (c := c) hi with ⟨e1, e2⟩ | ⟨j, e1, e2, e3⟩
      · rw [e1]
        refine ⟨_, rfl, rfl, _, rfl, qZ ⟨rfl, ms, rfl, by omega, ?_⟩⟩
        rw [hus, e2, hms]
        omega
      · rw [e1]
        refine ⟨_, rfl, rfl, _, rfl, ji ?_⟩
        refine ⟨_, rfl, _, rfl, lay, _, _, V.int ((ZC ls b t ws[i]? c : Nat) : Int), rfl, rfl, SqL.of (m1 _ _ hlay), xU (by rw [List.getElem?_map, e3]; rfl), rfl, ms ++ [((ZC ls b t ws[i]? c : Nat) : Int)], by simp, by rw [List.length_append, List.length_singleton]; omega, ?_⟩
        rw [List.sum_append, hms, hus]
        simp
    · rintro ys H4 ⟨rfl, ms, rfl, hml, hms⟩ Dd hD
      refine ⟨Dd, ms, rfl, SqL.of zm, ?_⟩
      rw [hms, List.length_map, List.length_range]
      exact kk _ (m1.trans (zp hD))
def TQ (C : Addr) (H : Hp) (p la : Addr) (b : Nat) (ls ws : List (List Int)) (L : Nat) (R : Nat → Hp → Prop) : Prop := ∀ (L' : Nat) (H' : Hp), L ≤ L' → TailsAt C H' p la b ls ws L' → Same (aw [la] H) (aw [la] H') → R L' H'
def Xe (C : Addr) : Sp := fun vs H Q _ => ∃ (p la : Addr) (b : Nat) (ls ws : List (List Int)) (L t : Nat), vs = [.ref p, .int t] ∧ TailsAt C H p la b ls ws L ∧ GoodT b ls ws ∧ L ≤ 1000 ∧ t < 1000 ∧
  ∀ lay : Addr, TQ C H p la b ls ws L fun L' H' => L' ≤ max L (t + 1) → aw [la] H' lay = some (.lst ((wg ls ws b t).map V.int)) → Q (.ref lay) H'
theorem Y0 : zG ["self", "left", "shorter"] ["self", "left"] (zu wZ) := ⟨rfl, rfl, rfl, by decide +kernel, rfl, by decide +kernel, by decide +kernel⟩
theorem J1 {ls ws : List (List Int)} {b t : Nat} : ((List.range (ws.length + 1)).map fun i => ((under ls b t ws[i]? b : Nat) : Int)) = wg ls ws b (t + 1) := by
  unfold wg
  apply List.ext_getElem?
  intro i
  rw [List.getElem?_map]
  by_cases h : i < ws.length
  · rw [List.getElem?_range (by omega), List.getElem?_append_left (by rw [List.length_map]; exact h), List.getElem?_map, Option.map_some, List.getElem?_eq_getElem h]
    rfl
  · by_cases h2 : i = ws.length
    · subst h2
      rw [List.getElem?_range (by omega), List.getElem?_append_right (by rw [List.length_map]; exact Nat.le_refl _), List.length_map, Nat.sub_self, Option.map_some, List.getElem?_eq_none (Nat.le_refl _)]
      rfl
    · rw [List.getElem?_eq_none (by rw [List.length_range]; omega), List.getElem?_eq_none (by rw [List.length_append, List.length_map, List.length_singleton]; omega)]
      rfl
theorem V8 {f f1 : Addr} {fd fd1 : FuncData} (D : Mt K C "Tails.layer" "layer" wZ ["self", "left"] f fd) (yo : Mt K C "Tails.many_by" "many_by" xX ["self", "layer", "place", "stop"] f1 fd1) (zy : ClT K mg C) (T : Blt mg) (U : Qd mg) : FnOk P w K mg base CX0 2 f fd ["self", "left"] (Xe C) := by
  have qb : FnOk P w K mg base CX0 1 f1 fd1 ["self", "layer", "place", "stop"] (Yn C) := XM yo zy T U
  refine D.fn.ok Y0 (fun vs H Q E h => ?_) (fun cdv A outer s H vs Q E hr h => ?_)
  · obtain ⟨p, la, b, ls, ws, L, t, rfl, _⟩ := h; rfl
  · obtain ⟨p, la, b, ls, ws, L, t, rfl, TA, G, hL, ht, kk⟩ := h
    have h13 := G.h13
    refine ⟨_, (zg (Wq PassesOwn.never (ym YQ (zK (vB K) (by rfl) T.n_len PySem.boot_len (zc (xK K (pv 0)) zf)) (pv 1) (yc _))
        (zg (zH (i := 2) Y0.nd rfl (Or.inr rfl) (zP (yR K) (xK K (pv 0)) (zbs Q7 zj) (fun _ _ => rfl)))
        (zq (yP (YM PySem.F.plainAttrs_list PySem.F.slot_list_append PySem.F.type_list_append vQ (xK K (pv 0)) (zc (uO (show CScope (zu wZ) _ "place" ["self", "left", "shorter"] ["shorter", "self"] [2, 0] from ⟨rfl, by decide +kernel, by decide +kernel, rfl, by decide +kernel, rfl, by decide +kernel, by decide +kernel⟩) rfl (yw rfl T.n_range (zc (zA yN (xK K (pv 0)) zj) zf)) (fun _ _ _ _ => wK) (fun _ _ _ _ => (w5 yo zy.cl qb (hr.mono (by decide)) (pv 2) (zc (pv 1) (zc (pv 0) (zc (xK K (pv 2)) zf)))))) zf))))))
      (zq (zJ (zP (yR K) (xK K (pv 0)) (pv 1) (fun _ _ => rfl))))), ?_⟩
    refine Wd (fun σ H2 => ∃ (v : Option V) (L' : Nat), σ = [some (.ref p), some (.int t), v] ∧ L ≤ L' ∧ L' ≤ max L (t + 1) ∧ TailsAt C H2 p la b ls ws L' ∧ Same (aw [la] H) (aw [la] H2))
      (fun σ H2 => match H2 la with | some (.lst xs) => t + 1 - xs.length | _ => 0) ⟨none, L, rfl, Nat.le_refl _, Nat.le_max_left _ _, TA, Same.refl _⟩ ?_ ?_
    · rintro σ H2 ⟨v, L', rfl, hLL, hLm, TA2, m2⟩
      obtain ⟨dx, sa, srs, h1, h2, h3, h4⟩ := TA2.ob
      obtain ⟨lrs, g1, g2, g3⟩ := TA2.ly
      have hl : lrs.length = L' := by have := congrArg List.length g3; rwa [List.length_map, List.length_map, List.length_range] at this
      have hp := zU _ _ _ _ h1
      have l1 := TA2.l1
      refine ⟨_, rfl, p, C, dx, _, _, rfl, hp, zy.cl, zy.n_layers, Zv _ _ _ _, la, _, rfl, .inl (SqL.of g1), _, rfl, _, _, rfl, rfl, _, rfl, ?_⟩
      rw [List.length_map, hl]
      refine Vu (fun hc => ?_) (fun hc => ?_)
      · have hc' : L' ≤ t := by have := of_decide_eq_true hc; omega
        have hlast : lrs[L' - 1]? = some lrs[L' - 1] := List.getElem?_eq_getElem (by omega)
        generalize hz : lrs[L' - 1] = z at hlast
        have hzm : z ∈ lrs := List.mem_of_getElem? hlast
        have hz2 : z.2 = wg ls ws b (L' - 1) := by
          have e := congrArg (fun l => l[L' - 1]?) g3
          simp only [List.getElem?_map, hlast, List.getElem?_range (show L' - 1 < L' by omega), Option.map_some] at e
          exact Option.some.inj e
        have elr : lrs = lrs.take (L' - 1) ++ [z] := by
          have e := (List.take_append_drop (L' - 1) lrs).symm
          rw [List.drop_eq_getElem_cons (show L' - 1 < lrs.length by omega), hz, List.drop_of_length_le (by omega)] at e
          exact e
        have eat : atI (lrs.map fun z => V.ref z.1) (-1) = some (V.ref z.1) := by
          rw [elr, List.map_append]
          exact zag _ _
        refine ⟨_, rfl, p, C, dx, _, _, rfl, hp, zy.cl, zy.n_layers, Zv _ _ _ _, _, rfl, la, _, _, V.ref z.1, rfl, rfl, SqL.of g1, eat, ?_⟩
        refine ⟨_, rfl, p, C, dx, _, _, rfl, hp, zy.cl, zy.n_layers, Zv _ _ _ _, .inl ⟨rfl, _, SqL.of g1⟩, ?_⟩
        refine ⟨_, rfl, p, C, dx, _, _, rfl, hp, zy.cl, zy.n_outset, wL _ _ _ _, _, _, rfl, rfl, ((ws.length : Int) + 1), rfl, by omega, by omega, vK (lo := 0) (n := ((ws.length : Int) + 1).toNat) (fun i ys H4 => ys = (((List.range i).map fun i => ((under ls b (L' - 1) ws[i]? b : Nat) : Int))).map V.int ∧ Same H2 H4) ⟨rfl, Same.refl _⟩ ?_ ?_⟩
        · rintro i ys H4 hi ⟨rfl, m4⟩
          refine ⟨by rw [List.length_map, List.length_map, List.length_range]; exact Nat.lt_of_lt_of_le (show i < 20 by omega) (by decide), ?_⟩
          unfold YS
          dsimp only
          rw [if_pos rfl]
          have TA4 := TA2.same m4
          have hp4 := m4 _ _ hp
          refine ⟨_, rfl, p, dx, _, rfl, hp4, wH _ _ _ _, _, rfl, _, rfl, _, rfl, p, C, dx, _, _, rfl, hp4, zy.cl, zy.n_base, W8 _ _ _ _, ?_⟩
          refine ⟨p, la, b, ls, ws, L', L' - 1, z.1, i, b, by rw [Int.zero_add]; rfl, TA4, G, ?_, by omega, Nat.le_refl _, fun H5 m5 => ⟨?_, m4.trans m5⟩⟩
          · rw [← hz2]; exact m4 _ _ (zU _ _ _ _ (g2 z hzm))
          · rw [List.range_succ, List.map_append, List.map_append]
            rfl
        rintro ys H4 ⟨rfl, m4⟩ q hq
        rw [show ((ws.length : Int) + 1).toNat = ws.length + 1 by omega, J1, show L' - 1 + 1 = L' by omega]
        have m5 := zp hq (o := .lst ((wg ls ws b L').map V.int))
        have gla := m5 _ _ (m4 _ _ g1)
        have nq : q ≠ la := fun e => by rw [e, m4 _ _ g1] at hq; cases hq
        refine ⟨la, _, _, rfl, rfl, gla, by rw [List.length_map, hl]; exact Nat.lt_of_le_of_lt (show L' ≤ 1000 by omega) (by decide), ?_⟩
        have m25 : Same (aw [la] H2) (aw [la] (upd (upd H4 q (.lst ((wg ls ws b L').map V.int))) la (.lst (lrs.map (fun z => V.ref z.1) ++ [.ref q])))) := by
          rw [Yh (by simp)]
          exact (m4.trans m5).aw [la]
        refine ⟨⟨_, L' + 1, rfl, by omega, by omega, ⟨⟨dx, sa, srs, m25 _ _ h1, m25 _ _ h2, fun y hy => m25 _ _ (h3 y hy), h4⟩, ⟨lrs ++ [(q, wg ls ws b L')], by rw [zm]; simp, fun y hy => ?_, ?_⟩, by omega⟩, m2.trans m25⟩, ?_⟩
        · rcases List.mem_append.mp hy with hy | hy
          · exact m25 _ _ (g2 y hy)
          · have e : y = (q, wg ls ws b L') := by simpa using hy
            subst e
            rw [Yh (by simp), yt (by simp [nq]), zm]
        · rw [List.map_append, g3, List.range_succ, List.map_append]
          rfl
        · show (match (upd (upd H4 q (.lst ((wg ls ws b L').map V.int))) la (.lst (lrs.map (fun z => V.ref z.1) ++ [.ref q]))) la with | some (.lst xs) => t + 1 - xs.length | _ => 0) < (match H2 la with | some (.lst xs) => t + 1 - xs.length | _ => 0)
          rw [zm, g1]
          show t + 1 - (lrs.map (fun z => V.ref z.1) ++ [V.ref q]).length < t + 1 - (lrs.map fun z => V.ref z.1).length
          rw [List.length_append, List.length_map, List.length_singleton]
          omega
      · have hc' : t < L' := by
          by_cases z : t < L'
          · exact z
          · exact absurd (decide_eq_true (by omega : (L' : Int) ≤ t)) hc
        have hlast : lrs[t]? = some lrs[t] := List.getElem?_eq_getElem (by omega)
        generalize hz : lrs[t] = z at hlast
        have hzm : z ∈ lrs := List.mem_of_getElem? hlast
        have hz2 : z.2 = wg ls ws b t := by
          have e := congrArg (fun l => l[t]?) g3
          simp only [List.getElem?_map, hlast, List.getElem?_range hc', Option.map_some] at e
          exact Option.some.inj e
        refine ⟨_, rfl, p, C, dx, _, _, rfl, hp, zy.cl, zy.n_layers, Zv _ _ _ _, _, rfl, la, _, _, V.ref z.1, rfl, rfl, SqL.of g1, xU (by rw [List.getElem?_map, hlast]; rfl), ?_⟩
        exact kk z.1 L' H2 hLL TA2 m2 hLm (by rw [← hz2]; exact g2 z hzm)
    · intro σ H2 Q Q' hq
      rintro ⟨v0, e0, a, C', dx, fs, v, h1, h2, h3, h4, h5, p', ys, h6, h7, v1, e1, i, j, e3, e4, k, e5, q⟩
      exact ⟨v0, e0, a, C', dx, fs, v, h1, h2, h3, h4, h5, p', ys, h6, h7, v1, e1, i, j, e3, e4, k, e5, hq _ _ q⟩
def uJ (C : Addr) : Sp := fun vs H Q _ => ∃ (p la : Addr) (b : Nat) (ls ws : List (List Int)) (L i s t : Nat), vs = [.ref p, .int i, .int s, .int t] ∧ TailsAt C H p la b ls ws L ∧ GoodT b ls ws ∧ L ≤ 1000 ∧ t < 1000 ∧ i ≤ ws.length ∧ s ≤ b ∧ TQ C H p la b ls ws L fun L' H' => L' ≤ max L (t + 1) → Q (.int (under ls b t ws[i]? s : Nat)) H'
theorem Xq : zG ["self", "place", "stop", "left"] ["self", "place", "stop", "left"] (zu xu) := ⟨rfl, rfl, rfl, by decide +kernel, rfl, by decide +kernel, by decide +kernel⟩
theorem Qs {f f1 f2 : Addr} {fd fd1 fd2 : FuncData} (D : Mt K C "Tails.many_under" "many_under" xu ["self", "place", "stop", "left"] f fd) (yL : Mt K C "Tails.layer" "layer" wZ ["self", "left"] f1 fd1) (yo : Mt K C "Tails.many_by" "many_by" xX ["self", "layer", "place", "stop"] f2 fd2) (zy : ClT K mg C) (T : Blt mg) (U : Qd mg) : FnOk P w K mg base CX0 3 f fd ["self", "place", "stop", "left"] (uJ C) := by
  have qb : FnOk P w K mg base CX0 1 f2 fd2 ["self", "layer", "place", "stop"] (Yn C) := XM yo zy T U
  have vJ : FnOk P w K mg base CX0 2 f1 fd1 ["self", "left"] (Xe C) := V8 yL yo zy T U
  refine D.fn.ok Xq (fun vs H Q E h => ?_) (fun cdv A outer s H vs Q E hr h => ?_)
  · obtain ⟨p, la, b, ls, ws, L, i, s, t, rfl, _⟩ := h; rfl
  · obtain ⟨p, la, b, ls, ws, L, i, s, t, rfl, TA, G, hL, ht, hi, hs, kk⟩ := h
    obtain ⟨dx, sa, srs, h1, h2, h3, h4⟩ := TA.ob
    have hp := zU _ _ _ _ h1
    refine ⟨_, (zq (zJ (w5 yo zy.cl qb (hr.mono (by decide)) (pv 0) (zc (w5 yL zy.cl vJ (hr.mono (by decide)) (pv 0) (zc (pv 3) zf)) (zc (pv 1) (zc (pv 2) zf)))))), ?_⟩
    refine ⟨_, rfl, p, dx, _, rfl, hp, wH _ _ _ _, ?_⟩
    refine ⟨_, rfl, p, dx, _, rfl, hp, wH _ _ _ _, _, rfl, p, la, b, ls, ws, L, t, rfl, TA, G, hL, ht, fun lay L' H' hLL TA' m' hm hlay => ?_⟩
    exact ⟨_, rfl, _, rfl, p, la, b, ls, ws, L', t, lay, i, s, rfl, TA', G, zU _ _ _ _ hlay, hi, hs, fun H2 m2 => kk L' H2 hLL (TA'.same m2) (m'.trans (m2.aw [la])) hm⟩
def vo (C : Addr) : Sp := fun vs H Q _ => ∃ (p la : Addr) (b : Nat) (ls ws : List (List Int)) (L t : Nat), vs = [.ref p, .int t] ∧ TailsAt C H p la b ls ws L ∧ GoodT b ls ws ∧ L ≤ 1000 ∧ t < 1000 ∧ TQ C H p la b ls ws L fun L' H' => L' ≤ max L (t + 1) → Q (.int (jr ls b t : Nat)) H'
theorem Y8 : zG ["self", "size"] ["self", "size"] (zu yG) := ⟨rfl, rfl, rfl, by decide +kernel, rfl, by decide +kernel, by decide +kernel⟩
theorem UV {f f1 f2 : Addr} {fd fd1 fd2 : FuncData} (D : Mt K C "Tails.many_within" "many_within" yG ["self", "size"] f fd) (yL : Mt K C "Tails.layer" "layer" wZ ["self", "left"] f1 fd1) (yo : Mt K C "Tails.many_by" "many_by" xX ["self", "layer", "place", "stop"] f2 fd2) (zy : ClT K mg C) (T : Blt mg) (U : Qd mg) : FnOk P w K mg base CX0 3 f fd ["self", "size"] (vo C) := by
  have vJ : FnOk P w K mg base CX0 2 f1 fd1 ["self", "left"] (Xe C) := V8 yL yo zy T U
  refine D.fn.ok Y8 (fun vs H Q E h => ?_) (fun cdv A outer s H vs Q E hr h => ?_)
  · obtain ⟨p, la, b, ls, ws, L, t, rfl, _⟩ := h; rfl
  · obtain ⟨p, la, b, ls, ws, L, t, rfl, TA, G, hL, ht, kk⟩ := h
    obtain ⟨dx, sa, srs, h1, h2, h3, h4⟩ := TA.ob
    have hp := zU _ _ _ _ h1
    refine ⟨_, (zq (zJ (zP (yR K) (w5 yL zy.cl vJ (hr.mono (by decide)) (pv 0) (zc (pv 1) zf)) (xK K (pv 0)) (fun _ _ => rfl)))), ?_⟩
    refine ⟨_, rfl, p, dx, _, rfl, hp, wH _ _ _ _, _, rfl, p, la, b, ls, ws, L, t, rfl, TA, G, hL, ht, fun lay L' H' hLL TA' m' hm hlay => ?_⟩
    obtain ⟨dx', sa', srs', h1', h2', h3', h4'⟩ := TA'.ob
    refine ⟨_, rfl, p, C, dx', _, _, rfl, zU _ _ _ _ h1', zy.cl, zy.n_outset, wL _ _ _ _, lay, _, _, V.int ((jr ls b t : Nat) : Int), rfl, rfl, SqL.of (zU _ _ _ _ hlay), xU ?_, kk L' H' hLL TA' m' hm⟩
    unfold wg
    rw [List.map_append, List.getElem?_append_right (by rw [List.length_map, List.length_map]; exact Nat.le_refl _), List.length_map, List.length_map, Nat.sub_self]
    rfl
end
theorem WX {ls ws : List (List Int)} {b m : Nat} (G : GoodT b ls ws) {i c : Nat} (hi : i ≤ ws.length) (R : Rep ls b m ws[i]?) (hc : c < b) :
    (∃ j : Nat, stepV ls ws ws[i]? c = .int j ∧ j ≤ ws.length ∧ Rep ls b (m * b + c) ws[j]?) ∨ (stepV ls ws ws[i]? c = .non ∧ 1 ≤ m * b + c ∧ gd ls b (m * b + c) = false) := by
  have b2 := G.g.b2
  have ep : ∀ h : ¬ (ws[i]? = none ∧ c = 0), stepV ls ws ws[i]? c = plc ls ws (ws[i]?.getD [] ++ [(c : Int)]) := by
    intro h
    cases hw : ws[i]? with
    | some x => rfl
    | none =>
      rw [uh, if_neg (fun z => h ⟨hw, z⟩)]
      rfl
  rcases R.step G.ne b2 hc with ⟨h1, h2, h3⟩ | ⟨h0, ⟨h1, h2⟩ | ⟨h1, h2, h3⟩⟩
  · left
    refine ⟨ws.length, by rw [h1, uh, if_pos h2], Nat.le_refl _, by rw [List.getElem?_eq_none (Nat.le_refl _)]; exact h3⟩
  · left
    have hm : zY ls (ws[i]?.getD [] ++ [(c : Int)]) ∈ ws := (G.s.mem _).mpr (Yr G.ne h1)
    have hlt := List.idxOf_lt_length_iff.mpr hm
    refine ⟨ws.idxOf (zY ls (ws[i]?.getD [] ++ [(c : Int)])), by rw [ep h0]; unfold plc; rw [if_pos h1], Nat.le_of_lt hlt, ?_⟩
    rw [List.getElem?_eq_getElem hlt, List.getElem_idxOf hlt]
    exact h2
  · right
    exact ⟨by rw [ep h0]; unfold plc; rw [if_neg (by rw [h1]; exact Bool.false_ne_true)], h2, h3⟩
section
variable {P : Program} {w : World} {K : PySem.W.Frag} {mg : Str → Option Value} {base : Heap} {T0 C : Addr}
theorem Uq {H : Hp} {p la b : Nat} {ls ws : List (List Int)} {L i c : Nat} (TA : TailsAt C H p la b ls ws L) (G : GoodT b ls ws) (hi : i ≤ ws.length) (hc : c < b) :
    ∃ (dx sa : Addr) (srs : List (Addr × List V)) (z : Addr × List V), H p = some (.ins C dx (Xw b ws.length sa la)) ∧ H sa = some (.lst (srs.map fun z => V.ref z.1)) ∧ atI (srs.map fun z => V.ref z.1) (i : Int) = some (V.ref z.1) ∧ H z.1 = some (.lst z.2) ∧ atI z.2 (c : Int) = some (stepV ls ws ws[i]? c) := by
  obtain ⟨dx, sa, srs, h1, h2, h3, h4⟩ := TA.ob
  have hrow := Yp (ls := ls) (b := b) (by have := G.g.b2; omega) hi
  rw [← h4, List.getElem?_map] at hrow
  obtain ⟨z, hz, ez⟩ := Option.map_eq_some_iff.mp hrow
  refine ⟨dx, sa, srs, z, zU _ _ _ _ h1, zU _ _ _ _ h2, xU (by rw [List.getElem?_map, hz]; rfl), zU _ _ _ _ (h3 z (List.mem_of_getElem? hz)), xU ?_⟩
  rw [ez, List.getElem?_map, List.getElem?_range hc]
  rfl
theorem TailsAt.obj {H : Hp} {p la b : Nat} {ls ws : List (List Int)} {L : Nat} (TA : TailsAt C H p la b ls ws L) : ∃ dx sa, H p = some (.ins C dx (Xw b ws.length sa la)) := by
  obtain ⟨dx, sa, srs, h1, _⟩ := TA.ob
  exact ⟨dx, sa, zU _ _ _ _ h1⟩
def qN (C : Addr) : Sp := fun vs H Q _ => ∃ (p la : Addr) (b : Nat) (ls ws : List (List Int)) (L : Nat) (fa : Addr) (n : Nat), vs = [.ref p, .ref fa] ∧ TailsAt C H p la b ls ws L ∧ GoodT b ls ws ∧ L ≤ 1000 ∧ aw [la] H fa = some (.lst ((yp b n).map V.int)) ∧ n < 2 ^ 900 ∧ TQ C H p la b ls ws L fun L' H' => L' ≤ 1000 → Q (.int (many (gd ls b) n : Nat)) H'
theorem xf : zG ["self", "figures", "place", "many", "k"] ["self", "figures"] (zu wB) := ⟨rfl, rfl, rfl, by decide +kernel, rfl, by decide +kernel, by decide +kernel⟩
theorem Qp {f f1 : Addr} {fd fd1 : FuncData} (D : Mt K C "Tails.many_below" "many_below" wB ["self", "figures"] f fd) (yq : Mt K C "Tails.many_under" "many_under" xu ["self", "place", "stop", "left"] f1 fd1) (yx : FnOk P w K mg base CX0 3 f1 fd1 ["self", "place", "stop", "left"] (uJ C)) (zy : ClT K mg C) (T : Blt mg) : FnOk P w K mg base CX0 4 f fd ["self", "figures"] (qN C) := by
  refine D.fn.ok xf (fun vs H Q E h => ?_) (fun cdv A outer s H vs Q E hr h => ?_)
  · obtain ⟨p, la, b, ls, ws, L, fa, n, rfl, _⟩ := h; rfl
  · obtain ⟨p, la, b, ls, ws, L, fa, n, rfl, TA, G, hL, hf, hn, kk⟩ := h
    have b2 := G.g.b2
    have hlen := tR b2 900 n hn
    obtain ⟨dx0, sa0, hp0⟩ := TA.obj
    generalize hN : (yp b n).length = N at hlen
    have hnN := YW b2 hN
    refine ⟨_, (zg (zH (i := 2) xf.nd rfl (Or.inl rfl) (xK K (pv 0)))
      (zg (zH (i := 3) xf.nd rfl (Or.inl rfl) zj)
      (zg (vU PassesOwn.never rfl (yw rfl T.n_range (zc (zK (vB K) (by rfl) T.n_len PySem.boot_len (zc (pv 1) zf)) zf)) (yZ (i := 4) xf.nd rfl (Or.inl rfl))
        (zg (W7 (i := 3) xf.nd rfl (Or.inl rfl) (w5 yq zy.cl yx (hr.mono (by decide)) (pv 0) (zc (pv 2) (zc (zP (yR K) (pv 1) (pv 4) (fun _ _ => rfl)) (zc (zA xV (zA xV (zK (vB K) (by rfl) T.n_len PySem.boot_len (zc (pv 1) zf)) (pv 4)) zj) zf)))) Ug)
        (zg (zH (i := 2) xf.nd rfl (Or.inl rfl) (zP (yR K) (zP (yR K) (xK K (pv 0)) (pv 2) (fun _ _ => rfl)) (zP (yR K) (pv 1) (pv 4) (fun _ _ => rfl)) (fun _ _ => rfl)))
        (zq (xP (ym X5 (pv 2) tY (yc _))
          (zq (zJ (pv 3)))
          yh)))))
      (zq (zJ (pv 3)))))), ?_⟩
    refine ⟨_, rfl, p, C, dx0, _, _, rfl, hp0, zy.cl, zy.n_outset, wL _ _ _ _, ?_⟩
    refine ⟨_, rfl, fa, _, rfl, .inl (SqL.of (zU _ _ _ _ hf)), ?_⟩
    rw [List.length_map, hN]
    refine ⟨_, rfl, by omega, by omega, wy (lo := 0) (n := (N : Int).toNat) (fun k σ H2 => ∃ (v4 : Option V) (i L' : Nat), σ = [some (.ref p), some (.ref fa), some (.int i), some (.int (many (gd ls b) (n / b ^ (N - k) * b ^ (N - k)) : Nat)), v4] ∧ i ≤ ws.length ∧ Rep ls b (n / b ^ (N - k)) ws[i]? ∧ L ≤ L' ∧ L' ≤ 1000 ∧ TailsAt C H2 p la b ls ws L' ∧ Same (aw [la] H) (aw [la] H2)) ⟨none, ws.length, L, ?_, Nat.le_refl _, ?_, Nat.le_refl _, hL, TA, Same.refl _⟩ ?_ ?_⟩
    · rw [Nat.sub_zero, Nat.div_eq_of_lt hnN, Nat.zero_mul]
      rfl
    · rw [Nat.sub_zero, Nat.div_eq_of_lt hnN, List.getElem?_eq_none (Nat.le_refl _)]
      exact .inl ⟨rfl, rfl⟩
    · rintro k σ H2 hk ⟨v4, i, L', rfl, hi, R, hLL, hL', TA2, m2⟩
      have hkN : k < N := by omega
      obtain ⟨t, ht⟩ : ∃ t, N - k = t + 1 := ⟨N - k - 1, by omega⟩
      have et : N - 1 - k = t := by omega
      have hfk := J8 b2 hN hkN
      rw [et] at hfk
      rw [ht] at R ⊢
      have hnx := zaq (b := b) (n := n) (t := t) (by omega)
      have hcb : n / b ^ t % b < b := Nat.mod_lt _ (by omega)
      generalize hc : n / b ^ t % b = c at hfk hnx hcb
      have hf2 := m2 _ _ hf
      have hfH2 := zU _ _ _ _ hf2
      obtain ⟨dx2, sa2, hp2⟩ := TA2.obj
      have hat : atI ((yp b n).map V.int) (0 + (k : Int)) = some (V.int (c : Nat)) := by rw [Int.zero_add]; exact xU (by rw [List.getElem?_map, hfk]; rfl)
      refine ⟨_, rfl, _, rfl, p, dx2, _, rfl, hp2, wH _ _ _ _, _, rfl, _, rfl, _, rfl, fa, _, _, _, rfl, rfl, SqL.of hfH2, hat, _, rfl, fa, _, rfl, .inl (SqL.of hfH2), _, rfl, _, _, rfl, rfl, _, _, rfl, rfl, ?_⟩
      refine ⟨p, la, b, ls, ws, L', i, c, t, ?_, TA2, G, hL', by omega, hi, by omega, fun L3 H3 hL3 TA3 m3 hmx => ?_⟩
      · rw [List.length_map, hN]
        show [V.ref p, V.int i, V.int c, V.int ((N : Int) - (0 + (k : Int)) - 1)] = _
        rw [show ((N : Int) - (0 + (k : Int)) - 1) = (t : Int) by omega]
      have hL3' : L3 ≤ 1000 := by omega
      have m23 := m2.trans m3
      have hf3 := zU _ _ _ _ (m23 _ _ hf)
      refine ⟨_, _, rfl, rfl, ?_⟩
      have eum := Ze G.ne b2 R t (s := c) (by omega)
      rw [← hnx] at eum
      obtain ⟨dx3, sa3, srs3, z3, q1, q2, q3, q4, q5⟩ := Uq TA3 G hi hcb
      refine ⟨_, rfl, p, C, dx3, _, _, rfl, q1, zy.cl, zy.n_steps, ue _ _ _ _, _, rfl, sa3, _, _, _, rfl, rfl, SqL.of q2, q3, _, rfl, _, rfl, fa, _, _, _, rfl, rfl, SqL.of hf3, hat, z3.1, _, _, _, rfl, rfl, SqL.of q4, q5, ?_⟩
      rcases WX G hi R hcb with ⟨j, e1, e2, e3⟩ | ⟨e1, e2, e3⟩
      · rw [e1]
        refine ⟨_, rfl, rfl, _, rfl, qZ ⟨some (.int (0 + (k : Int))), j, L3, ?_, e2, ?_, by omega, hL3', TA3, m23⟩⟩
        · rw [show N - (k + 1) = t by omega, ← eum]
          show [_, _, _, some (V.int ((many (gd ls b) (n / b ^ (t + 1) * b ^ (t + 1)) : Nat) + (under ls b t ws[i]? c : Nat) : Int)), _] = [_, _, _, some (V.int ((many (gd ls b) (n / b ^ (t + 1) * b ^ (t + 1)) + under ls b t ws[i]? c : Nat) : Int)), _]
          rw [Int.natCast_add]
        · rw [show N - (k + 1) = t by omega, hnx]; exact e3
      · rw [e1]
        refine ⟨_, rfl, rfl, _, rfl, ji ⟨_, rfl, ?_⟩⟩
        have q := kk L3 H3 (by omega) TA3 m23 hL3'
        rw [← hnx] at e2 e3
        have ebad := zay G.ne b2 e2 e3 t (r := n % b ^ t) (Nat.le_of_lt (Nat.mod_lt _ (Nat.pow_pos (by omega))))
        rw [Nat.mul_comm, Nat.div_add_mod, Nat.mul_comm] at ebad
        rw [ebad, ← eum, Int.natCast_add] at q
        exact q
    · rintro σ H2 ⟨v4, i, L', rfl, hi, R, hLL, hL', TA2, m2⟩
      refine ⟨_, rfl, ?_⟩
      have q := kk L' H2 hLL TA2 m2 hL'
      rw [Int.toNat_natCast, Nat.sub_self, Nat.pow_zero, Nat.div_one, Nat.mul_one]
      exact q
def Yy (C : Addr) : Sp := fun vs H Q _ => ∃ (p la : Addr) (b : Nat) (ls ws : List (List Int)) (L i k t : Nat), vs = [.ref p, .int i, .int k, .int t] ∧ TailsAt C H p la b ls ws L ∧ GoodT b ls ws ∧ L ≤ 1000 ∧ t < 1000 ∧ i ≤ ws.length ∧ k < under ls b t ws[i]? b ∧
  ∀ c : Nat, c < b → under ls b t ws[i]? c ≤ k → k < under ls b t ws[i]? (c + 1) → TQ C H p la b ls ws L fun L' H' => L' ≤ 1000 → Q (.int c) H'
theorem uV : zG ["self", "place", "k", "left", "figure"] ["self", "place", "k", "left"] (zu vW) := ⟨rfl, rfl, rfl, by decide +kernel, rfl, by decide +kernel, by decide +kernel⟩
theorem JC {f f1 : Addr} {fd fd1 : FuncData} (D : Mt K C "Tails.figure_at" "figure_at" vW ["self", "place", "k", "left"] f fd) (yq : Mt K C "Tails.many_under" "many_under" xu ["self", "place", "stop", "left"] f1 fd1) (yx : FnOk P w K mg base CX0 3 f1 fd1 ["self", "place", "stop", "left"] (uJ C)) (zy : ClT K mg C) (T : Blt mg) : FnOk P w K mg base CX0 4 f fd ["self", "place", "k", "left"] (Yy C) := by
  refine D.fn.ok uV (fun vs H Q E h => ?_) (fun cdv A outer s H vs Q E hr h => ?_)
  · obtain ⟨p, la, b, ls, ws, L, i, k, t, rfl, _⟩ := h; rfl
  · obtain ⟨p, la, b, ls, ws, L, i, k, t, rfl, TA, G, hL, ht, hi, hk, kk⟩ := h
    refine ⟨_, (zg (zH (i := 4) uV.nd rfl (Or.inl rfl) zj)
      (zg (Wq PassesOwn.never (ym YQ (w5 yq zy.cl yx (hr.mono (by decide)) (pv 0) (zc (pv 1) (zc (zA yN (pv 4) zj) (zc (pv 3) zf)))) (pv 2) (yc _))
        (zq (W7 (i := 4) uV.nd rfl (Or.inl rfl) zj Ug)))
      (zq (zJ (pv 4))))), ?_⟩
    refine Wd (fun σ H2 => ∃ (c L' : Nat), σ = [some (.ref p), some (.int i), some (.int k), some (.int t), some (.int c)] ∧ c < b ∧ under ls b t ws[i]? c ≤ k ∧ L ≤ L' ∧ L' ≤ 1000 ∧ TailsAt C H2 p la b ls ws L' ∧ Same (aw [la] H) (aw [la] H2))
      (fun σ _ => match σ with | [_, _, _, _, some (.int c)] => b - c.toNat | _ => 0) ⟨0, L, rfl, by have := G.g.b2; omega, by rw [XN]; exact Nat.zero_le _, Nat.le_refl _, hL, TA, Same.refl _⟩ ?_ ?_
    · rintro σ H2 ⟨c, L', rfl, hc, hu, hLL, hL', TA2, m2⟩
      obtain ⟨dx2, sa2, hp2⟩ := TA2.obj
      refine ⟨_, rfl, p, dx2, _, rfl, hp2, wH _ _ _ _, _, rfl, _, rfl, _, _, rfl, rfl, _, rfl, p, la, b, ls, ws, L', i, c + 1, t, rfl, TA2, G, hL', ht, hi, by omega, fun L3 H3 hL3 TA3 m3 hmx => ?_⟩
      refine ⟨_, rfl, _, _, rfl, rfl, _, rfl, ?_⟩
      refine Vu (fun h1 => ?_) (fun h1 => ?_)
      · have h1' : under ls b t ws[i]? (c + 1) ≤ k := by have := of_decide_eq_true h1; omega
        have hcb : c + 1 < b := by
          by_cases z : c + 1 < b
          · exact z
          · rw [show c + 1 = b by omega] at h1'; omega
        refine ⟨_, rfl, _, _, rfl, rfl, ⟨c + 1, L3, rfl, hcb, h1', by omega, by omega, TA3, m2.trans m3⟩, ?_⟩
        show b - ((c : Int) + 1).toNat < b - (c : Int).toNat
        omega
      · have h1' : k < under ls b t ws[i]? (c + 1) := by
          by_cases z : k < under ls b t ws[i]? (c + 1)
          · exact z
          · exact absurd (decide_eq_true (by omega : ((under ls b t ws[i]? (c + 1) : Nat) : Int) ≤ k)) h1
        exact ⟨_, rfl, kk c hc hu h1' L3 H3 (by omega) TA3 (m2.trans m3) (by omega)⟩
    · intro σ H2 Q Q' hq
      rintro ⟨v0, e0, a, dx, fs, h1, h2, h3, v1, e1, v4, e4, i4, j4, e5, e6, v3, e3, p', la', b', ls', ws', L', i', s', t', g1, g2, g3, g4, g5, g6, g7, g8⟩
      exact ⟨v0, e0, a, dx, fs, h1, h2, h3, v1, e1, v4, e4, i4, j4, e5, e6, v3, e3, p', la', b', ls', ws', L', i', s', t', g1, g2, g3, g4, g5, g6, g7, fun L2 H3 a1 a2 a3 a4 => by
        obtain ⟨v2, e2, i2, j2, e7, e8, k2, e9, q⟩ := g8 L2 H3 a1 a2 a3 a4
        exact ⟨v2, e2, i2, j2, e7, e8, k2, e9, hq _ _ q⟩⟩
def qi (C : Addr) : Sp := fun vs H Q _ => ∃ (p la : Addr) (b : Nat) (ls ws : List (List Int)) (L sz k : Nat), vs = [.ref p, .int sz, .int k] ∧ TailsAt C H p la b ls ws L ∧ GoodT b ls ws ∧ L ≤ 1000 ∧ sz < 1000 ∧ k < many (gd ls b) (b ^ sz) ∧
  ∀ n : Nat, gd ls b n = true → many (gd ls b) n = k → n < b ^ sz → TQ C H p la b ls ws L fun L' H' => L' ≤ 1000 → Q (.int n) H'
theorem yD : zG ["self", "size", "k", "place", "n", "left", "figure"] ["self", "size", "k"] (zu xQ) := ⟨rfl, rfl, rfl, by decide +kernel, rfl, by decide +kernel, by decide +kernel⟩
theorem QV {f f1 f2 : Addr} {fd fd1 fd2 : FuncData} (D : Mt K C "Tails.number_at" "number_at" xQ ["self", "size", "k"] f fd) (yq : Mt K C "Tails.many_under" "many_under" xu ["self", "place", "stop", "left"] f1 fd1) (yx : FnOk P w K mg base CX0 3 f1 fd1 ["self", "place", "stop", "left"] (uJ C))
    (uv : Mt K C "Tails.figure_at" "figure_at" vW ["self", "place", "k", "left"] f2 fd2) (qI : FnOk P w K mg base CX0 4 f2 fd2 ["self", "place", "k", "left"] (Yy C)) (zy : ClT K mg C) (T : Blt mg) : FnOk P w K mg base CX0 5 f fd ["self", "size", "k"] (qi C) := by
  refine D.fn.ok yD (fun vs H Q E h => ?_) (fun cdv A outer s H vs Q E hr h => ?_)
  · obtain ⟨p, la, b, ls, ws, L, sz, k, rfl, _⟩ := h; rfl
  · obtain ⟨p, la, b, ls, ws, L, sz, k, rfl, TA, G, hL, hsz, hk, kk⟩ := h
    have b2 := G.g.b2
    have b16 := G.g.b16
    obtain ⟨dx0, sa0, hp0⟩ := TA.obj
    refine ⟨_, (zg (zH (i := 3) yD.nd rfl (Or.inl rfl) (xK K (pv 0)))
      (zg (zH (i := 4) yD.nd rfl (Or.inl rfl) zj)
      (zg (vU PassesOwn.never rfl (zbW rfl T.n_range (zc (zA xV (pv 1) zj) (zc (zbs Q7 zj) (zc (zbs Q7 zj) zf)))) (yZ (i := 5) yD.nd rfl (Or.inl rfl))
        (zg (zH (i := 6) yD.nd rfl (Or.inl rfl) (w5 uv zy.cl qI (hr.mono (by decide)) (pv 0) (zc (pv 3) (zc (pv 2) (zc (pv 5) zf)))))
        (zg (W7 (i := 2) yD.nd rfl (Or.inl rfl) (w5 yq zy.cl yx (hr.mono (by decide)) (pv 0) (zc (pv 3) (zc (pv 6) (zc (pv 5) zf)))) zdQ)
        (zg (zH (i := 3) yD.nd rfl (Or.inl rfl) (zP (yR K) (zP (yR K) (xK K (pv 0)) (pv 3) (fun _ _ => rfl)) (pv 6) (fun _ _ => rfl)))
        (zq (zH (i := 4) yD.nd rfl (Or.inl rfl) (zA yN (zA wD (pv 4) (xK K (pv 0))) (pv 6))))))))
      (zq (zJ (pv 4)))))), ?_⟩
    refine ⟨_, rfl, p, C, dx0, _, _, rfl, hp0, zy.cl, zy.n_outset, wL _ _ _ _, ?_⟩
    refine ⟨_, rfl, _, _, rfl, rfl, _, rfl, _, rfl, ((sz : Int) - 1), rfl, by omega, by omega, ?_⟩
    rw [show ((sz : Int) - 1 + 1).toNat = sz by omega]
    refine zaA (lo := (sz : Int) - 1) (c := -1) (n := sz) (fun j σ H2 => ∃ (v5 v6 : Option V) (i m L' : Nat), σ = [some (.ref p), some (.int sz), some (.int ((k : Int) - (many (gd ls b) (m * b ^ (sz - j)) : Nat))), some (.int i), some (.int m), v5, v6] ∧ i ≤ ws.length ∧ Rep ls b m ws[i]? ∧ many (gd ls b) (m * b ^ (sz - j)) ≤ k ∧ k < many (gd ls b) ((m + 1) * b ^ (sz - j)) ∧ L ≤ L' ∧ L' ≤ 1000 ∧ TailsAt C H2 p la b ls ws L' ∧ Same (aw [la] H) (aw [la] H2)) ⟨none, none, ws.length, 0, L, ?_, Nat.le_refl _, ?_, ?_, ?_, Nat.le_refl _, hL, TA, Same.refl _⟩ ?_ ?_
    · rw [Nat.zero_mul]
      show [_, _, some (V.int k), _, _, _, _] = [_, _, some (V.int ((k : Int) - ((0 : Nat) : Int))), _, _, _, _]
      rw [Int.natCast_zero, Int.sub_zero]
    · rw [List.getElem?_eq_none (Nat.le_refl _)]; exact .inl ⟨rfl, rfl⟩
    · rw [Nat.zero_mul]; exact Nat.zero_le _
    · rw [Nat.sub_zero, Nat.zero_add, Nat.one_mul]; exact hk
    · rintro j σ H2 hj ⟨v5, v6, i, m, L', rfl, hi, R, hlo, hhi, hLL, hL', TA2, m2⟩
      obtain ⟨t, ht⟩ : ∃ t, sz - j = t + 1 := ⟨sz - j - 1, by omega⟩
      rw [ht] at hlo hhi ⊢
      have elft : ((sz : Int) - 1 + (j : Int) * (-1)) = (t : Int) := by omega
      rw [elft]
      have eb := Ze G.ne b2 R t (s := b) (Nat.le_refl _)
      have eb2 : (m * b + b) * b ^ t = (m + 1) * b ^ (t + 1) := by rw [Nat.pow_succ', ← Nat.mul_assoc, Nat.succ_mul]
      rw [eb2] at eb
      obtain ⟨k', hk'⟩ : ∃ k', k = many (gd ls b) (m * b ^ (t + 1)) + k' := ⟨k - many (gd ls b) (m * b ^ (t + 1)), by omega⟩
      have ek : ((k : Int) - (many (gd ls b) (m * b ^ (t + 1)) : Nat)) = (k' : Int) := by omega
      rw [ek]
      obtain ⟨dx2, sa2, hp2⟩ := TA2.obj
      refine ⟨_, rfl, p, dx2, _, rfl, hp2, wH _ _ _ _, _, rfl, _, rfl, _, rfl, p, la, b, ls, ws, L', i, k', t, rfl, TA2, G, hL', by omega, hi, by omega, fun c hc hu1 hu2 L3 H3 hL3 TA3 m3 hL3' => ?_⟩
      obtain ⟨dx3, sa3, hp3⟩ := TA3.obj
      refine ⟨_, rfl, _, rfl, p, dx3, _, rfl, hp3, wH _ _ _ _, _, rfl, _, rfl, _, rfl, p, la, b, ls, ws, L3, i, c, t, rfl, TA3, G, hL3', by omega, hi, by omega, fun L4 H4 hL4 TA4 m4 hmx => ⟨_, _, rfl, rfl, ?_⟩⟩
      have m24 := m2.trans (m3.trans m4)
      obtain ⟨dx4, sa4, srs4, z4, q1, q2, q3, q4, q5⟩ := Uq TA4 G hi hc
      refine ⟨_, rfl, p, C, dx4, _, _, rfl, q1, zy.cl, zy.n_steps, ue _ _ _ _, _, rfl, sa4, _, _, _, rfl, rfl, SqL.of q2, q3, _, rfl, z4.1, _, _, _, rfl, rfl, SqL.of q4, q5, ?_⟩
      refine ⟨_, rfl, _, rfl, p, C, dx4, _, _, rfl, q1, zy.cl, zy.n_base, W8 _ _ _ _, _, _, rfl, rfl, .inr ⟨by omega, by omega⟩, _, rfl, _, _, rfl, rfl, ?_⟩
      have e1 := Ze G.ne b2 R t (s := c) (by omega)
      have e2 := Ze G.ne b2 R t (s := c + 1) (by omega)
      have hlo' : many (gd ls b) ((m * b + c) * b ^ t) ≤ k := by omega
      have hhi' : k < many (gd ls b) ((m * b + c + 1) * b ^ t) := by
        rw [show m * b + c + 1 = m * b + (c + 1) by omega]; omega
      rcases WX G hi R hc with ⟨j', f1, f2, f3⟩ | ⟨f1, f2, f3⟩
      · rw [f1]
        refine ⟨some (.int t), some (.int c), j', m * b + c, L4, ?_, f2, f3, ?_, ?_, by omega, by omega, TA4, m24⟩
        · rw [show sz - (j + 1) = t by omega]
          show [_, _, some (V.int ((k' : Int) - (under ls b t ws[i]? c : Nat))), some (V.int (j' : Nat)), some (V.int ((m : Int) * b + c)), _, _] = [_, _, some (V.int ((k : Int) - (many (gd ls b) ((m * b + c) * b ^ t) : Nat))), some (V.int (j' : Nat)), some (V.int ((m * b + c : Nat) : Int)), _, _]
          rw [show ((k' : Int) - (under ls b t ws[i]? c : Nat)) = ((k : Int) - (many (gd ls b) ((m * b + c) * b ^ t) : Nat)) by omega, Int.natCast_add, Int.natCast_mul]
        · rw [show sz - (j + 1) = t by omega]; exact hlo'
        · rw [show sz - (j + 1) = t by omega]; exact hhi'
      · exfalso
        have eb3 := zay G.ne b2 f2 f3 t (r := b ^ t) (Nat.le_refl _)
        rw [← Nat.succ_mul] at eb3
        have : (m * b + c).succ = m * b + c + 1 := rfl
        rw [this] at eb3
        omega
    · rintro σ H2 ⟨v5, v6, i, m, L', rfl, hi, R, hlo, hhi, hLL, hL', TA2, m2⟩
      rw [Nat.sub_self, Nat.pow_zero, Nat.mul_one] at hlo hhi
      have hg : gd ls b m = true := by
        cases e : gd ls b m with
        | true => rfl
        | false =>
          have : many (gd ls b) (m + 1) = many (gd ls b) m := by rw [many, e]; rfl
          omega
      have em : many (gd ls b) m = k := by
        have : many (gd ls b) (m + 1) = many (gd ls b) m + 1 := by rw [many, if_pos hg]
        omega
      refine ⟨_, rfl, kk m hg em ?_ L' H2 hLL TA2 m2 hL'⟩
      by_cases z : m < b ^ sz
      · exact z
      · have := jW (gd ls b) (show b ^ sz ≤ m by omega)
        omega
end
theorem LT.off {T la : Addr} {H H' : Hp} {xs : List V} (h : LT T H) (hla : H la = some (.lst xs)) (m : Same (aw [la] H) (aw [la] H')) : LT T H' := by
  have go : ∀ c o, c ≠ la → H c = some o → H' c = some o := fun c o hc e => by
    have hc' : c ∉ [la] := by simpa using hc
    have := m c o (by rw [yt hc']; exact e)
    rwa [yt hc'] at this
  have n0 : T ≠ la := Ne.symm (h.lst hla)
  rcases h with h | ⟨c, h1, h2⟩
  · exact .inl (go _ _ n0 h)
  · refine .inr ⟨c, go _ _ n0 h1, go _ _ (fun z => ?_) h2⟩
    rw [z, hla] at h2
    cases h2
theorem Jb {α : Type} {f : α → V} (h : ∀ a, f a = V.int 1) : ∀ l : List α, (List.replicate l.length [V.int 1]).flatten = l.map f
  | [] => rfl
  | a :: l => by rw [List.length_cons, List.replicate_succ, List.flatten_cons, Jb h l, List.map_cons, h a]; rfl
section
variable {P : Program} {w : World} {K : PySem.W.Frag} {mg : Str → Option Value} {base : Heap} {T0 C : Addr}
def jf (T0 C : Addr) : Sp := fun vs H Q _ => ∃ (p dx r : Addr) (b : Nat) (bl : Addr) (zs : List (Addr × List Int)), vs = [.ref p, .ref r] ∧ H p = some (.ins C dx []) ∧ RuleAt H r b bl zs ∧ GoodRule b (zs.map (·.2)) ∧ LT T0 H ∧
  ∀ (la : Addr) (ws : List (List Int)) (H' : Hp), TailsAt C H' p la b (zs.map (·.2)) ws 1 → GoodT b (zs.map (·.2)) ws → (∀ c o, c ≠ p → c ≠ T0 → H c = some o → H' c = some o) → LT T0 H' → H la = none → Q .non H'
theorem Zq : zG ["self", "rule", "stands"] ["self", "rule"] (zu qH) := ⟨rfl, rfl, rfl, by decide +kernel, rfl, by decide +kernel, by decide +kernel⟩
theorem zcH {f f1 f2 f3 : Addr} {fd fd1 fd2 fd3 : FuncData} (D : Mt K C "Tails.__init__" "__init__" qH ["self", "rule"] f fd) (Ys : Df K mg "stands_of" yH ["bad"] f1 fd1) (XR : FnOk P w K mg base CX0 6 f1 fd1 ["bad"] (YF T0)) (Yo : Df K mg "all_steps" jd ["rule", "stands"] f2 fd2) (XS : FnOk P w K mg base CX0 6 f2 fd2 ["rule", "stands"] YH)
    (xr : Df K mg "lacks_all" vA ["bad", "figures"] f3 fd3) (xY : FnOk P w K mg base CX0 2 f3 fd3 ["bad", "figures"] uq) (zy : ClT K mg C) (T : Blt mg) : FnOk P w K mg base CX0 7 f fd ["self", "rule"] (jf T0 C) := by
  refine D.fn.ok Zq (fun vs H Q E h => ?_) (fun cdv A outer s H vs Q E hr h => ?_)
  · obtain ⟨p, dx, r, b, bl, zs, rfl, _⟩ := h; rfl
  · obtain ⟨p, dx, r, b, bl, zs, rfl, hp, R, g, hT, kk⟩ := h
    have h4 : zs.length ≤ 4 := by have := g.len; rwa [List.length_map] at this
    have gz : ∀ z ∈ zs, z.2 ≠ [] ∧ z.2.length ≤ 4 := fun z hz => ⟨(g.st _ (List.mem_map.mpr ⟨z, hz, rfl⟩)).ne, (g.st _ (List.mem_map.mpr ⟨z, hz, rfl⟩)).len⟩
    have npT : p ≠ T0 := fun z => by
      rw [z] at hp
      rcases hT with h | ⟨c, h, _⟩
      · rw [h] at hp; cases hp
      · rw [h] at hp; cases hp
    refine ⟨_, (zg (zH (i := 2) Zq.nd rfl (Or.inl rfl) (zF Ys XR (hr.mono (by decide)) (zc (zP (xM K) (pv 1) zj (fun _ _ => rfl)) zf)))
      (zg (X6 (pv 0) (zP (xM K) (pv 1) zj (fun _ _ => rfl)) rfl)
      (zg (X6 (pv 0) (zK (vB K) (by rfl) T.n_len PySem.boot_len (zc (pv 2) zf)) rfl)
      (zg (X6 (pv 0) (zF Yo XS (hr.mono (by decide)) (zc (pv 1) (zc (pv 2) zf))) rfl)
      (zq (X6 (pv 0) (xm (zc (zA Wa (zA zcs (xm (zc zj zf)) (zK (vB K) (by rfl) T.n_len PySem.boot_len (zc (pv 2) zf))) (xm (zc (zak (uE (zF xr xY (hr.mono (by decide)) (zc (zP (xM K) (pv 1) zj (fun _ _ => rfl)) (zc (xm (zc zj zf)) zf)))) zj zj) zf))) zf)) rfl)))))), ?_⟩
    refine ⟨_, rfl, r, _, _, V.ref bl, rfl, rfl, SqT.of R.tu, rfl, bl, zs, rfl, R.li, R.st, h4, gz, hT, fun Dd ws H1 hDn hD hws SL h13 mL hT1 => ?_⟩
    have R1 : RuleAt H1 r b bl zs := ⟨mL _ _ (hT.tup R.tu) R.tu, mL _ _ (hT.lst R.li) R.li, fun z hz => mL _ _ (hT.lst (R.st z hz)) (R.st z hz)⟩
    have hp1 := mL _ _ npT hp
    have rp : r ≠ p := ZD R1.tu hp1 (fun z => nomatch z)
    have lp : ∀ {c : Addr} {xs : List V}, H1 c = some (.lst xs) → c ≠ p := fun h => ZD h hp1 (fun z => nomatch z)
    refine ⟨_, rfl, r, _, _, V.int b, rfl, rfl, SqT.of R1.tu, rfl, _, rfl, p, C, dx, _, rfl, hp1, zy.cl, zy.n_base, (by show 0 < 1000; decide), ?_⟩
    refine ⟨_, rfl, Dd, _, rfl, .inl (SqL.of (by rw [zx (lp hD)]; exact hD)), _, rfl, p, C, dx, _, rfl, zm, zy.cl, zy.n_outset, (by show 1 < 1000; decide), ?_⟩
    rw [zdr, List.length_map]
    generalize hH3 : upd H1 p (.ins C dx (yC "outset" (.int (ws.length : Nat)) (yC "base" (.int b) []))) = H3
    have m3 : ∀ c o, c ≠ p → H1 c = some o → H3 c = some o := fun c o hc e => by rw [← hH3, zx hc]; exact e
    have hp3 : H3 p = some (.ins C dx (yC "outset" (.int (ws.length : Nat)) (yC "base" (.int b) []))) := by rw [← hH3, zm]
    have R3 : RuleAt H3 r b bl zs := ⟨m3 _ _ rp R1.tu, m3 _ _ (lp R1.li) R1.li, fun z hz => m3 _ _ (lp (R1.st z hz)) (R1.st z hz)⟩
    refine ⟨_, rfl, _, rfl, r, b, bl, zs, Dd, ws, rfl, R3, g, m3 _ _ (lp hD) hD, fun z hz => m3 _ _ (lp (hws z hz).2.1) (hws z hz).2.1, SL, h13, fun sa srs H4 hsa m4 hsal hsrs hsr2 => ?_⟩
    have hp4 := m4 _ _ hp3
    have len2 : (yC "outset" (.int (ws.length : Nat)) (yC "base" (.int b) [])).length ≤ 2 := Nat.le_trans (qX _ _ _) (Nat.succ_le_succ (qX _ _ _))
    refine ⟨_, rfl, p, C, dx, _, rfl, hp4, zy.cl, zy.n_steps, by omega, ?_⟩
    generalize hH5 : upd H4 p (.ins C dx (yC "steps" (.ref sa) (yC "outset" (.int (ws.length : Nat)) (yC "base" (.int b) [])))) = H5
    have m5 : ∀ c o, c ≠ p → H4 c = some o → H5 c = some o := fun c o hc e => by rw [← hH5, zx hc]; exact e
    have hp5 : H5 p = some (.ins C dx (yC "steps" (.ref sa) (yC "outset" (.int (ws.length : Nat)) (yC "base" (.int b) [])))) := by rw [← hH5, zm]
    have lp4 : ∀ {c : Addr} {xs : List V}, H4 c = some (.lst xs) → c ≠ p := fun h => ZD h hp4 (fun z => nomatch z)
    have R4 := R3.same m4
    have R5 : RuleAt H5 r b bl zs := ⟨m5 _ _ (ZD R4.tu hp4 (fun z => nomatch z)) R4.tu, m5 _ _ (lp4 R4.li) R4.li, fun z hz => m5 _ _ (lp4 (R4.st z hz)) (R4.st z hz)⟩
    have hD5 : H5 Dd = some (.lst (ws.map fun z => V.ref z.1)) := m5 _ _ (lp4 (m4 _ _ (m3 _ _ (lp hD) hD))) (m4 _ _ (m3 _ _ (lp hD) hD))
    refine ⟨(by show 1 ≤ sizeLine; decide), fun q1 n1 => ?_⟩
    refine ⟨_, rfl, Dd, _, rfl, .inl (SqL.of (zp n1 _ _ hD5)), ?_⟩
    rw [List.length_map]
    refine ⟨q1, _, _, rfl, rfl, zm, by omega, by omega, ?_, fun q2 n2 => ?_⟩
    · show 1 * (ws.length : Int).toNat ≤ sizeLine
      exact Nat.le_trans (show 1 * (ws.length : Int).toNat ≤ 13 by omega) (by decide)
    have s1 := zp n1 (o := .lst [V.int 1])
    have s2 := s1.trans (zp n2 (o := .lst (List.replicate (ws.length : Int).toNat [V.int 1]).flatten))
    have R6 := R5.same s2
    refine ⟨_, rfl, r, _, _, V.ref bl, rfl, rfl, SqT.of R6.tu, rfl, (by show 1 ≤ sizeLine; decide), fun q3 n3 => ?_⟩
    have s3 := s2.trans (zp n3 (o := .lst [V.int 0]))
    have R7 := R5.same s3
    refine ⟨bl, q3, zs, [0], rfl, R7.li, R7.st, zm, by omega, by decide, fun z hz => ⟨(gz z hz).1, Nat.le_trans (gz z hz).2 (by decide)⟩, fun H8 s8 => ⟨_, rfl, ?_⟩⟩
    have s38 := s3.trans s8
    have fin : ∀ x : Int, x = ((jr (zs.map (·.2)) b 0 : Nat) : Int) → ∀ q4, H8 q4 = none → q2 ≠ q4 → ∀ q5, upd H8 q4 (.lst [V.int x]) q5 = none → ∀ q6, upd (upd H8 q4 (.lst [V.int x])) q5 (.lst ((List.replicate (ws.length : Int).toNat [V.int 1]).flatten ++ [V.int x])) q6 = none →
        Q .non (upd (upd (upd (upd H8 q4 (.lst [V.int x])) q5 (.lst ((List.replicate (ws.length : Int).toNat [V.int 1]).flatten ++ [V.int x]))) q6 (.lst [V.ref q5])) p (.ins C dx (yC "layers" (.ref q6) (yC "steps" (.ref sa) (yC "outset" (.int (ws.length : Nat)) (yC "base" (.int b) [])))))) := by
      intro x hx q4 n4 _ q5 n5 q6 n6
      have t4 := zp n4 (o := .lst [V.int x])
      have t5 := zp n5 (o := .lst ((List.replicate (ws.length : Int).toNat [V.int 1]).flatten ++ [V.int x]))
      have t6 := zp n6 (o := .lst [V.ref q5])
      have t46 := t4.trans (t5.trans t6)
      have s56 := s38.trans t46
      have hp9 := s56 _ _ hp5
      have f5 : ∀ c, H5 c = none → H c = none := fun c hc => by
        have h5 : H4 c = none := by
          rw [← hH5] at hc
          by_cases z : c = p
          · subst z; rw [zm] at hc; cases hc
          · rwa [zx z] at hc
        have h3' : H3 c = none := m4.free h5
        have h1' : H1 c = none := by
          rw [← hH3] at h3'
          by_cases z : c = p
          · subst z; rw [zm] at h3'; cases h3'
          · rwa [zx z] at h3'
        cases e : H c with
        | none => rfl
        | some o =>
          by_cases z : c = T0
          · subst z
            exact absurd h1' (by
              rcases hT1 with h | ⟨d, h, _⟩
              · rw [h]; simp
              · rw [h]; simp)
          · rw [mL c o z e] at h1'; cases h1'
      have q6H5 : H5 q6 = none := (s38.trans (t4.trans t5)).free n6
      have q6p : q6 ≠ p := fun z => by rw [z, hp5] at q6H5; cases q6H5
      have np5 : q5 ≠ q6 := fun z => by rw [← z, zm] at n6; cases n6
      generalize hH9 : upd (upd (upd H8 q4 (.lst [V.int x])) q5 (.lst ((List.replicate (ws.length : Int).toNat [V.int 1]).flatten ++ [V.int x]))) q6 (.lst [V.ref q5]) = H9 at t6 t46 s56 hp9
      have hq6 : H9 q6 = some (.lst [V.ref q5]) := by rw [← hH9, zm]
      have hq5 : H9 q5 = some (.lst ((List.replicate (ws.length : Int).toNat [V.int 1]).flatten ++ [V.int x])) := by rw [← hH9, zx np5, zm]
      have q5p : q5 ≠ p := ZD hq5 hp9 (fun z => nomatch z)
      have off : ∀ c o, c ≠ p → H5 c = some o → aw [q6] (upd H9 p (.ins C dx (Xw b ws.length sa q6))) c = some o := fun c o hc e => by
        have hcq : c ≠ q6 := zB e q6H5
        rw [yt (by simpa using hcq), zx hc]
        exact s56 c o e
      have sa4 : H4 sa = some (.lst (srs.map fun z => V.ref z.1)) := hsal
      have l1 : ∀ {c : Addr} {xs : List V}, H4 c = some (.lst xs) → H5 c = some (.lst xs) ∧ c ≠ p := fun h => ⟨m5 _ _ (lp4 h) h, lp4 h⟩
      refine kk q6 (ws.map (·.2)) _ ⟨⟨dx, sa, srs, ?_, off _ _ (l1 hsal).2 (l1 hsal).1, fun z hz => off _ _ (l1 (hsrs z hz).2).2 (l1 (hsrs z hz).2).1, hsr2⟩, ⟨[(q5, wg (zs.map (·.2)) (ws.map (·.2)) b 0)], by rw [zx q6p]; exact hq6, fun z hz => ?_, rfl⟩, Nat.le_refl _⟩ ⟨g, SL, by rw [List.length_map]; exact h13⟩ (fun c o hc hcT e => ?_) ?_ (f5 _ q6H5)
      · rw [yt (by simpa using Ne.symm q6p), List.length_map]
        exact zm
      · have e : z = (q5, wg (zs.map (·.2)) (ws.map (·.2)) b 0) := by simpa using hz
        subst e
        rw [yt (by simpa using np5), zx q5p, hq5]
        congr 2
        unfold wg
        rw [List.map_append, hx, Int.toNat_natCast, List.map_map, List.map_map]
        rw [Jb (fun _ => rfl) ws]
        rfl
      · rw [zx hc]
        have h1 := mL c o hcT e
        exact s56 c o (m5 c o hc (m4 c o (m3 c o hc h1)))
      · have a1 : LT T0 H3 := by
          rcases hT1 with h | ⟨d, h1, h2⟩
          · exact .inl (m3 _ _ (Ne.symm npT) h)
          · exact .inr ⟨d, m3 _ _ (Ne.symm npT) h1, m3 _ _ (ZD h2 hp1 (fun z => nomatch z)) h2⟩
        have a2 := a1.same m4
        have a3 : LT T0 H5 := by
          rcases a2 with h | ⟨d, h1, h2⟩
          · exact .inl (m5 _ _ (Ne.symm npT) h)
          · exact .inr ⟨d, m5 _ _ (Ne.symm npT) h1, m5 _ _ (ZD h2 hp4 (fun z => nomatch z)) h2⟩
        have a4 := a3.same s56
        rcases a4 with h | ⟨d, h1, h2⟩
        · exact .inl (by rw [zx (Ne.symm npT)]; exact h)
        · exact .inr ⟨d, by rw [zx (Ne.symm npT)]; exact h1, by rw [zx (ZD h2 hp9 (fun z => nomatch z))]; exact h2⟩
    have hq2 : H8 q2 = some (.lst (List.replicate (ws.length : Int).toNat [V.int 1]).flatten) := s8 _ _ (zp n3 _ _ zm)
    have lenr : (List.replicate (ws.length : Int).toNat [V.int 1]).flatten.length ≤ 13 := by rw [Int.toNat_natCast, Jb (f := fun _ => V.int 1) (fun _ => rfl) ws, List.length_map]; exact h13
    have len3 : (yC "steps" (.ref sa) (yC "outset" (.int (ws.length : Nat)) (yC "base" (.int b) []))).length ≤ 3 := Nat.le_trans (qX _ _ _) (Nat.succ_le_succ len2)
    have tail : ∀ x : Int, x = ((jr (zs.map (·.2)) b 0 : Nat) : Int) → ∀ q4, H8 q4 = none → ∃ l b' xs zs', V.ref q2 = V.ref l ∧ V.ref q4 = V.ref b' ∧ upd H8 q4 (.lst [V.int x]) l = some (.lst xs) ∧ upd H8 q4 (.lst [V.int x]) b' = some (.lst zs') ∧ xs.length + zs'.length ≤ sizeLine ∧ ∀ q5, upd H8 q4 (.lst [V.int x]) q5 = none →
        1 ≤ sizeLine ∧ ∀ q6, upd (upd H8 q4 (.lst [V.int x])) q5 (.lst (xs ++ zs')) q6 = none → ∃ v, some (some (V.ref p)) = some (some v) ∧ ∃ a C' dx' fs, v = .ref a ∧ upd (upd (upd H8 q4 (.lst [V.int x])) q5 (.lst (xs ++ zs'))) q6 (.lst [V.ref q5]) a = some (.ins C' dx' fs) ∧ Cls K C' ∧ NoAttr K C' "layers" ∧ fs.length < 1000 ∧ Q .non (upd (upd (upd (upd H8 q4 (.lst [V.int x])) q5 (.lst (xs ++ zs'))) q6 (.lst [V.ref q5])) a (.ins C' dx' (yC "layers" (.ref q6) fs))) := by
      intro x hx q4 n4
      have nq : q2 ≠ q4 := zB hq2 n4
      refine ⟨q2, q4, _, _, rfl, rfl, by rw [zx nq]; exact hq2, zm, Nat.le_trans (Nat.add_le_add lenr (Nat.le_refl 1)) (by decide), fun q5 n5 => ⟨(by decide), fun q6 n6 => ?_⟩⟩
      have hp8 := s38 _ _ hp5
      exact ⟨_, rfl, p, C, dx, _, rfl, (zp n4).trans ((zp n5).trans (zp n6)) _ _ hp8, zy.cl, zy.n_layers, by omega, fin x hx q4 n4 nq q5 n5 q6 n6⟩
    cases hlk : lacks (zs.map (·.2)) [0] with
    | true =>
      refine ji ?_
      refine ⟨(by show 1 ≤ sizeLine; decide), fun q4 n4 => ?_⟩
      exact tail 1 (by unfold jr; rw [hlk]; rfl) q4 n4
    | false =>
      refine qZ ?_
      refine ⟨(by show 1 ≤ sizeLine; decide), fun q4 n4 => ?_⟩
      exact tail 0 (by unfold jr; rw [hlk]; rfl) q4 n4
end
theorem Jm {H : Hp} {x dx : Addr} {C : Addr} (nx : H x = none) (ndx : H dx = none) : Same H (upd (upd H dx (.own x)) x (.ins C dx [])) := fun b o e => by
  rw [zx (zB e nx), zx (zB e ndx)]
  exact e
theorem RuleAt.sameL {T0 r bl : Addr} {H H' : Hp} {b : Nat} {zs : List (Addr × List Int)} (R : RuleAt H r b bl zs) (hT : LT T0 H) (m : SameL T0 H H') : RuleAt H' r b bl zs :=
  ⟨m _ _ (hT.tup R.tu) R.tu, m _ _ (hT.lst R.li) R.li, fun z hz => m _ _ (hT.lst (R.st z hz)) (R.st z hz)⟩
theorem Z0 {T0 la : Addr} {H H1 H2 : Hp} (m : SameL T0 H H1) (hla : H la = none) (a : Same (aw [la] H1) (aw [la] H2)) : SameL T0 H H2 := fun c o hc e => by
  have hcl : c ∉ [la] := by simpa using zB e hla
  have := a c o (by rw [yt hcl]; exact m c o hc e)
  rwa [yt hcl] at this
theorem TailsAt.la {C p la b : Nat} {H : Hp} {ls ws : List (List Int)} {L : Nat} (TA : TailsAt C H p la b ls ws L) : ∃ xs, H la = some (.lst xs) := let ⟨_, h, _⟩ := TA.ly; ⟨_, h⟩
section
variable {P : Program} {w : World} {K : PySem.W.Frag} {mg : Str → Option Value} {base : Heap} {T0 C : Addr}
def zfe (T0 C : Addr) (b : Nat) (ls : List (List Int)) (H : Hp) (x : Addr) (H' : Hp) : Prop := ∃ (la : Addr) (ws : List (List Int)), TailsAt C H' x la b ls ws 1 ∧ GoodT b ls ws ∧ SameL T0 H H' ∧ LT T0 H' ∧ H la = none
theorem Wt {r : Addr} {b : Nat} {bl : Addr} {zs : List (Addr × List Int)} {H : Hp} (R : RuleAt H r b bl zs) (g : GoodRule b (zs.map (·.2))) (hT : LT T0 H) {R' : Addr → Hp → Prop} (k : ∀ x H', zfe T0 C b (zs.map (·.2)) H x H' → R' x H') :
    ∀ x dx, H x = none → H dx = none → dx ≠ x → jf T0 C (.ref x :: ([.ref r] ++ [])) (upd (upd H dx (.own x)) x (.ins C dx [])) (fun v H2 => v = .non ∧ R' x H2) E0 := by
  intro x dx nx ndx nex
  have s0 := Jm (C := C) nx ndx
  refine ⟨x, dx, r, b, bl, zs, rfl, zm, R.same s0, g, hT.same s0, fun la ws H' TA G fr hT' hla => ⟨rfl, k x H' ⟨la, ws, TA, G, fun c o hc e => fr c o (zB e nx) hc (s0 c o e), hT', s0.free hla⟩⟩⟩
def Zc (T0 : Addr) : Sp := fun vs H Q _ => ∃ (r : Addr) (b : Nat) (bl : Addr) (zs : List (Addr × List Int)) (n : Nat), vs = [.ref r, .int n] ∧ RuleAt H r b bl zs ∧ GoodRule b (zs.map (·.2)) ∧ n < 2 ^ 900 ∧ LT T0 H ∧ ∀ H', SameL T0 H H' → LT T0 H' → Q (.int (many (gd (zs.map (·.2)) b) n : Nat)) H'
theorem V3 : zG ["rule", "n"] ["rule", "n"] (zu qU) := ⟨rfl, rfl, rfl, by decide +kernel, rfl, by decide +kernel, by decide +kernel⟩
theorem U6 {f f1 f2 f3 f4 : Addr} {fd fd1 fd2 fd3 fd4 : FuncData} (D : Df K mg "count_below" qU ["rule", "n"] f fd) (zM : Df K mg "check_rule" yM ["thing"] f1 fd1) (zN : FnOk P w K mg base CX0 7 f1 fd1 ["thing"] yK) (zW : Df K mg "figures_of" xG ["base", "n"] f2 fd2) (zZ : FnOk P w K mg base CX0 4 f2 fd2 ["base", "n"] xF)
    (uX : Mk K C f3) (uW : Binds K fd3 ["self", "rule"] []) (yz : FnOk P w K mg base CX0 7 f3 fd3 ["self", "rule"] (jf T0 C)) (yX : Mt K C "Tails.many_below" "many_below" wB ["self", "figures"] f4 fd4) (xT : FnOk P w K mg base CX0 4 f4 fd4 ["self", "figures"] (qN C)) (zy : ClT K mg C) : FnOk P w K mg base CX0 9 f fd ["rule", "n"] (Zc T0) := by
  refine D.fn.ok V3 (fun vs H Q E h => ?_) (fun cdv A outer s H vs Q E hr h => ?_)
  · obtain ⟨r, b, bl, zs, n, rfl, _⟩ := h; rfl
  · obtain ⟨r, b, bl, zs, n, rfl, R, g, hn, hT, kk⟩ := h
    refine ⟨_, (zg (yP (zF zM zN (hr.mono (by decide)) (zc (pv 0) zf)))
      (zq (zJ (w5 yX zy.cl xT (hr.mono (by decide)) (Zr uX yz (hr.mono (by decide)) rfl zy.nm uW .nil XD (zc (pv 0) zf)) (zc (zF zW zZ (hr.mono (by decide)) (zc (zP (xM K) (pv 0) zj (fun _ _ => rfl)) (zc (pv 1) zf))) zf))))), ?_⟩
    refine ⟨_, rfl, r, b, bl, zs, rfl, R, g, fun H1 m1 => ?_⟩
    refine ⟨_, rfl, ?_⟩
    refine Wt (R.same m1) g (hT.same m1) ?_
    rintro x H2 ⟨la, ws, TA, G, mL, hT2, hla⟩
    obtain ⟨dx2, sa2, hp2⟩ := TA.obj
    have R2 := (R.same m1).sameL (hT.same m1) mL
    refine ⟨x, dx2, _, rfl, hp2, wH _ _ _ _, ?_⟩
    refine ⟨_, rfl, r, _, _, V.int b, rfl, rfl, SqT.of R2.tu, rfl, _, rfl, b, n, rfl, g.b2, g.b16, hn, fun l H3 hl hv m3 => ?_⟩
    obtain ⟨xs, hla2⟩ := TA.la
    have nl : l ≠ la := fun z => by rw [z, hla2] at hl; cases hl
    refine ⟨x, la, b, _, ws, 1, l, n, rfl, TA.same m3, G, by decide, by rw [yt (by simpa using nl)]; exact hv, hn, fun L4 H4 hL4 TA4 m4 hL4' => ?_⟩
    have mL3 : SameL T0 H1 H3 := mL.trans (.of m3)
    have mL4 := Z0 mL3 hla m4
    exact kk H4 ((SameL.of m1).trans mL4) ((hT2.same m3).off (m3 _ _ hla2) m4)
end
section
variable {P : Program} {w : World} {K : PySem.W.Frag} {mg : Str → Option Value} {base : Heap} {T0 C : Addr}
def zfb (ls : List (List Int)) (b n : Nat) (v : V) : Prop := (v = .non ∧ many (gd ls b) n = 0) ∨ ∃ g : Nat, v = .int g ∧ g < n ∧ gd ls b g = true ∧ many (gd ls b) g + 1 = many (gd ls b) n
def qF (T0 : Addr) (pre : List (List Int) → Nat → Nat → Prop) (R : List (List Int) → Nat → Nat → V → Prop) : Sp := fun vs H Q _ => ∃ (r : Addr) (b : Nat) (bl : Addr) (zs : List (Addr × List Int)) (n : Nat), vs = [.ref r, .int n] ∧ RuleAt H r b bl zs ∧ GoodRule b (zs.map (·.2)) ∧ pre (zs.map (·.2)) b n ∧ LT T0 H ∧ ∀ v H', R (zs.map (·.2)) b n v → SameL T0 H H' → LT T0 H' → Q v H'
abbrev jN (T0 : Addr) : Sp := qF T0 (fun _ _ n => n < 2 ^ 850) zfb
theorem jG : zG ["rule", "n", "figures", "tails", "k"] ["rule", "n"] (zu jg) := ⟨rfl, rfl, rfl, by decide +kernel, rfl, by decide +kernel, by decide +kernel⟩
theorem Ja {f f1 f2 f3 f4 f6 : Addr} {fd fd1 fd2 fd3 fd4 fd6 : FuncData} (D : Df K mg "last_good" jg ["rule", "n"] f fd) (zM : Df K mg "check_rule" yM ["thing"] f1 fd1) (zN : FnOk P w K mg base CX0 7 f1 fd1 ["thing"] yK) (zW : Df K mg "figures_of" xG ["base", "n"] f2 fd2) (zZ : FnOk P w K mg base CX0 4 f2 fd2 ["base", "n"] xF)
    (uX : Mk K C f3) (uW : Binds K fd3 ["self", "rule"] []) (yz : FnOk P w K mg base CX0 7 f3 fd3 ["self", "rule"] (jf T0 C)) (yX : Mt K C "Tails.many_below" "many_below" wB ["self", "figures"] f4 fd4) (xT : FnOk P w K mg base CX0 4 f4 fd4 ["self", "figures"] (qN C))
    (yu : Mt K C "Tails.number_at" "number_at" xQ ["self", "size", "k"] f6 fd6) (yE : FnOk P w K mg base CX0 5 f6 fd6 ["self", "size", "k"] (qi C)) (zy : ClT K mg C) (T : Blt mg) : FnOk P w K mg base CX0 9 f fd ["rule", "n"] (jN T0) := by
  refine D.fn.ok jG (fun vs H Q E h => ?_) (fun cdv A outer s H vs Q E hr h => ?_)
  · obtain ⟨r, b, bl, zs, n, rfl, _⟩ := h; rfl
  · obtain ⟨r, b, bl, zs, n, rfl, R, g, hn, hT, kk⟩ := h
    have hn9 : n < 2 ^ 900 := by omega
    have hlen := tR g.b2 850 n hn
    refine ⟨_, (zg (yP (zF zM zN (hr.mono (by decide)) (zc (pv 0) zf)))
      (zg (zH (i := 2) jG.nd rfl (Or.inl rfl) (zF zW zZ (hr.mono (by decide)) (zc (zP (xM K) (pv 0) zj (fun _ _ => rfl)) (zc (pv 1) zf))))
      (zg (zH (i := 3) jG.nd rfl (Or.inl rfl) (Zr uX yz (hr.mono (by decide)) rfl zy.nm uW .nil XD (zc (pv 0) zf)))
      (zg (zH (i := 4) jG.nd rfl (Or.inl rfl) (w5 yX zy.cl xT (hr.mono (by decide)) (pv 3) (zc (pv 2) zf)))
      (zg (xP (ym jz (pv 4) zj (yc _))
        (zq (zJ tY))
        yh)
      (zq (zJ (w5 yu zy.cl yE (hr.mono (by decide)) (pv 3) (zc (zK (vB K) (by rfl) T.n_len PySem.boot_len (zc (pv 2) zf)) (zc (zA xV (pv 4) zj) zf)))))))))), ?_⟩
    refine ⟨_, rfl, r, b, bl, zs, rfl, R, g, fun H1 m1 => ?_⟩
    have R1 := R.same m1
    refine ⟨_, rfl, r, _, _, V.int b, rfl, rfl, SqT.of R1.tu, rfl, _, rfl, b, n, rfl, g.b2, g.b16, hn9, fun l H2 hl hv m2 => ?_⟩
    have m12 := m1.trans m2
    refine ⟨_, rfl, ?_⟩
    refine Wt (R.same m12) g (hT.same m12) ?_
    rintro x H3 ⟨la, ws, TA, G, mL, hT3, hla⟩
    have hl3 := mL _ _ ((hT.same m12).lst hv) hv
    have nl : l ≠ la := fun z => by rw [z, hla] at hv; cases hv
    obtain ⟨xs, hla3⟩ := TA.la
    obtain ⟨dx3, sa3, hp3⟩ := TA.obj
    refine ⟨_, rfl, x, dx3, _, rfl, hp3, wH _ _ _ _, _, rfl, x, la, b, _, ws, 1, l, n, rfl, TA, G, by decide, by rw [yt (by simpa using nl)]; exact hl3, hn9, fun L4 H4 hL4 TA4 m4 hL4' => ?_⟩
    have hl4 : aw [la] H4 l = some (.lst ((yp b n).map V.int)) := m4 _ _ (by rw [yt (by simpa using nl)]; exact hl3)
    have fin : ∀ H', Same (aw [la] H4) (aw [la] H') → SameL T0 H H' ∧ LT T0 H' := fun H' m' => ⟨Z0 ((SameL.of m12).trans mL) (m12.free hla) (m4.trans m'), hT3.off hla3 (m4.trans m')⟩
    refine ⟨_, rfl, rfl, _, rfl, ?_⟩
    refine Vu (fun hz => ?_) (fun hz => ?_)
    · have h0 : many (gd (zs.map (·.2)) b) n = 0 := by
        have z := of_decide_eq_true hz
        injection z with z
        omega
      obtain ⟨a1, a2⟩ := fin H4 (Same.refl _)
      exact kk _ H4 (.inl ⟨rfl, h0⟩) a1 a2
    · have h0 : ¬ many (gd (zs.map (·.2)) b) n = 0 := fun z => hz (decide_eq_true (by rw [z]; rfl))
      obtain ⟨dx4, sa4, hp4⟩ := TA4.obj
      have hle := jW (gd (zs.map (·.2)) b) (Nat.le_of_lt (YW g.b2 (b := b) (n := n) rfl))
      refine ⟨_, rfl, x, dx4, _, rfl, hp4, wH _ _ _ _, _, rfl, l, _, rfl, .inl (SqL.of (zU _ _ _ _ hl4)), _, rfl, _, _, rfl, rfl, x, la, b, _, ws, L4, (yp b n).length, many (gd (zs.map (·.2)) b) n - 1, ?_, TA4, G, hL4', by omega, by omega, fun q hg hm hq L6 H6 hL6 TA6 m6 hL6' => ?_⟩
      · rw [List.length_map]
        show [V.ref x, V.int _, V.int ((many (gd (zs.map (·.2)) b) n : Nat) - 1 : Int)] = _
        rw [show (((many (gd (zs.map (·.2)) b) n : Nat) : Int) - 1) = ((many (gd (zs.map (·.2)) b) n - 1 : Nat) : Int) by omega]
      · obtain ⟨a1, a2⟩ := fin H6 m6
        exact kk _ H6 (.inr ⟨q, rfl, zaP (p := gd (zs.map (·.2)) b) (by omega), hg, by omega⟩) a1 a2
end
section
variable {P : Program} {w : World} {K : PySem.W.Frag} {mg : Str → Option Value} {base : Heap} {T0 C : Addr}
def vL : Sp := fun vs H Q _ => ∃ m : Nat, vs = [.int m] ∧ 1 ≤ m ∧ m ≤ 60 ∧ Q .non H
theorem VJ : zG ["thing"] ["thing"] (zu vg) := ⟨rfl, rfl, rfl, by decide +kernel, rfl, by decide +kernel, by decide +kernel⟩
theorem Vz {f f1 : Addr} {fd fd1 : FuncData} {t1 : Tok} (D : Df K mg "check_length" vg ["thing"] f fd) (ud : Df K mg "is_number" je ["thing"] f1 fd1) (Zk : FnOk P w K mg base CX0 2 f1 fd1 ["thing"] jR) (j6 : mg "MOST_FIGURES" = some (.int 60 t1)) : FnOk P w K mg base CX0 3 f fd ["thing"] vL := by
  refine D.fn.ok VJ (fun vs H Q E h => ?_) (fun cdv A outer s H vs Q E hr h => ?_)
  · obtain ⟨m, rfl, _⟩ := h; rfl
  · obtain ⟨m, rfl, h1, h2, kk⟩ := h
    refine ⟨_, (zq (xP (PW.pt (Qv (tX (uE (zF ud Zk (hr.mono (by decide)) (zc (pv 0) zf)))) (W9 (tX (zcU YQ YQ zj (pv 0) (Ws (v := .int 60) rfl j6 ⟨_, rfl⟩))))))
        (zq Y4)
        yh)), ?_⟩
    refine ⟨_, rfl, (m : Int), rfl, _, rfl, ?_⟩
    rw [decide_eq_true (show (0 : Int) ≤ m by omega)]
    refine qZ ?_
    refine ⟨_, rfl, _, _, rfl, rfl, _, rfl, ?_⟩
    rw [decide_eq_true (show (1 : Int) ≤ m by omega)]
    refine ji ?_
    refine ⟨_, _, rfl, rfl, _, rfl, ?_⟩
    rw [decide_eq_true (show (m : Int) ≤ 60 by omega)]
    exact qZ kk
def low (ls : List (List Int)) (b m : Nat) : Nat := if m = 1 then 0 else many (gd ls b) (b ^ (m - 1))
def uz (C : Addr) : Sp := fun vs H Q _ => ∃ (p la : Addr) (b : Nat) (ls ws : List (List Int)) (L m : Nat), vs = [.ref p, .int m] ∧ TailsAt C H p la b ls ws L ∧ GoodT b ls ws ∧ L ≤ 1000 ∧ 1 ≤ m ∧ m ≤ 60 ∧ TQ C H p la b ls ws L fun L' H' => L' ≤ 1000 → Q (.int (low ls b m : Nat)) H'
theorem WN : zG ["tails", "m"] ["tails", "m"] (zu vO) := ⟨rfl, rfl, rfl, by decide +kernel, rfl, by decide +kernel, by decide +kernel⟩
theorem Vb {f f1 : Addr} {fd fd1 : FuncData} (D : Df K mg "count_shorter" vO ["tails", "m"] f fd) (zR : Mt K C "Tails.many_within" "many_within" yG ["self", "size"] f1 fd1) (zV : FnOk P w K mg base CX0 3 f1 fd1 ["self", "size"] (vo C)) (zy : ClT K mg C) : FnOk P w K mg base CX0 4 f fd ["tails", "m"] (uz C) := by
  refine D.fn.ok WN (fun vs H Q E h => ?_) (fun cdv A outer s H vs Q E hr h => ?_)
  · obtain ⟨p, la, b, ls, ws, L, m, rfl, _⟩ := h; rfl
  · obtain ⟨p, la, b, ls, ws, L, m, rfl, TA, G, hL, h1, h2, kk⟩ := h
    obtain ⟨dx, sa, hp⟩ := TA.obj
    refine ⟨_, (zg (xP (ym jz (pv 1) zj (yc _))
        (zq (zJ zj))
        yh)
      (zq (zJ (w5 zR zy.cl zV (hr.mono (by decide)) (pv 0) (zc (zA xV (pv 1) zj) zf))))), ?_⟩
    refine ⟨_, rfl, rfl, _, rfl, ?_⟩
    refine Vu (fun hz => ?_) (fun hz => ?_)
    · have e : m = 1 := by
        have z := of_decide_eq_true hz
        injection z with z
        omega
      have q := kk L H (Nat.le_refl _) TA (Same.refl _) hL
      unfold low at q
      rw [if_pos e] at q
      exact q
    · have e : ¬ m = 1 := fun z => hz (decide_eq_true (by rw [z]; rfl))
      refine ⟨_, rfl, p, dx, _, rfl, hp, wH _ _ _ _, _, rfl, _, _, rfl, rfl, p, la, b, ls, ws, L, m - 1, ?_, TA, G, hL, by omega, fun L2 H2 hL2 TA2 m2 hmx => ?_⟩
      · show [V.ref p, V.int ((m : Int) - 1)] = _
        rw [show ((m : Int) - 1) = ((m - 1 : Nat) : Int) by omega]
      · have q := kk L2 H2 hL2 TA2 m2 (by omega)
        unfold low at q
        rw [if_neg e, ← jX G.ne G.g.b2] at q
        exact q
abbrev Xd : List (List Int) → Nat → Nat → Prop := fun _ _ m => 1 ≤ m ∧ m ≤ 60
def zaU (ls : List (List Int)) (b m : Nat) (v : V) : Prop := (v = .non ∧ many (gd ls b) (b ^ m) = low ls b m) ∨ ∃ g : Nat, v = .int g ∧ gd ls b g = true ∧ many (gd ls b) g = low ls b m ∧ g < b ^ m
def WL (ls : List (List Int)) (b m : Nat) (v : V) : Prop := (v = .non ∧ many (gd ls b) (b ^ m) = low ls b m) ∨ ∃ g : Nat, v = .int g ∧ gd ls b g = true ∧ many (gd ls b) g + 1 = many (gd ls b) (b ^ m) ∧ g < b ^ m ∧ low ls b m < many (gd ls b) (b ^ m)
theorem zaY {ls : List (List Int)} {b m : Nat} (hb : 1 ≤ b) : low ls b m ≤ many (gd ls b) (b ^ m) := by
  unfold low
  split
  · exact Nat.zero_le _
  · exact jW _ (Nat.pow_le_pow_right hb (by omega))
theorem ZJ : zG ["rule", "m", "tails", "k"] ["rule", "m"] (zu jB) := ⟨rfl, rfl, rfl, by decide +kernel, rfl, by decide +kernel, by decide +kernel⟩
theorem Qa {f f1 f2 f3 f4 f5 f6 : Addr} {fd fd1 fd2 fd3 fd4 fd5 fd6 : FuncData} (D : Df K mg "least_long" jB ["rule", "m"] f fd) (zM : Df K mg "check_rule" yM ["thing"] f1 fd1) (zN : FnOk P w K mg base CX0 7 f1 fd1 ["thing"] yK) (yS : Df K mg "check_length" vg ["thing"] f2 fd2) (xJ : FnOk P w K mg base CX0 3 f2 fd2 ["thing"] vL)
    (uX : Mk K C f3) (uW : Binds K fd3 ["self", "rule"] []) (yz : FnOk P w K mg base CX0 7 f3 fd3 ["self", "rule"] (jf T0 C)) (zR : Mt K C "Tails.many_within" "many_within" yG ["self", "size"] f4 fd4) (zV : FnOk P w K mg base CX0 3 f4 fd4 ["self", "size"] (vo C)) (wA : Df K mg "count_shorter" vO ["tails", "m"] f5 fd5) (w6 : FnOk P w K mg base CX0 4 f5 fd5 ["tails", "m"] (uz C))
    (yu : Mt K C "Tails.number_at" "number_at" xQ ["self", "size", "k"] f6 fd6) (yE : FnOk P w K mg base CX0 5 f6 fd6 ["self", "size", "k"] (qi C)) (zy : ClT K mg C) : FnOk P w K mg base CX0 9 f fd ["rule", "m"] (qF T0 Xd zaU) := by
  refine D.fn.ok ZJ (fun vs H Q E h => ?_) (fun cdv A outer s H vs Q E hr h => ?_)
  · obtain ⟨r, b, bl, zs, n, rfl, _⟩ := h; rfl
  · obtain ⟨r, b, bl, zs, m, rfl, R, g, ⟨hm1, hm2⟩, hT, kk⟩ := h
    refine ⟨_, (zg (yP (zF zM zN (hr.mono (by decide)) (zc (pv 0) zf)))
      (zg (yP (zF yS xJ (hr.mono (by decide)) (zc (pv 1) zf)))
      (zg (zH (i := 2) ZJ.nd rfl (Or.inl rfl) (Zr uX yz (hr.mono (by decide)) rfl zy.nm uW .nil XD (zc (pv 0) zf)))
      (zg (zH (i := 3) ZJ.nd rfl (Or.inl rfl) (zF wA w6 (hr.mono (by decide)) (zc (pv 2) (zc (pv 1) zf))))
      (zg (xP (ym jz (w5 zR zy.cl zV (hr.mono (by decide)) (pv 2) (zc (pv 1) zf)) (pv 3) (yc _))
        (zq (zJ tY))
        yh)
      (zq (zJ (w5 yu zy.cl yE (hr.mono (by decide)) (pv 2) (zc (pv 1) (zc (pv 3) zf)))))))))), ?_⟩
    refine ⟨_, rfl, r, b, bl, zs, rfl, R, g, fun H1 m1 => ?_⟩
    refine ⟨_, rfl, m, rfl, hm1, hm2, ?_⟩
    refine ⟨_, rfl, ?_⟩
    refine Wt (R.same m1) g (hT.same m1) ?_
    rintro x H3 ⟨la, ws, TA, G, mL, hT3, hla⟩
    obtain ⟨xs, hla3⟩ := TA.la
    have hle := zaY (ls := zs.map (·.2)) (m := m) (show 1 ≤ b by have := g.b2; omega)
    refine ⟨_, rfl, _, rfl, x, la, b, _, ws, 1, m, rfl, TA, G, by decide, hm1, hm2, fun L4 H4 hL4 TA4 m4 hL4' => ?_⟩
    obtain ⟨dx4, sa4, hp4⟩ := TA4.obj
    refine ⟨_, rfl, x, dx4, _, rfl, hp4, wH _ _ _ _, _, rfl, x, la, b, _, ws, L4, m, rfl, TA4, G, hL4', by omega, fun L5 H5 hL5 TA5 m5 hmx => ?_⟩
    rw [jX G.ne g.b2]
    have m45 := m4.trans m5
    have fin : ∀ H', Same (aw [la] H5) (aw [la] H') → SameL T0 H H' ∧ LT T0 H' := fun H' m' => ⟨Z0 ((SameL.of m1).trans mL) (m1.free hla) (m45.trans m'), hT3.off hla3 (m45.trans m')⟩
    refine ⟨_, rfl, rfl, _, rfl, ?_⟩
    refine Vu (fun hz => ?_) (fun hz => ?_)
    · have e : many (gd (zs.map (·.2)) b) (b ^ m) = low (zs.map (·.2)) b m := by
        have z := of_decide_eq_true hz
        injection z with z
        omega
      obtain ⟨a1, a2⟩ := fin H5 (Same.refl _)
      exact kk _ H5 (.inl ⟨rfl, e⟩) a1 a2
    · have e : ¬ many (gd (zs.map (·.2)) b) (b ^ m) = low (zs.map (·.2)) b m := fun z => hz (decide_eq_true (by rw [z]))
      obtain ⟨dx5, sa5, hp5⟩ := TA5.obj
      refine ⟨_, rfl, x, dx5, _, rfl, hp5, wH _ _ _ _, _, rfl, _, rfl, x, la, b, _, ws, L5, m, low (zs.map (·.2)) b m, rfl, TA5, G, by omega, by omega, by omega, fun q hg hm hq L6 H6 hL6 TA6 m6 hL6' => ?_⟩
      obtain ⟨a1, a2⟩ := fin H6 m6
      exact kk _ H6 (.inr ⟨q, rfl, hg, hm, hq⟩) a1 a2
theorem qC : zG ["rule", "m", "tails", "many"] ["rule", "m"] (zu uM) := ⟨rfl, rfl, rfl, by decide +kernel, rfl, by decide +kernel, by decide +kernel⟩
theorem Vd {f f1 f2 f3 f4 f5 f6 : Addr} {fd fd1 fd2 fd3 fd4 fd5 fd6 : FuncData} (D : Df K mg "greatest_long" uM ["rule", "m"] f fd) (zM : Df K mg "check_rule" yM ["thing"] f1 fd1) (zN : FnOk P w K mg base CX0 7 f1 fd1 ["thing"] yK) (yS : Df K mg "check_length" vg ["thing"] f2 fd2) (xJ : FnOk P w K mg base CX0 3 f2 fd2 ["thing"] vL)
    (uX : Mk K C f3) (uW : Binds K fd3 ["self", "rule"] []) (yz : FnOk P w K mg base CX0 7 f3 fd3 ["self", "rule"] (jf T0 C)) (zR : Mt K C "Tails.many_within" "many_within" yG ["self", "size"] f4 fd4) (zV : FnOk P w K mg base CX0 3 f4 fd4 ["self", "size"] (vo C)) (wA : Df K mg "count_shorter" vO ["tails", "m"] f5 fd5) (w6 : FnOk P w K mg base CX0 4 f5 fd5 ["tails", "m"] (uz C))
    (yu : Mt K C "Tails.number_at" "number_at" xQ ["self", "size", "k"] f6 fd6) (yE : FnOk P w K mg base CX0 5 f6 fd6 ["self", "size", "k"] (qi C)) (zy : ClT K mg C) : FnOk P w K mg base CX0 9 f fd ["rule", "m"] (qF T0 Xd WL) := by
  refine D.fn.ok qC (fun vs H Q E h => ?_) (fun cdv A outer s H vs Q E hr h => ?_)
  · obtain ⟨r, b, bl, zs, n, rfl, _⟩ := h; rfl
  · obtain ⟨r, b, bl, zs, m, rfl, R, g, ⟨hm1, hm2⟩, hT, kk⟩ := h
    refine ⟨_, (zg (yP (zF zM zN (hr.mono (by decide)) (zc (pv 0) zf)))
      (zg (yP (zF yS xJ (hr.mono (by decide)) (zc (pv 1) zf)))
      (zg (zH (i := 2) qC.nd rfl (Or.inl rfl) (Zr uX yz (hr.mono (by decide)) rfl zy.nm uW .nil XD (zc (pv 0) zf)))
      (zg (zH (i := 3) qC.nd rfl (Or.inl rfl) (w5 zR zy.cl zV (hr.mono (by decide)) (pv 2) (zc (pv 1) zf)))
      (zg (xP (ym jz (pv 3) (zF wA w6 (hr.mono (by decide)) (zc (pv 2) (zc (pv 1) zf))) (yc _))
        (zq (zJ tY))
        yh)
      (zq (zJ (w5 yu zy.cl yE (hr.mono (by decide)) (pv 2) (zc (pv 1) (zc (zA xV (pv 3) zj) zf)))))))))), ?_⟩
    refine ⟨_, rfl, r, b, bl, zs, rfl, R, g, fun H1 m1 => ?_⟩
    refine ⟨_, rfl, m, rfl, hm1, hm2, ?_⟩
    refine ⟨_, rfl, ?_⟩
    refine Wt (R.same m1) g (hT.same m1) ?_
    rintro x H3 ⟨la, ws, TA, G, mL, hT3, hla⟩
    obtain ⟨xs, hla3⟩ := TA.la
    have hle := zaY (ls := zs.map (·.2)) (m := m) (show 1 ≤ b by have := g.b2; omega)
    obtain ⟨dx3, sa3, hp3⟩ := TA.obj
    refine ⟨_, rfl, x, dx3, _, rfl, hp3, wH _ _ _ _, _, rfl, x, la, b, _, ws, 1, m, rfl, TA, G, by decide, by omega, fun L4 H4 hL4 TA4 m4 hmx => ?_⟩
    rw [jX G.ne g.b2]
    refine ⟨_, rfl, _, rfl, _, rfl, x, la, b, _, ws, L4, m, rfl, TA4, G, by omega, hm1, hm2, fun L5 H5 hL5 TA5 m5 hL5' => ?_⟩
    have m45 := m4.trans m5
    have fin : ∀ H', Same (aw [la] H5) (aw [la] H') → SameL T0 H H' ∧ LT T0 H' := fun H' m' => ⟨Z0 ((SameL.of m1).trans mL) (m1.free hla) (m45.trans m'), hT3.off hla3 (m45.trans m')⟩
    refine ⟨rfl, _, rfl, ?_⟩
    refine Vu (fun hz => ?_) (fun hz => ?_)
    · have e : many (gd (zs.map (·.2)) b) (b ^ m) = low (zs.map (·.2)) b m := by
        have z := of_decide_eq_true hz
        injection z with z
        omega
      obtain ⟨a1, a2⟩ := fin H5 (Same.refl _)
      exact kk _ H5 (.inl ⟨rfl, e⟩) a1 a2
    · have e : ¬ many (gd (zs.map (·.2)) b) (b ^ m) = low (zs.map (·.2)) b m := fun z => hz (decide_eq_true (by rw [z]))
      obtain ⟨dx5, sa5, hp5⟩ := TA5.obj
      refine ⟨_, rfl, x, dx5, _, rfl, hp5, wH _ _ _ _, _, rfl, _, rfl, _, _, rfl, rfl, x, la, b, _, ws, L5, m, many (gd (zs.map (·.2)) b) (b ^ m) - 1, ?_, TA5, G, by omega, by omega, by omega, fun q hg hm hq L6 H6 hL6 TA6 m6 hL6' => ?_⟩
      · show [V.ref x, V.int m, V.int ((many (gd (zs.map (·.2)) b) (b ^ m) : Nat) - 1 : Int)] = _
        rw [show (((many (gd (zs.map (·.2)) b) (b ^ m) : Nat) : Int) - 1) = ((many (gd (zs.map (·.2)) b) (b ^ m) - 1 : Nat) : Int) by omega]
      · obtain ⟨a1, a2⟩ := fin H6 m6
        exact kk _ H6 (.inr ⟨q, rfl, hg, by omega, hq, by omega⟩) a1 a2
end
structure ClS (K : PySem.W.Frag) (mg : Str → Option Value) (C : Addr) : Prop where
  cl : Cls K C
  nm : mg "Totals" = some (.ref C)
  n_tails : NoAttr K C "tails"
  n_weights : NoAttr K C "weights"
  n_layers : NoAttr K C "layers"
def YZ (tl wa l2 : Addr) : List (Str × V) := yC "layers" (.ref l2) (yC "weights" (.ref wa) (yC "tails" (.ref tl) []))
theorem uc (tl wa l2 : Addr) : (YZ tl wa l2).lookup ("tails" : Str) = some (.ref tl) := by
  unfold YZ
  rw [zO, if_neg (by decide +kernel), zO, if_neg (by decide +kernel), zO, if_pos rfl]
theorem Jc (tl wa l2 : Addr) : (YZ tl wa l2).lookup ("weights" : Str) = some (.ref wa) := by
  unfold YZ
  rw [zO, if_neg (by decide +kernel), zO, if_pos rfl]
theorem Xc (tl wa l2 : Addr) : (YZ tl wa l2).lookup ("layers" : Str) = some (.ref l2) := by
  unfold YZ
  rw [zO, if_pos rfl]
theorem Zz (tl wa l2 : Addr) {m : Str} (h1 : ¬ m = "layers" := by decide +kernel) (h2 : ¬ m = "weights" := by decide +kernel) (h3 : ¬ m = "tails" := by decide +kernel) : (YZ tl wa l2).lookup m = none := by
  unfold YZ
  rw [zO, if_neg h1, zO, if_neg h2, zO, if_neg h3]
  rfl
def vP (b : Nat) (w : Nat → Nat) (sc k : Nat) : List Int := (List.range b).map fun (c : Nat) => ((sc ^ k * w c : Nat) : Int)
def ZX (ls ws : List (List Int)) (b : Nat) (w : Nat → Nat) (sc t : Nat) : List Int := (ws.map fun x => ((tt ls b w sc t x : Nat) : Int)) ++ [((ttO ls b w sc t : Nat) : Int)]
def stepT (ls : List (List Int)) (b : Nat) (w : Nat → Nat) (sc t : Nat) : Option (List Int) → Nat → Nat
  | some x, c => if lacks ls (x ++ [(c : Int)]) = true then sc ^ t * w c * cnt ls b t (zY ls (x ++ [(c : Int)])) + tt ls b w sc t (zY ls (x ++ [(c : Int)])) else 0
  | none, c => if c = 0 then ttO ls b w sc t else if lacks ls [(c : Int)] = true then sc ^ t * w c * cnt ls b t (zY ls [(c : Int)]) + tt ls b w sc t (zY ls [(c : Int)]) else 0
def jn (ls : List (List Int)) (b : Nat) (w : Nat → Nat) (sc t : Nat) (o : Option (List Int)) (s : Nat) : Nat := ((List.range s).map (stepT ls b w sc t o)).sum
theorem Vk (ls : List (List Int)) (b : Nat) (w : Nat → Nat) (sc t : Nat) (o : Option (List Int)) (s : Nat) : jn ls b w sc t o (s + 1) = jn ls b w sc t o s + stepT ls b w sc t o s := by
  unfold jn
  rw [List.range_succ, List.map_append, List.sum_append]
  simp
theorem zb3 {ls ws : List (List Int)} {b sc t : Nat} {w : Nat → Nat} : ((List.range (ws.length + 1)).map fun i => ((jn ls b w sc t ws[i]? b : Nat) : Int)) = ZX ls ws b w sc (t + 1) := by
  unfold ZX
  apply List.ext_getElem?
  intro i
  rw [List.getElem?_map]
  by_cases h : i < ws.length
  · rw [List.getElem?_range (by omega), List.getElem?_append_left (by rw [List.length_map]; exact h), List.getElem?_map, Option.map_some, List.getElem?_eq_getElem h]
    rfl
  · by_cases h2 : i = ws.length
    · subst h2
      rw [List.getElem?_range (by omega), List.getElem?_append_right (by rw [List.length_map]; exact Nat.le_refl _), List.length_map, Nat.sub_self, Option.map_some, List.getElem?_eq_none (Nat.le_refl _)]
      rfl
    · rw [List.getElem?_eq_none (by rw [List.length_range]; omega), List.getElem?_eq_none (by rw [List.length_append, List.length_map, List.length_singleton]; omega)]
      rfl
theorem zac {ls ws : List (List Int)} {b sc t : Nat} {w : Nat → Nat} (G : GoodT b ls ws) {i c : Nat} (hi : i ≤ ws.length) :
    (stepV ls ws ws[i]? c = .non ∧ stepT ls b w sc t ws[i]? c = 0 ∧ ZC ls b t ws[i]? c = 0) ∨ ∃ (j x y z : Nat), stepV ls ws ws[i]? c = .int j ∧ j ≤ ws.length ∧ (wg ls ws b t)[j]? = some ((x : Nat) : Int) ∧ (ZX ls ws b w sc t)[j]? = some ((y : Nat) : Int) ∧ z = (if j = ws.length then 0 else sc ^ t * w c) ∧ stepT ls b w sc t ws[i]? c = z * x + y ∧ ZC ls b t ws[i]? c = x := by
  have at_ : ∀ fs : List Int, lacks ls fs = true → ∃ j : Nat, plc ls ws fs = .int j ∧ j < ws.length ∧ (wg ls ws b t)[j]? = some ((cnt ls b t (zY ls fs) : Nat) : Int) ∧ (ZX ls ws b w sc t)[j]? = some ((tt ls b w sc t (zY ls fs) : Nat) : Int) := by
    intro fs h
    have hm : zY ls fs ∈ ws := (G.s.mem _).mpr (Yr G.ne h)
    have hlt := List.idxOf_lt_length_iff.mpr hm
    refine ⟨ws.idxOf (zY ls fs), by unfold plc; rw [if_pos h], hlt, ?_, ?_⟩
    · unfold wg
      rw [List.getElem?_append_left (by rw [List.length_map]; exact hlt), List.getElem?_map, List.getElem?_eq_getElem hlt, List.getElem_idxOf hlt]
      rfl
    · unfold ZX
      rw [List.getElem?_append_left (by rw [List.length_map]; exact hlt), List.getElem?_map, List.getElem?_eq_getElem hlt, List.getElem_idxOf hlt]
      rfl
  cases hw : ws[i]? with
  | some x =>
    by_cases h : lacks ls (x ++ [(c : Int)]) = true
    · right
      obtain ⟨j, h1, h2, h3, h4⟩ := at_ _ h
      refine ⟨j, _, _, sc ^ t * w c, h1, Nat.le_of_lt h2, h3, h4, by rw [if_neg (by omega)], ?_, by rw [Wb, if_pos h]⟩
      show (if lacks ls (x ++ [(c : Int)]) = true then _ else 0) = _
      rw [if_pos h]
    · left
      refine ⟨by rw [za5]; unfold plc; rw [if_neg h], ?_, by rw [Wb, if_neg h]⟩
      show (if lacks ls (x ++ [(c : Int)]) = true then _ else 0) = _
      rw [if_neg h]
  | none =>
    by_cases h0 : c = 0
    · right
      refine ⟨ws.length, jr ls b t, ttO ls b w sc t, 0, by rw [uh, if_pos h0], Nat.le_refl _, ?_, ?_, by rw [if_pos rfl], ?_, by rw [qw, if_pos h0]⟩
      · unfold wg
        rw [List.getElem?_append_right (by rw [List.length_map]; exact Nat.le_refl _), List.length_map, Nat.sub_self]
        rfl
      · unfold ZX
        rw [List.getElem?_append_right (by rw [List.length_map]; exact Nat.le_refl _), List.length_map, Nat.sub_self]
        rfl
      · show (if c = 0 then _ else _) = _
        rw [if_pos h0]; omega
    · by_cases h : lacks ls [(c : Int)] = true
      · right
        obtain ⟨j, h1, h2, h3, h4⟩ := at_ _ h
        refine ⟨j, _, _, sc ^ t * w c, by rw [uh, if_neg h0]; exact h1, Nat.le_of_lt h2, h3, h4, by rw [if_neg (by omega)], ?_, by rw [qw, if_neg h0, if_pos h]⟩
        show (if c = 0 then _ else if lacks ls [(c : Int)] = true then _ else 0) = _
        rw [if_neg h0, if_pos h]
      · left
        refine ⟨?_, ?_, by rw [qw, if_neg h0, if_neg h]⟩
        · rw [uh, if_neg h0]; unfold plc; rw [if_neg h]
        · show (if c = 0 then _ else if lacks ls [(c : Int)] = true then _ else 0) = _
          rw [if_neg h0, if_neg h]
structure RowsAt (H : Hp) (a : Addr) (rs : List (List Int)) : Prop where
  ex : ∃ zs : List (Addr × List Int), H a = some (.lst (zs.map fun z => V.ref z.1)) ∧ (∀ z ∈ zs, H z.1 = some (.lst (z.2.map V.int))) ∧ zs.map (·.2) = rs
theorem RowsAt.same {H H' : Hp} {a : Addr} {rs : List (List Int)} (R : RowsAt H a rs) (m : Same H H') : RowsAt H' a rs := by
  obtain ⟨zs, h1, h2, h3⟩ := R.ex
  exact ⟨⟨zs, m _ _ h1, fun z hz => m _ _ (h2 z hz), h3⟩⟩
theorem RowsAt.get {H : Hp} {a : Addr} {rs : List (List Int)} (R : RowsAt H a rs) {k : Nat} {r : List Int} (h : rs[k]? = some r) : ∃ (zs : List V) (q : Addr), H a = some (.lst zs) ∧ atI zs (k : Int) = some (V.ref q) ∧ H q = some (.lst (r.map V.int)) := by
  obtain ⟨zs, h1, h2, h3⟩ := R.ex
  rw [← h3, List.getElem?_map] at h
  obtain ⟨z, hz, e⟩ := Option.map_eq_some_iff.mp h
  subst e
  exact ⟨_, z.1, h1, xU (by rw [List.getElem?_map, hz]; rfl), h2 z (List.mem_of_getElem? hz)⟩
section
variable {P : Program} {w : World} {K : PySem.W.Frag} {mg : Str → Option Value} {base : Heap} {T0 C CS : Addr}
def uU : Sp := fun vs H Q _ => ∃ (wl : Addr) (b : Nat) (w : Nat → Nat) (sc sz : Nat), vs = [.ref wl, .int sc, .int sz] ∧ H wl = some (.lst ((vP b w sc 0).map V.int)) ∧ b ≤ 16 ∧ sc ≤ 16 ∧ sz ≤ 900 ∧ ∀ (q : Addr) (H' : Hp), H q = none → RowsAt H' q ((List.range sz).map (vP b w sc)) → Same H H' → Q (.ref q) H'
theorem vD : zG ["weights", "scale", "size", "told", "left"] ["weights", "scale", "size"] (zu wO) := ⟨rfl, rfl, rfl, by decide +kernel, rfl, by decide +kernel, by decide +kernel⟩
theorem XJ {f : Addr} {fd : FuncData} (D : Df K mg "weights_by_left" wO ["weights", "scale", "size"] f fd) (T : Blt mg) : FnOk P w K mg base CX0 1 f fd ["weights", "scale", "size"] uU := by
  refine D.fn.ok vD (fun vs H Q E h => ?_) (fun cdv A outer s H vs Q E hr h => ?_)
  · obtain ⟨wl, b, w, sc, sz, rfl, _⟩ := h; rfl
  · obtain ⟨wl, b, wt, sc, sz, rfl, hw, hb, hsc, hsz, kk⟩ := h
    refine ⟨_, (zg (zH (i := 3) vD.nd rfl (Or.inl rfl) (xm zf))
      (zg (vU PassesOwn.never rfl (yw rfl T.n_range (zc (pv 2) zf)) (yZ (i := 4) vD.nd rfl (Or.inl rfl))
        (zg (yP (YM PySem.F.plainAttrs_list PySem.F.slot_list_append PySem.F.type_list_append vQ (pv 3) (zc (pv 0) zf)))
        (zq (jZ (i := 0) (show CScope (zu wO) _ "weight" ["weights", "scale", "size", "told", "left"] ["scale"] [1] from ⟨rfl, by decide +kernel, by decide +kernel, rfl, by decide +kernel, rfl, by decide +kernel, by decide +kernel⟩) rfl vD.nd rfl (Or.inl rfl) (Qe K (pv 0)) (fun _ _ _ _ => wK) (fun _ _ _ _ => (zA wD (pv 1) (pv 0)))))))
      (zq (zJ (pv 3))))), ?_⟩
    refine ⟨(by decide : 0 ≤ sizeLine), fun to hto => ?_⟩
    have m1 := zp hto (o := .lst [])
    refine ⟨_, rfl, _, rfl, by omega, by omega, wy (lo := 0) (n := (sz : Int).toNat) (fun i σ H2 => ∃ (v4 : Option V) (wi : Addr) (zs : List (Addr × List Int)), σ = [some (.ref wi), some (.int sc), some (.int sz), some (.ref to), v4] ∧ wi ≠ to ∧ H2 wi = some (.lst ((vP b wt sc i).map V.int)) ∧ H2 to = some (.lst (zs.map fun z => V.ref z.1)) ∧ (∀ z ∈ zs, z.1 ≠ to ∧ H2 z.1 = some (.lst (z.2.map V.int))) ∧ zs.map (·.2) = (List.range i).map (vP b wt sc) ∧ Same H H2)
      ⟨none, wl, [], rfl, zB hw hto, m1 _ _ hw, zm, by simp, rfl, m1⟩ ?_ ?_⟩
    · rintro i σ H2 hi ⟨v4, wi, zs, rfl, nw, hwi, hto2, hzs, ezs, m2⟩
      have hzl : zs.length = i := by have := congrArg List.length ezs; rwa [List.length_map, List.length_map, List.length_range] at this
      refine ⟨_, rfl, .inl ⟨rfl, _, SqL.of hto2⟩, _, rfl, to, _, _, rfl, rfl, hto2, by rw [List.length_map, hzl]; exact Nat.lt_of_lt_of_le (show i < 1000 by omega) (by decide), ?_⟩
      have m3 : Same H (upd H2 to (.lst (zs.map (fun z => V.ref z.1) ++ [V.ref wi]))) := fun c o e => by rw [zx (zB e hto)]; exact m2 c o e
      have hwi3 : upd H2 to (.lst (zs.map (fun z => V.ref z.1) ++ [V.ref wi])) wi = some (.lst ((vP b wt sc i).map V.int)) := by rw [zx nw]; exact hwi
      have hz3 : ∀ z ∈ zs ++ [(wi, vP b wt sc i)], z.1 ≠ to ∧ upd H2 to (.lst (zs.map (fun z => V.ref z.1) ++ [V.ref wi])) z.1 = some (.lst (z.2.map V.int)) := fun z hz => by
        rcases List.mem_append.mp hz with hz | hz
        · exact ⟨(hzs z hz).1, by rw [zx (hzs z hz).1]; exact (hzs z hz).2⟩
        · have e : z = (wi, vP b wt sc i) := by simpa using hz
          subst e; exact ⟨nw, hwi3⟩
      have hto3 : upd H2 to (.lst (zs.map (fun z => V.ref z.1) ++ [V.ref wi])) to = some (.lst ((zs ++ [(wi, vP b wt sc i)]).map fun z => V.ref z.1)) := by rw [zm]; simp
      generalize upd H2 to (.lst (zs.map (fun z => V.ref z.1) ++ [V.ref wi])) = H3 at m3 hwi3 hz3 hto3
      refine ⟨_, rfl, wi, rfl, ⟨_, SqL.of hwi3⟩, tG (K := K) (a := wi) (xs := (vP b wt sc i).map V.int) (fun k ys H4 => H4 = H3 ∧ ys = ((vP b wt sc (i + 1)).take k).map V.int) ⟨rfl, rfl⟩ (fun k ys H4 _ ⟨e, _⟩ => by rw [e]; exact SqL.of hwi3) ?_ ?_⟩
      · rintro k x ys H4 hx ⟨rfl, rfl⟩
        unfold vP at hx
        rw [List.getElem?_map, List.getElem?_map] at hx
        obtain ⟨y, hy, e⟩ := Option.map_eq_some_iff.mp hx
        obtain ⟨c, hc, e2⟩ := Option.map_eq_some_iff.mp hy
        subst e2; subst e
        have hk : k < b := by have := (List.getElem?_eq_some_iff.mp hc).1; rwa [List.length_range] at this
        have ec : c = k := by rw [List.getElem?_range hk] at hc; exact (Option.some.inj hc).symm
        subst ec
        refine ⟨by rw [List.length_map]; exact Nat.lt_of_le_of_lt (Nat.le_trans (List.length_take_le' _ _) (by unfold vP; rw [List.length_map, List.length_range]; exact hb)) (by decide), ?_⟩
        unfold YS
        dsimp only
        rw [if_pos rfl]
        refine ⟨_, rfl, _, rfl, _, _, rfl, rfl, .inl ⟨by omega, by omega⟩, rfl, ?_⟩
        have e3 : (vP b wt sc (i + 1))[c]? = some ((sc : Int) * ((sc ^ i * wt c : Nat) : Int)) := by
          unfold vP
          rw [List.getElem?_map, List.getElem?_range hk, Option.map_some, Nat.pow_succ', Nat.mul_assoc, Int.natCast_mul]
        rw [List.take_succ, e3, List.map_append]
        rfl
      · rintro ys H4 ⟨rfl, rfl⟩ q hq
        have m4 := zp hq (o := .lst (((vP b wt sc (i + 1)).take ((vP b wt sc i).map V.int).length).map V.int))
        have nq : q ≠ to := Ne.symm (zB hto3 hq)
        have etk : (vP b wt sc (i + 1)).take ((vP b wt sc i).map V.int).length = vP b wt sc (i + 1) := List.take_of_length_le (by unfold vP; simp)
        refine ⟨_, q, zs ++ [(wi, vP b wt sc i)], rfl, nq, by rw [zm, etk], m4 _ _ hto3, fun z hz => ⟨(hz3 z hz).1, m4 _ _ (hz3 z hz).2⟩, ?_, m3.trans m4⟩
        rw [List.map_append, ezs, List.range_succ, List.map_append]
        rfl
    · rintro σ H2 ⟨v4, wi, zs, rfl, nw, hwi, hto2, hzs, ezs, m2⟩
      exact ⟨_, rfl, kk to H2 hto ⟨⟨zs, hto2, fun z hz => (hzs z hz).2, by rw [ezs, Int.toNat_natCast]⟩⟩ m2⟩
end
structure TotAt (C CS : Addr) (H : Hp) (p tl la wa l2 : Addr) (b : Nat) (ls ws : List (List Int)) (L : Nat) (wt : Nat → Nat) (sc sz M : Nat) : Prop where
  ob : ∃ dx, aw [la, l2] H p = some (.ins CS dx (YZ tl wa l2))
  ta : TailsAt C H tl la b ls ws L
  sa : ∃ dx sa, aw [la, l2] H tl = some (.ins C dx (Xw b ws.length sa la)) ∧ sa ≠ l2
  wr : RowsAt (aw [la, l2] H) wa ((List.range sz).map (vP b wt sc))
  ly : ∃ zs : List (Addr × List Int), H l2 = some (.lst (zs.map fun z => V.ref z.1)) ∧ (∀ z ∈ zs, aw [la, l2] H z.1 = some (.lst (z.2.map V.int))) ∧ zs.map (·.2) = (List.range M).map (ZX ls ws b wt sc)
  ne : la ≠ l2
theorem zeb {la l2 : Addr} {H H' : Hp} (m : Same (aw [la] H) (aw [la] H')) : Same (aw [la, l2] H) (aw [la, l2] H') := fun c o e => by
  have hc : c ∉ [la, l2] := fun hc => by rw [Wl hc] at e; cases e
  have hc1 : c ∉ [la] := fun z => hc (by simp at z; simp [z])
  rw [yt hc] at e ⊢
  have := m c o (by rw [yt hc1]; exact e)
  rwa [yt hc1] at this
section
variable {C CS : Addr} {H H' : Hp} {p tl la wa l2 : Addr} {b : Nat} {ls ws : List (List Int)} {L L' : Nat} {wt : Nat → Nat} {sc sz M : Nat}
theorem TotAt.more (A : TotAt C CS H p tl la wa l2 b ls ws L wt sc sz M) (TA : TailsAt C H' tl la b ls ws L') (m : Same (aw [la] H) (aw [la] H')) : TotAt C CS H' p tl la wa l2 b ls ws L' wt sc sz M := by
  have m2 := zeb (l2 := l2) m
  obtain ⟨dx, h1⟩ := A.ob
  obtain ⟨dx2, sa, h2, h3⟩ := A.sa
  obtain ⟨zs, g1, g2, g3⟩ := A.ly
  have hn : l2 ∉ [la] := by simpa using Ne.symm A.ne
  exact ⟨⟨dx, m2 _ _ h1⟩, TA, ⟨dx2, sa, m2 _ _ h2, h3⟩, A.wr.same m2, ⟨zs, by
    have := m l2 _ (by rw [yt hn]; exact g1)
    rwa [yt hn] at this, fun z hz => m2 _ _ (g2 z hz), g3⟩, A.ne⟩
theorem TotAt.same (A : TotAt C CS H p tl la wa l2 b ls ws L wt sc sz M) (m : Same H H') : TotAt C CS H' p tl la wa l2 b ls ws L wt sc sz M := A.more (A.ta.same m) (m.aw [la])
theorem TotAt.obj (A : TotAt C CS H p tl la wa l2 b ls ws L wt sc sz M) : ∃ dx, H p = some (.ins CS dx (YZ tl wa l2)) := let ⟨dx, h⟩ := A.ob; ⟨dx, zU _ _ _ _ h⟩
theorem TotAt.lay (A : TotAt C CS H p tl la wa l2 b ls ws L wt sc sz M) {t : Nat} (ht : t < M) : ∃ (zs : List V) (q : Addr), H l2 = some (.lst zs) ∧ atI zs (t : Int) = some (V.ref q) ∧ aw [la] H q = some (.lst ((ZX ls ws b wt sc t).map V.int)) := by
  obtain ⟨zs, g1, g2, g3⟩ := A.ly
  have h : ((List.range M).map (ZX ls ws b wt sc))[t]? = some (ZX ls ws b wt sc t) := by rw [List.getElem?_map, List.getElem?_range ht]; rfl
  rw [← g3, List.getElem?_map] at h
  obtain ⟨z, hz, e⟩ := Option.map_eq_some_iff.mp h
  refine ⟨_, z.1, g1, xU (by rw [List.getElem?_map, hz]; rfl), ?_⟩
  have := g2 z (List.mem_of_getElem? hz)
  rw [e] at this
  have hc : z.1 ∉ [la, l2] := fun hc => by rw [Wl hc] at this; cases this
  rw [yt hc] at this
  rw [yt (fun z => hc (by simp at z; simp [z]))]
  exact this
end
theorem zaX (ls : List (List Int)) (b : Nat) : ∀ (t : Nat) (x : List Int), cnt ls b t x ≤ b ^ t
  | 0, _ => by simp [cnt]
  | t + 1, x => by
    rw [cnt, Nat.pow_succ']
    have : ∀ (n : Nat), ((List.range n).map fun (c : Nat) => if lacks ls (x ++ [(c : Int)]) = true then cnt ls b t (zY ls (x ++ [(c : Int)])) else 0).sum ≤ n * b ^ t := by
      intro n
      induction n with
      | zero => simp
      | succ n ih =>
        rw [List.range_succ, List.map_append, List.sum_append, Nat.succ_mul]
        simp only [List.map_cons, List.map_nil, List.sum_cons, List.sum_nil, Nat.add_zero]
        have : (if lacks ls (x ++ [(n : Int)]) = true then cnt ls b t (zY ls (x ++ [(n : Int)])) else 0) ≤ b ^ t := by
          split
          · exact zaX ls b t _
          · exact Nat.zero_le _
        omega
    exact this b
theorem Jz (p : Nat → Bool) : ∀ N : Nat, many p N ≤ N
  | 0 => Nat.le_refl _
  | N + 1 => by
    rw [many]
    have := Jz p N
    split <;> omega
theorem zb5 {ls : List (List Int)} (ne : ∀ l ∈ ls, l ≠ []) {b : Nat} (h2 : 2 ≤ b) (t : Nat) (o : Option (List Int)) (c : Nat) : ZC ls b t o c ≤ b ^ t := by
  cases o with
  | some x =>
    show (if _ then _ else 0) ≤ _
    split
    · exact zaX ls b t _
    · exact Nat.zero_le _
  | none =>
    show (if c = 0 then _ else if _ then _ else 0) ≤ _
    split
    · rw [jX ne h2]; exact Jz _ _
    · split
      · exact zaX ls b t _
      · exact Nat.zero_le _
theorem zdB {b t : Nat} (h : b ≤ 16) (ht : t ≤ 1000) : b ^ t < 2 ^ 4001 := by
  have h1 : b ^ t ≤ 16 ^ t := Nat.pow_le_pow_left h t
  have h2 : (16 : Nat) ^ t = 2 ^ (4 * t) := by rw [show (16 : Nat) = 2 ^ 4 from rfl, ← Nat.pow_mul]
  have h3 : 2 ^ (4 * t) < 2 ^ 4001 := Nat.pow_lt_pow_right (Nat.lt_succ_self 1) (by omega)
  omega
section
variable {P : Program} {w : World} {K : PySem.W.Frag} {mg : Str → Option Value} {base : Heap} {T0 C CS : Addr}
def jL (C CS : Addr) : Sp := fun vs H Q _ => ∃ (p tl la wa l2 : Addr) (b : Nat) (ls ws : List (List Int)) (L : Nat) (wt : Nat → Nat) (sc sz M j c t : Nat), vs = [.ref p, .int j, .int c, .int t] ∧ TotAt C CS H p tl la wa l2 b ls ws L wt sc sz M ∧ c < b ∧ t < sz ∧ Q (.int ((if j = ws.length then 0 else sc ^ t * wt c : Nat) : Int)) H
theorem Xv : zG ["self", "behind", "figure", "left"] ["self", "behind", "figure", "left"] (zu wz) := ⟨rfl, rfl, rfl, by decide +kernel, rfl, by decide +kernel, by decide +kernel⟩
theorem Jj {f : Addr} {fd : FuncData} (D : Mt K CS "Totals.weight_of" "weight_of" wz ["self", "behind", "figure", "left"] f fd) (zy : ClT K mg C) (zE : ClS K mg CS) : FnOk P w K mg base CX0 1 f fd ["self", "behind", "figure", "left"] (jL C CS) := by
  refine D.fn.ok Xv (fun vs H Q E h => ?_) (fun cdv A outer s H vs Q E hr h => ?_)
  · obtain ⟨p, tl, la, wa, l2, b, ls, ws, L, wt, sc, sz, M, j, c, t, rfl, _⟩ := h; rfl
  · obtain ⟨p, tl, la, wa, l2, b, ls, ws, L, wt, sc, sz, M, j, c, t, rfl, TT, hc, ht, kk⟩ := h
    obtain ⟨dx, hp⟩ := TT.obj
    obtain ⟨dt, sa, htl⟩ := TT.ta.obj
    obtain ⟨zs, q, w1, w2, w3⟩ := TT.wr.get (k := t) (r := vP b wt sc t) (by rw [List.getElem?_map, List.getElem?_range ht]; rfl)
    refine ⟨_, (zg (xP (ym jz (pv 1) (xK K (xK K (pv 0))) (yc _))
        (zq (zJ zj))
        yh)
      (zq (zJ (zP (yR K) (zP (yR K) (xK K (pv 0)) (pv 3) (fun _ _ => rfl)) (pv 2) (fun _ _ => rfl))))), ?_⟩
    refine ⟨_, rfl, _, rfl, p, CS, dx, _, _, rfl, hp, zE.cl, zE.n_tails, uc _ _ _, tl, C, dt, _, _, rfl, htl, zy.cl, zy.n_outset, wL _ _ _ _, rfl, _, rfl, ?_⟩
    refine Vu (fun h => ?_) (fun h => ?_)
    · have e : j = ws.length := by have z := of_decide_eq_true h; injection z with z; omega
      rw [if_pos e] at kk
      exact kk
    · have e : ¬ j = ws.length := fun z => h (decide_eq_true (by rw [z]))
      rw [if_neg e] at kk
      refine ⟨_, rfl, p, CS, dx, _, _, rfl, hp, zE.cl, zE.n_weights, Jc _ _ _, _, rfl, wa, _, _, V.ref q, rfl, rfl, SqL.of (zU _ _ _ _ w1), w2, _, rfl, q, _, _, V.int ((sc ^ t * wt c : Nat) : Int), rfl, rfl, SqL.of (zU _ _ _ _ w3), xU ?_, kk⟩
      unfold vP
      rw [List.getElem?_map, List.getElem?_map, List.getElem?_range hc]
      rfl
def SQ (C CS : Addr) (H : Hp) (p tl la wa l2 : Addr) (b : Nat) (ls ws : List (List Int)) (L : Nat) (wt : Nat → Nat) (sc sz M : Nat) (R : Nat → Hp → Prop) : Prop := ∀ (L' : Nat) (H' : Hp), L ≤ L' → TotAt C CS H' p tl la wa l2 b ls ws L' wt sc sz M → Same (aw [la] H) (aw [la] H') → R L' H'
def tV (C CS : Addr) : Sp := fun vs H Q _ => ∃ (p tl la wa l2 : Addr) (b : Nat) (ls ws : List (List Int)) (L : Nat) (wt : Nat → Nat) (sc sz M i s t ah : Nat), vs = [.ref p, .int i, .int s, .int t, .int ah] ∧ TotAt C CS H p tl la wa l2 b ls ws L wt sc sz M ∧ GoodT b ls ws ∧ L ≤ 1000 ∧ t < 900 ∧ t < sz ∧ t < M ∧ i ≤ ws.length ∧ s ≤ b ∧ sc ≤ 16 ∧ (∀ c, c < b → wt c < 2 ^ 64) ∧ ah < 2 ^ 5000 ∧
  SQ C CS H p tl la wa l2 b ls ws L wt sc sz M fun L' H' => L' ≤ max L (t + 1) → Q (.int ((ah * under ls b t ws[i]? s + jn ls b wt sc t ws[i]? s : Nat) : Int)) H'
theorem yj : zG ["self", "place", "stop", "left", "ahead", "counts", "totals", "total", "figure", "behind", "weight"] ["self", "place", "stop", "left", "ahead"] (zu xN) := ⟨rfl, rfl, rfl, by decide +kernel, rfl, by decide +kernel, by decide +kernel⟩
set_option maxHeartbeats 0 in
theorem Uj {f f1 f2 : Addr} {fd fd1 fd2 : FuncData} (D : Mt K CS "Totals.total_under" "total_under" xN ["self", "place", "stop", "left", "ahead"] f fd) (yL : Mt K C "Tails.layer" "layer" wZ ["self", "left"] f1 fd1) (vJ : FnOk P w K mg base CX0 2 f1 fd1 ["self", "left"] (Xe C)) (yU : Mt K CS "Totals.weight_of" "weight_of" wz ["self", "behind", "figure", "left"] f2 fd2) (xR : FnOk P w K mg base CX0 1 f2 fd2 ["self", "behind", "figure", "left"] (jL C CS)) (zy : ClT K mg C) (zE : ClS K mg CS) (T : Blt mg) : FnOk P w K mg base CX0 3 f fd ["self", "place", "stop", "left", "ahead"] (tV C CS) := by
  refine D.fn.ok yj (fun vs H Q E h => ?_) (fun cdv A outer s H vs Q E hr h => ?_)
  · obtain ⟨p, tl, la, wa, l2, b, ls, ws, L, wt, sc, sz, M, i, s, t, ah, rfl, _⟩ := h; rfl
  · obtain ⟨p, tl, la, wa, l2, b, ls, ws, L, wt, sc, sz, M, i, s, t, ah, rfl, TT, G, hL, ht, hts, htM, hi, hs, hsc, hwt, hah, kk⟩ := h
    have b2 := G.g.b2
    have b16 := G.g.b16
    obtain ⟨dx, hp⟩ := TT.obj
    obtain ⟨dt, sa0, htl⟩ := TT.ta.obj
    refine ⟨_, (zg (zH (i := 5) yj.nd rfl (Or.inl rfl) (w5 yL zy.cl vJ (hr.mono (by decide)) (xK K (pv 0)) (zc (pv 3) zf)))
      (zg (zH (i := 6) yj.nd rfl (Or.inl rfl) (zP (yR K) (xK K (pv 0)) (pv 3) (fun _ _ => rfl)))
      (zg (zH (i := 7) yj.nd rfl (Or.inl rfl) zj)
      (zg (vU PassesOwn.never rfl (Jp K rfl T.n_enumerate (zc (uH (Xz K) (zP (yR K) (xK K (xK K (pv 0))) (pv 1) (fun _ _ => rfl)) jD (ql (pv 2))) zf)) (za2 rfl (Z7 (yZ (i := 8) yj.nd rfl (Or.inl rfl)) (Z7 (yZ (i := 9) yj.nd rfl (Or.inl rfl)) Ji)))
        (zq (xP (ym zbp (pv 9) tY (yc _))
          (zg (zH (i := 10) yj.nd rfl (Or.inl rfl) (zA yN (pv 4) (w5 yU zE.cl xR (hr.mono (by decide)) (pv 0) (zc (pv 9) (zc (pv 8) (zc (pv 3) zf))))))
          (zq (W7 (i := 7) yj.nd rfl (Or.inl rfl) (zA yN (zA zbr (pv 10) (zP (yR K) (pv 5) (pv 9) (fun _ _ => rfl))) (zP (yR K) (pv 6) (pv 9) (fun _ _ => rfl))) Ug)))
          yh)))
      (zq (zJ (pv 7))))))), ?_⟩
    refine ⟨_, rfl, p, CS, dx, _, _, rfl, hp, zE.cl, zE.n_tails, uc _ _ _, tl, dt, _, rfl, htl, wH _ _ _ _, _, rfl, tl, la, b, ls, ws, L, t, rfl, TT.ta, G, hL, by omega, fun lay L1 H1 hL1 TA1 m1 hmx hlay => ?_⟩
    have TT1 := TT.more TA1 m1
    obtain ⟨dx1, hp1⟩ := TT1.obj
    obtain ⟨zs, tq, g1, g2, g3⟩ := TT1.lay htM
    refine ⟨_, rfl, p, CS, dx1, _, _, rfl, hp1, zE.cl, zE.n_layers, Xc _ _ _, _, rfl, l2, _, _, V.ref tq, rfl, rfl, SqL.of g1, g2, ?_⟩
    obtain ⟨dt1, sa, srs, h1, h2, h3, h4⟩ := TA1.ob
    have hrow := Yp (ls := ls) (b := b) (by omega) hi
    rw [← h4, List.getElem?_map] at hrow
    obtain ⟨z, hz, ez⟩ := Option.map_eq_some_iff.mp hrow
    have hz3 := zU _ _ _ _ (h3 z (List.mem_of_getElem? hz))
    refine ⟨_, rfl, p, CS, dx1, _, _, rfl, hp1, zE.cl, zE.n_tails, uc _ _ _, tl, C, dt1, _, _, rfl, zU _ _ _ _ h1, zy.cl, zy.n_steps, ue _ _ _ _, _, rfl, sa, _, _, V.ref z.1, rfl, rfl, SqL.of (zU _ _ _ _ h2), xU (by rw [List.getElem?_map, hz]; rfl), ?_⟩
    refine ⟨_, rfl, _, rfl, z.1, _, rfl, SqL.of hz3, fun q hq => ?_⟩
    have ecut : jm z.2 none (some (s : Int)) = (List.range s).map (stepV ls ws ws[i]?) := by
      rw [Z8, ez, ← List.map_take, List.take_range, Nat.min_eq_left hs]
    rw [ecut]
    have m2 := zp hq (o := .lst ((List.range s).map (stepV ls ws ws[i]?)))
    have TT2 := TT1.same m2
    have hq2 : upd H1 q (.lst ((List.range s).map (stepV ls ws ws[i]?))) q = some (.lst ((List.range s).map (stepV ls ws ws[i]?))) := zm
    have hlay2 := m2 _ _ (zU _ _ _ _ hlay)
    have htq2 := m2 _ _ (zU _ _ _ _ g3)
    generalize upd H1 q (.lst ((List.range s).map (stepV ls ws ws[i]?))) = H2 at m2 TT2 hq2 hlay2 htq2
    refine ⟨q, rfl, ⟨_, SqL.of hq2⟩, JH (K := K) (a := q) (xs := (List.range s).map (stepV ls ws ws[i]?)) (fun k σ H3 => ∃ (v8 v9 v10 : Option V), σ = [some (.ref p), some (.int i), some (.int s), some (.int t), some (.int ah), some (.ref lay), some (.ref tq), some (.int ((ah * under ls b t ws[i]? k + jn ls b wt sc t ws[i]? k : Nat) : Int)), v8, v9, v10] ∧ Same H2 H3)
      ⟨none, none, none, rfl, Same.refl _⟩ (fun k σ H3 _ ⟨_, _, _, _, m⟩ => SqL.of (m _ _ hq2)) ?_ ?_⟩
    · rintro k x σ H3 T1 hx ⟨v8, v9, v10, rfl, m3⟩ hT1
      rw [List.getElem?_map] at hx
      obtain ⟨c, hc, e⟩ := Option.map_eq_some_iff.mp hx
      have hk : k < s := by have := (List.getElem?_eq_some_iff.mp hc).1; rwa [List.length_range] at this
      have ec : c = k := by rw [List.getElem?_range hk] at hc; exact (Option.some.inj hc).symm
      subst ec
      subst e
      refine ⟨T1, _, rfl, SqT.of zm, rfl, _, _, rfl, _, _, rfl, rfl, ?_⟩
      have m4 := m3.trans (zp hT1 (o := .tup [.int (c : Nat), stepV ls ws ws[i]? c]))
      generalize upd H3 T1 (.tup [.int (c : Nat), stepV ls ws ws[i]? c]) = H4 at m4
      have hus := Yg ls b t ws[i]? c
      have hut := Vk ls b wt sc t ws[i]? c
      rcases zac (t := t) (w := wt) (sc := sc) G (c := c) hi with ⟨e1, e2, e3⟩ | ⟨j, xx, y, zz, e1, e2, e3, e4, e5, e6, e7⟩
      · rw [e1]
        refine ⟨_, rfl, rfl, _, rfl, qZ ⟨some (.int (c : Nat)), some .non, v10, ?_, m4⟩⟩
        rw [hus, hut, e2, e3]
        rfl
      · rw [e1]
        refine ⟨_, rfl, rfl, _, rfl, ji ?_⟩
        have TT4 := TT2.same m4
        obtain ⟨dx4, hp4⟩ := TT4.obj
        refine ⟨_, rfl, _, rfl, p, dx4, _, rfl, hp4, Zz _ _ _, _, rfl, _, rfl, _, rfl, p, tl, la, wa, l2, b, ls, ws, L1, wt, sc, sz, M, j, c, t, rfl, TT4, by omega, hts, ?_⟩
        rw [← e5]
        have hzz : zz < 2 ^ 5000 := by
          rw [e5]
          split
          · exact Nat.pow_pos (by decide)
          · have a1 := zdB (b := sc) hsc (show t ≤ 1000 by omega)
            have a2 := hwt c (by omega)
            exact Nat.lt_of_lt_of_le (Nat.mul_lt_mul'' a1 a2) (by rw [← Nat.pow_add]; exact Nat.pow_le_pow_right (Nat.le_succ 1) (by decide))
        have hxx : xx < 2 ^ 4001 := by
          have := zb5 G.ne b2 t ws[i]? c
          rw [e7] at this
          exact Nat.lt_of_le_of_lt this (zdB b16 (by omega))
        have haz : ah + zz < 2 ^ 5001 := by rw [Nat.pow_succ]; omega
        refine ⟨_, _, rfl, rfl, ?_⟩
        refine ⟨_, rfl, _, rfl, _, rfl, _, rfl, lay, _, _, V.int ((xx : Nat) : Int), rfl, rfl, SqL.of (m4 _ _ hlay2), xU (by rw [List.getElem?_map, e3]; rfl), _, _, rfl, rfl, (CMulB.nat (i := ah + zz) (j := xx) haz hxx (by decide) (by decide) : CMulB ((ah + zz : Nat) : Int) (xx : Int)), ?_⟩
        refine ⟨_, rfl, _, rfl, tq, _, _, V.int ((y : Nat) : Int), rfl, rfl, SqL.of (m4 _ _ htq2), xU (by rw [List.getElem?_map, e4]; rfl), _, _, rfl, rfl, _, _, rfl, rfl, some (.int (c : Nat)), some (.int (j : Nat)), some (.int ((ah + zz : Nat) : Int)), ?_, m4⟩
        have ev : ((ah * under ls b t ws[i]? (c + 1) + jn ls b wt sc t ws[i]? (c + 1) : Nat) : Int) = ((ah * under ls b t ws[i]? c + jn ls b wt sc t ws[i]? c : Nat) : Int) + (((ah + zz : Nat) : Int) * (xx : Int) + (y : Int)) := by
          rw [hus, hut, e6, e7, ← Int.natCast_mul, ← Int.natCast_add, ← Int.natCast_add]
          congr 1
          rw [Nat.mul_add, Nat.add_mul]
          omega
        rw [ev]
        rfl
    · rintro σ H3 ⟨v8, v9, v10, rfl, m3⟩
      rw [List.length_map, List.length_range]
      exact ⟨_, rfl, kk L1 H3 hL1 (TT2.same m3) (m1.trans ((m2.trans m3).aw [la])) hmx⟩
end
theorem Q4 {ls ws : List (List Int)} {b : Nat} (G : GoodT b ls ws) {r : List V} (hr : r ∈ YB ls ws b) {a : Addr} : V.ref a ∉ r := by
  obtain ⟨i, hi, e⟩ := List.mem_iff_getElem.mp hr
  have hlen : (YB ls ws b).length = ws.length + 1 := by unfold YB; rw [List.length_append, List.length_map, List.length_singleton]
  have hi' : i ≤ ws.length := by omega
  have h := Yp (ls := ls) (b := b) (by have := G.g.b2; omega) hi'
  rw [List.getElem?_eq_getElem hi, e] at h
  have h' := Option.some.inj h
  intro hm
  rw [h'] at hm
  obtain ⟨c, _, hc⟩ := List.mem_map.mp hm
  rcases Vj (b := b) (t := 0) G (c := c) hi' with ⟨e1, _⟩ | ⟨j, e1, _⟩
  · rw [e1] at hc; cases hc
  · rw [e1] at hc; cases hc
theorem TailsAt.updL {C tl la b l2 : Nat} {H : Hp} {ls ws : List (List Int)} {L : Nat} {o : HO} {r0 : Addr} {rest : List V} (TA : TailsAt C H tl la b ls ws L) (G : GoodT b ls ws) (h : H l2 = some (.lst (V.ref r0 :: rest))) (hne : la ≠ l2) (hsa : ∃ dx sa, H tl = some (.ins C dx (Xw b ws.length sa la)) ∧ sa ≠ l2) : TailsAt C (upd H l2 o) tl la b ls ws L := by
  obtain ⟨dx, sa, srs, h1, h2, h3, h4⟩ := TA.ob
  obtain ⟨lrs, g1, g2, g3⟩ := TA.ly
  obtain ⟨dx', sa', k1, k2⟩ := hsa
  have esa : sa' = sa := by
    have := zU _ _ _ _ h1
    rw [k1] at this
    injection this with this
    injection this with _ _ this
    have e := ue b ws.length sa la
    rw [← this, ue] at e
    injection e with e
    injection e
  have go : ∀ c u, c ≠ l2 → aw [la] H c = some u → aw [la] (upd H l2 o) c = some u := fun c u hc e => by
    have hcl : c ∉ [la] := fun hz => by rw [Wl hz] at e; cases e
    rw [yt hcl] at e ⊢
    rw [zx hc]; exact e
  refine ⟨⟨dx, sa, srs, go _ _ (fun z => ?_) h1, go _ _ (fun z => k2 (by rw [esa, z])) h2, fun z hz => go _ _ (fun y => ?_) (h3 z hz), h4⟩, ⟨lrs, by rw [zx hne]; exact g1, fun z hz => go _ _ (fun y => ?_) (g2 z hz), g3⟩, TA.l1⟩
  · have := zU _ _ _ _ h1
    rw [z, h] at this; cases this
  · have e := zU _ _ _ _ (h3 z hz)
    rw [y, h] at e
    injection e with e
    injection e with e
    have hm : z.2 ∈ YB ls ws b := by rw [← h4]; exact List.mem_map.mpr ⟨z, hz, rfl⟩
    exact Q4 G hm (a := r0) (by rw [← e]; exact List.mem_cons_self)
  · have e := zU _ _ _ _ (g2 z hz)
    rw [y, h] at e
    injection e with e
    injection e with e
    cases hz2 : z.2 with
    | nil => rw [hz2] at e; cases e
    | cons a l => rw [hz2, List.map_cons] at e; injection e with e _; cases e
theorem TailsAt.updI {C tl la b p CS dxp : Nat} {H : Hp} {ls ws : List (List Int)} {L : Nat} {o : HO} {fs : List (Str × V)} (TA : TailsAt C H tl la b ls ws L) (h : H p = some (.ins CS dxp fs)) (hne : tl ≠ p) : TailsAt C (upd H p o) tl la b ls ws L := by
  obtain ⟨dx, sa, srs, h1, h2, h3, h4⟩ := TA.ob
  obtain ⟨lrs, g1, g2, g3⟩ := TA.ly
  have nl : ∀ {c : Addr} {xs : List V}, H c = some (.lst xs) → c ≠ p := fun e z => by rw [z, h] at e; cases e
  have go : ∀ c u, c ≠ p → aw [la] H c = some u → aw [la] (upd H p o) c = some u := fun c u hc e => by
    have hcl : c ∉ [la] := fun hz => by rw [Wl hz] at e; cases e
    rw [yt hcl] at e ⊢
    rw [zx hc]; exact e
  exact ⟨⟨dx, sa, srs, go _ _ hne h1, go _ _ (nl (zU _ _ _ _ h2)) h2, fun z hz => go _ _ (nl (zU _ _ _ _ (h3 z hz))) (h3 z hz), h4⟩, ⟨lrs, by rw [zx (nl g1)]; exact g1, fun z hz => go _ _ (nl (zU _ _ _ _ (g2 z hz))) (g2 z hz), g3⟩, TA.l1⟩
theorem RowsAt.updI {H : Hp} {a p CS dxp : Addr} {rs : List (List Int)} {o : HO} {fs : List (Str × V)} (R : RowsAt H a rs) (h : H p = some (.ins CS dxp fs)) : RowsAt (upd H p o) a rs := by
  obtain ⟨zs, h1, h2, h3⟩ := R.ex
  have nl : ∀ {c : Addr} {xs : List V}, H c = some (.lst xs) → c ≠ p := fun e z => by rw [z, h] at e; cases e
  exact ⟨⟨zs, by rw [zx (nl h1)]; exact h1, fun z hz => by rw [zx (nl (h2 z hz))]; exact h2 z hz, h3⟩⟩
theorem LT.putI {T p CS dx : Addr} {H : Hp} {o : HO} {fs : List (Str × V)} (h : LT T H) (e : H p = some (.ins CS dx fs)) : LT T (upd H p o) := by
  have nT : p ≠ T := fun z => by
    rw [z] at e
    rcases h with h | ⟨c, h, _⟩
    · rw [h] at e; cases e
    · rw [h] at e; cases e
  rcases h with h | ⟨c, h1, h2⟩
  · exact .inl (by rw [zx (Ne.symm nT)]; exact h)
  · exact .inr ⟨c, by rw [zx (Ne.symm nT)]; exact h1, by rw [zx (fun z => by rw [z, e] at h2; cases h2)]; exact h2⟩
section
variable {C CS : Addr} {H H' : Hp} {p tl la wa l2 : Addr} {b : Nat} {ls ws : List (List Int)} {L L' : Nat} {wt : Nat → Nat} {sc sz M : Nat}
theorem TotAt.push (A : TotAt C CS H p tl la wa l2 b ls ws L wt sc sz M) (G : GoodT b ls ws) (hM : 1 ≤ M) {q : Addr} {xs : List V} (hx : H l2 = some (.lst xs)) (hq : aw [la, l2] H q = some (.lst ((ZX ls ws b wt sc M).map V.int))) : TotAt C CS (upd H l2 (.lst (xs ++ [.ref q]))) p tl la wa l2 b ls ws L wt sc sz (M + 1) := by
  obtain ⟨dx, h1⟩ := A.ob
  obtain ⟨dx2, sa, h2, h3⟩ := A.sa
  obtain ⟨zs, g1, g2, g3⟩ := A.ly
  have ex : xs = zs.map fun z => V.ref z.1 := by
    rw [hx] at g1
    injection g1 with g1
    injection g1
  have hzl : zs.length = M := by have := congrArg List.length g3; rwa [List.length_map, List.length_map, List.length_range] at this
  have e0 := Yh (fp := [la, l2]) (H := H) (b := l2) (o := .lst (xs ++ [.ref q])) (by simp)
  obtain ⟨z0, zr, ez⟩ : ∃ z0 zr, zs = z0 :: zr := by
    cases zs with
    | nil => simp at hzl; omega
    | cons a l => exact ⟨a, l, rfl⟩
  refine ⟨⟨dx, by rw [e0]; exact h1⟩, A.ta.updL G (r0 := z0.1) (rest := zr.map fun z => V.ref z.1) (by rw [hx, ex, ez]; rfl) A.ne ⟨dx2, sa, zU _ _ _ _ h2, h3⟩, ⟨dx2, sa, by rw [e0]; exact h2, h3⟩, by rw [e0]; exact A.wr, ⟨zs ++ [(q, ZX ls ws b wt sc M)], by rw [zm, ex]; simp, fun z hz => ?_, ?_⟩, A.ne⟩
  · rw [e0]
    rcases List.mem_append.mp hz with hz | hz
    · exact g2 z hz
    · have e : z = (q, ZX ls ws b wt sc M) := by simpa using hz
      subst e; exact hq
  · rw [List.map_append, g3, List.range_succ, List.map_append]
    rfl
end
section
variable {P : Program} {w : World} {K : PySem.W.Frag} {mg : Str → Option Value} {base : Heap} {T0 C CS : Addr}
def jl (C CS : Addr) : Sp := fun vs H Q _ => ∃ (p tl la wa l2 : Addr) (b : Nat) (ls ws : List (List Int)) (L : Nat) (wt : Nat → Nat) (sc sz M t : Nat), vs = [.ref p, .int t] ∧ TotAt C CS H p tl la wa l2 b ls ws L wt sc sz M ∧ GoodT b ls ws ∧ L ≤ 900 ∧ t < 900 ∧ t < sz ∧ t < M ∧ sc ≤ 16 ∧ (∀ c, c < b → wt c < 2 ^ 64) ∧
  ∀ q, SQ C CS H p tl la wa l2 b ls ws L wt sc sz M fun L' H' => L' ≤ max L (t + 1) → aw [la, l2] H' q = some (.lst ((ZX ls ws b wt sc (t + 1)).map V.int)) → Q (.ref q) H'
theorem Ym : zG ["self", "left"] ["self", "left"] (zu xn) := ⟨rfl, rfl, rfl, by decide +kernel, rfl, by decide +kernel, by decide +kernel⟩
set_option maxHeartbeats 0 in
theorem VH {f f1 : Addr} {fd fd1 : FuncData} (D : Mt K CS "Totals.longer_layer" "longer_layer" xn ["self", "left"] f fd) (yF : Mt K CS "Totals.total_under" "total_under" xN ["self", "place", "stop", "left", "ahead"] f1 fd1) (xj : FnOk P w K mg base CX0 3 f1 fd1 ["self", "place", "stop", "left", "ahead"] (tV C CS)) (zy : ClT K mg C) (zE : ClS K mg CS) (T : Blt mg) : FnOk P w K mg base CX0 4 f fd ["self", "left"] (jl C CS) := by
  refine D.fn.ok Ym (fun vs H Q E h => ?_) (fun cdv A outer s H vs Q E hr h => ?_)
  · obtain ⟨p, tl, la, wa, l2, b, ls, ws, L, wt, sc, sz, M, t, rfl, _⟩ := h; rfl
  · obtain ⟨p, tl, la, wa, l2, b, ls, ws, L, wt, sc, sz, M, t, rfl, TT, G, hL, ht, hts, htM, hsc, hwt, kk⟩ := h
    have h13 := G.h13
    obtain ⟨dx, hp⟩ := TT.obj
    obtain ⟨dt, sa0, htl⟩ := TT.ta.obj
    refine ⟨_, (zq (zJ (uO (show CScope (zu xn) _ "place" ["self", "left"] ["left", "self"] [1, 0] from ⟨rfl, by decide +kernel, by decide +kernel, rfl, by decide +kernel, rfl, by decide +kernel, by decide +kernel⟩) rfl (yw rfl T.n_range (zc (zA yN (xK K (xK K (pv 0))) zj) zf)) (fun _ _ _ _ => wK) (fun _ _ _ _ => (w5 yF zE.cl xj (hr.mono (by decide)) (pv 2) (zc (pv 0) (zc (xK K (xK K (pv 2))) (zc (pv 1) (zc zj zf))))))))), ?_⟩
    refine ⟨_, rfl, p, CS, dx, _, _, rfl, hp, zE.cl, zE.n_tails, uc _ _ _, tl, C, dt, _, _, rfl, htl, zy.cl, zy.n_outset, wL _ _ _ _, _, _, rfl, rfl, ((ws.length : Int) + 1), rfl, by omega, by omega, vK (lo := 0) (n := ((ws.length : Int) + 1).toNat) (fun i ys H4 => ∃ L', ys = (((List.range i).map fun i => ((jn ls b wt sc t ws[i]? b : Nat) : Int))).map V.int ∧ L ≤ L' ∧ L' ≤ max L (t + 1) ∧ TotAt C CS H4 p tl la wa l2 b ls ws L' wt sc sz M ∧ Same (aw [la] H) (aw [la] H4)) ⟨L, rfl, Nat.le_refl _, Nat.le_max_left _ _, TT, Same.refl _⟩ ?_ ?_⟩
    · rintro i ys H4 hi ⟨L', rfl, hLL, hLm, TT4, m4⟩
      refine ⟨by rw [List.length_map, List.length_map, List.length_range]; exact Nat.lt_of_lt_of_le (show i < 20 by omega) (by decide), ?_⟩
      unfold YS
      dsimp only
      rw [if_pos rfl]
      obtain ⟨dx4, hp4⟩ := TT4.obj
      obtain ⟨dt4, sa4, htl4⟩ := TT4.ta.obj
      refine ⟨_, rfl, p, dx4, _, rfl, hp4, Zz _ _ _, _, rfl, _, rfl, p, CS, dx4, _, _, rfl, hp4, zE.cl, zE.n_tails, uc _ _ _, tl, C, dt4, _, _, rfl, htl4, zy.cl, zy.n_base, W8 _ _ _ _, _, rfl, p, tl, la, wa, l2, b, ls, ws, L', wt, sc, sz, M, i, b, t, 0, by rw [Int.zero_add]; rfl, TT4, G, by omega, ht, hts, htM, by omega, Nat.le_refl _, hsc, hwt, Nat.pow_pos (by decide), fun L5 H5 hL5 TT5 m5 hm5 => ⟨L5, ?_, by omega, by omega, TT5, m4.trans m5⟩⟩
      rw [List.range_succ, List.map_append, List.map_append, Nat.zero_mul, Nat.zero_add]
      rfl
    · rintro ys H4 ⟨L', rfl, hLL, hLm, TT4, m4⟩ q hq
      rw [show ((ws.length : Int) + 1).toNat = ws.length + 1 by omega, zb3]
      have m5 := zp hq (o := .lst ((ZX ls ws b wt sc (t + 1)).map V.int))
      obtain ⟨xs, hla⟩ := TT4.ta.la
      obtain ⟨zs, hl2, _⟩ := TT4.ly
      exact kk q L' _ hLL (TT4.same m5) (m4.trans (m5.aw [la])) hLm (by rw [yt (by simp [Ne.symm (zB hla hq), Ne.symm (zB hl2 hq)]), zm])
def jw (C CS : Addr) : Sp := fun vs H Q _ => ∃ (p tl la wa l2 : Addr) (b : Nat) (ls ws : List (List Int)) (L : Nat) (wt : Nat → Nat) (sc sz M t : Nat), vs = [.ref p, .int t] ∧ TotAt C CS H p tl la wa l2 b ls ws L wt sc sz M ∧ t < M ∧ Q (.int (ttO ls b wt sc t : Nat)) H
theorem Yt : zG ["self", "size"] ["self", "size"] (zu wI) := ⟨rfl, rfl, rfl, by decide +kernel, rfl, by decide +kernel, by decide +kernel⟩
theorem VG {f : Addr} {fd : FuncData} (D : Mt K CS "Totals.total_within" "total_within" wI ["self", "size"] f fd) (zy : ClT K mg C) (zE : ClS K mg CS) : FnOk P w K mg base CX0 1 f fd ["self", "size"] (jw C CS) := by
  refine D.fn.ok Yt (fun vs H Q E h => ?_) (fun cdv A outer s H vs Q E hr h => ?_)
  · obtain ⟨p, tl, la, wa, l2, b, ls, ws, L, wt, sc, sz, M, t, rfl, _⟩ := h; rfl
  · obtain ⟨p, tl, la, wa, l2, b, ls, ws, L, wt, sc, sz, M, t, rfl, TT, htM, kk⟩ := h
    obtain ⟨dx, hp⟩ := TT.obj
    obtain ⟨dt, sa0, htl⟩ := TT.ta.obj
    obtain ⟨zs, tq, g1, g2, g3⟩ := TT.lay htM
    refine ⟨_, (zq (zJ (zP (yR K) (zP (yR K) (xK K (pv 0)) (pv 1) (fun _ _ => rfl)) (xK K (xK K (pv 0))) (fun _ _ => rfl)))), ?_⟩
    refine ⟨_, rfl, p, CS, dx, _, _, rfl, hp, zE.cl, zE.n_layers, Xc _ _ _, _, rfl, l2, _, _, V.ref tq, rfl, rfl, SqL.of g1, g2, _, rfl, p, CS, dx, _, _, rfl, hp, zE.cl, zE.n_tails, uc _ _ _, tl, C, dt, _, _, rfl, htl, zy.cl, zy.n_outset, wL _ _ _ _, tq, _, _, V.int ((ttO ls b wt sc t : Nat) : Int), rfl, rfl, SqL.of (zU _ _ _ _ g3), xU ?_, kk⟩
    unfold ZX
    rw [List.map_append, List.getElem?_append_right (by rw [List.length_map, List.length_map]; exact Nat.le_refl _), List.length_map, List.length_map, Nat.sub_self]
    rfl
end
theorem LT.putL2 {T p : Addr} {H : Hp} {o : HO} {xs : List V} (h : LT T H) (e : H p = some (.lst xs)) : LT T (upd H p o) :=
  h.off e (by rw [Yh (by simp)]; exact Same.refl _)
theorem X8 {α : Type} {f : α → V} (h : ∀ a, f a = V.int 0) : ∀ l : List α, (List.replicate l.length [V.int 0]).flatten = l.map f
  | [] => rfl
  | a :: l => by rw [List.length_cons, List.replicate_succ, List.flatten_cons, X8 h l, List.map_cons, h a]; rfl
theorem zbI {ls ws : List (List Int)} {b sc : Nat} {wt : Nat → Nat} : (ZX ls ws b wt sc 0).map V.int = (List.replicate ws.length [V.int 0]).flatten ++ [V.int ((wt 0 : Nat) * (jr ls b 0 : Nat) : Int)] := by
  unfold ZX
  rw [List.map_append, List.map_map, X8 (f := V.int ∘ fun x => ((tt ls b wt sc 0 x : Nat) : Int)) (fun _ => rfl) ws]
  congr 1
section
variable {P : Program} {w : World} {K : PySem.W.Frag} {mg : Str → Option Value} {base : Heap} {T0 C CS : Addr}
def jV (T0 C CS : Addr) : Sp := fun vs H Q _ => ∃ (p dx r : Addr) (b : Nat) (bl : Addr) (zs : List (Addr × List Int)) (wl : Addr) (wt : Nat → Nat) (sc sz : Nat), vs = [.ref p, .ref r, .ref wl, .int sc, .int sz] ∧ H p = some (.ins CS dx []) ∧ RuleAt H r b bl zs ∧ GoodRule b (zs.map (·.2)) ∧ LT T0 H ∧ H wl = some (.lst ((vP b wt sc 0).map V.int)) ∧ sc ≤ 16 ∧ sz ≤ 800 ∧ (∀ c, c < b → wt c < 2 ^ 64) ∧
  ∀ (tl la wa l2 : Addr) (ws : List (List Int)) (L : Nat) (H' : Hp), TotAt C CS H' p tl la wa l2 b (zs.map (·.2)) ws L wt sc sz (sz + 1) → GoodT b (zs.map (·.2)) ws → L ≤ 801 → (∀ c o, c ≠ p → c ≠ T0 → H c = some o → H' c = some o) → LT T0 H' → H la = none → H l2 = none → Q .non H'
theorem Zm : zG ["self", "rule", "weights", "scale", "size", "left"] ["self", "rule", "weights", "scale", "size"] (zu qd) := ⟨rfl, rfl, rfl, by decide +kernel, rfl, by decide +kernel, by decide +kernel⟩
set_option maxHeartbeats 0 in
theorem zbG {f f1 f2 f3 f4 : Addr} {fd fd1 fd2 fd3 fd4 : FuncData} (D : Mt K CS "Totals.__init__" "__init__" qd ["self", "rule", "weights", "scale", "size"] f fd) (uX : Mk K C f1) (uW : Binds K fd1 ["self", "rule"] []) (yz : FnOk P w K mg base CX0 7 f1 fd1 ["self", "rule"] (jf T0 C)) (ut : Df K mg "weights_by_left" wO ["weights", "scale", "size"] f2 fd2) (qM : FnOk P w K mg base CX0 1 f2 fd2 ["weights", "scale", "size"] uU)
    (zR : Mt K C "Tails.many_within" "many_within" yG ["self", "size"] f3 fd3) (zV : FnOk P w K mg base CX0 3 f3 fd3 ["self", "size"] (vo C)) (wR : Mt K CS "Totals.longer_layer" "longer_layer" xn ["self", "left"] f4 fd4) (ul : FnOk P w K mg base CX0 4 f4 fd4 ["self", "left"] (jl C CS)) (zy : ClT K mg C) (zE : ClS K mg CS) (T : Blt mg) : FnOk P w K mg base CX0 9 f fd ["self", "rule", "weights", "scale", "size"] (jV T0 C CS) := by
  refine D.fn.ok Zm (fun vs H Q E h => ?_) (fun cdv A outer s H vs Q E hr h => ?_)
  · obtain ⟨p, dx, r, b, bl, zs, wl, wt, sc, sz, rfl, _⟩ := h; rfl
  · obtain ⟨p, dx, r, b, bl, zs, wl, wt, sc, sz, rfl, hp, R, g, hT, hwl, hsc, hsz, hwt, kk⟩ := h
    have b2 := g.b2
    have b16 := g.b16
    have npT : p ≠ T0 := fun z => by
      rw [z] at hp
      rcases hT with h | ⟨c, h, _⟩
      · rw [h] at hp; cases hp
      · rw [h] at hp; cases hp
    have wlp : wl ≠ p := ZD hwl hp (fun z => nomatch z)
    refine ⟨_, (zg (X6 (pv 0) (Zr uX yz (hr.mono (by decide)) rfl zy.nm uW .nil XD (zc (pv 1) zf)) rfl)
      (zg (X6 (pv 0) (zF ut qM (hr.mono (by decide)) (zc (pv 2) (zc (pv 3) (zc (pv 4) zf)))) rfl)
      (zg (X6 (pv 0) (xm (zc (zA Wa (zA zcs (xm (zc zj zf)) (xK K (xK K (pv 0)))) (xm (zc (zA wD (zP (yR K) (pv 2) zj (fun _ _ => rfl)) (w5 zR zy.cl zV (hr.mono (by decide)) (xK K (pv 0)) (zc zj zf))) zf))) zf)) rfl)
      (zq (vU PassesOwn.never rfl (yw rfl T.n_range (zc (pv 4) zf)) (yZ (i := 5) Zm.nd rfl (Or.inl rfl))
        (zq (yP (YM PySem.F.plainAttrs_list PySem.F.slot_list_append PySem.F.type_list_append vQ (xK K (pv 0)) (zc (w5 wR zE.cl ul (hr.mono (by decide)) (pv 0) (zc (pv 5) zf)) zf))))))))), ?_⟩
    refine ⟨_, rfl, ?_⟩
    refine Wt R g hT ?_
    rintro tl H1 ⟨la, ws, TA1, G, m1, hT1, hla⟩
    have h13 := G.h13
    have hp1 := m1 _ _ npT hp
    have hwl1 := m1 _ _ (hT.lst hwl) hwl
    have tlp : tl ≠ p := fun z => by
      obtain ⟨dt, sa, e⟩ := TA1.obj
      rw [z, hp1] at e
      injection e with e
      injection e with _ _ e
      have := ue b ws.length sa la
      rw [← e] at this
      cases this
    refine ⟨_, rfl, p, CS, dx, _, rfl, hp1, zE.cl, zE.n_tails, (by show 0 < 1000; decide), ?_⟩
    have TA2 := TA1.updI (o := .ins CS dx (yC "tails" (.ref tl) [])) hp1 tlp
    have hT2 := hT1.putI (o := .ins CS dx (yC "tails" (.ref tl) [])) hp1
    have hp2 : upd H1 p (.ins CS dx (yC "tails" (.ref tl) [])) p = some (.ins CS dx (yC "tails" (.ref tl) [])) := zm
    have hwl2 : upd H1 p (.ins CS dx (yC "tails" (.ref tl) [])) wl = some (.lst ((vP b wt sc 0).map V.int)) := by rw [zx wlp]; exact hwl1
    have n2 : ∀ c o, c ≠ p → c ≠ T0 → H c = some o → upd H1 p (.ins CS dx (yC "tails" (.ref tl) [])) c = some o := fun c o h1 h2 e => by rw [zx h1]; exact m1 c o h2 e
    generalize upd H1 p (.ins CS dx (yC "tails" (.ref tl) [])) = H2 at TA2 hT2 hp2 hwl2 n2
    refine ⟨_, rfl, _, rfl, _, rfl, wl, b, wt, sc, sz, rfl, hwl2, b16, hsc, by omega, fun wa H3 hwa RW3 m3 => ?_⟩
    have hp3 := m3 _ _ hp2
    refine ⟨_, rfl, p, CS, dx, _, rfl, hp3, zE.cl, zE.n_weights, (by show 1 < 1000; decide), ?_⟩
    have TA3 := TA2.same m3
    have TA4 := TA3.updI (o := .ins CS dx (yC "weights" (.ref wa) (yC "tails" (.ref tl) []))) hp3 tlp
    have hT4 := (hT2.same m3).putI (o := .ins CS dx (yC "weights" (.ref wa) (yC "tails" (.ref tl) []))) hp3
    have RW4 := RW3.updI (o := .ins CS dx (yC "weights" (.ref wa) (yC "tails" (.ref tl) []))) hp3
    have hp4 : upd H3 p (.ins CS dx (yC "weights" (.ref wa) (yC "tails" (.ref tl) []))) p = some (.ins CS dx (yC "weights" (.ref wa) (yC "tails" (.ref tl) []))) := zm
    have hwl4 : upd H3 p (.ins CS dx (yC "weights" (.ref wa) (yC "tails" (.ref tl) []))) wl = some (.lst ((vP b wt sc 0).map V.int)) := by rw [zx wlp]; exact m3 _ _ hwl2
    have n4 : ∀ c o, c ≠ p → c ≠ T0 → H c = some o → upd H3 p (.ins CS dx (yC "weights" (.ref wa) (yC "tails" (.ref tl) []))) c = some o := fun c o h1 h2 e => by rw [zx h1]; exact m3 _ _ (n2 c o h1 h2 e)
    generalize upd H3 p (.ins CS dx (yC "weights" (.ref wa) (yC "tails" (.ref tl) []))) = H4 at TA4 hT4 RW4 hp4 hwl4 n4
    have lkt : (yC "weights" (.ref wa) (yC "tails" (.ref tl) [])).lookup ("tails" : Str) = some (V.ref tl) := by rw [zO, if_neg (by decide +kernel), zO, if_pos rfl]
    refine ⟨(by show 1 ≤ sizeLine; decide), fun q1 k1 => ?_⟩
    have s1 := zp k1 (o := .lst [V.int 0])
    obtain ⟨dt, sa, htl⟩ := (TA4.same s1).obj
    refine ⟨_, rfl, p, CS, dx, _, _, rfl, s1 _ _ hp4, zE.cl, zE.n_tails, lkt, tl, C, dt, _, _, rfl, htl, zy.cl, zy.n_outset, wL _ _ _ _, ?_⟩
    refine ⟨q1, _, _, rfl, rfl, zm, by omega, by omega, ?_, fun q2 k2 => ?_⟩
    · show 1 * (ws.length : Int).toNat ≤ sizeLine
      exact Nat.le_trans (show 1 * (ws.length : Int).toNat ≤ 13 by omega) (by decide)
    have q2la : q2 ≠ la := fun z => by
      obtain ⟨lx, hlx⟩ := TA4.la
      have := s1 _ _ hlx
      rw [← z, k2] at this; cases this
    have s2 := s1.trans (zp k2 (o := .lst (List.replicate (ws.length : Int).toNat [V.int 0]).flatten))
    have hq2 : upd (upd H4 q1 (.lst [V.int 0])) q2 (.lst (List.replicate (ws.length : Int).toNat [V.int 0]).flatten) q2 = some (.lst (List.replicate (ws.length : Int).toNat [V.int 0]).flatten) := zm
    generalize upd (upd H4 q1 (.lst [V.int 0])) q2 (.lst (List.replicate (ws.length : Int).toNat [V.int 0]).flatten) = H5 at s2 hq2
    have TA5 := TA4.same s2
    obtain ⟨dt5, sa5, htl5⟩ := TA5.obj
    refine ⟨_, rfl, wl, _, _, V.int ((sc ^ 0 * wt 0 : Nat) : Int), rfl, rfl, SqL.of (s2 _ _ hwl4), ?_, ?_⟩
    · refine xU (j := 0) ?_
      unfold vP
      rw [List.getElem?_map, List.getElem?_map, List.getElem?_range (by omega)]
      rfl
    refine ⟨_, rfl, p, CS, dx, _, _, rfl, s2 _ _ hp4, zE.cl, zE.n_tails, lkt, tl, dt5, _, rfl, htl5, wH _ _ _ _, tl, la, b, _, ws, 1, 0, rfl, TA5, G, by decide, by decide, fun L6 H6 hL6 TA6 m6 hmx => ?_⟩
    have w0 := hwt 0 (by omega)
    have e00 : sc ^ 0 * wt 0 = wt 0 := by rw [Nat.pow_zero, Nat.one_mul]
    refine ⟨_, _, rfl, rfl, .inl ⟨by omega, by omega⟩, ?_⟩
    have hT6 : LT T0 H6 := (hT4.same s2).off (la := la) (xs := _) (TA5.la.choose_spec) m6
    have off6 : ∀ c o, c ≠ la → H5 c = some o → H6 c = some o := fun c o hc e => by
      have hc' : c ∉ [la] := by simpa using hc
      have := m6 c o (by rw [yt hc']; exact e)
      rwa [yt hc'] at this
    obtain ⟨lx, hlx⟩ := TA4.la
    have pla : p ≠ la := ZD hp4 hlx (fun z => nomatch z)
    have hp6 := off6 _ _ pla (s2 _ _ hp4)
    have hq6' := off6 _ _ q2la hq2
    refine ⟨(by show 1 ≤ sizeLine; decide), fun q4 k4 => ?_⟩
    have nq : q2 ≠ q4 := zB hq6' k4
    refine ⟨q2, q4, _, _, rfl, rfl, by rw [zx nq]; exact hq6', zm, ?_, fun q5 k5 => ⟨(by show 1 ≤ sizeLine; decide), fun q6 k6 => ?_⟩⟩
    · rw [Int.toNat_natCast, X8 (f := fun _ => V.int 0) (fun _ => rfl) ws, List.length_map]
      exact Nat.le_trans (show ws.length + 1 ≤ 14 by omega) (by decide)
    have t4 := zp k4 (o := .lst [V.int (((sc ^ 0 * wt 0 : Nat) : Int) * ((jr (zs.map (·.2)) b 0 : Nat) : Int))])
    have t5 := t4.trans (zp k5 (o := .lst ((List.replicate (ws.length : Int).toNat [V.int 0]).flatten ++ [V.int (((sc ^ 0 * wt 0 : Nat) : Int) * ((jr (zs.map (·.2)) b 0 : Nat) : Int))])))
    have t6 := t5.trans (zp k6 (o := .lst [V.ref q5]))
    have f6 := t5.free k6
    refine ⟨_, rfl, p, CS, dx, _, rfl, t6 _ _ hp6, zE.cl, zE.n_layers, (by show 2 < 1000; decide), ?_⟩
    have np5 : q5 ≠ q6 := fun z => by rw [← z, zm] at k6; cases k6
    have hp9 := t6 _ _ hp6
    have hq6 := (zm : upd (upd (upd H6 q4 (.lst [V.int (((sc ^ 0 * wt 0 : Nat) : Int) * ((jr (zs.map (·.2)) b 0 : Nat) : Int))])) q5 (.lst ((List.replicate (ws.length : Int).toNat [V.int 0]).flatten ++ [V.int (((sc ^ 0 * wt 0 : Nat) : Int) * ((jr (zs.map (·.2)) b 0 : Nat) : Int))]))) q6 (.lst [V.ref q5]) q6 = _)
    have hq5 : upd (upd (upd H6 q4 (.lst [V.int (((sc ^ 0 * wt 0 : Nat) : Int) * ((jr (zs.map (·.2)) b 0 : Nat) : Int))])) q5 (.lst ((List.replicate (ws.length : Int).toNat [V.int 0]).flatten ++ [V.int (((sc ^ 0 * wt 0 : Nat) : Int) * ((jr (zs.map (·.2)) b 0 : Nat) : Int))]))) q6 (.lst [V.ref q5]) q5 = some (.lst ((ZX (zs.map (·.2)) ws b wt sc 0).map V.int)) := by
      rw [zx np5, zm, zbI, Int.toNat_natCast, Nat.pow_zero, Nat.one_mul]
    have f5 : H6 q5 = none := t4.free k5
    generalize upd (upd (upd H6 q4 (.lst [V.int (((sc ^ 0 * wt 0 : Nat) : Int) * ((jr (zs.map (·.2)) b 0 : Nat) : Int))])) q5 (.lst ((List.replicate (ws.length : Int).toNat [V.int 0]).flatten ++ [V.int (((sc ^ 0 * wt 0 : Nat) : Int) * ((jr (zs.map (·.2)) b 0 : Nat) : Int))]))) q6 (.lst [V.ref q5]) = H9 at t6 hp9 hq6 hq5
    have q6p : q6 ≠ p := fun z => by rw [z, hp6] at f6; cases f6
    have q5p : q5 ≠ p := fun z => by rw [z, hp6] at f5; cases f5
    obtain ⟨lx6, hlx6⟩ := TA6.la
    have q6la : q6 ≠ la := fun z => by rw [z, hlx6] at f6; cases f6
    have q5la : q5 ≠ la := fun z => by rw [z, hlx6] at f5; cases f5
    have TA9 := (TA6.same t6).updI (o := .ins CS dx (YZ tl wa q6)) hp9 tlp
    have go : ∀ c o, c ≠ p → c ≠ la → H5 c = some o → aw [la, q6] (upd H9 p (.ins CS dx (YZ tl wa q6))) c = some o := fun c o h1 h2 e => by
      have e6 := off6 c o h2 e
      have h3 : c ≠ q6 := zB e6 f6
      rw [yt (by simp [h2, h3]), zx h1]
      exact t6 _ _ e6
    have TT : TotAt C CS (upd H9 p (.ins CS dx (YZ tl wa q6))) p tl la wa q6 b (zs.map (·.2)) ws L6 wt sc sz 1 := by
      refine ⟨⟨dx, by rw [yt (by simp [pla, Ne.symm q6p]), zm]⟩, TA9, ?_, ?_, ⟨[(q5, ZX (zs.map (·.2)) ws b wt sc 0)], by rw [zx q6p]; exact hq6, fun z hz => ?_, rfl⟩, Ne.symm q6la⟩
      · obtain ⟨dz, sz', srs, e1, e2, _⟩ := TA6.ob
        have e1' := zU _ _ _ _ e1
        have e2' := zU _ _ _ _ e2
        have tla : tl ≠ la := ZD e1' hlx6 (fun z => nomatch z)
        refine ⟨dz, sz', ?_, zB e2' f6⟩
        rw [yt (by simp [tla, zB e1' f6]), zx tlp]
        exact t6 _ _ e1'
      · obtain ⟨rz, r1, r2, r3⟩ := RW4.ex
        have wane : wa ≠ la := fun z => by
          obtain ⟨lx2, h2⟩ := TA2.la
          rw [z, h2] at hwa; cases hwa
        have wap : wa ≠ p := ZD r1 hp4 (fun z => nomatch z)
        refine ⟨⟨rz, go _ _ wap wane (s2 _ _ r1), fun z hz => go _ _ (ZD (r2 z hz) hp4 (fun z => nomatch z)) (fun e => ?_) (s2 _ _ (r2 z hz)), r3⟩⟩
        obtain ⟨lrs, y1, _, _⟩ := TA4.ly
        have y2 := r2 z hz
        rw [e, y1] at y2
        have hm : z.2 ∈ (List.range sz).map (vP b wt sc) := by rw [← r3]; exact List.mem_map.mpr ⟨z, hz, rfl⟩
        obtain ⟨k, _, ek⟩ := List.mem_map.mp hm
        have hl : z.2.length = b := by rw [← ek]; unfold vP; rw [List.length_map, List.length_range]
        injection y2 with y2
        injection y2 with y2
        cases hz2 : z.2 with
        | nil => rw [hz2] at hl; simp at hl; omega
        | cons a l =>
          rw [hz2] at y2
          cases lrs with
          | nil => cases y2
          | cons a' l' => injection y2 with y3 _; cases y3
      · have e : z = (q5, ZX (zs.map (·.2)) ws b wt sc 0) := by simpa using hz
        subst e
        rw [yt (by simp [q5la, np5]), zx q5p]
        exact hq5
    have hT9 := (hT6.same t6).putI (o := .ins CS dx (YZ tl wa q6)) hp9
    have hfr : ∀ c o, c ≠ p → c ≠ T0 → H c = some o → upd H9 p (.ins CS dx (YZ tl wa q6)) c = some o := fun c o h1 h2 e => by
      rw [zx h1]
      exact t6 _ _ (off6 _ _ (zB e hla) (s2 _ _ (n4 c o h1 h2 e)))
    have q6H : H q6 = none := by
      cases e : H q6 with
      | none => rfl
      | some o =>
        have := off6 _ _ (zB e hla) (s2 _ _ (n4 q6 o q6p (hT6.none f6) e))
        rw [f6] at this; cases this
    have eF : YZ tl wa q6 = yC "layers" (.ref q6) (yC "weights" (.ref wa) (yC "tails" (.ref tl) [])) := rfl
    rw [← eF]
    generalize upd H9 p (.ins CS dx (YZ tl wa q6)) = H10 at TT hT9 hfr
    refine ⟨_, rfl, _, rfl, by omega, by omega, wy (lo := 0) (n := (sz : Int).toNat) (fun i σ H2 => ∃ (v5 : Option V) (L : Nat), σ = [some (.ref p), some (.ref r), some (.ref wl), some (.int sc), some (.int sz), v5] ∧ L ≤ i + 1 ∧ TotAt C CS H2 p tl la wa q6 b (zs.map (·.2)) ws L wt sc sz (i + 1) ∧ (∀ c o, c ≠ p → c ≠ T0 → H c = some o → H2 c = some o) ∧ LT T0 H2)
      ⟨none, L6, rfl, by omega, TT, hfr, hT9⟩ ?_ ?_⟩
    · rintro i σ Hi hi ⟨v5, L, rfl, hL, TTi, fri, hTi⟩
      obtain ⟨dxi, hpi⟩ := TTi.obj
      obtain ⟨zi, hl2, _⟩ := TTi.ly
      refine ⟨_, rfl, p, CS, dxi, _, _, rfl, hpi, zE.cl, zE.n_layers, Xc _ _ _, .inl ⟨rfl, _, SqL.of hl2⟩, _, rfl, p, dxi, _, rfl, hpi, Zz _ _ _, _, rfl, p, tl, la, wa, q6, b, _, ws, L, wt, sc, sz, i + 1, i, by rw [Int.zero_add]; rfl, TTi, G, by omega, by omega, by omega, by omega, hsc, hwt, fun q L' H' hLL TT' m' hLm hq => ?_⟩
      obtain ⟨zi', hl2', _, e3⟩ := TT'.ly
      have hzl : zi'.length = i + 1 := by have := congrArg List.length e3; rwa [List.length_map, List.length_map, List.length_range] at this
      refine ⟨q6, _, _, rfl, rfl, hl2', by rw [List.length_map, hzl]; exact Nat.lt_of_lt_of_le (show i + 1 < 1000 by omega) (by decide), ?_⟩
      refine ⟨_, L', rfl, by omega, TT'.push G (by omega) hl2' hq, fun c o h1 h2 e => ?_, (hTi.off TTi.ta.la.choose_spec m').putL2 hl2'⟩
      have e2 := fri c o h1 h2 e
      have hcl : c ≠ la := zB e hla
      have hc' : c ∉ [la] := by simpa using hcl
      have := m' c o (by rw [yt hc']; exact e2)
      rw [yt hc'] at this
      rw [zx (zB e q6H)]
      exact this
    · rintro σ Hn ⟨v5, L, rfl, hL, TTn, frn, hTn⟩
      rw [Int.toNat_natCast] at hL TTn
      exact kk tl la wa q6 ws L Hn TTn G (by omega) frn hTn hla q6H
end
theorem ze0 {ls : List (List Int)} {b m : Nat} : low ls b m = many (gd ls b) (Vw b m) := by
  unfold low Vw
  split
  · rfl
  · rfl
theorem zdt (b : Nat) : (vP b (fun c => c) b 0).map V.int = (List.range b).map fun (c : Nat) => V.int c := by
  unfold vP
  rw [List.map_map]
  apply List.map_congr_left
  intro c _
  show V.int ((b ^ 0 * c : Nat) : Int) = V.int (c : Int)
  rw [Nat.pow_zero, Nat.one_mul]
section
variable {P : Program} {w : World} {K : PySem.W.Frag} {mg : Str → Option Value} {base : Heap} {T0 C CS : Addr}
def uw (T0 C CS : Addr) : Sp := fun vs H Q _ => ∃ (r : Addr) (b : Nat) (bl : Addr) (zs : List (Addr × List Int)) (sz : Nat), vs = [.ref r, .int sz] ∧ RuleAt H r b bl zs ∧ GoodRule b (zs.map (·.2)) ∧ LT T0 H ∧ sz ≤ 800 ∧
  ∀ (x tl la wa l2 : Addr) (ws : List (List Int)) (L : Nat) (H' : Hp), TotAt C CS H' x tl la wa l2 b (zs.map (·.2)) ws L (fun c => c) b sz (sz + 1) → GoodT b (zs.map (·.2)) ws → L ≤ 801 → SameL T0 H H' → LT T0 H' → H la = none → H l2 = none → Q (.ref x) H'
theorem WW : zG ["rule", "size"] ["rule", "size"] (zu vM) := ⟨rfl, rfl, rfl, by decide +kernel, rfl, by decide +kernel, by decide +kernel⟩
theorem W4 {f f1 : Addr} {fd fd1 : FuncData} (D : Df K mg "number_totals" vM ["rule", "size"] f fd) (jO : Mk K CS f1) (jJ : Binds K fd1 ["self", "rule", "weights", "scale", "size"] []) (wj : FnOk P w K mg base CX0 9 f1 fd1 ["self", "rule", "weights", "scale", "size"] (jV T0 C CS)) (zE : ClS K mg CS) (T : Blt mg) : FnOk P w K mg base CX0 11 f fd ["rule", "size"] (uw T0 C CS) := by
  refine D.fn.ok WW (fun vs H Q E h => ?_) (fun cdv A outer s H vs Q E hr h => ?_)
  · obtain ⟨r, b, bl, zs, sz, rfl, _⟩ := h; rfl
  · obtain ⟨r, b, bl, zs, sz, rfl, R, g, hT, hsz, kk⟩ := h
    have b2 := g.b2
    have b16 := g.b16
    refine ⟨_, (zq (zJ (Zr jO wj (hr.mono (by decide)) rfl zE.nm jJ .nil XD (zc (pv 0) (zc (Wy rfl rfl T.n_list rfl T.n_range (zP (xM K) (pv 0) zj (fun _ _ => rfl))) (zc (zP (xM K) (pv 0) zj (fun _ _ => rfl)) (zc (pv 1) zf))))))), ?_⟩
    refine ⟨_, rfl, _, rfl, r, _, _, V.int b, rfl, rfl, SqT.of R.tu, rfl, b, rfl, by omega, fun q hq => ?_⟩
    have s1 := zp hq (o := .lst ((List.range b).map fun (c : Nat) => V.int c))
    have R1 := R.same s1
    refine ⟨_, rfl, r, _, _, V.int b, rfl, rfl, SqT.of R1.tu, rfl, _, rfl, fun x dx nx ndx nex => ?_⟩
    have s0 := Jm (C := CS) nx ndx
    have hwl : upd H q (.lst ((List.range b).map fun (c : Nat) => V.int c)) q = some (.lst ((vP b (fun c => c) b 0).map V.int)) := by rw [zm, zdt]
    refine ⟨x, dx, r, b, bl, zs, q, (fun c => c), b, sz, rfl, zm, R1.same s0, g, (hT.same s1).same s0, s0 _ _ hwl, b16, hsz, fun c hc => Nat.lt_of_lt_of_le (show c < 16 by omega) (by decide), fun tl la wa l2 ws L H' TT G hL fr hT' hla hl2 => ⟨rfl, ?_⟩⟩
    refine kk x tl la wa l2 ws L H' TT G hL (fun c o hc e => ?_) hT' ((s1.trans s0).free hla) ((s1.trans s0).free hl2)
    exact fr c o (zB (s1 _ _ e) nx) hc ((s1.trans s0) c o e)
abbrev Zx (T0 : Addr) : Sp := qF T0 Xd (fun ls b m v => v = .int ((tot (gd ls b) (fun n => n) (b ^ m) : Nat) - (tot (gd ls b) (fun n => n) (Vw b m) : Nat)))
theorem Vl : zG ["rule", "m", "totals"] ["rule", "m"] (zu j8) := ⟨rfl, rfl, rfl, by decide +kernel, rfl, by decide +kernel, by decide +kernel⟩
theorem JP {f f1 f2 f3 f4 : Addr} {fd fd1 fd2 fd3 fd4 : FuncData} (D : Df K mg "sum_long" j8 ["rule", "m"] f fd) (zM : Df K mg "check_rule" yM ["thing"] f1 fd1) (zN : FnOk P w K mg base CX0 7 f1 fd1 ["thing"] yK) (yS : Df K mg "check_length" vg ["thing"] f2 fd2) (xJ : FnOk P w K mg base CX0 3 f2 fd2 ["thing"] vL)
    (wG : Df K mg "number_totals" vM ["rule", "size"] f3 fd3) (vf : FnOk P w K mg base CX0 11 f3 fd3 ["rule", "size"] (uw T0 C CS)) (xO : Mt K CS "Totals.total_within" "total_within" wI ["self", "size"] f4 fd4) (wQ : FnOk P w K mg base CX0 1 f4 fd4 ["self", "size"] (jw C CS)) (zE : ClS K mg CS) : FnOk P w K mg base CX0 12 f fd ["rule", "m"] (Zx T0) := by
  refine D.fn.ok Vl (fun vs H Q E h => ?_) (fun cdv A outer s H vs Q E hr h => ?_)
  · obtain ⟨r, b, bl, zs, n, rfl, _⟩ := h; rfl
  · obtain ⟨r, b, bl, zs, m, rfl, R, g, ⟨hm1, hm2⟩, hT, kk⟩ := h
    have b2 := g.b2
    refine ⟨_, (zg (yP (zF zM zN (hr.mono (by decide)) (zc (pv 0) zf)))
      (zg (yP (zF yS xJ (hr.mono (by decide)) (zc (pv 1) zf)))
      (zg (zH (i := 2) Vl.nd rfl (Or.inl rfl) (zF wG vf (hr.mono (by decide)) (zc (pv 0) (zc (pv 1) zf))))
      (zq (zJ (zA xV (w5 xO zE.cl wQ (hr.mono (by decide)) (pv 2) (zc (pv 1) zf)) (w5 xO zE.cl wQ (hr.mono (by decide)) (pv 2) (zc (zA xV (pv 1) zj) zf)))))))), ?_⟩
    refine ⟨_, rfl, r, b, bl, zs, rfl, R, g, fun H1 m1 => ?_⟩
    refine ⟨_, rfl, m, rfl, hm1, hm2, ?_⟩
    refine ⟨_, rfl, _, rfl, r, b, bl, zs, m, rfl, R.same m1, g, hT.same m1, by omega, fun x tl la wa l2 ws L H2 TT G hL sL hT2 hla hl2 => ?_⟩
    obtain ⟨dx, hp⟩ := TT.obj
    refine ⟨_, rfl, x, dx, _, rfl, hp, Zz _ _ _, _, rfl, x, tl, la, wa, l2, b, _, ws, L, _, b, m, m + 1, m, rfl, TT, by omega, ?_⟩
    refine ⟨_, rfl, x, dx, _, rfl, hp, Zz _ _ _, _, rfl, _, _, rfl, rfl, x, tl, la, wa, l2, b, _, ws, L, _, b, m, m + 1, m - 1, ?_, TT, by omega, _, _, rfl, rfl, ?_⟩
    · show [V.ref x, V.int ((m : Int) - 1)] = _
      rw [show ((m : Int) - 1) = ((m - 1 : Nat) : Int) by omega]
    · refine kk _ H2 ?_ ((SameL.of m1).trans sL) hT2
      rw [zbm G.ne b2, zbm G.ne b2, zc3]
end
structure Sto2 (H : Hp) (s dr : Addr) (ds : List Int) : Prop where
  st : ∃ i : Int, H s = some (.lst [.ref dr, .int i])
  dr : H dr = some (.lst (ds.map V.int))
  ne : ds ≠ []
  len : ds.length ≤ 1000
  nn : ∀ d ∈ ds, 0 ≤ d ∧ d < 10007
theorem Sto2.nes {H : Hp} {s dr p : Addr} {ds : List Int} (S : Sto2 H s dr ds) (h : H p = none) : p ≠ s := fun z => by
  obtain ⟨i, e⟩ := S.st
  rw [z, e] at h; cases h
theorem Sto2.ned {H : Hp} {s dr : Addr} {ds : List Int} (S : Sto2 H s dr ds) : dr ≠ s := fun z => by
  obtain ⟨i, e⟩ := S.st
  have h := S.dr
  rw [z, e] at h
  injection h with h
  injection h with h
  cases hd : ds with
  | nil => exact S.ne hd
  | cons a l => rw [hd, List.map_cons] at h; injection h with h1 _; cases h1
structure Stq2 (T s dr : Addr) (ds : List Int) (H H' : Hp) : Prop where
  st : Sto2 H' s dr ds
  sm : ∀ b o, b ≠ s → b ≠ T → H b = some o → H' b = some o
section
variable {T s dr p : Addr} {ds : List Int} {H H1 H2 H' : Hp} {o : HO}
theorem Stq2.refl (S : Sto2 H s dr ds) : Stq2 T s dr ds H H := ⟨S, fun _ _ _ _ e => e⟩
theorem Stq2.trans (a : Stq2 T s dr ds H H1) (b : Stq2 T s dr ds H1 H2) : Stq2 T s dr ds H H2 := ⟨b.st, fun c o h t e => b.sm c o h t (a.sm c o h t e)⟩
theorem Sto2.sameL (S : Sto2 H s dr ds) (hT : LT T H) (m : SameL T H H') : Sto2 H' s dr ds := by
  obtain ⟨i, e⟩ := S.st
  exact ⟨⟨i, m _ _ (hT.lst e) e⟩, m _ _ (hT.lst S.dr) S.dr, S.ne, S.len, S.nn⟩
theorem Sto2.same (S : Sto2 H s dr ds) (m : Same H H') : Sto2 H' s dr ds := by
  obtain ⟨i, e⟩ := S.st
  exact ⟨⟨i, m _ _ e⟩, m _ _ S.dr, S.ne, S.len, S.nn⟩
theorem Stq2.same (a : Stq2 T s dr ds H H1) (m : Same H1 H2) : Stq2 T s dr ds H H2 := ⟨a.st.same m, fun c o h t e => m c o (a.sm c o h t e)⟩
theorem Stq2.sameL (a : Stq2 T s dr ds H H1) (hT : LT T H1) (m : SameL T H1 H2) : Stq2 T s dr ds H H2 := ⟨a.st.sameL hT m, fun c o h t e => m c o t (a.sm c o h t e)⟩
theorem Stq2.new (a : Stq2 T s dr ds H H1) (h : H1 p = none) : Stq2 T s dr ds H (upd H1 p o) := a.same (zp h)
theorem Stq2.put (a : Stq2 T s dr ds H H1) (hs : p ≠ s) (hd : p ≠ dr) (h : H p = none) : Stq2 T s dr ds H (upd H1 p o) := ⟨by
  obtain ⟨i, e⟩ := a.st.st
  exact ⟨⟨i, by rw [zx (Ne.symm hs)]; exact e⟩, by rw [zx (Ne.symm hd)]; exact a.st.dr, a.st.ne, a.st.len, a.st.nn⟩, fun c u hc ht e => by
    rw [zx (zB e h)]; exact a.sm c u hc ht e⟩
end
theorem RuleAt.q {T s dr r bl : Addr} {ds : List Int} {H H' : Hp} {b : Nat} {zs : List (Addr × List Int)} (R : RuleAt (aw [s] H) r b bl zs) (hT : LT T H) (S : Stq2 T s dr ds H H') : RuleAt (aw [s] H') r b bl zs := by
  have go : ∀ c o, c ≠ T → aw [s] H c = some o → aw [s] H' c = some o := fun c o ht e => by
    have hc : c ∉ [s] := fun hc => by rw [Wl hc] at e; cases e
    rw [yt hc] at e ⊢
    exact S.sm c o (fun z => hc (by simp [z])) ht e
  have f : ∀ {c : Addr} {o : HO}, aw [s] H c = some o → H c = some o := fun e => zU _ _ _ _ e
  exact ⟨go _ _ (hT.tup (f R.tu)) R.tu, go _ _ (hT.lst (f R.li)) R.li, fun z hz => go _ _ (hT.lst (f (R.st z hz))) (R.st z hz)⟩
section
variable {P : Program} {w : World} {K : PySem.W.Frag} {mg : Str → Option Value} {base : Heap} {T0 : Addr}
def vG (T0 : Addr) : Sp := fun vs H Q _ => ∃ (s dr : Addr) (ds : List Int) (m : Nat), vs = [.ref s, .int m] ∧ Sto2 H s dr ds ∧ 0 < m ∧ LT T0 H ∧ ∀ (r : Nat) (H' : Hp), r < m → r < 10007 → Stq2 T0 s dr ds H H' → LT T0 H' → Q (.int r) H'
theorem Jr : zG ["store", "many"] ["store", "many"] (zu vz) := ⟨rfl, rfl, rfl, by decide +kernel, rfl, by decide +kernel, by decide +kernel⟩
theorem uy {f : Addr} {fd : FuncData} (D : Df K mg "_law_take" vz ["store", "many"] f fd) (T : Blt mg) : FnOk P w K mg base CX0 1 f fd ["store", "many"] (vG T0) := by
  refine D.fn.ok Jr (fun vs H Q E h => ?_) (fun cdv A outer s H vs Q E hr h => ?_)
  · obtain ⟨s, dr, ds, m, rfl, _⟩ := h; rfl
  · obtain ⟨sa, dr, ds, m, rfl, S, hm0, hT, kk⟩ := h
    obtain ⟨i, hs⟩ := S.st
    have nd := S.ned
    refine ⟨_, (zg (zek (zA yN (zP (yR K) (pv 0) zj (fun _ _ => rfl)) zj) (zep (pv 0) zj set_list))
      (zq (zJ (zA yQ (zP (yR K) (zP (yR K) (pv 0) zj (fun _ _ => rfl)) (zA yQ (zA xV (zP (yR K) (pv 0) zj (fun _ _ => rfl)) zj) (zK (vB K) (by rfl) T.n_len PySem.boot_len (zc (zP (yR K) (pv 0) zj (fun _ _ => rfl)) zf))) (fun _ _ => rfl)) (pv 1))))), ?_⟩
    refine ⟨_, rfl, sa, _, _, V.int i, rfl, rfl, SqL.of hs, rfl, _, _, rfl, rfl, _, rfl, sa, _, _, 1, rfl, rfl, hs, rfl, ?_⟩
    have hs1 : upd H sa (.lst [V.ref dr, V.int (i + 1)]) sa = some (.lst [V.ref dr, V.int (i + 1)]) := zm
    have hd1 : upd H sa (.lst [V.ref dr, V.int (i + 1)]) dr = some (.lst (ds.map V.int)) := by rw [zx nd]; exact S.dr
    have hdl : 0 < ds.length := List.length_pos_iff.mpr S.ne
    refine ⟨_, rfl, sa, _, _, V.ref dr, rfl, rfl, SqL.of hs1, rfl, ?_⟩
    refine ⟨_, rfl, sa, _, _, V.int (i + 1), rfl, rfl, SqL.of hs1, rfl, _, _, rfl, rfl, ?_⟩
    refine ⟨_, rfl, sa, _, _, V.ref dr, rfl, rfl, SqL.of hs1, rfl, dr, _, rfl, .inl (SqL.of hd1), _, _, rfl, rfl, (by rw [List.length_map]; omega), ?_⟩
    rw [List.length_map]
    have hj0 : 0 ≤ (i + 1 - 1) % (ds.length : Int) := Int.emod_nonneg _ (by omega)
    have hj1 : (i + 1 - 1) % (ds.length : Int) < ds.length := Int.emod_lt_of_pos _ (by omega)
    obtain ⟨j, hj⟩ : ∃ j : Nat, (i + 1 - 1) % (ds.length : Int) = (j : Int) := ⟨((i + 1 - 1) % (ds.length : Int)).toNat, by omega⟩
    have hjl : j < ds.length := by omega
    refine ⟨dr, _, _, V.int ds[j], rfl, rfl, SqL.of hd1, ?_, _, rfl, _, _, rfl, rfl, (by omega : (0 : Int) < m), ?_⟩
    · show atI (ds.map V.int) ((i + 1 - 1) % (ds.length : Int)) = _
      rw [hj]
      exact xU (by rw [List.getElem?_map, List.getElem?_eq_getElem hjl]; rfl)
    have hn := S.nn ds[j] (List.getElem_mem hjl)
    have h0 : 0 ≤ ds[j] % (m : Int) := Int.emod_nonneg _ (by omega)
    have h1 : ds[j] % (m : Int) < m := Int.emod_lt_of_pos _ (by omega)
    have h2 : ds[j] % (m : Int) ≤ ds[j] := by
      have := Int.mul_ediv_add_emod ds[j] (m : Int)
      have h3 := Int.mul_nonneg (show (0 : Int) ≤ m by omega) (Int.ediv_nonneg hn.1 (show (0 : Int) ≤ m by omega))
      omega
    obtain ⟨r, hr'⟩ : ∃ r : Nat, ds[j] % (m : Int) = (r : Int) := ⟨(ds[j] % (m : Int)).toNat, by omega⟩
    show Q (V.int (ds[j] % (m : Int))) _
    rw [hr']
    refine kk r _ (by omega) (by omega) ⟨⟨⟨_, hs1⟩, hd1, S.ne, S.len, S.nn⟩, fun b o hb _ e => by rw [zx hb]; exact e⟩ ?_
    have nT := hT.lst hs
    rcases hT with h | ⟨c, h1, h2⟩
    · exact .inl (by rw [zx (Ne.symm nT)]; exact h)
    · exact .inr ⟨c, by rw [zx (Ne.symm nT)]; exact h1, by rw [zx (fun z => by rw [z, hs] at h2; cases h2)]; exact h2⟩
structure Drw (H : Hp) (p : Addr) (ds : List Int) : Prop where
  li : H p = some (.lst (ds.map V.int))
  nn : ∀ d ∈ ds, 0 ≤ d ∧ d < 10007
def ZS (K : PySem.W.Frag) : Sp := fun vs H Q _ => ∃ (a : Addr) (ns : List Int), vs = [.ref a, .int 300] ∧ SqL K H a (ns.map V.int) ∧ ns.length ≤ 63 ∧ ∀ (p : Addr) (ds : List Int) (H' : Hp), H p = none → Drw H' p ds → ds ≠ [] → ds.length ≤ 1000 → Same H H' → Q (.ref p) H'
theorem yf : zG ["script", "many", "drawn", "base", "k", "cell", "number", "one"] ["script", "many"] (zu jF) := ⟨rfl, rfl, rfl, by decide +kernel, rfl, by decide +kernel, by decide +kernel⟩
theorem XH {f : Addr} {fd : FuncData} (D : Df K mg "_law_draws" jF ["script", "many"] f fd) (T : Blt mg) (U : Qd mg) : FnOk P w K mg base CX0 1 f fd ["script", "many"] (ZS K) := by
  refine D.fn.ok yf (fun vs H Q E h => ?_) (fun cdv A outer s H vs Q E hr h => ?_)
  · obtain ⟨a, ns, rfl, _⟩ := h; rfl
  · obtain ⟨a, ns, rfl, hS, hlen, kk⟩ := h
    refine ⟨_, (zg (zH (i := 2) yf.nd rfl (Or.inl rfl) (xm zf))
      (zg (zH (i := 3) yf.nd rfl (Or.inl rfl) zj)
      (zg (vU PassesOwn.never rfl (Jp K rfl T.n_enumerate (zc (uH (Xz K) (pv 0) jD (ql zj)) zf)) (za2 rfl (Z7 (yZ (i := 4) yf.nd rfl (Or.inl rfl)) (Z7 (yZ (i := 5) yf.nd rfl (Or.inl rfl)) Ji)))
        (zg (zH (i := 6) yf.nd rfl (Or.inl rfl) (zK zb9 (by rfl) U.n_abs boot_abs (zc (pv 5) zf)))
        (zg (zH (i := 3) yf.nd rfl (Or.inl rfl) (zA yQ (zA yN (zA wD (pv 3) zj) (pv 6)) zj))
        (zq (xP (ym za8 (pv 6) (zA W6 zj zj) (yc _))
          (zq (Wq PassesOwn.never (PW.pt (zch (ym zbh (pv 6) zj (yc _)) (za6 (ym zdz (zK (vB K) (by rfl) T.n_len PySem.boot_len (zc (pv 2) zf)) (pv 1) (yc _)))))
            (zg (yP (YM PySem.F.plainAttrs_list PySem.F.slot_list_append PySem.F.type_list_append vQ (pv 2) (zc (zA yQ (pv 6) zj) zf)))
            (zq (zH (i := 6) yf.nd rfl (Or.inl rfl) (zA uL (pv 6) zj))))))
          (zg (zH (i := 7) yf.nd rfl (Or.inl rfl) (zA yQ (zA wD (zA yN (zA yN (zA yQ (pv 6) zj) (pv 4)) zj) zj) zj))
          (zg (zH (i := 7) yf.nd rfl (Or.inl rfl) (zA yQ (zA wD (pv 7) (pv 7)) zj))
          (zg (yP (YM PySem.F.plainAttrs_list PySem.F.slot_list_append PySem.F.type_list_append vQ (pv 2) (zc (zA yQ (zA uL (pv 7) zj) zj) zf)))
          (zg (zH (i := 7) yf.nd rfl (Or.inl rfl) (zA yQ (zA yN (zA yN (zA wD (pv 7) zj) (zA wD zj (pv 4))) zj) zj))
          (zg (zH (i := 7) yf.nd rfl (Or.inl rfl) (zA yQ (zA wD (pv 7) (pv 7)) zj))
          (zq (yP (YM PySem.F.plainAttrs_list PySem.F.slot_list_append PySem.F.type_list_append vQ (pv 2) (zc (zA yQ (zA uL (pv 7) zj) zj) zf))))))))))))))
      (zg (vU PassesOwn.never rfl (yw rfl T.n_range (zc (zA xV (pv 1) (zK (vB K) (by rfl) T.n_len PySem.boot_len (zc (pv 2) zf))) zf)) (yZ (i := 4) yf.nd rfl (Or.inl rfl))
        (zg (zH (i := 7) yf.nd rfl (Or.inl rfl) (zA yQ (zA yN (zA yN (pv 3) (zA wD zj (pv 4))) zj) zj))
        (zg (zH (i := 7) yf.nd rfl (Or.inl rfl) (zA yQ (zA wD (pv 7) (pv 7)) zj))
        (zg (zH (i := 7) yf.nd rfl (Or.inl rfl) (zA yQ (zA yN (zA wD (pv 7) zj) (pv 4)) zj))
        (zq (yP (YM PySem.F.plainAttrs_list PySem.F.slot_list_append PySem.F.type_list_append vQ (pv 2) (zc (zA yQ (zA uL (zA yQ (zA wD (pv 7) (pv 7)) zj) zj) zj) zf))))))))
      (zq (zJ (pv 2))))))), ?_⟩
    refine ⟨(by decide : 0 ≤ sizeLine), fun dr hdr => ?_⟩
    have m1 : Same H (upd H dr (.lst [])) := zp hdr
    have add : ∀ {H2 : Hp} {ds : List Int} (y : Int), Drw H2 dr ds → Drw (upd H2 dr (.lst (ds.map V.int ++ [.int (y % 10007)]))) dr (ds ++ [y % 10007]) := fun {H2 ds} y Dr => ⟨by rw [zm]; simp, fun d hd => by
      rcases List.mem_append.mp hd with hd | hd
      · exact Dr.nn d hd
      · have e : d = y % 10007 := by simpa using hd
        rw [e]
        exact ⟨Int.emod_nonneg _ (by decide), Int.emod_lt_of_pos _ (by decide)⟩⟩
    have smp : ∀ {H2 : Hp} {o : HO}, Same H H2 → Same H (upd H2 dr o) := fun m b o e => by rw [zx (zB e hdr)]; exact m b o e
    refine ⟨_, rfl, _, rfl, a, _, rfl, m1.seq hS, fun q hq => ?_⟩
    have ecut : jm (ns.map V.int) none (some 63) = ns.map V.int := by
      rw [show (63 : Int) = ((63 : Nat) : Int) from rfl, Z8, List.take_of_length_le (by rw [List.length_map]; exact hlen)]
    rw [ecut]
    have m2 := m1.trans (zp hq (o := .lst (ns.map V.int)))
    have ndq : dr ≠ q := fun z => by rw [← z, zm] at hq; cases hq
    refine ⟨q, rfl, ⟨_, SqL.of zm⟩, JH (K := K) (a := q) (xs := ns.map V.int) (fun i σ H2 => ∃ (v4 v5 v6 v7 : Option V) (bs : Int) (ds : List Int), σ = [some (.ref a), some (.int 300), some (.ref dr), some (.int bs), v4, v5, v6, v7] ∧ 0 ≤ bs ∧ bs < 2147483629 ∧ Drw H2 dr ds ∧ ds.length ≤ 300 + 2 * i ∧ Same H H2 ∧ H2 q = some (.lst (ns.map V.int)))
      ⟨none, none, none, none, 7, [], rfl, by decide, by decide, ⟨by rw [zx ndq, zm]; rfl, by simp⟩, by simp, m2, zm⟩ (fun i σ H2 _ ⟨_, _, _, _, _, _, _, _, _, _, _, _, h⟩ => SqL.of h) ?_ ?_⟩
    · rintro i x σ H2 T1 hx ⟨v4, v5, v6, v7, bs, ds, rfl, hb0, hb1, Dr, hdl, m, hq2⟩ hT1
      rw [List.getElem?_map] at hx
      obtain ⟨cell, hc, e⟩ := Option.map_eq_some_iff.mp hx
      subst e
      have hi : i < ns.length := (List.getElem?_eq_some_iff.mp hc).1
      have t1 := zp hT1 (o := .tup [.int (i : Nat), .int cell])
      refine ⟨T1, _, rfl, SqT.of zm, rfl, _, _, rfl, _, _, rfl, rfl, ?_⟩
      have m3 := m.trans t1
      have Dr3 : Drw (upd H2 T1 (.tup [.int (i : Nat), .int cell])) dr ds := ⟨t1 _ _ Dr.li, Dr.nn⟩
      have hq3 := t1 _ _ hq2
      generalize upd H2 T1 (.tup [.int (i : Nat), .int cell]) = H3 at m3 Dr3 hq3
      have ndq3 : dr ≠ q := ndq
      refine ⟨_, rfl, cell, rfl, ?_⟩
      try dsimp only
      generalize hnum : (if cell < 0 then -cell else cell) = num
      have hn0 : 0 ≤ num := by rw [← hnum]; split <;> omega
      refine ⟨_, rfl, _, _, rfl, rfl, .inr ⟨by decide, by decide⟩, _, rfl, _, _, rfl, rfl, _, _, rfl, rfl, (by decide : (0 : Int) < 2147483629), ?_⟩
      try dsimp only
      generalize hbs : (bs * 31 + num) % 2147483629 = bs'
      have hb0' : 0 ≤ bs' := by rw [← hbs]; exact Int.emod_nonneg _ (by decide)
      have hb1' : bs' < 2147483629 := by rw [← hbs]; exact Int.emod_lt_of_pos _ (by decide)
      refine ⟨_, rfl, _, _, rfl, rfl, ⟨by decide, by decide, by decide⟩, _, _, rfl, rfl, _, rfl, ?_⟩
      generalize decide ((10 : Int) ^ (18 : Int).toNat ≤ num) = bb
      cases bb with
      | true =>
        refine ji ?_
        refine Wd (fun σ H4 => ∃ (ds' : List Int) (nu : Int), σ = [some (.ref a), some (.int 300), some (.ref dr), some (.int bs'), some (.int (i : Nat)), some (.int cell), some (.int nu), v7] ∧ 0 ≤ nu ∧ Drw H4 dr ds' ∧ (ds'.length ≤ 300 ∨ ds'.length ≤ 300 + 2 * i) ∧ Same H H4 ∧ H4 q = some (.lst (ns.map V.int)))
          (fun σ _ => match σ with | [_, _, _, _, _, _, some (.int nu), _] => nu.toNat | _ => 0) ⟨ds, num, rfl, hn0, Dr3, .inr hdl, m3, hq3⟩ ?_ ?_
        · rintro σ H4 ⟨ds', nu, rfl, hnu, Dr4, hl4, m4, hq4⟩
          refine ⟨_, rfl, _, _, rfl, rfl, _, rfl, ?_⟩
          refine Vu (fun hp => ?_) (fun hp => ?_)
          · have hp' : 0 < nu := of_decide_eq_true hp
            refine ⟨_, rfl, dr, _, rfl, .inl (SqL.of Dr4.li), _, rfl, _, _, rfl, rfl, _, rfl, ?_⟩
            rw [List.length_map]
            refine Vu (fun hlt => ?_) (fun hlt => ?_)
            · have hlt' : ds'.length < 300 := by have := of_decide_eq_true hlt; omega
              refine ⟨_, rfl, .inl ⟨rfl, _, SqL.of Dr4.li⟩, _, rfl, _, _, rfl, rfl, (by decide : (0 : Int) < 10007), dr, _, _, rfl, rfl, Dr4.li, by rw [List.length_map]; exact Nat.lt_of_lt_of_le hlt' (by decide), ?_⟩
              refine ⟨_, rfl, _, _, rfl, rfl, ⟨by decide, by decide⟩, ⟨ds' ++ [nu % 10007], nu / 10007, rfl, Int.ediv_nonneg hnu (by decide), add nu Dr4, .inl (by rw [List.length_append, List.length_singleton]; omega), smp m4, by rw [zx (Ne.symm ndq)]; exact hq4⟩, ?_⟩
              show (nu / 10007).toNat < nu.toNat
              have : nu / 10007 < nu := Int.ediv_lt_of_lt_mul (by decide) (by omega)
              omega
            · exact ⟨_, _, _, _, bs', ds', rfl, hb0', hb1', Dr4, by omega, m4, hq4⟩
          · exact ⟨_, _, _, _, bs', ds', rfl, hb0', hb1', Dr4, by omega, m4, hq4⟩
        · intro σ H4 Q Q' hq'
          rintro ⟨v0, e0, i0, j0, e1, e2, k0, e3, q0⟩
          refine ⟨v0, e0, i0, j0, e1, e2, k0, e3, ?_⟩
          by_cases hk : k0 = true
          · rw [if_pos hk] at q0 ⊢
            obtain ⟨v1, e4, a1, ys1, e5, s1, v2, e6, i2, j2, e7, e8, k2, e9, q2⟩ := q0
            exact ⟨v1, e4, a1, ys1, e5, s1, v2, e6, i2, j2, e7, e8, k2, e9, hq' _ _ q2⟩
          · rw [if_neg hk] at q0 ⊢
            exact hq' _ _ q0
      | false =>
        refine qZ ?_
        refine ⟨_, rfl, _, _, rfl, rfl, (by decide : (0 : Int) < 2147483647), _, rfl, _, _, rfl, rfl, _, _, rfl, rfl, _, _, rfl, rfl, .inr ⟨by decide, by decide⟩, _, _, rfl, rfl, (by decide : (0 : Int) < 2147483647), ?_⟩
        try dsimp only
        generalize ho1 : (num % 2147483647 + (i : Int) + 1) * 48271 % 2147483647 = o1
        have o1b : 0 ≤ o1 ∧ o1 < 2147483647 := by rw [← ho1]; exact ⟨Int.emod_nonneg _ (by decide), Int.emod_lt_of_pos _ (by decide)⟩
        refine ⟨_, rfl, _, rfl, _, _, rfl, rfl, .inl ⟨by omega, by omega⟩, _, _, rfl, rfl, (by decide : (0 : Int) < 2147483629), ?_⟩
        try dsimp only
        generalize ho2 : o1 * o1 % 2147483629 = o2
        have o2b : 0 ≤ o2 ∧ o2 < 2147483629 := by rw [← ho2]; exact ⟨Int.emod_nonneg _ (by decide), Int.emod_lt_of_pos _ (by decide)⟩
        refine ⟨_, rfl, .inl ⟨rfl, _, SqL.of Dr3.li⟩, _, rfl, _, _, rfl, rfl, ⟨by decide, by decide⟩, _, _, rfl, rfl, (by decide : (0 : Int) < 10007), dr, _, _, rfl, rfl, Dr3.li, by rw [List.length_map]; exact Nat.lt_of_le_of_lt (show ds.length ≤ 500 by omega) (by decide), ?_⟩
        have Dr4 := add (o2 / 8) Dr3
        refine ⟨_, rfl, _, _, rfl, rfl, .inl ⟨by omega, by omega⟩, _, rfl, _, _, rfl, rfl, .inl ⟨by decide, by decide⟩, _, _, rfl, rfl, _, _, rfl, rfl, _, _, rfl, rfl, (by decide : (0 : Int) < 2147483563), ?_⟩
        try dsimp only
        generalize ho3 : (o2 * 40692 + 2 * (i : Int) + 1) % 2147483563 = o3
        have o3b : 0 ≤ o3 ∧ o3 < 2147483563 := by rw [← ho3]; exact ⟨Int.emod_nonneg _ (by decide), Int.emod_lt_of_pos _ (by decide)⟩
        refine ⟨_, rfl, _, rfl, _, _, rfl, rfl, .inl ⟨by omega, by omega⟩, _, _, rfl, rfl, (by decide : (0 : Int) < 2147483647), ?_⟩
        try dsimp only
        generalize ho4 : o3 * o3 % 2147483647 = o4
        refine ⟨_, rfl, .inl ⟨rfl, _, SqL.of Dr4.li⟩, _, rfl, _, _, rfl, rfl, ⟨by decide, by decide⟩, _, _, rfl, rfl, (by decide : (0 : Int) < 10007), dr, _, _, rfl, rfl, Dr4.li, by rw [List.length_map, List.length_append, List.length_singleton]; exact Nat.lt_of_le_of_lt (show ds.length + 1 ≤ 500 by omega) (by decide), ?_⟩
        exact ⟨_, _, _, _, bs', ds ++ [o2 / 8 % 10007] ++ [o4 / 8 % 10007], rfl, hb0', hb1', add (o4 / 8) Dr4, by rw [List.length_append, List.length_append, List.length_singleton, List.length_singleton]; omega, smp (smp m3), by rw [zx (Ne.symm ndq), zx (Ne.symm ndq)]; exact hq3⟩
    · rintro σ H2 ⟨v4, v5, v6, v7, bs, ds, rfl, hb0, hb1, Dr, hdl, m, hq2⟩
      rw [List.length_map] at hdl
      refine ⟨_, rfl, _, rfl, dr, _, rfl, .inl (SqL.of Dr.li), _, _, rfl, rfl, _, rfl, ?_⟩
      rw [List.length_map]
      refine ⟨by omega, by omega, wy (lo := 0) (n := (300 - (ds.length : Int)).toNat) (fun i σ H3 => ∃ (v4 v5 v6 v7 : Option V) (ds' : List Int), σ = [some (.ref a), some (.int 300), some (.ref dr), some (.int bs), v4, v5, v6, v7] ∧ Drw H3 dr ds' ∧ ds'.length = ds.length + i ∧ Same H H3) ⟨_, _, _, _, ds, rfl, Dr, rfl, m⟩ ?_ ?_⟩
      · rintro i σ H3 hi ⟨v4, v5, v6, v7, ds', rfl, Dr3, hl3, m3⟩
        refine ⟨_, rfl, _, rfl, _, _, rfl, rfl, .inl ⟨by decide, by decide⟩, _, _, rfl, rfl, _, _, rfl, rfl, _, _, rfl, rfl, (by decide : (0 : Int) < 2147483629), ?_⟩
        try dsimp only
        generalize ho1 : (bs + 7919 * (0 + (i : Int)) + 13) % 2147483629 = o1
        have o1b : 0 ≤ o1 ∧ o1 < 2147483629 := by rw [← ho1]; exact ⟨Int.emod_nonneg _ (by decide), Int.emod_lt_of_pos _ (by decide)⟩
        refine ⟨_, rfl, _, rfl, _, _, rfl, rfl, .inl ⟨by omega, by omega⟩, _, _, rfl, rfl, (by decide : (0 : Int) < 2147483647), ?_⟩
        try dsimp only
        generalize ho2 : o1 * o1 % 2147483647 = o2
        have o2b : 0 ≤ o2 ∧ o2 < 2147483647 := by rw [← ho2]; exact ⟨Int.emod_nonneg _ (by decide), Int.emod_lt_of_pos _ (by decide)⟩
        refine ⟨_, rfl, _, _, rfl, rfl, .inl ⟨by omega, by omega⟩, _, rfl, _, _, rfl, rfl, _, _, rfl, rfl, (by decide : (0 : Int) < 2147483563), ?_⟩
        try dsimp only
        generalize ho3 : (o2 * 69621 + (0 + (i : Int))) % 2147483563 = o3
        have o3b : 0 ≤ o3 ∧ o3 < 2147483563 := by rw [← ho3]; exact ⟨Int.emod_nonneg _ (by decide), Int.emod_lt_of_pos _ (by decide)⟩
        refine ⟨_, rfl, .inl ⟨rfl, _, SqL.of Dr3.li⟩, _, rfl, _, rfl, _, _, rfl, rfl, .inl ⟨by omega, by omega⟩, _, _, rfl, rfl, (by decide : (0 : Int) < 2147483629), _, _, rfl, rfl, ⟨by decide, by decide⟩, _, _, rfl, rfl, (by decide : (0 : Int) < 10007), dr, _, _, rfl, rfl, Dr3.li, by rw [List.length_map, hl3]; exact Nat.lt_of_le_of_lt (show ds.length + i ≤ 500 by omega) (by decide), ?_⟩
        exact ⟨_, _, _, _, ds' ++ [o3 * o3 % 2147483629 / 8 % 10007], rfl, add _ Dr3, by rw [List.length_append, List.length_singleton]; omega, smp m3⟩
      · rintro σ H3 ⟨v4, v5, v6, v7, ds', rfl, Dr3, hl3, m3⟩
        refine ⟨_, rfl, kk dr ds' H3 hdr Dr3 (fun z => ?_) (by omega) m3⟩
        rw [z] at hl3
        simp at hl3
        omega
end
theorem LT.putL {T p : Addr} {H : Hp} {o : HO} {xs : List V} (h : LT T H) (e : H p = some (.lst xs)) : LT T (upd H p o) := by
  have nT := h.lst e
  rcases h with h | ⟨c, h1, h2⟩
  · exact .inl (by rw [zx (Ne.symm nT)]; exact h)
  · exact .inr ⟨c, by rw [zx (Ne.symm nT)]; exact h1, by rw [zx (fun z => by rw [z, e] at h2; cases h2)]; exact h2⟩
theorem LT.putD {T p : Addr} {H : Hp} {o : HO} {xs : List (List Key × V)} (h : LT T H) (e : H p = some (.dT xs)) : LT T (upd H p o) := by
  have nT : p ≠ T := fun z => by
    rw [z] at e
    rcases h with h | ⟨c, h, _⟩
    · rw [h] at e; cases e
    · rw [h] at e; cases e
  rcases h with h | ⟨c, h1, h2⟩
  · exact .inl (by rw [zx (Ne.symm nT)]; exact h)
  · exact .inr ⟨c, by rw [zx (Ne.symm nT)]; exact h1, by rw [zx (fun z => by rw [z, e] at h2; cases h2)]; exact h2⟩
structure Fr (T s dr : Addr) (ds : List Int) (H H' : Hp) : Prop where
  q : Stq2 T s dr ds H H'
  lt : LT T H'
section
variable {T s dr p : Addr} {ds : List Int} {H H1 H2 H' : Hp} {o : HO}
theorem Fr.st (a : Fr T s dr ds H H1) : Sto2 H1 s dr ds := a.q.st
theorem Fr.refl (S : Sto2 H s dr ds) (h : LT T H) : Fr T s dr ds H H := ⟨.refl S, h⟩
theorem Fr.trans (a : Fr T s dr ds H H1) (b : Fr T s dr ds H1 H2) : Fr T s dr ds H H2 := ⟨a.q.trans b.q, b.lt⟩
theorem Fr.same (a : Fr T s dr ds H H1) (m : Same H1 H2) : Fr T s dr ds H H2 := ⟨a.q.same m, a.lt.same m⟩
theorem Fr.sameL (a : Fr T s dr ds H H1) (m : SameL T H1 H2) (h : LT T H2) : Fr T s dr ds H H2 := ⟨a.q.sameL a.lt m, h⟩
theorem Fr.new (a : Fr T s dr ds H H1) (h : H1 p = none) : Fr T s dr ds H (upd H1 p o) := a.same (zp h)
theorem Fr.free (a : Fr T s dr ds H H1) (h : H1 p = none) : H p = none := by
  cases e : H p with
  | none => rfl
  | some u =>
    have := a.q.sm p u (a.st.nes h) (a.lt.none h) e
    rw [h] at this; cases this
theorem Fr.get (a : Fr T s dr ds H H1) (hs : p ≠ s) (ht : p ≠ T) (e : H p = some o) : H1 p = some o := a.q.sm p o hs ht e
theorem Sto2.nedn (S : Sto2 H s dr ds) (h : H p = none) : p ≠ dr := fun z => by rw [z, S.dr] at h; cases h
theorem Fr.putL {xs : List V} (a : Fr T s dr ds H H1) (hs : p ≠ s) (hd : p ≠ dr) (h : H p = none) (e : H1 p = some (.lst xs)) : Fr T s dr ds H (upd H1 p o) := ⟨a.q.put hs hd h, a.lt.putL e⟩
theorem Fr.putD {xs : List (List Key × V)} (a : Fr T s dr ds H H1) (hs : p ≠ s) (hd : p ≠ dr) (h : H p = none) (e : H1 p = some (.dT xs)) : Fr T s dr ds H (upd H1 p o) := ⟨a.q.put hs hd h, a.lt.putD e⟩
end
section
variable {P : Program} {w : World} {K : PySem.W.Frag} {mg : Str → Option Value} {base : Heap} {T0 : Addr}
def Ye (T0 : Addr) : Sp := fun vs H Q _ => ∃ (s dr : Addr) (ds : List Int), vs = [.ref s] ∧ Sto2 H s dr ds ∧ LT T0 H ∧ ∀ (r : Addr) (b : Nat) (bl : Addr) (zs : List (Addr × List Int)) (H' : Hp), Fr T0 s dr ds H H' → RuleAt (aw [s] H') r b bl zs → GoodRule b (zs.map (·.2)) → Q (.ref r) H'
theorem wk : zG ["store", "x", "base", "found", "k", "few", "stretch", "at", "y"] ["store"] (zu jb) := ⟨rfl, rfl, rfl, by decide +kernel, rfl, by decide +kernel, by decide +kernel⟩
set_option maxHeartbeats 0 in
theorem Wv {f f1 : Addr} {fd fd1 : FuncData} (D : Df K mg "_law_rule" jb ["store"] f fd) (zL : Df K mg "_law_take" vz ["store", "many"] f1 fd1) (T : Blt mg) : FnOk P w K mg base CX0 2 f fd ["store"] (Ye T0) := by
  have yr : FnOk P w K mg base CX0 1 f1 fd1 ["store", "many"] (vG T0) := uy zL T
  refine D.fn.ok wk (fun vs H Q E h => ?_) (fun cdv A outer s H vs Q E hr h => ?_)
  · obtain ⟨s, dr, ds, rfl, _⟩ := h; rfl
  · obtain ⟨sa, dr, ds, rfl, S, hT, kk⟩ := h
    refine ⟨_, (zg (zH (i := 1) wk.nd rfl (Or.inl rfl) (zF zL yr (hr.mono (by decide)) (zc (pv 0) (zc zj zf))))
      (zg (zH (i := 2) wk.nd rfl (Or.inl rfl) (zP (yR K) (xm (zc zj (zc zj (zc zj (zc zj (zc (zA yN zj (zA yQ (pv 1) zj)) zf)))))) (zF zL yr (hr.mono (by decide)) (zc (pv 0) (zc zj zf))) (fun _ _ => rfl)))
      (zg (zH (i := 3) wk.nd rfl (Or.inl rfl) zcn)
      (zg (vU PassesOwn.never rfl (yw rfl T.n_range (zc (zP (yR K) (xm (zc (zA yQ (zA uL (pv 1) zj) zj) (zc (zA yN zj (zA yQ (zA uL (pv 1) zj) zj)) (zc zj zf)))) (zF zL yr (hr.mono (by decide)) (zc (pv 0) (zc zj zf))) (fun _ _ => rfl)) zf)) (yZ (i := 4) wk.nd rfl (Or.inl rfl))
        (zg (zH (i := 5) wk.nd rfl (Or.inl rfl) (zP (yR K) (xm (zc (pv 2) (zc (zK (QR rfl) (by rfl) T.n_min boot_min (zc (pv 2) (zc zj zf))) (zc zj zf)))) (zF zL yr (hr.mono (by decide)) (zc (pv 0) (zc zj zf))) (fun _ _ => rfl)))
        (zg (zH (i := 6) wk.nd rfl (Or.inl rfl) (xm zf))
        (zg (vU PassesOwn.never rfl (yw rfl T.n_range (zc (zA yN zj (zF zL yr (hr.mono (by decide)) (zc (pv 0) (zc zj zf)))) zf)) (yZ (i := 7) wk.nd rfl (Or.inl rfl))
          (zg (zH (i := 8) wk.nd rfl (Or.inl rfl) (zF zL yr (hr.mono (by decide)) (zc (pv 0) (zc zj zf))))
          (zq (yP (YM PySem.F.plainAttrs_list PySem.F.slot_list_append PySem.F.type_list_append vQ (pv 6) (zc (zP (yR K) (xm (zc (zA yQ (pv 8) (pv 5)) (zc (zA xV (zA xV (pv 2) zj) (zA yQ (pv 8) (pv 5))) zf))) (Z5 Vf (by rfl) T.n_int boot_int (zc (wU jz (zA yQ (zA uL (pv 8) zj) zj) zj (yc _)) zf)) (fun _ _ => rfl)) zf))))))
        (zq (zc0 (zeC hr) (pv 3) (Z5 Qk (by rfl) T.n_tuple boot_tuple (zc (pv 6) zf)) jA rfl))))))
      (zq (zJ (Ue (zc (pv 2) (zc (uO (show CScope (zu jb) _ "stretch" ["store", "x", "base", "found", "k", "few", "stretch", "at", "y"] [] [] from ⟨rfl, by decide +kernel, by decide +kernel, rfl, by decide +kernel, rfl, by decide +kernel, by decide +kernel⟩) rfl (Qe K (zK zdd (by rfl) T.n_sorted boot_sorted (zc (pv 3) zf))) (fun _ _ _ _ => wK) (fun _ _ _ _ => (Z5 (zci K) (by rfl) T.n_list boot_list (zc (pv 0) zf)))) zf))))))))), ?_⟩
    refine ⟨_, rfl, sa, dr, ds, 10007, rfl, (Fr.refl S hT : Fr T0 sa dr ds H H).st, (by decide), (Fr.refl S hT : Fr T0 sa dr ds H H).lt, fun x H1 hx _ qf_ tf_ => ?_⟩
    have fq_ := Fr.mk qf_ tf_
    have F1 := (Fr.refl S hT : Fr T0 sa dr ds H H).trans fq_
    refine ⟨_, rfl, _, _, rfl, rfl, (by decide : (0 : Int) < 15), _, _, rfl, rfl, (by show 5 ≤ sizeLine; decide), fun l1 hl1 => ?_⟩
    have n1 := F1.st.nes hl1
    have t1 := F1.lt.none hl1
    have F2 := F1.new hl1 (o := .lst [.int 2, .int 3, .int 10, .int 16, .int (2 + (x : Int) % 15)])
    refine ⟨_, rfl, sa, dr, ds, 5, rfl, F2.st, (by decide), F2.lt, fun x2 H3 hx2 _ qf_ tf_ => ?_⟩
    have f3 := Fr.mk qf_ tf_
    have F3 := F2.trans f3
    obtain ⟨b, hb, hb2, hb16⟩ : ∃ b : Nat, atI [V.int 2, V.int 3, V.int 10, V.int 16, V.int (2 + (x : Int) % 15)] (x2 : Int) = some (.int b) ∧ 2 ≤ b ∧ b ≤ 16 := by
      match x2, hx2 with
      | 0, _ => exact ⟨2, rfl, by omega, by omega⟩
      | 1, _ => exact ⟨3, rfl, by omega, by omega⟩
      | 2, _ => exact ⟨10, rfl, by omega, by omega⟩
      | 3, _ => exact ⟨16, rfl, by omega, by omega⟩
      | 4, _ => exact ⟨2 + x % 15, rfl, by omega, by omega⟩
    refine ⟨l1, _, _, _, rfl, rfl, SqL.of (f3.get n1 t1 zm), hb, ?_⟩
    intro kd hkd
    have nkd := F3.st.nes hkd
    have ndk := F3.st.nedn hkd
    have tkd := F3.lt.none hkd
    have hkd0 := F3.free hkd
    have F4 := F3.new hkd (o := .dT [])
    refine ⟨_, rfl, _, _, rfl, rfl, ⟨by decide, by decide⟩, _, _, rfl, rfl, (by decide : (0 : Int) < 5), _, rfl, _, _, rfl, rfl, ⟨by decide, by decide⟩, _, _, rfl, rfl, (by decide : (0 : Int) < 2), _, _, rfl, rfl, (by show 3 ≤ sizeLine; decide), fun l2 hl2 => ?_⟩
    have n2 := F4.st.nes hl2
    have t2 := F4.lt.none hl2
    have hk5 := zp hl2 (o := .lst [.int ((x : Int) / 15 % 5), .int (1 + (x : Int) / 15 % 2), .int 4]) kd _ zm
    have F5 := F4.new hl2 (o := .lst [.int ((x : Int) / 15 % 5), .int (1 + (x : Int) / 15 % 2), .int 4])
    refine ⟨_, rfl, sa, dr, ds, 3, rfl, F5.st, (by decide), F5.lt, fun x3 H6 hx3 _ qf_ tf_ => ?_⟩
    have f6 := Fr.mk qf_ tf_
    have F6 := F5.trans f6
    obtain ⟨mm, hmm, hm4⟩ : ∃ m : Nat, atI [V.int ((x : Int) / 15 % 5), V.int (1 + (x : Int) / 15 % 2), V.int 4] (x3 : Int) = some (.int m) ∧ m ≤ 4 := by
      match x3, hx3 with
      | 0, _ => exact ⟨x / 15 % 5, rfl, by omega⟩
      | 1, _ => exact ⟨1 + x / 15 % 2, rfl, by omega⟩
      | 2, _ => exact ⟨4, rfl, by omega⟩
    refine ⟨l2, _, _, _, rfl, rfl, SqL.of (f6.get n2 t2 zm), hmm, ?_⟩
    refine ⟨_, rfl, by omega, by omega, wy (lo := 0) (n := (mm : Int).toNat) (fun i σ H5 => ∃ (v4 v5 v6 v7 v8 : Option V) (kvs : List (List Key × V)) (ls : List (List Int)), σ = [some (.ref sa), some (.int x), some (.int b), some (.ref kd), v4, v5, v6, v7, v8] ∧ Fr T0 sa dr ds H H5 ∧ H5 kd = some (.dT kvs) ∧ kvs.map (·.1) = ls.map kI ∧ ls.length ≤ i ∧ ∀ l ∈ ls, Uo b l)
      ⟨none, none, none, none, none, [], [], rfl, F6, f6.get nkd tkd hk5, rfl, Nat.le_refl _, by simp⟩ ?_ ?_⟩
    · rintro i σ H7 hi ⟨v4, v5, v6, v7, v8, kvs, ls, rfl, F7, hk7, hks, hll, hgd⟩
      refine ⟨_, rfl, _, rfl, _, _, rfl, (by show 3 ≤ sizeLine; decide), fun l3 hl3 => ?_⟩
      have n3 := F7.st.nes hl3
      have t3 := F7.lt.none hl3
      have hk8 := zp hl3 (o := .lst [.int b, .int (if (3 : Int) < (b : Int) then 3 else (b : Int)), .int 2]) kd _ hk7
      have F8 := F7.new hl3 (o := .lst [.int b, .int (if (3 : Int) < (b : Int) then 3 else (b : Int)), .int 2])
      refine ⟨_, rfl, sa, dr, ds, 3, rfl, F8.st, (by decide), F8.lt, fun x4 H9 hx4 _ qf_ tf_ => ?_⟩
      have f9 := Fr.mk qf_ tf_
      have F9 := F8.trans f9
      obtain ⟨few, hfew, hfew1, hfew2⟩ : ∃ m : Nat, atI [V.int b, V.int (if (3 : Int) < (b : Int) then 3 else (b : Int)), V.int 2] (x4 : Int) = some (.int m) ∧ 2 ≤ m ∧ m ≤ b := by
        match x4, hx4 with
        | 0, _ => exact ⟨b, rfl, by omega, by omega⟩
        | 1, _ =>
          by_cases z : 3 < b
          · exact ⟨3, by rw [if_pos (by omega)]; rfl, by omega, by omega⟩
          · exact ⟨b, by rw [if_neg (by omega)]; rfl, by omega, by omega⟩
        | 2, _ => exact ⟨2, rfl, by omega, by omega⟩
      refine ⟨l3, _, _, _, rfl, rfl, SqL.of (f9.get n3 t3 zm), hfew, ?_⟩
      have hk9 := f9.get nkd tkd hk8
      refine ⟨(by decide : 0 ≤ sizeLine), fun sl hsl => ?_⟩
      have nsl := F9.st.nes hsl
      have dsl := F9.st.nedn hsl
      have tsl := F9.lt.none hsl
      have hsl0 := F9.free hsl
      have nks : kd ≠ sl := fun z => by rw [z, hsl] at hk9; cases hk9
      have hk10 := zp hsl (o := .lst []) kd _ hk9
      have F10 := F9.new hsl (o := .lst [])
      refine ⟨_, rfl, sa, dr, ds, 4, rfl, F10.st, (by decide), F10.lt, fun x5 H11 hx5 _ qf_ tf_ => ?_⟩
      have f11 := Fr.mk qf_ tf_
      have F11 := F10.trans f11
      refine ⟨_, _, rfl, rfl, ?_⟩
      refine ⟨_, rfl, by omega, by omega, wy (lo := 0) (n := (1 + (x5 : Int)).toNat) (fun j σ Hc => ∃ (v4 v7 v8 : Option V) (ms : List Int), σ = [some (.ref sa), some (.int x), some (.int b), some (.ref kd), v4, some (.int few), some (.ref sl), v7, v8] ∧ Fr T0 sa dr ds H Hc ∧ Hc kd = some (.dT kvs) ∧ Hc sl = some (.lst (ms.map V.int)) ∧ ms.length = j ∧ ∀ f ∈ ms, 0 ≤ f ∧ f < (b : Int))
        ⟨_, _, _, [], rfl, F11, f11.get nkd tkd hk10, f11.get nsl tsl zm, rfl, by simp⟩ ?_ ?_⟩
      · rintro j σ Hc hj ⟨v4, v7, v8, ms, rfl, Fc, hkc, hsc, hml, hmf⟩
        refine ⟨_, rfl, sa, dr, ds, 10007, rfl, Fc.st, (by decide), Fc.lt, fun y Hd hy _ qf_ tf_ => ?_⟩
        have fd := Fr.mk qf_ tf_
        have Fd := Fc.trans fd
        have hkd' := fd.get nkd tkd hkc
        have hsd := fd.get nsl tsl hsc
        refine ⟨_, rfl, .inl ⟨rfl, _, SqL.of hsd⟩, _, rfl, _, rfl, _, _, rfl, rfl, (by omega : (0 : Int) < few), _, rfl, _, _, rfl, rfl, _, rfl, _, rfl, _, _, rfl, rfl, (by omega : (0 : Int) < few), _, _, rfl, rfl, (by show 2 ≤ sizeLine; decide), fun l4 hl4 => ?_⟩
        have nl4 : sl ≠ l4 := fun z => by rw [← z, hsd] at hl4; cases hl4
        have s4 := zp hl4 (o := .lst [.int ((y : Int) % (few : Int)), .int ((b : Int) - 1 - (y : Int) % (few : Int))])
        have Fe := Fd.new hl4 (o := .lst [.int ((y : Int) % (few : Int)), .int ((b : Int) - 1 - (y : Int) % (few : Int))])
        have hke := s4 _ _ hkd'
        have hse := s4 _ _ hsd
        refine ⟨_, rfl, _, _, rfl, rfl, ⟨by decide, by decide⟩, _, _, rfl, rfl, (by decide : (0 : Int) < 6), rfl, .inr ⟨_, rfl, ?_⟩⟩
        have hy0 : 0 ≤ (y : Int) % (few : Int) := Int.emod_nonneg _ (by omega)
        have hy1 : (y : Int) % (few : Int) < few := Int.emod_lt_of_pos _ (by omega)
        have key : ∀ bb : Bool, ∃ fg : Int, atI [V.int ((y : Int) % (few : Int)), V.int ((b : Int) - 1 - (y : Int) % (few : Int))] (if bb = true then 1 else 0) = some (.int fg) ∧ 0 ≤ fg ∧ fg < b := by
          intro bb
          cases bb with
          | true => exact ⟨_, rfl, by omega, by omega⟩
          | false => exact ⟨_, rfl, by omega, by omega⟩
        obtain ⟨fg, hfg, hf0, hf1⟩ := key (decide (V.int ((y : Int) / 16 % 6) = V.int 0))
        refine ⟨l4, _, _, _, rfl, rfl, SqL.of zm, hfg, sl, _, _, rfl, rfl, hse, by rw [List.length_map, hml]; exact Nat.lt_of_lt_of_le (show j < 5 by omega) (by decide), ?_⟩
        refine ⟨_, _, _, ms ++ [fg], rfl, Fe.putL nsl dsl hsl0 hse, by rw [zx nks]; exact hke, by rw [zm]; simp, by simp [hml], fun f hf => ?_⟩
        rcases List.mem_append.mp hf with hf | hf
        · exact hmf f hf
        · have e : f = fg := by simpa using hf
          rw [e]; exact ⟨hf0, hf1⟩
      · rintro σ Hc ⟨v4, v7, v8, ms, rfl, Fc, hkc, hsc, hml, hmf⟩
        have gms : Uo b ms := ⟨fun z => by rw [z] at hml; simp at hml; omega, by omega, hmf⟩
        refine ⟨_, rfl, _, rfl, sl, _, rfl, .inl ⟨SqL.of hsc, fun tp htp => ?_⟩⟩
        have hk7 : upd Hc tp (.tup (ms.map V.int)) kd = some (.dT kvs) := zp htp _ _ hkc
        have hkl : kvs.length = ls.length := by have := congrArg List.length hks; rwa [List.length_map, List.length_map] at this
        refine ⟨kd, _, rfl, DPut.t (k := kI ms) hk7 (by rw [zeY]; exact zm) (Nat.lt_of_le_of_lt (show kvs.length ≤ 4 by omega) (by decide)), ?_⟩
        have S7 := (Fc.new htp (o := .tup (ms.map V.int))).putD (p := kd) (o := .dT (putK kvs (kI ms) (.bl true))) nkd ndk hkd0 hk7
        by_cases hin : ms ∈ ls
        · refine ⟨_, _, _, _, _, putK kvs (kI ms) (.bl true), ls, rfl, S7, zm, ?_, by omega, hgd⟩
          unfold putK
          rw [if_pos (by
            rw [List.any_eq_true]
            have : kI ms ∈ kvs.map (·.1) := by rw [hks]; exact List.mem_map.mpr ⟨ms, hin, rfl⟩
            obtain ⟨kv, h1, h2⟩ := List.mem_map.mp this
            exact ⟨kv, h1, decide_eq_true h2⟩), List.map_map, ← hks]
          refine List.map_congr_left fun kv _ => ?_
          show (if kv.1 = kI ms then (kv.1, V.bl true) else kv).1 = kv.1
          split <;> rfl
        · refine ⟨_, _, _, _, _, putK kvs (kI ms) (.bl true), ls ++ [ms], rfl, S7, zm, ?_, by rw [List.length_append, List.length_singleton]; omega, fun l hl => ?_⟩
          · unfold putK
            rw [if_neg (by
              rw [List.any_eq_true]
              rintro ⟨kv, h1, h2⟩
              have h3 : kI ms ∈ kvs.map (·.1) := List.mem_map.mpr ⟨kv, h1, of_decide_eq_true h2⟩
              rw [hks] at h3
              obtain ⟨l, h4, h5⟩ := List.mem_map.mp h3
              exact hin (zd7 h5 ▸ h4)), List.map_append, List.map_append, hks]
            rfl
          · rcases List.mem_append.mp hl with hl | hl
            · exact hgd l hl
            · have e : l = ms := by simpa using hl
              rw [e]; exact gms
    · rintro σ H5 ⟨v4, v5, v6, v7, v8, kvs, ls, rfl, S5, hk5, hks, hll, hgd⟩
      refine ⟨_, rfl, _, rfl, kd, kvs, ls, rfl, hk5, hks, by omega, fun l hl => (hgd l hl).ne, fun p zs hp pm pw hz => ?_⟩
      have hzl : zs.length = ls.length := by have := pm.length_eq; rwa [List.length_map] at this
      have S6 := S5.new hp (o := .lst (zs.map fun z => V.ref z.1))
      refine ⟨p, rfl, ⟨_, SqL.of zm⟩, tG (K := K) (a := p) (xs := zs.map fun z => V.ref z.1) (fun i ys H7 => Same (upd H5 p (.lst (zs.map fun z => V.ref z.1))) H7 ∧ ∃ ws : List (Addr × List Int), ys = ws.map (fun z => V.ref z.1) ∧ ws.map (·.2) = (zs.take i).map (·.2) ∧ ∀ z ∈ ws, H z.1 = none ∧ z.1 ≠ sa ∧ H7 z.1 = some (.lst (z.2.map V.int))) ⟨Same.refl _, [], rfl, by simp, by simp⟩ (fun i ys H7 _ ⟨m7, _⟩ => SqL.of (m7 _ _ zm)) ?_ ?_⟩
      · rintro j x ys H7 hx ⟨m7, ws, rfl, hw2, hws⟩
        rw [List.getElem?_map] at hx
        obtain ⟨z, hzj, e⟩ := Option.map_eq_some_iff.mp hx
        subst e
        have hzm := List.mem_of_getElem? hzj
        have hj : j < zs.length := (List.getElem?_eq_some_iff.mp hzj).1
        have hwl : ws.length ≤ j := by have := congrArg List.length hw2; rw [List.length_map, List.length_map, List.length_take] at this; omega
        refine ⟨by rw [List.length_map]; exact Nat.lt_of_le_of_lt (show ws.length ≤ 4 by omega) (by decide), ?_⟩
        unfold YS
        dsimp only
        rw [if_pos rfl]
        refine ⟨_, rfl, z.1, _, rfl, .inr (SqT.of (m7 _ _ (zp hp _ _ (hz z hzm)))), fun q hq => ⟨m7.trans (zp hq), ws ++ [(q, z.2)], by simp, ?_, fun y hy => ?_⟩⟩
        · rw [List.map_append, hw2, List.take_succ, hzj]; simp
        · rcases List.mem_append.mp hy with hy | hy
          · exact ⟨(hws y hy).1, (hws y hy).2.1, zp hq _ _ (hws y hy).2.2⟩
          · have e : y = (q, z.2) := by simpa using hy
            subst e
            exact ⟨S6.free (m7.free hq), (S6.same m7).st.nes hq, zm⟩
      · rintro ys H7 ⟨m7, ws, rfl, hw2, hws⟩ bl hbl
        rw [List.length_map, List.take_length] at hw2
        have hwl : ws.length = zs.length := by have := congrArg List.length hw2; rwa [List.length_map, List.length_map] at this
        have m8 := zp hbl (o := .lst (ws.map fun z => V.ref z.1))
        have S7 := S6.same m7
        have S8 := S6.same (m7.trans m8)
        refine ⟨(by show 2 ≤ sizeLine; decide), fun r hr => ?_⟩
        have m9 := zp hr (o := .tup [.int b, .ref bl])
        have nb := S7.st.nes hbl
        have nr := S8.st.nes hr
        refine kk r b bl ws _ (S8.same m9) ⟨?_, ?_, fun z hz' => ?_⟩ ⟨hb2, hb16, by rw [List.length_map]; omega, fun l hl => ?_, ?_⟩
        · rw [yt (by simpa using nr)]; exact zm
        · rw [yt (by simpa using nb)]; exact m9 _ _ zm
        · rw [yt (by simpa using (hws z hz').2.1)]; exact m9 _ _ (m8 _ _ (hws z hz').2.2)
        · rw [hw2] at hl
          exact hgd _ (pm.mem_iff.mp hl)
        · rw [hw2, List.pairwise_map]; exact pw
def j7 (T0 : Addr) : Sp := fun vs H Q _ => ∃ (s dr : Addr) (ds : List Int) (b : Nat), vs = [.ref s, .int b] ∧ Sto2 H s dr ds ∧ LT T0 H ∧ 2 ≤ b ∧ b ≤ 16 ∧ ∀ (n : Nat) (H' : Hp), Fr T0 s dr ds H H' → Q (.int n) H'
theorem yW : zG ["store", "base", "x", "great", "turn", "power", "some"] ["store", "base"] (zu qP) := ⟨rfl, rfl, rfl, by decide +kernel, rfl, by decide +kernel, by decide +kernel⟩
set_option maxHeartbeats 0 in
theorem Y5 {f f1 : Addr} {fd fd1 : FuncData} (D : Df K mg "_law_number" qP ["store", "base"] f fd) (zL : Df K mg "_law_take" vz ["store", "many"] f1 fd1) (T : Blt mg) : FnOk P w K mg base CX0 2 f fd ["store", "base"] (j7 T0) := by
  have yr : FnOk P w K mg base CX0 1 f1 fd1 ["store", "many"] (vG T0) := uy zL T
  refine D.fn.ok yW (fun vs H Q E h => ?_) (fun cdv A outer s H vs Q E hr h => ?_)
  · obtain ⟨s, dr, ds, b, rfl, _⟩ := h; rfl
  · obtain ⟨sa, dr, ds, b, rfl, S, hT, hb2, hb16, kk⟩ := h
    refine ⟨_, (zg (zH (i := 2) yW.nd rfl (Or.inl rfl) (zF zL yr (hr.mono (by decide)) (zc (pv 0) (zc zj zf))))
      (zg (zH (i := 3) yW.nd rfl (Or.inl rfl) zj)
      (zg (vU PassesOwn.never rfl (yw rfl T.n_range (zc zj zf)) (yZ (i := 4) yW.nd rfl (Or.inl rfl))
        (zq (zH (i := 3) yW.nd rfl (Or.inl rfl) (zA yN (zA wD (pv 3) zj) (zF zL yr (hr.mono (by decide)) (zc (pv 0) (zc zj zf)))))))
      (zg (zH (i := 5) yW.nd rfl (Or.inl rfl) zj)
      (zg (vU PassesOwn.never rfl (yw rfl T.n_range (zc (zA yQ (pv 2) zj) zf)) (yZ (i := 4) yW.nd rfl (Or.inl rfl))
        (zq (zH (i := 5) yW.nd rfl (Or.inl rfl) (zA wD (pv 5) (pv 1)))))
      (zg (zH (i := 6) yW.nd rfl (Or.inl rfl) (xm (zc (zA yQ (pv 2) zj) (zc (pv 2) (zc (zA yQ (pv 3) (zA W6 zj zj)) (zc (zA yQ (pv 3) (zA W6 zj zj)) (zc (zA yQ (pv 3) (zA W6 zj zj)) zf)))))))
      (zq (zJ (zP (yR K) (zA Wa (pv 6) (xm (zc (zK (zbA rfl) (by rfl) T.n_max boot_max (zc zj (zc (zA xV (zA yN (pv 5) (zF zL yr (hr.mono (by decide)) (zc (pv 0) (zc zj zf)))) zj) zf))) zf))) (zF zL yr (hr.mono (by decide)) (zc (pv 0) (zc zj zf))) (fun _ _ => rfl)))))))))), ?_⟩
    refine ⟨_, rfl, sa, dr, ds, 10007, rfl, (Fr.refl S hT : Fr T0 sa dr ds H H).st, (by decide), (Fr.refl S hT : Fr T0 sa dr ds H H).lt, fun x H1 hx _ qf_ tf_ => ?_⟩
    have fq_ := Fr.mk qf_ tf_
    have F1 := (Fr.refl S hT : Fr T0 sa dr ds H H).trans fq_
    refine ⟨_, rfl, by decide, by decide, wy (lo := 0) (n := (7 : Int).toNat) (fun i σ H2 => ∃ (v4 v5 v6 : Option V) (gr : Nat), σ = [some (.ref sa), some (.int b), some (.int x), some (.int gr), v4, v5, v6] ∧ Fr T0 sa dr ds H H2)
      ⟨none, none, none, 0, rfl, F1⟩ ?_ ?_⟩
    · rintro i σ H2 hi ⟨v4, v5, v6, gr, rfl, F2⟩
      refine ⟨_, rfl, _, _, rfl, rfl, .inr ⟨by decide, by decide⟩, _, rfl, sa, dr, ds, 10007, rfl, F2.st, (by decide), F2.lt, fun y H3 hy _ qf_ tf_ => ?_⟩
      have fq_ := Fr.mk qf_ tf_
      have F3 := F2.trans fq_
      refine ⟨_, _, rfl, rfl, some (.int (0 + (i : Int))), v5, v6, gr * 10007 + y, ?_, F3⟩
      simp
    · rintro σ H2 ⟨v4, v5, v6, gr, rfl, F2⟩
      refine ⟨_, rfl, _, _, rfl, rfl, (by decide : (0 : Int) < 21), ?_⟩
      have h21 : 0 ≤ (x : Int) % 21 ∧ (x : Int) % 21 < 21 := ⟨Int.emod_nonneg _ (by decide), Int.emod_lt_of_pos _ (by decide)⟩
      refine ⟨_, rfl, by omega, by omega, wy (lo := 0) (n := ((x : Int) % 21).toNat) (fun i σ H3 => ∃ (v4 v6 : Option V) (pw : Nat), σ = [some (.ref sa), some (.int b), some (.int x), some (.int gr), v4, some (.int pw), v6] ∧ Fr T0 sa dr ds H H3)
        ⟨_, _, 1, rfl, F2⟩ ?_ ?_⟩
      · rintro i σ H3 hi ⟨v4, v6, pw, rfl, F3⟩
        refine ⟨_, rfl, _, rfl, _, _, rfl, rfl, .inr ⟨by omega, by omega⟩, some (.int (0 + (i : Int))), v6, pw * b, ?_, F3⟩
        simp
      · rintro σ H3 ⟨v4, v6, pw, rfl, F3⟩
        refine ⟨_, rfl, _, _, rfl, rfl, (by decide : (0 : Int) < 40), _, rfl, _, rfl, _, _, rfl, rfl, ⟨by decide, by decide, by decide⟩, _, _, rfl, rfl, (by decide : (0 : Int) < (10 : Int) ^ (9 : Int).toNat), _, rfl, _, _, rfl, rfl, ⟨by decide, by decide, by decide⟩, _, _, rfl, rfl, (by decide : (0 : Int) < (10 : Int) ^ (26 : Int).toNat), _, rfl, _, _, rfl, rfl, ⟨by decide, by decide, by decide⟩, _, _, rfl, rfl, (by decide : (0 : Int) < (10 : Int) ^ (18 : Int).toNat), (by show 5 ≤ sizeLine; decide), fun l hl => ?_⟩
        have nl := F3.st.nes hl
        have tl := F3.lt.none hl
        have F4 := F3.new hl (o := .lst [.int ((x : Int) % 40), .int x, .int ((gr : Int) % 10 ^ (9 : Int).toNat), .int ((gr : Int) % 10 ^ (26 : Int).toNat), .int ((gr : Int) % 10 ^ (18 : Int).toNat)])
        refine ⟨_, rfl, _, rfl, _, rfl, sa, dr, ds, 3, rfl, F4.st, (by decide), F4.lt, fun y H5 hy _ qf_ tf_ => ?_⟩
        have f5 := Fr.mk qf_ tf_
        have F5 := F4.trans f5
        refine ⟨_, _, rfl, rfl, _, _, rfl, rfl, _, _, rfl, (by show 1 ≤ sizeLine; decide), fun l2 hl2 => ?_⟩
        have hl5 := f5.get nl tl zm
        have n2 := F5.st.nes hl2
        generalize hmx : (if (pw : Int) + (y : Int) - 1 > 0 then (pw : Int) + (y : Int) - 1 else 0) = mx
        have hmx0 : 0 ≤ mx := by rw [← hmx]; split <;> omega
        have F6 := F5.new hl2 (o := .lst [.int mx])
        refine ⟨l, l2, _, _, rfl, rfl, zp hl2 _ _ hl5, zm, (by show 5 + 1 ≤ sizeLine; decide), fun l3 hl3 => ?_⟩
        have n3 := F6.st.nes hl3
        have t3 := F6.lt.none hl3
        have F7 := F6.new hl3 (o := .lst ([.int ((x : Int) % 40), .int x, .int ((gr : Int) % 10 ^ (9 : Int).toNat), .int ((gr : Int) % 10 ^ (26 : Int).toNat), .int ((gr : Int) % 10 ^ (18 : Int).toNat)] ++ [.int mx]))
        refine ⟨_, rfl, sa, dr, ds, 6, rfl, F7.st, (by decide), F7.lt, fun z H8 hz _ qf_ tf_ => ?_⟩
        have f8 := Fr.mk qf_ tf_
        have F8 := F7.trans f8
        obtain ⟨c, hc, hc0⟩ : ∃ c : Int, atI ([V.int ((x : Int) % 40), .int x, .int ((gr : Int) % 10 ^ (9 : Int).toNat), .int ((gr : Int) % 10 ^ (26 : Int).toNat), .int ((gr : Int) % 10 ^ (18 : Int).toNat)] ++ [.int mx]) (z : Int) = some (.int c) ∧ 0 ≤ c := by
          match z, hz with
          | 0, _ => exact ⟨_, rfl, Int.emod_nonneg _ (by decide)⟩
          | 1, _ => exact ⟨_, rfl, by omega⟩
          | 2, _ => exact ⟨_, rfl, Int.emod_nonneg _ (by decide)⟩
          | 3, _ => exact ⟨_, rfl, Int.emod_nonneg _ (by decide)⟩
          | 4, _ => exact ⟨_, rfl, Int.emod_nonneg _ (by decide)⟩
          | 5, _ => exact ⟨_, rfl, hmx0⟩
        obtain ⟨n, rfl⟩ : ∃ n : Nat, c = (n : Int) := ⟨c.toNat, by omega⟩
        exact ⟨l3, _, _, _, rfl, rfl, SqL.of (f8.get n3 t3 zm), hc, kk n H8 F8⟩
end
theorem zbS {ls : List (List Int)} (ne : ∀ l ∈ ls, l ≠ []) {b m : Nat} {o : Option (List Int)} {w : Nat → Nat} {sc : Nat} (h2 : 2 ≤ b) (R : Rep ls b m o) (t : Nat) {c : Nat} (hc : c < b) :
    tot (fun r => gd ls b ((m * b + c) * b ^ t + r)) (fun r => fw w sc b ((m * b + c) * b ^ t + r)) (b ^ t) = sc ^ (t + 1) * ahd w sc b m * ZC ls b t o c + stepT ls b w sc t o c := by
  rcases R with ⟨rfl, rfl⟩ | ⟨h1, hg, rfl⟩
  · have e0 : ahd w sc b 0 = 0 := rfl
    rw [e0, Nat.mul_zero, Nat.zero_mul, Nat.zero_add, Nat.zero_mul, Nat.zero_add]
    by_cases h0 : c = 0
    · subst h0
      rw [show stepT ls b w sc t none 0 = ttO ls b w sc t from (by unfold stepT; exact if_pos rfl), Jl ne h2]
      apply vR <;> intro r _ <;> rw [Nat.zero_mul, Nat.zero_add] <;> rfl
    · show _ = if c = 0 then _ else _
      rw [if_neg h0]
      exact zaf ne h2 (by omega) hc
  · have h1' : 1 ≤ m * b + c := JR h2 h1
    have ef : ∀ r, r < b ^ t → yp b ((m * b + c) * b ^ t + r) = yp b m ++ vp b (t + 1) (c * b ^ t + r) := fun r hr => by
      rw [Xm h2 h1' t r hr, uY h2 h1 hc, qj hr, List.append_assoc]
      rfl
    have e1 : tot (fun r => gd ls b ((m * b + c) * b ^ t + r)) (fun r => fw w sc b ((m * b + c) * b ^ t + r)) (b ^ t) = tot (fun r => lacks ls (yp b m ++ vp b (t + 1) (c * b ^ t + r))) (fun r => sc ^ (t + 1) * ahd w sc b m + wsum w sc (vp b (t + 1) (c * b ^ t + r))) (b ^ t) := by
      apply vR
      · intro r hr
        show lacks ls (yp b _) = _
        rw [ef r hr]
      · intro r hr
        show wsum w sc (yp b _) = _
        rw [ef r hr, Vq, UL]
        unfold ahd
        rw [if_neg (by omega)]
    have e2 : many (fun r => lacks ls (yp b m ++ vp b (t + 1) (c * b ^ t + r))) (b ^ t) = ZC ls b t (some (zY ls (yp b m))) c := by
      rw [Ub ne h2 (.inr ⟨h1, hg, rfl⟩) t hc]
      apply uQ
      intro r hr
      show _ = lacks ls (yp b _)
      rw [ef r hr]
    rw [e1, V6, e2, JD ne (zaT ne t)]
    congr 1
    show _ = if lacks ls (zY ls (yp b m) ++ [(c : Int)]) = true then _ else 0
    rw [Zf ne _ hg, Zg]
theorem V4 {ls : List (List Int)} (ne : ∀ l ∈ ls, l ≠ []) {b m : Nat} {o : Option (List Int)} {w : Nat → Nat} {sc : Nat} (h2 : 2 ≤ b) (R : Rep ls b m o) (t : Nat) : ∀ {s : Nat}, s ≤ b → tot (gd ls b) (fw w sc b) (m * b ^ (t + 1)) + (sc ^ (t + 1) * ahd w sc b m * under ls b t o s + jn ls b w sc t o s) = tot (gd ls b) (fw w sc b) ((m * b + s) * b ^ t)
  | 0, _ => by
    rw [XN, Nat.mul_zero, Nat.add_zero, Nat.pow_succ', ← Nat.mul_assoc]
    rfl
  | s + 1, hs => by
    have ih := V4 ne h2 R t (w := w) (sc := sc) (s := s) (by omega)
    have e : (m * b + (s + 1)) * b ^ t = (m * b + s) * b ^ t + b ^ t := by rw [← Nat.add_assoc, Nat.succ_mul]
    rw [e, Wx, zbS ne h2 R t (by omega), ← ih, Yg, Vk, Nat.mul_add]
    omega
section
variable {P : Program} {w : World} {K : PySem.W.Frag} {mg : Str → Option Value} {base : Heap} {T0 C CS : Addr}
def vd (C CS : Addr) : Sp := fun vs H Q _ => ∃ (p tl la wa l2 : Addr) (b : Nat) (ls ws : List (List Int)) (L : Nat) (wt : Nat → Nat) (sc sz M : Nat) (fa : Addr) (n : Nat), vs = [.ref p, .ref fa] ∧ TotAt C CS H p tl la wa l2 b ls ws L wt sc sz M ∧ GoodT b ls ws ∧ L ≤ 801 ∧ sz = (yp b n).length ∧ M = sz + 1 ∧ sc ≤ 16 ∧ (∀ c, c < b → wt c < 2 ^ 64) ∧ aw [la] H fa = some (.lst ((yp b n).map V.int)) ∧ n < 2 ^ 800 ∧
  SQ C CS H p tl la wa l2 b ls ws L wt sc sz M fun L' H' => L' ≤ 1000 → Q (.int ((tot (gd ls b) (fw wt sc b) n : Nat) : Int)) H'
theorem zbv {w : Nat → Nat} {sc b : Nat} (hsc : sc ≤ 16) (hw : ∀ c, c < b → w c < 2 ^ 64) : ∀ l : List Int, (∀ f ∈ l, f.toNat < b) → wsum w sc l < 2 ^ (4 * l.length + 64)
  | [], _ => Nat.pow_pos (by decide)
  | c :: l, h => by
    have ih := zbv hsc hw l fun x hx => h x (List.mem_cons_of_mem _ hx)
    rw [wsum, List.length_cons]
    have h1 : sc ^ l.length ≤ 2 ^ (4 * l.length) := by rw [Nat.pow_mul]; exact Nat.pow_le_pow_left hsc _
    have h2 := hw c.toNat (h c List.mem_cons_self)
    have h3 : sc ^ l.length * w c.toNat ≤ 2 ^ (4 * l.length + 64) := by rw [Nat.pow_add]; exact Nat.mul_le_mul h1 (Nat.le_of_lt h2)
    have h4 : 2 ^ (4 * (l.length + 1) + 64) = 16 * 2 ^ (4 * l.length + 64) := by rw [show 4 * (l.length + 1) + 64 = 4 + (4 * l.length + 64) by omega, Nat.pow_add]
    omega
theorem zd5 {w : Nat → Nat} {sc b n N k : Nat} (h2 : 2 ≤ b) (hsc : sc ≤ 16) (hw : ∀ c, c < b → w c < 2 ^ 64) (hn : n < b ^ N) (hk : k ≤ N) (hN : N ≤ 900) : sc ^ (N - k) * ahd w sc b (n / b ^ (N - k)) < 2 ^ 5000 := by
  unfold ahd
  split
  · rw [Nat.mul_zero]; exact Nat.pow_pos (by decide)
  · rename_i hz
    have hlt : n / b ^ (N - k) < b ^ k := by
      rw [Nat.div_lt_iff_lt_mul (Nat.pow_pos (by omega)), ← Nat.pow_add, show k + (N - k) = N by omega]
      exact hn
    have hl : (yp b (n / b ^ (N - k))).length ≤ k := by
      obtain ⟨j, j1, j2⟩ := zbt h2 (n / b ^ (N - k))
      rw [WP h2 j1 j2]
      rcases j2 with j2 | j2
      · subst j2
        cases k with
        | zero => exact absurd (Nat.lt_one_iff.mp hlt) hz
        | succ k => omega
      · exact (Nat.pow_lt_pow_iff_right (show 1 < b by omega)).mp (Nat.lt_of_le_of_lt j2 hlt)
    have hb := zbv hsc hw (yp b (n / b ^ (N - k))) (fun f hf => by have := Ww h2 _ f hf; omega)
    have h1 : sc ^ (N - k) ≤ 2 ^ (4 * (N - k)) := by rw [Nat.pow_mul]; exact Nat.pow_le_pow_left hsc _
    refine Nat.lt_of_lt_of_le (Nat.mul_lt_mul_of_le_of_lt h1 hb (Nat.pow_pos (by decide))) ?_
    rw [← Nat.pow_add]
    exact Nat.pow_le_pow_right (by decide) (by omega)
theorem ye : zG ["self", "figures", "place", "ahead", "total", "k", "left"] ["self", "figures"] (zu yO) := ⟨rfl, rfl, rfl, by decide +kernel, rfl, by decide +kernel, by decide +kernel⟩
set_option maxHeartbeats 0 in
theorem Ud {f f1 f2 : Addr} {fd fd1 fd2 : FuncData} (D : Mt K CS "Totals.total_below" "total_below" yO ["self", "figures"] f fd) (yF : Mt K CS "Totals.total_under" "total_under" xN ["self", "place", "stop", "left", "ahead"] f1 fd1) (xj : FnOk P w K mg base CX0 3 f1 fd1 ["self", "place", "stop", "left", "ahead"] (tV C CS)) (yU : Mt K CS "Totals.weight_of" "weight_of" wz ["self", "behind", "figure", "left"] f2 fd2) (xR : FnOk P w K mg base CX0 1 f2 fd2 ["self", "behind", "figure", "left"] (jL C CS)) (zy : ClT K mg C) (zE : ClS K mg CS) (T : Blt mg) : FnOk P w K mg base CX0 4 f fd ["self", "figures"] (vd C CS) := by
  refine D.fn.ok ye (fun vs H Q E h => ?_) (fun cdv A outer s H vs Q E hr h => ?_)
  · obtain ⟨p, tl, la, wa, l2, b, ls, ws, L, wt, sc, sz, M, fa, n, rfl, _⟩ := h; rfl
  · obtain ⟨p, tl, la, wa, l2, b, ls, ws, L, wt, sc, sz, M, fa, n, rfl, TT, G, hL, hsz, hM, hsc, hwt, hf, hn, kk⟩ := h
    have b2 := G.g.b2
    have hlen := tR b2 800 n hn
    obtain ⟨dx0, hp0⟩ := TT.obj
    obtain ⟨dt0, sa0, htl0⟩ := TT.ta.obj
    generalize hN : (yp b n).length = N at hlen hsz
    have hnN := YW b2 hN
    refine ⟨_, (zg (zH (i := 2) ye.nd rfl (Or.inl rfl) (xK K (xK K (pv 0))))
      (zg (zH (i := 3) ye.nd rfl (Or.inl rfl) zj)
      (zg (zH (i := 4) ye.nd rfl (Or.inl rfl) zj)
      (zg (vU PassesOwn.never rfl (yw rfl T.n_range (zc (zK (vB K) (by rfl) T.n_len PySem.boot_len (zc (pv 1) zf)) zf)) (yZ (i := 5) ye.nd rfl (Or.inl rfl))
        (zg (zH (i := 6) ye.nd rfl (Or.inl rfl) (zA xV (zA xV (zK (vB K) (by rfl) T.n_len PySem.boot_len (zc (pv 1) zf)) (pv 5)) zj))
        (zg (W7 (i := 4) ye.nd rfl (Or.inl rfl) (w5 yF zE.cl xj (hr.mono (by decide)) (pv 0) (zc (pv 2) (zc (zP (yR K) (pv 1) (pv 5) (fun _ _ => rfl)) (zc (pv 6) (zc (pv 3) zf))))) Ug)
        (zg (zH (i := 2) ye.nd rfl (Or.inl rfl) (zP (yR K) (zP (yR K) (xK K (xK K (pv 0))) (pv 2) (fun _ _ => rfl)) (zP (yR K) (pv 1) (pv 5) (fun _ _ => rfl)) (fun _ _ => rfl)))
        (zg (xP (ym X5 (pv 2) tY (yc _))
          (zq (zJ (pv 4)))
          yh)
        (zq (W7 (i := 3) ye.nd rfl (Or.inl rfl) (w5 yU zE.cl xR (hr.mono (by decide)) (pv 0) (zc (pv 2) (zc (zP (yR K) (pv 1) (pv 5) (fun _ _ => rfl)) (zc (pv 6) zf)))) Ug)))))))
      (zq (zJ (pv 4))))))), ?_⟩
    refine ⟨_, rfl, p, CS, dx0, _, _, rfl, hp0, zE.cl, zE.n_tails, uc _ _ _, tl, C, dt0, _, _, rfl, htl0, zy.cl, zy.n_outset, wL _ _ _ _, ?_⟩
    refine ⟨_, rfl, fa, _, rfl, .inl (SqL.of (zU _ _ _ _ hf)), ?_⟩
    rw [List.length_map, hN]
    refine ⟨_, rfl, by omega, by omega, wy (lo := 0) (n := (N : Int).toNat) (fun k σ H2 => ∃ (v5 v6 : Option V) (i L' : Nat), σ = [some (.ref p), some (.ref fa), some (.int i), some (.int ((sc ^ (N - k) * ahd wt sc b (n / b ^ (N - k)) : Nat) : Int)), some (.int (tot (gd ls b) (fw wt sc b) (n / b ^ (N - k) * b ^ (N - k)) : Nat)), v5, v6] ∧ i ≤ ws.length ∧ Rep ls b (n / b ^ (N - k)) ws[i]? ∧ L ≤ L' ∧ L' ≤ 1000 ∧ TotAt C CS H2 p tl la wa l2 b ls ws L' wt sc sz M ∧ Same (aw [la] H) (aw [la] H2)) ⟨none, none, ws.length, L, ?_, Nat.le_refl _, ?_, Nat.le_refl _, by omega, TT, Same.refl _⟩ ?_ ?_⟩
    · rw [Nat.sub_zero, Nat.div_eq_of_lt hnN, Nat.zero_mul]
      rfl
    · rw [Nat.sub_zero, Nat.div_eq_of_lt hnN, List.getElem?_eq_none (Nat.le_refl _)]
      exact .inl ⟨rfl, rfl⟩
    · rintro k σ H2 hk ⟨v5, v6, i, L', rfl, hi, R, hLL, hL', TT2, m2⟩
      have hkN : k < N := by omega
      have hah := zd5 (w := wt) b2 hsc hwt hnN (Nat.le_of_lt hkN) (by omega)
      obtain ⟨t, ht⟩ : ∃ t, N - k = t + 1 := ⟨N - k - 1, by omega⟩
      have et : N - 1 - k = t := by omega
      have hfk := J8 b2 hN hkN
      rw [et] at hfk
      rw [ht] at R hah ⊢
      have hnx := zaq (b := b) (n := n) (t := t) (by omega)
      have hcb : n / b ^ t % b < b := Nat.mod_lt _ (by omega)
      generalize hc : n / b ^ t % b = c at hfk hnx hcb
      have hf2 := m2 _ _ hf
      have hfH2 := zU _ _ _ _ hf2
      obtain ⟨dx2, hp2⟩ := TT2.obj
      have hat : atI ((yp b n).map V.int) (0 + (k : Int)) = some (V.int (c : Nat)) := by rw [Int.zero_add]; exact xU (by rw [List.getElem?_map, hfk]; rfl)
      refine ⟨_, rfl, fa, _, rfl, .inl (SqL.of hfH2), _, rfl, _, _, rfl, rfl, _, _, rfl, rfl, ?_⟩
      dsimp only
      rw [List.length_map, hN, show ((N : Int) - (0 + (k : Int)) - 1) = (t : Int) by omega]
      refine ⟨_, rfl, _, rfl, p, dx2, _, rfl, hp2, Zz _ _ _, _, rfl, _, rfl, _, rfl, fa, _, _, _, rfl, rfl, SqL.of hfH2, hat, _, rfl, _, rfl, ?_⟩
      refine ⟨p, tl, la, wa, l2, b, ls, ws, L', wt, sc, sz, M, i, c, t, sc ^ (t + 1) * ahd wt sc b (n / b ^ (t + 1)), rfl, TT2, G, hL', by omega, by omega, by omega, hi, by omega, hsc, hwt, hah, fun L3 H3 hL3 TT3 m3 hmx => ?_⟩
      have hL3' : L3 ≤ 1000 := by omega
      have m23 := m2.trans m3
      have hf3 := zU _ _ _ _ (m23 _ _ hf)
      refine ⟨_, _, rfl, rfl, ?_⟩
      have eum := V4 G.ne b2 (w := wt) (sc := sc) R t (s := c) (by omega)
      rw [← hnx] at eum
      obtain ⟨dx3, sa3, srs3, z3, q1, q2, q3, q4, q5⟩ := Uq TT3.ta G hi hcb
      obtain ⟨dp3, hp3⟩ := TT3.obj
      refine ⟨_, rfl, p, CS, dp3, _, _, rfl, hp3, zE.cl, zE.n_tails, uc _ _ _, tl, C, dx3, _, _, rfl, q1, zy.cl, zy.n_steps, ue _ _ _ _, _, rfl, sa3, _, _, _, rfl, rfl, SqL.of q2, q3, _, rfl, _, rfl, fa, _, _, _, rfl, rfl, SqL.of hf3, hat, z3.1, _, _, _, rfl, rfl, SqL.of q4, q5, ?_⟩
      rcases WX G hi R hcb with ⟨j, e1, e2, e3⟩ | ⟨e1, e2, e3⟩
      · rw [e1]
        refine ⟨_, rfl, rfl, _, rfl, qZ ?_⟩
        refine ⟨_, rfl, _, rfl, p, dp3, _, rfl, hp3, Zz _ _ _, _, rfl, _, rfl, _, rfl, fa, _, _, _, rfl, rfl, SqL.of hf3, hat, _, rfl, p, tl, la, wa, l2, b, ls, ws, L3, wt, sc, sz, M, j, c, t, rfl, TT3, hcb, by omega, ?_⟩
        refine ⟨_, _, rfl, rfl, ⟨some (.int (0 + (k : Int))), some (.int t), j, L3, ?_, e2, ?_, by omega, hL3', TT3, m23⟩⟩
        · have ea : sc ^ t * ahd wt sc b (n / b ^ t) = sc ^ (t + 1) * ahd wt sc b (n / b ^ (t + 1)) + (if j = ws.length then 0 else sc ^ t * wt c) := by
            by_cases z : j = ws.length
            · rw [if_pos z]
              rw [z, List.getElem?_eq_none (Nat.le_refl _)] at e3
              rcases e3 with ⟨e3, _⟩ | ⟨_, _, e3⟩
              · have hm0 : n / b ^ (t + 1) = 0 := by
                  by_cases y : n / b ^ (t + 1) = 0
                  · exact y
                  · exact absurd e3 (Nat.ne_of_gt (JR b2 (Nat.pos_of_ne_zero y)))
                rw [hnx, e3, hm0]
                show sc ^ t * 0 = sc ^ (t + 1) * 0 + 0
                simp
              · cases e3
            · rw [if_neg z]
              have hjl : j < ws.length := by omega
              rw [List.getElem?_eq_getElem hjl] at e3
              rcases e3 with ⟨_, e3⟩ | ⟨e3, _, _⟩
              · cases e3
              · rw [hnx, zcc b2 hcb e3, Nat.mul_add, ← Nat.mul_assoc, show sc ^ (t + 1) = sc ^ t * sc from Nat.pow_succ _ _]
          rw [show N - (k + 1) = t by omega, ← eum, ea]
          show [_, _, _, some (V.int (((sc ^ (t + 1) * ahd wt sc b (n / b ^ (t + 1)) : Nat) : Int) + ((if j = ws.length then 0 else sc ^ t * wt c : Nat) : Int))), some (V.int ((tot (gd ls b) (fw wt sc b) (n / b ^ (t + 1) * b ^ (t + 1)) : Nat) + ((sc ^ (t + 1) * ahd wt sc b (n / b ^ (t + 1)) * under ls b t ws[i]? c + jn ls b wt sc t ws[i]? c : Nat) : Int))), _, _] = [_, _, _, some (V.int ((sc ^ (t + 1) * ahd wt sc b (n / b ^ (t + 1)) + (if j = ws.length then 0 else sc ^ t * wt c) : Nat) : Int)), some (V.int ((tot (gd ls b) (fw wt sc b) (n / b ^ (t + 1) * b ^ (t + 1)) + (sc ^ (t + 1) * ahd wt sc b (n / b ^ (t + 1)) * under ls b t ws[i]? c + jn ls b wt sc t ws[i]? c) : Nat) : Int)), _, _]
          rw [← Int.natCast_add, ← Int.natCast_add]
        · rw [show N - (k + 1) = t by omega, hnx]; exact e3
      · rw [e1]
        refine ⟨_, rfl, rfl, _, rfl, ji ⟨_, rfl, ?_⟩⟩
        have q := kk L3 H3 (by omega) TT3 m23 hL3'
        rw [← hnx] at e2 e3
        have ebad := zay G.ne b2 e2 e3 t (r := n % b ^ t) (Nat.le_of_lt (Nat.mod_lt _ (Nat.pow_pos (by omega))))
        rw [Nat.mul_comm, Nat.div_add_mod, Nat.mul_comm] at ebad
        have et := Xi (f := fw wt sc b) (p := gd ls b) (A := n / b ^ t * b ^ t) (B := n) (Nat.div_mul_le_self _ _) ebad.symm
        rw [et, ← eum, Int.natCast_add] at q
        exact q
    · rintro σ H2 ⟨v5, v6, i, L', rfl, hi, R, hLL, hL', TT2, m2⟩
      have q := kk L' H2 hLL TT2 m2 hL'
      have e : n / b ^ (N - (N : Int).toNat) * b ^ (N - (N : Int).toNat) = n := by rw [Int.toNat_natCast, Nat.sub_self, Nat.pow_zero, Nat.div_one, Nat.mul_one]
      rw [e]
      exact ⟨_, rfl, q⟩
end
theorem zeP {c : Bool} {A B : Prop} (hc : c = true) (h : A) : if c = true then A else B := by rw [hc]; exact ji h
theorem zeM {c : Bool} {A B : Prop} (hc : c = false) (h : B) : if c = true then A else B := by rw [hc]; exact qZ h
section
variable {P : Program} {w : World} {K : PySem.W.Frag} {mg : Str → Option Value} {base : Heap} {T0 C CS : Addr}
def zdO (T0 C CS : Addr) (b : Nat) (ls : List (List Int)) (wt : Nat → Nat) (sc sz : Nat) (H : Hp) (x : Addr) (H' : Hp) : Prop := ∃ (tl la wa l2 : Addr) (ws : List (List Int)) (L : Nat), TotAt C CS H' x tl la wa l2 b ls ws L wt sc sz (sz + 1) ∧ GoodT b ls ws ∧ L ≤ 801 ∧ SameL T0 H H' ∧ LT T0 H' ∧ H la = none ∧ H l2 = none
theorem QG {r : Addr} {b : Nat} {bl : Addr} {zs : List (Addr × List Int)} {wl : Addr} {wt : Nat → Nat} {sc sz : Nat} {H : Hp} (R : RuleAt H r b bl zs) (g : GoodRule b (zs.map (·.2))) (hT : LT T0 H) (hwl : H wl = some (.lst ((vP b wt sc 0).map V.int))) (hsc : sc ≤ 16) (hsz : sz ≤ 800) (hwt : ∀ c, c < b → wt c < 2 ^ 64) {R' : Addr → Hp → Prop} (k : ∀ x H', zdO T0 C CS b (zs.map (·.2)) wt sc sz H x H' → R' x H') :
    ∀ x dx, H x = none → H dx = none → dx ≠ x → jV T0 C CS (.ref x :: ([.ref r, .ref wl, .int (sc : Nat), .int (sz : Nat)] ++ [])) (upd (upd H dx (.own x)) x (.ins CS dx [])) (fun v H2 => v = .non ∧ R' x H2) E0 := by
  intro x dx nx ndx nex
  have s0 := Jm (C := CS) nx ndx
  refine ⟨x, dx, r, b, bl, zs, wl, wt, sc, sz, rfl, zm, R.same s0, g, hT.same s0, s0 _ _ hwl, hsc, hsz, hwt, fun tl la wa l2 ws L H' TT G hL fr hT' hla hl2 => ⟨rfl, k x H' ⟨tl, la, wa, l2, ws, L, TT, G, hL, fun c o hc e => fr c o (zB e nx) hc (s0 c o e), hT', s0.free hla, s0.free hl2⟩⟩⟩
theorem UG {Q : VK} {b n : Nat} {ls : List (List Int)} {wt : Nat → Nat} {sc : Nat} {H H2 H3 : Hp} {x fa : Addr} (hsc : sc ≤ 16) (hwt : ∀ c, c < b → wt c < 2 ^ 64) (hn : n < 2 ^ 800) (M : zdO T0 C CS b ls wt sc (yp b n).length H2 x H3) (hfa : H2 fa = some (.lst ((yp b n).map V.int))) (hT2 : LT T0 H2) (hs : SameL T0 H H2) (hfr : ∀ c, H2 c = none → H c = none) (kk : ∀ H', SameL T0 H H' → LT T0 H' → Q (.int ((tot (gd ls b) (fw wt sc b) n : Nat) : Int)) H') : ∃ dx fs, H3 x = some (.ins CS dx fs) ∧ fs.lookup ("total_below" : Str) = none ∧ vd C CS [.ref x, .ref fa] H3 Q E0 := by
  obtain ⟨tl, la, wa, l2, ws, L, TT, G, hL, sL, hT3, hla, hl2⟩ := M
  obtain ⟨dx, hp⟩ := TT.obj
  have fala : fa ≠ la := zB hfa hla
  refine ⟨dx, _, hp, Zz _ _ _, x, tl, la, wa, l2, b, ls, ws, L, wt, sc, _, _, fa, n, rfl, TT, G, hL, rfl, rfl, hsc, hwt, ?_, hn, fun L' H' hL' TT' m' hL2 => ?_⟩
  · rw [yt (by simpa using fala)]
    exact sL _ _ (hT2.lst hfa) hfa
  · obtain ⟨xs, hx⟩ := TT.ta.la
    exact kk H' (Z0 (hs.trans sL) (hfr la hla) m') (hT3.off hx m')
def zew : List (List Int) → Nat → Nat → Prop := fun _ _ n => n < 2 ^ 700
abbrev vH (T0 : Addr) : Sp := qF T0 zew (fun ls b n v => v = .int ((tot (gd ls b) (fun k => k) n : Nat) : Int))
theorem wid {b : Nat} (b16 : b ≤ 16) : ∀ c, c < b → (fun c : Nat => c) c < 2 ^ 64 := fun c hc => Nat.lt_of_lt_of_le (show c < 16 by omega) (by decide)
theorem Wu : zG ["rule", "n", "figures"] ["rule", "n"] (zu vq) := ⟨rfl, rfl, rfl, by decide +kernel, rfl, by decide +kernel, by decide +kernel⟩
theorem Q5 {f f1 f2 f3 f4 : Addr} {fd fd1 fd2 fd3 fd4 : FuncData} (D : Df K mg "sum_below" vq ["rule", "n"] f fd) (zM : Df K mg "check_rule" yM ["thing"] f1 fd1) (zN : FnOk P w K mg base CX0 7 f1 fd1 ["thing"] yK) (zW : Df K mg "figures_of" xG ["base", "n"] f2 fd2) (zZ : FnOk P w K mg base CX0 4 f2 fd2 ["base", "n"] xF)
    (wG : Df K mg "number_totals" vM ["rule", "size"] f3 fd3) (vf : FnOk P w K mg base CX0 11 f3 fd3 ["rule", "size"] (uw T0 C CS)) (yg : Mt K CS "Totals.total_below" "total_below" yO ["self", "figures"] f4 fd4) (yl : FnOk P w K mg base CX0 4 f4 fd4 ["self", "figures"] (vd C CS)) (zE : ClS K mg CS) (T : Blt mg) : FnOk P w K mg base CX0 12 f fd ["rule", "n"] (vH T0) := by
  refine D.fn.ok Wu (fun vs H Q E h => ?_) (fun cdv A outer s H vs Q E hr h => ?_)
  · obtain ⟨r, b, bl, zs, n, rfl, _⟩ := h; rfl
  · obtain ⟨r, b, bl, zs, n, rfl, R, g, hn, hT, kk⟩ := h
    have b2 := g.b2
    have b16 := g.b16
    have hlen : (yp b n).length ≤ 800 := by have := tR b2 700 n hn; omega
    have hn8 : n < 2 ^ 800 := Nat.lt_of_lt_of_le hn (Nat.pow_le_pow_right (by decide) (by decide))
    refine ⟨_, (zg (yP (zF zM zN (hr.mono (by decide)) (zc (pv 0) zf)))
      (zg (zH (i := 2) Wu.nd rfl (Or.inl rfl) (zF zW zZ (hr.mono (by decide)) (zc (zP (xM K) (pv 0) zj (fun _ _ => rfl)) (zc (pv 1) zf))))
      (zq (zJ (w5 yg zE.cl yl (hr.mono (by decide)) (zF wG vf (hr.mono (by decide)) (zc (pv 0) (zc (zK (vB K) (by rfl) T.n_len PySem.boot_len (zc (pv 2) zf)) zf))) (zc (pv 2) zf)))))), ?_⟩
    refine ⟨_, rfl, r, b, bl, zs, rfl, R, g, fun H1 m1 => ?_⟩
    have R1 := R.same m1
    refine ⟨_, rfl, r, _, _, V.int b, rfl, rfl, SqT.of R1.tu, rfl, _, rfl, b, n, rfl, b2, b16, Nat.lt_of_lt_of_le hn (Nat.pow_le_pow_right (by decide) (by decide)), fun fa H2 hfa hv s2 => ?_⟩
    have m2 := m1.trans s2
    refine ⟨_, rfl, _, rfl, fa, _, rfl, .inl (SqL.of hv), r, b, bl, zs, (yp b n).length, by rw [List.length_map]; rfl, R.same m2, g, hT.same m2, hlen, fun x tl la wa l2 ws L H3 TT G hL sL hT3 hla hl2 => ?_⟩
    obtain ⟨dx, fs, e1, e2, e3⟩ := UG (T0 := T0) (Q := Q) (H := H) (n := n) (fa := fa) b16 (wid b16) hn8 ⟨tl, la, wa, l2, ws, L, TT, G, hL, sL, hT3, hla, hl2⟩ hv (hT.same m2) (SameL.of m2) (fun c hc => m2.free hc) (fun H' s' hT' => kk _ H' (congrArg (fun k : Nat => V.int (k : Int)) (vR (fun _ _ => rfl) (fun k _ => JK b2 k))) s' hT')
    exact ⟨x, dx, fs, rfl, e1, e2, _, rfl, e3⟩
abbrev ww (T0 : Addr) : Sp := qF T0 zew (fun ls b n v => v = .int ((tot (gd ls b) (fw (fun c => c) 1 b) n : Nat) : Int))
theorem J9 (b : Nat) (w : Nat → Nat) : (vP b w 1 0).map V.int = (List.range b).map fun (c : Nat) => V.int (w c : Nat) := by
  unfold vP
  rw [List.map_map]
  apply List.map_congr_left
  intro c _
  show V.int ((1 ^ 0 * w c : Nat) : Int) = V.int (w c : Int)
  rw [Nat.pow_zero, Nat.one_mul]
theorem Yc : zG ["rule", "n", "figures"] ["rule", "n"] (zu xW) := ⟨rfl, rfl, rfl, by decide +kernel, rfl, by decide +kernel, by decide +kernel⟩
theorem WM {f f1 f2 f3 f4 : Addr} {fd fd1 fd2 fd3 fd4 : FuncData} (D : Df K mg "figures_below" xW ["rule", "n"] f fd) (zM : Df K mg "check_rule" yM ["thing"] f1 fd1) (zN : FnOk P w K mg base CX0 7 f1 fd1 ["thing"] yK) (zW : Df K mg "figures_of" xG ["base", "n"] f2 fd2) (zZ : FnOk P w K mg base CX0 4 f2 fd2 ["base", "n"] xF)
    (jO : Mk K CS f3) (jJ : Binds K fd3 ["self", "rule", "weights", "scale", "size"] []) (wj : FnOk P w K mg base CX0 9 f3 fd3 ["self", "rule", "weights", "scale", "size"] (jV T0 C CS)) (yg : Mt K CS "Totals.total_below" "total_below" yO ["self", "figures"] f4 fd4) (yl : FnOk P w K mg base CX0 4 f4 fd4 ["self", "figures"] (vd C CS)) (zE : ClS K mg CS) (T : Blt mg) : FnOk P w K mg base CX0 12 f fd ["rule", "n"] (ww T0) := by
  refine D.fn.ok Yc (fun vs H Q E h => ?_) (fun cdv A outer s H vs Q E hr h => ?_)
  · obtain ⟨r, b, bl, zs, n, rfl, _⟩ := h; rfl
  · obtain ⟨r, b, bl, zs, n, rfl, R, g, hn, hT, kk⟩ := h
    have b2 := g.b2
    have b16 := g.b16
    have hlen : (yp b n).length ≤ 800 := by have := tR b2 700 n hn; omega
    have hn8 : n < 2 ^ 800 := Nat.lt_of_lt_of_le hn (Nat.pow_le_pow_right (by decide) (by decide))
    refine ⟨_, (zg (yP (zF zM zN (hr.mono (by decide)) (zc (pv 0) zf)))
      (zg (zH (i := 2) Yc.nd rfl (Or.inl rfl) (zF zW zZ (hr.mono (by decide)) (zc (zP (xM K) (pv 0) zj (fun _ _ => rfl)) (zc (pv 1) zf))))
      (zq (zJ (w5 yg zE.cl yl (hr.mono (by decide)) (Zr jO wj (hr.mono (by decide)) rfl zE.nm jJ .nil XD (zc (pv 0) (zc (Wy rfl rfl T.n_list rfl T.n_range (zP (xM K) (pv 0) zj (fun _ _ => rfl))) (zc zj (zc (zK (vB K) (by rfl) T.n_len PySem.boot_len (zc (pv 2) zf)) zf))))) (zc (pv 2) zf)))))), ?_⟩
    refine ⟨_, rfl, r, b, bl, zs, rfl, R, g, fun H1 m1 => ?_⟩
    have R1 := R.same m1
    refine ⟨_, rfl, r, _, _, V.int b, rfl, rfl, SqT.of R1.tu, rfl, _, rfl, b, n, rfl, b2, b16, Nat.lt_of_lt_of_le hn (Nat.pow_le_pow_right (by decide) (by decide)), fun fa H2 hfa hv s2 => ?_⟩
    have R2 := R1.same s2
    refine ⟨_, rfl, _, rfl, r, _, _, V.int b, rfl, rfl, SqT.of R2.tu, rfl, b, rfl, by omega, fun q hq => ?_⟩
    have m3 := (m1.trans s2).trans (zp hq (o := .lst ((List.range b).map fun (c : Nat) => V.int c)))
    have hv3 := zp hq (o := .lst ((List.range b).map fun (c : Nat) => V.int c)) _ _ hv
    have hwl : upd H2 q (.lst ((List.range b).map fun (c : Nat) => V.int c)) q = some (.lst ((vP b (fun c => c) 1 0).map V.int)) := by rw [zm, J9]
    generalize upd H2 q (.lst ((List.range b).map fun (c : Nat) => V.int c)) = H3 at m3 hv3 hwl
    refine ⟨_, rfl, fa, _, rfl, .inl (SqL.of hv3), ?_⟩
    rw [List.length_map]
    refine QG (sc := 1) (R.same m3) g (hT.same m3) hwl (by decide) hlen (wid b16) ?_
    intro x H4 M
    obtain ⟨dx, fs, e1, e2, e3⟩ := UG (T0 := T0) (Q := Q) (H := H) (n := n) (fa := fa) (by decide) (wid b16) hn8 M hv3 (hT.same m3) (SameL.of m3) (fun c hc => m3.free hc) (fun H' s' hT' => kk _ H' rfl s' hT')
    exact ⟨x, dx, fs, rfl, e1, e2, _, rfl, e3⟩
def vZ (T0 : Addr) : Sp := fun vs H Q _ => ∃ (r : Addr) (b : Nat) (bl : Addr) (zs : List (Addr × List Int)) (n c : Nat), vs = [.ref r, .int n, .int c] ∧ RuleAt H r b bl zs ∧ GoodRule b (zs.map (·.2)) ∧ n < 2 ^ 700 ∧ c < b ∧ LT T0 H ∧ ∀ H', SameL T0 H H' → LT T0 H' → Q (.int ((tot (gd (zs.map (·.2)) b) (fw (one c) 1 b) n : Nat) : Int)) H'
theorem Zd : zG ["rule", "n", "figure", "figures", "weights"] ["rule", "n", "figure"] (zu wY) := ⟨rfl, rfl, rfl, by decide +kernel, rfl, by decide +kernel, by decide +kernel⟩
theorem Ul {f f1 f2 f3 f4 f5 : Addr} {fd fd1 fd2 fd3 fd4 fd5 : FuncData} (D : Df K mg "often_below" wY ["rule", "n", "figure"] f fd) (zM : Df K mg "check_rule" yM ["thing"] f1 fd1) (zN : FnOk P w K mg base CX0 7 f1 fd1 ["thing"] yK) (zW : Df K mg "figures_of" xG ["base", "n"] f2 fd2) (zZ : FnOk P w K mg base CX0 4 f2 fd2 ["base", "n"] xF) (tD : Df K mg "is_figure" jj ["base", "thing"] f5 fd5) (qL : FnOk P w K mg base CX0 2 f5 fd5 ["base", "thing"] jC)
    (jO : Mk K CS f3) (jJ : Binds K fd3 ["self", "rule", "weights", "scale", "size"] []) (wj : FnOk P w K mg base CX0 9 f3 fd3 ["self", "rule", "weights", "scale", "size"] (jV T0 C CS)) (yg : Mt K CS "Totals.total_below" "total_below" yO ["self", "figures"] f4 fd4) (yl : FnOk P w K mg base CX0 4 f4 fd4 ["self", "figures"] (vd C CS)) (zE : ClS K mg CS) (T : Blt mg) : FnOk P w K mg base CX0 12 f fd ["rule", "n", "figure"] (vZ T0) := by
  refine D.fn.ok Zd (fun vs H Q E h => ?_) (fun cdv A outer s H vs Q E hr h => ?_)
  · obtain ⟨r, b, bl, zs, n, c, rfl, _⟩ := h; rfl
  · obtain ⟨r, b, bl, zs, n, c, rfl, R, g, hn, hcb, hT, kk⟩ := h
    have b2 := g.b2
    have b16 := g.b16
    have hlen : (yp b n).length ≤ 800 := by have := tR b2 700 n hn; omega
    have hn8 : n < 2 ^ 800 := Nat.lt_of_lt_of_le hn (Nat.pow_le_pow_right (by decide) (by decide))
    refine ⟨_, (zg (yP (zF zM zN (hr.mono (by decide)) (zc (pv 0) zf)))
      (zg (zH (i := 3) Zd.nd rfl (Or.inl rfl) (zF zW zZ (hr.mono (by decide)) (zc (zP (xM K) (pv 0) zj (fun _ _ => rfl)) (zc (pv 1) zf))))
      (zg (xP (tX (uE (zF tD qL (hr.mono (by decide)) (zc (zP (xM K) (pv 0) zj (fun _ _ => rfl)) (zc (pv 2) zf)))))
        (zq Y4)
        yh)
      (zg (jZ (i := 4) (show CScope (zu wY) _ "each" ["rule", "n", "figure", "figures", "weights"] ["figure"] [2] from ⟨rfl, by decide +kernel, by decide +kernel, rfl, by decide +kernel, rfl, by decide +kernel, by decide +kernel⟩) rfl Zd.nd rfl (Or.inl rfl) (yw rfl T.n_range (zc (zP (xM K) (pv 0) zj (fun _ _ => rfl)) zf)) (fun _ _ _ _ => wK) (fun _ _ _ _ => (zak (ym jz (pv 0) (pv 1) (yc _)) zj zj)))
      (zq (zJ (w5 yg zE.cl yl (hr.mono (by decide)) (Zr jO wj (hr.mono (by decide)) rfl zE.nm jJ .nil XD (zc (pv 0) (zc (pv 4) (zc zj (zc (zK (vB K) (by rfl) T.n_len PySem.boot_len (zc (pv 3) zf)) zf))))) (zc (pv 3) zf)))))))), ?_⟩
    refine ⟨_, rfl, r, b, bl, zs, rfl, R, g, fun H1 m1 => ?_⟩
    have R1 := R.same m1
    refine ⟨_, rfl, r, _, _, V.int b, rfl, rfl, SqT.of R1.tu, rfl, _, rfl, b, n, rfl, b2, b16, Nat.lt_of_lt_of_le hn (Nat.pow_le_pow_right (by decide) (by decide)), fun fa H2 hfa hv s2 => ?_⟩
    have R2 := R1.same s2
    refine ⟨_, rfl, r, _, _, V.int b, rfl, rfl, SqT.of R2.tu, rfl, _, rfl, (b : Int), (c : Int), rfl, _, rfl, ?_⟩
    rw [decide_eq_true (show (0 : Int) ≤ (c : Int) ∧ (c : Int) < (b : Int) by omega)]
    refine qZ ?_
    refine ⟨_, rfl, r, _, _, V.int b, rfl, rfl, SqT.of R2.tu, rfl, (b : Int), rfl, by omega, by omega, vK (lo := 0) (n := (b : Int).toNat) (fun j ys Hc => Hc = H2 ∧ ys = (List.range j).map fun (d : Nat) => V.int (one c d : Nat)) ⟨rfl, rfl⟩ ?_ ?_⟩
    · rintro j ys Hc hj ⟨rfl, rfl⟩
      refine ⟨by rw [List.length_map, List.length_range]; exact Nat.lt_of_lt_of_le (show j < 17 by omega) (by decide), ?_⟩
      unfold YS
      dsimp only
      rw [if_pos rfl]
      refine ⟨_, rfl, _, rfl, rfl, _, rfl, ?_⟩
      by_cases e : j = c
      · subst e
        refine zeP (by simp) ⟨rfl, ?_⟩
        rw [List.range_succ, List.map_append]
        simp [one]
      · refine zeM (by simp; omega) ⟨rfl, ?_⟩
        rw [List.range_succ, List.map_append]
        simp [one, e]
    rintro ys Hc ⟨rfl, rfl⟩ q hq
    have m3 := (m1.trans s2).trans (zp hq (o := .lst ((List.range (b : Int).toNat).map fun (d : Nat) => V.int (one c d : Nat))))
    have hv3 := zp hq (o := .lst ((List.range (b : Int).toNat).map fun (d : Nat) => V.int (one c d : Nat))) _ _ hv
    have hwl : upd Hc q (.lst ((List.range (b : Int).toNat).map fun (d : Nat) => V.int (one c d : Nat))) q = some (.lst ((vP b (one c) 1 0).map V.int)) := by rw [zm, J9, Int.toNat_natCast]
    generalize upd Hc q (.lst ((List.range (b : Int).toNat).map fun (d : Nat) => V.int (one c d : Nat))) = H3 at m3 hv3 hwl
    have hone : ∀ d, d < b → one c d < 2 ^ 64 := fun d _ => by unfold one; split <;> decide
    refine ⟨_, rfl, _, rfl, _, rfl, fa, _, rfl, .inl (SqL.of hv3), ?_⟩
    rw [List.length_map]
    refine QG (sc := 1) (R.same m3) g (hT.same m3) hwl (by decide) hlen hone ?_
    intro x H4 M
    obtain ⟨dx, fs, e1, e2, e3⟩ := UG (T0 := T0) (Q := Q) (H := H) (n := n) (fa := fa) (by decide) hone hn8 M hv3 (hT.same m3) (SameL.of m3) (fun c hc => m3.free hc) (fun H' s' hT' => kk H' s' hT')
    exact ⟨x, dx, fs, rfl, e1, e2, _, rfl, e3⟩
end
section
variable {A B : Prop}
theorem neF {x y : Int} (h : x = y) (q : B) : if (!decide (V.int x = V.int y)) = true then A else B := by
  rw [decide_eq_true (by rw [h])]; exact q
theorem zfy {c : Prop} [Decidable c] (h : c) (q : A) : if decide c = true then A else B := by
  rw [decide_eq_true h]; exact ji q
theorem zeO {c : Prop} [Decidable c] (h : ¬ c) (q : B) : if decide c = true then A else B := by
  rw [decide_eq_false h]; exact qZ q
theorem bF {k : Bool} (h : ¬ k = true) (q : B) : if k = true then A else B := by rw [if_neg h]; exact q
end
abbrev zen : List (List Int) → Nat → Nat → V → Prop := fun _ _ _ v => v = .bl true
theorem zaE {b n : Nat} (h2 : 2 ≤ b) : ∃ c : Nat, c < b ∧ atI ((yp b n).map V.int) (-1) = some (V.int (c : Int)) := by
  have ne : yp b n ≠ [] := QT
  have hm := List.getLast_mem ne
  obtain ⟨h0, h1⟩ := Ww h2 n _ hm
  refine ⟨((yp b n).getLast ne).toNat, by omega, ?_⟩
  rw [show (((yp b n).getLast ne).toNat : Int) = (yp b n).getLast ne by omega]
  have e : yp b n = (yp b n).dropLast ++ [(yp b n).getLast ne] := (List.dropLast_concat_getLast ne).symm
  conv => lhs; rw [e, List.map_append]
  exact zag _ _
section
variable {P : Program} {w : World} {K : PySem.W.Frag} {mg : Str → Option Value} {base : Heap} {T0 : Addr}
abbrev uF (T0 : Addr) : Sp := qF T0 (fun _ _ n => n < 2 ^ 600) zen
theorem xZ : zG ["rule", "n", "good", "own", "figure", "more"] ["rule", "n"] (zu vI) := ⟨rfl, rfl, rfl, by decide +kernel, rfl, by decide +kernel, by decide +kernel⟩
set_option maxHeartbeats 0 in
theorem Xu {f f1 f2 f3 f4 f5 : Addr} {fd fd1 fd2 fd3 fd4 fd5 : FuncData} (D : Df K mg "_law_grown_right" vI ["rule", "n"] f fd) (Wf : Df K mg "is_good" Xk ["rule", "n"] f1 fd1) (Uy : FnOk P w K mg base CX0 8 f1 fd1 ["rule", "n"] X4) (zW : Df K mg "figures_of" xG ["base", "n"] f2 fd2) (zZ : FnOk P w K mg base CX0 4 f2 fd2 ["base", "n"] xF) (zQ : Df K mg "sum_below" vq ["rule", "n"] f3 fd3) (zT : FnOk P w K mg base CX0 12 f3 fd3 ["rule", "n"] (vH T0))
    (zX : Df K mg "figures_below" xW ["rule", "n"] f4 fd4) (yd : FnOk P w K mg base CX0 12 f4 fd4 ["rule", "n"] (ww T0)) (yV : Df K mg "often_below" wY ["rule", "n", "figure"] f5 fd5) (xH : FnOk P w K mg base CX0 12 f5 fd5 ["rule", "n", "figure"] (vZ T0)) (T : Blt mg) (U : Qd mg) : FnOk P w K mg base CX0 13 f fd ["rule", "n"] (uF T0) := by
  refine D.fn.ok xZ (fun vs H Q E h => ?_) (fun cdv A outer s H vs Q E hr h => ?_)
  · obtain ⟨r, b, bl, zs, n, rfl, _⟩ := h; rfl
  · obtain ⟨r, b, bl, zs, n, rfl, R, g, hn, hT, kk⟩ := h
    have b2 := g.b2
    have b16 := g.b16
    have h67 : (2 : Nat) ^ 600 < 2 ^ 700 := Nat.pow_lt_pow_right (by decide) (by decide)
    have h79 : (2 : Nat) ^ 700 < 2 ^ 900 := Nat.pow_lt_pow_right (by decide) (by decide)
    generalize (2 : Nat) ^ 600 = p6 at hn h67
    have hn7 : n < 2 ^ 700 := Nat.lt_trans hn h67
    have hn17 : n + 1 < 2 ^ 700 := Nat.lt_of_le_of_lt hn h67
    have hn9 : n < 2 ^ 900 := Nat.lt_trans hn7 h79
    clear h79 h67
    obtain ⟨gg, hgg, hg1, htot⟩ : ∃ gg : Nat, (if lacks (zs.map (·.2)) (yp b n) = true then (1 : Int) else 0) = (gg : Int) ∧ gg ≤ 1 ∧ ∀ fn : Nat → Nat, ((tot (gd (zs.map (·.2)) b) fn (n + 1) : Nat) : Int) - ((tot (gd (zs.map (·.2)) b) fn n : Nat) : Int) = (gg : Int) * (fn n : Nat) := by
      by_cases z : gd (zs.map (·.2)) b n = true
      · refine ⟨1, if_pos z, by decide, fun fn => ?_⟩
        rw [tot, if_pos z]; omega
      · refine ⟨0, if_neg z, by decide, fun fn => ?_⟩
        rw [tot, if_neg z]; simp
    refine ⟨_, (zg (zH (i := 2) xZ.nd rfl (Or.inl rfl) (Z5 Vf (by rfl) T.n_int boot_int (zc (zF Wf Uy (hr.mono (by decide)) (zc (pv 0) (zc (pv 1) zf))) zf)))
      (zg (zH (i := 3) xZ.nd rfl (Or.inl rfl) (zF zW zZ (hr.mono (by decide)) (zc (zP (xM K) (pv 0) zj (fun _ _ => rfl)) (zc (pv 1) zf))))
      (zg (xP (ym Vi (zA xV (zF zQ zT (hr.mono (by decide)) (zc (pv 0) (zc (zA yN (pv 1) zj) zf))) (zF zQ zT (hr.mono (by decide)) (zc (pv 0) (zc (pv 1) zf)))) (zA wD (pv 2) (pv 1)) (yc _))
        (zq (zJ jA))
        yh)
      (zg (xP (ym Vi (zA xV (zF zX yd (hr.mono (by decide)) (zc (pv 0) (zc (zA yN (pv 1) zj) zf))) (zF zX yd (hr.mono (by decide)) (zc (pv 0) (zc (pv 1) zf)))) (zA wD (pv 2) (zK (QM K rfl) (by rfl) U.n_sum boot_sum (zc (pv 3) zf))) (yc _))
        (zq (zJ jA))
        yh)
      (zg (vU PassesOwn.never rfl (Qe K (xm (zc zj (zc (zP (yR K) (pv 3) (zbs Q7 zj) (fun _ _ => rfl)) zf)))) (yZ (i := 4) xZ.nd rfl (Or.inl rfl))
        (zg (zH (i := 5) xZ.nd rfl (Or.inl rfl) (zA xV (zF yV xH (hr.mono (by decide)) (zc (pv 0) (zc (zA yN (pv 1) zj) (zc (pv 4) zf)))) (zF yV xH (hr.mono (by decide)) (zc (pv 0) (zc (pv 1) (zc (pv 4) zf))))))
        (zq (xP (ym Vi (pv 5) (zA wD (pv 2) (YM PySem.F.plainAttrs_list PySem.F.slot_list_count PySem.F.type_list_count (zcE K) (pv 3) (zc (pv 4) zf))) (yc _))
          (zq (zJ jA))
          yh))))
      (zq (zJ jA))))))), ?_⟩
    refine ⟨_, rfl, _, rfl, r, b, bl, zs, n, rfl, R, g, hn9, fun H1 m1 => .inr ⟨_, rfl, ?_⟩⟩
    rw [hgg]
    have R1 := R.same m1
    refine ⟨_, rfl, r, _, _, V.int b, rfl, rfl, SqT.of R1.tu, rfl, _, rfl, b, n, rfl, b2, b16, hn9, fun fa H2 hfa hv s2 => ?_⟩
    have R2 := R1.same s2
    have T2 := (hT.same m1).same s2
    have S2 := SameL.of (T := T0) (m1.trans s2)
    refine ⟨_, rfl, _, rfl, _, _, rfl, rfl, r, b, bl, zs, n + 1, by rw [Int.natCast_add]; rfl, R2, g, hn17, T2, fun v3 H3 e3 s3 T3 => ?_⟩
    subst e3
    have R3 := R2.sameL T2 s3
    refine ⟨_, rfl, _, rfl, r, b, bl, zs, n, rfl, R3, g, hn7, T3, fun v4 H4 e4 s4 T4 => ?_⟩
    subst e4
    refine ⟨_, _, rfl, rfl, ?_⟩
    have R4 := R3.sameL T3 s4
    refine ⟨_, rfl, _, rfl, _, _, rfl, rfl, .inl ⟨by omega, by omega⟩, rfl, _, rfl, neF (htot _) ?_⟩
    have S4 := (S2.trans s3).trans s4
    have hv4 := s4 _ _ (T3.lst (s3 _ _ (T2.lst hv) hv)) (s3 _ _ (T2.lst hv) hv)
    refine ⟨_, rfl, _, rfl, _, _, rfl, rfl, r, b, bl, zs, n + 1, by rw [Int.natCast_add]; rfl, R4, g, hn17, T4, fun v5 H5 e5 s5 T5 => ?_⟩
    subst e5
    have R5 := R4.sameL T4 s5
    refine ⟨_, rfl, _, rfl, r, b, bl, zs, n, rfl, R5, g, hn7, T5, fun v6 H6 e6 s6 T6 => ?_⟩
    subst e6
    refine ⟨_, _, rfl, rfl, ?_⟩
    have R6 := R5.sameL T5 s6
    have hv6 := s6 _ _ (T5.lst (s5 _ _ (T4.lst hv4) hv4)) (s5 _ _ (T4.lst hv4) hv4)
    have nn : ∀ f ∈ yp b n, 0 ≤ f := fun f hf => (Ww b2 n f hf).1
    refine ⟨_, rfl, _, rfl, fa, _, rfl, SqL.of hv6, _, _, rfl, rfl, .inl ⟨by omega, by omega⟩, rfl, _, rfl, neF (by rw [← JW _ nn]; exact htot _) ?_⟩
    have S6 := (S4.trans s5).trans s6
    obtain ⟨lc, hlc, hat⟩ := zaE (n := n) b2
    refine ⟨_, rfl, _, rfl, fa, _, _, _, rfl, rfl, SqL.of hv6, hat, (by show 2 ≤ sizeLine; decide), fun q hq => ?_⟩
    have sq := zp hq (o := .lst [V.int 0, V.int (lc : Int)])
    have hq7 : upd H6 q (.lst [V.int 0, V.int (lc : Int)]) q = some (.lst [V.int 0, V.int (lc : Int)]) := zm
    have hv7 := sq _ _ hv6
    generalize upd H6 q (.lst [V.int 0, V.int (lc : Int)]) = H7 at sq hq7 hv7
    refine ⟨q, rfl, ⟨_, SqL.of hq7⟩, J6 (K := K) (a := q) (xs := [V.int 0, V.int (lc : Int)]) (fun i σ H8 => ∃ v4 v5 : Option V, σ = [some (.ref r), some (.int n), some (.int gg), some (.ref fa), v4, v5] ∧ SameL T0 H7 H8 ∧ LT T0 H8) ⟨none, none, rfl, fun _ _ _ e => e, T6.same sq⟩ (fun i σ H8 _ ⟨_, _, _, e, _⟩ => SqL.of (e _ _ ((T6.same sq).lst hq7) hq7)) ?_ ?_⟩
    · rintro i x σ H8 hx ⟨v4, v5, rfl, s8, T8⟩
      obtain ⟨c, rfl, hc⟩ : ∃ c : Nat, x = .int c ∧ c < b := by
        match i, hx with
        | 0, hx => exact ⟨0, (Option.some.inj hx).symm, by omega⟩
        | 1, hx => exact ⟨lc, (Option.some.inj hx).symm, hlc⟩
        | i + 2, hx => simp at hx
      have R8 := (R6.same sq).sameL (T6.same sq) s8
      refine ⟨_, rfl, _, rfl, _, _, rfl, rfl, _, rfl, r, b, bl, zs, n + 1, c, by rw [Int.natCast_add]; rfl, R8, g, hn17, hc, T8, fun H9 s9 T9 => ?_⟩
      have R9 := R8.sameL T8 s9
      refine ⟨_, rfl, _, rfl, _, rfl, r, b, bl, zs, n, c, rfl, R9, g, hn7, hc, T9, fun H10 s10 T10 => ⟨_, _, rfl, rfl, ?_⟩⟩
      have hv8 := s8 _ _ ((T6.same sq).lst hv7) hv7
      have hv9 := s9 _ _ (T8.lst hv8) hv8
      have hv10 := s10 _ _ (T9.lst hv9) hv9
      refine ⟨_, rfl, _, rfl, _, rfl, .inl ⟨rfl, _, SqL.of hv10⟩, _, rfl, fa, _, _, rfl, rfl, SqL.of hv10, _, _, rfl, rfl, .inl ⟨by omega, by omega⟩, rfl, _, rfl, neF (by rw [← U4 c _ nn]; exact htot _) ⟨_, _, rfl, (s8.trans s9).trans s10, T10⟩⟩
    · rintro σ H8 ⟨v4, v5, rfl, s8, T8⟩
      exact kk _ H8 rfl ((S6.trans (SameL.of sq)).trans s8) T8
end
theorem JX {c : Bool} {A B : Prop} (hc : c = true) (h : A) : if c = true then A else B := by rw [hc]; exact ji h
theorem zel {c : Bool} {A B : Prop} (hc : c = false) (h : B) : if c = true then A else B := by rw [hc]; exact qZ h
theorem zeH {b m : Nat} (h : b ≤ 16) (hm : m ≤ 61) : b ^ m ≤ 2 ^ 244 := by
  have h1 : b ^ m ≤ 16 ^ m := Nat.pow_le_pow_left h m
  have h2 : (16 : Nat) ^ m = 2 ^ (4 * m) := by rw [show (16 : Nat) = 2 ^ 4 from rfl, ← Nat.pow_mul]
  have h3 : 2 ^ (4 * m) ≤ 2 ^ 244 := Nat.pow_le_pow_right (by decide) (by omega)
  omega
theorem Wh {p : Nat → Bool} {f : Nat → Nat} {N : Nat} (h : many p N = 0) : tot p f N = 0 := (Xi (A := 0) (Nat.zero_le _) (by rw [h]; rfl)).trans rfl
theorem Y6 (u : Nat → Nat) : ∀ M : Nat, ((List.range M).map fun c => ((u c : Nat) : Int)).sum = (((List.range M).map u).sum : Nat)
  | 0 => rfl
  | M + 1 => by
    rw [List.range_succ, List.map_append, List.map_append, List.sum_append, List.sum_append, Y6 u M, Int.natCast_add]
    simp
def ofn (ls : List (List Int)) (b n c : Nat) : Nat := tot (gd ls b) (fw (one c) 1 b) n
theorem VM {ls : List (List Int)} {b n : Nat} (b2 : 2 ≤ b) (k : Nat → Nat) : ((List.range b).map fun c => k c * ofn ls b n c).sum = tot (gd ls b) (fw k 1 b) n := by
  unfold ofn
  rw [zbf]
  exact vR (fun _ _ => rfl) (fun m _ => U8 k b (yp b m) (fun f hf => by have := Ww b2 m f hf; omega))
theorem zcp {ls : List (List Int)} {b n : Nat} (b2 : 2 ≤ b) : many (gd ls b) n ≤ ((List.range b).map (ofn ls b n)).sum := by
  have e := VM (ls := ls) (n := n) b2 (fun _ => 1)
  simp only [Nat.one_mul] at e
  rw [e, ← JL]
  refine zbc (fun m => ?_) n
  show 1 ≤ wsum (fun _ => 1) 1 (yp b m)
  rw [JQ]
  cases h : yp b m with
  | nil => exact absurd h QT
  | cons c l => rw [List.map_cons, List.sum_cons]; omega
section
variable {P : Program} {w : World} {K : PySem.W.Frag} {mg : Str → Option Value} {base : Heap} {T0 : Addr}
abbrev vC (T0 : Addr) : Sp := qF T0 (fun _ _ n => n < 2 ^ 60) zen
theorem wu : zG ["rule", "n", "often", "many", "last"] ["rule", "n"] (zu yI) := ⟨rfl, rfl, rfl, by decide +kernel, rfl, by decide +kernel, by decide +kernel⟩
set_option maxHeartbeats 0 in
theorem Yl {f f1 f2 f3 f4 f5 : Addr} {fd fd1 fd2 fd3 fd4 fd5 : FuncData} (D : Df K mg "_law_together_right" yI ["rule", "n"] f fd) (yV : Df K mg "often_below" wY ["rule", "n", "figure"] f1 fd1) (xH : FnOk P w K mg base CX0 12 f1 fd1 ["rule", "n", "figure"] (vZ T0)) (zX : Df K mg "figures_below" xW ["rule", "n"] f2 fd2) (yd : FnOk P w K mg base CX0 12 f2 fd2 ["rule", "n"] (ww T0)) (jQ : Df K mg "count_below" qU ["rule", "n"] f3 fd3) (Yi : FnOk P w K mg base CX0 9 f3 fd3 ["rule", "n"] (Zc T0))
    (tE : Df K mg "last_good" jg ["rule", "n"] f4 fd4) (qz : FnOk P w K mg base CX0 9 f4 fd4 ["rule", "n"] (jN T0)) (zQ : Df K mg "sum_below" vq ["rule", "n"] f5 fd5) (zT : FnOk P w K mg base CX0 12 f5 fd5 ["rule", "n"] (vH T0)) (T : Blt mg) (U : Qd mg) : FnOk P w K mg base CX0 13 f fd ["rule", "n"] (vC T0) := by
  refine D.fn.ok wu (fun vs H Q E h => ?_) (fun cdv A outer s H vs Q E hr h => ?_)
  · obtain ⟨r, b, bl, zs, n, rfl, _⟩ := h; rfl
  · obtain ⟨r, b, bl, zs, n, rfl, R, g, hn, hT, kk⟩ := h
    have b2 := g.b2
    have b16 := g.b16
    have hn7 : n < 2 ^ 700 := Nat.lt_trans hn (Nat.pow_lt_pow_right (by decide) (by decide))
    have hn8 : n < 2 ^ 850 := Nat.lt_trans hn (Nat.pow_lt_pow_right (by decide) (by decide))
    have hn9 : n < 2 ^ 900 := Nat.lt_trans hn (Nat.pow_lt_pow_right (by decide) (by decide))
    refine ⟨_, (zg (jZ (i := 2) (show CScope (zu yI) _ "figure" ["rule", "n", "often", "many", "last"] ["rule", "n"] [0, 1] from ⟨rfl, by decide +kernel, by decide +kernel, rfl, by decide +kernel, rfl, by decide +kernel, by decide +kernel⟩) rfl wu.nd rfl (Or.inl rfl) (yw rfl T.n_range (zc (zP (xM K) (pv 0) zj (fun _ _ => rfl)) zf)) (fun _ _ _ _ => wK) (fun _ _ _ _ => (zF yV xH (hr.mono (by decide)) (zc (pv 1) (zc (pv 2) (zc (pv 0) zf))))))
      (zg (xP (ym Vi (zK (QM K rfl) (by rfl) U.n_sum boot_sum (zc (zcx (show VN (zu yI) _ ["figure", "many"] ["rule", "n", "often", "many", "last"] [] [] from ⟨rfl, by decide +kernel, by decide +kernel, by decide +kernel, by decide +kernel, rfl, by decide +kernel, by decide +kernel⟩) rfl (Jp K rfl T.n_enumerate (zc (pv 2) zf)) (fun _ _ _ _ => (zdZ K 2 rfl (Z7 (yZ (i := 0) (show List.Nodup (α := Str) ["figure", "many"] by decide) rfl (.inl (lookup_relabel_local rfl)) (.inr (lookup_relabel_local rfl))) (Z7 (yZ (i := 1) (show List.Nodup (α := Str) ["figure", "many"] by decide) rfl (.inl (lookup_relabel_local rfl)) (.inr (lookup_relabel_local rfl))) Ji)))) (fun _ _ _ _ => wK) (fun _ _ _ _ => (zA wD (pv 0) (pv 1)))) zf)) (zF zX yd (hr.mono (by decide)) (zc (pv 0) (zc (pv 1) zf))) (yc _))
        (zq (zJ jA))
        yh)
      (zg (zH (i := 3) wu.nd rfl (Or.inl rfl) (zF jQ Yi (hr.mono (by decide)) (zc (pv 0) (zc (pv 1) zf))))
      (zg (zH (i := 4) wu.nd rfl (Or.inl rfl) (zF tE qz (hr.mono (by decide)) (zc (pv 0) (zc (pv 1) zf))))
      (zg (xP (ym X5 (pv 4) tY (yc _))
        (zq (zJ (jk (wU jz (zF zQ zT (hr.mono (by decide)) (zc (pv 0) (zc (pv 1) zf))) zj (yc _)) (jq (wU jz (zK (QM K rfl) (by rfl) U.n_sum boot_sum (zc (pv 2) zf)) zj (yc _))))))
        yh)
      (zq (zJ (jk (Wz YQ YQ (pv 4) (zF zQ zT (hr.mono (by decide)) (zc (pv 0) (zc (pv 1) zf))) (zA wD (pv 3) (pv 4))) (jq (wU za8 (zK (QM K rfl) (by rfl) U.n_sum boot_sum (zc (pv 2) zf)) (pv 3) (yc _))))))))))), ?_⟩
    refine ⟨_, rfl, r, _, _, V.int b, rfl, rfl, SqT.of R.tu, rfl, (b : Int), rfl, by omega, by omega, vK (lo := 0) (n := (b : Int).toNat) (fun j ys Hc => SameL T0 H Hc ∧ LT T0 Hc ∧ ys = (List.range j).map fun (c : Nat) => V.int (ofn (zs.map (·.2)) b n c : Nat)) ⟨fun _ _ _ e => e, hT, rfl⟩ ?_ ?_⟩
    · rintro j ys Hc hj ⟨sc, Tc, rfl⟩
      refine ⟨by rw [List.length_map, List.length_range]; exact Nat.lt_of_lt_of_le (show j < 17 by omega) (by decide), ?_⟩
      unfold YS
      dsimp only
      rw [if_pos rfl]
      refine ⟨_, rfl, _, rfl, _, rfl, r, b, bl, zs, n, j, by rw [Int.zero_add]; rfl, R.sameL hT sc, g, hn7, by omega, Tc, fun H' s' T' => ⟨sc.trans s', T', ?_⟩⟩
      rw [List.range_succ, List.map_append]
      rfl
    rintro ys Hc ⟨sc, Tc, rfl⟩ qo hqo
    rw [Int.toNat_natCast]
    have eO : ((List.range b).map fun (c : Nat) => V.int (ofn (zs.map (·.2)) b n c : Nat)) = ((List.range b).map fun (c : Nat) => ((ofn (zs.map (·.2)) b n c : Nat) : Int)).map V.int := by rw [List.map_map]; rfl
    rw [eO]
    have t1 := zp hqo (o := .lst (((List.range b).map fun (c : Nat) => ((ofn (zs.map (·.2)) b n c : Nat) : Int)).map V.int))
    have T1 := Tc.same t1
    have S1 := sc.trans (SameL.of t1)
    have hq1 : upd Hc qo (.lst (((List.range b).map fun (c : Nat) => ((ofn (zs.map (·.2)) b n c : Nat) : Int)).map V.int)) qo = _ := zm
    generalize upd Hc qo (.lst (((List.range b).map fun (c : Nat) => ((ofn (zs.map (·.2)) b n c : Nat) : Int)).map V.int)) = H1 at t1 T1 S1 hq1
    have R1 := R.sameL hT S1
    refine ⟨_, rfl, qo, rfl, ⟨_, SqL.of hq1⟩, zaC (K := K) (a := qo) (xs := ((List.range b).map fun (c : Nat) => ((ofn (zs.map (·.2)) b n c : Nat) : Int)).map V.int) (fun j ys H2 => Same H1 H2 ∧ ys = ((List.range j).map fun (c : Nat) => ((c * ofn (zs.map (·.2)) b n c : Nat) : Int)).map V.int) ⟨Same.refl _, rfl⟩ (fun j ys H2 _ ⟨m, _⟩ => SqL.of (m _ _ hq1)) ?_ ?_ ?_⟩
    · rintro j x ys H2 T2 hx ⟨m2, rfl⟩ hT2
      rw [List.getElem?_map, List.getElem?_map] at hx
      obtain ⟨y, hy, e⟩ := Option.map_eq_some_iff.mp hx
      obtain ⟨c, hc, e2⟩ := Option.map_eq_some_iff.mp hy
      subst e2; subst e
      have hk : j < b := by have := (List.getElem?_eq_some_iff.mp hc).1; rwa [List.length_range] at this
      have ec : c = j := by rw [List.getElem?_range hk] at hc; exact (Option.some.inj hc).symm
      subst ec
      refine ⟨by rw [List.length_map, List.length_map, List.length_range]; exact Nat.lt_of_lt_of_le (show c < 17 by omega) (by decide), ?_⟩
      refine ⟨T2, _, rfl, SqT.of zm, rfl, _, _, rfl, _, _, rfl, rfl, ⟨[some (.int (c : Nat)), some (.int (ofn (zs.map (·.2)) b n c : Nat))], rfl, rfl⟩, ?_⟩
      unfold YS
      dsimp only
      rw [if_pos rfl]
      refine ⟨_, rfl, _, rfl, _, _, rfl, rfl, .inl ⟨by omega, by omega⟩, m2.trans (zp hT2), ?_⟩
      rw [List.range_succ, List.map_append, List.map_append]
      simp
    · rintro j ys H2 hj ⟨_, rfl⟩
      rw [List.length_map, List.length_map, List.length_range] at hj ⊢
      exact Nat.lt_of_lt_of_le (show j < 17 by omega) (by decide)
    rintro ys H2 ⟨m2, rfl⟩ q hq
    have m3 := m2.trans (zp hq (o := .lst (((List.range (((List.range b).map fun (c : Nat) => ((ofn (zs.map (·.2)) b n c : Nat) : Int)).map V.int).length).map fun (c : Nat) => ((c * ofn (zs.map (·.2)) b n c : Nat) : Int)).map V.int)))
    refine ⟨q, _, rfl, SqL.of zm, ?_⟩
    rw [List.length_map, List.length_map, List.length_range] at m3 ⊢
    have T3 := T1.same m3
    have R3 := R1.same m3
    have S3 := S1.trans (SameL.of m3)
    have hq3 := m3 _ _ hq1
    generalize upd H2 q (.lst (((List.range b).map fun (c : Nat) => ((c * ofn (zs.map (·.2)) b n c : Nat) : Int)).map V.int)) = H3 at m3 T3 R3 S3 hq3
    rw [Y6 (fun c => c * ofn (zs.map (·.2)) b n c), VM b2 (fun c => c)]
    refine ⟨_, rfl, _, rfl, r, b, bl, zs, n, rfl, R3, g, hn7, T3, fun v4 H4 e4 s4 T4 => ?_⟩
    subst e4
    refine ⟨rfl, _, rfl, neF rfl ?_⟩
    have R4 := R3.sameL T3 s4
    have hq4 := s4 _ _ (T3.lst hq3) hq3
    refine ⟨_, rfl, _, rfl, r, b, bl, zs, n, rfl, R4, g, hn9, T4, fun H5 s5 T5 => ?_⟩
    have R5 := R4.sameL T4 s5
    have hq5 := s5 _ _ (T4.lst hq4) hq4
    refine ⟨_, rfl, _, rfl, r, b, bl, zs, n, rfl, R5, g, hn8, T5, fun v6 H6 e6 s6 T6 => ?_⟩
    have R6 := R5.sameL T5 s6
    have hq6 := s6 _ _ (T5.lst hq5) hq5
    have S6 := ((S3.trans s4).trans s5).trans s6
    rcases e6 with ⟨rfl, hz⟩ | ⟨gg, rfl, g1, g2, g3⟩
    · refine ⟨_, rfl, rfl, _, rfl, JX (by simp) ?_⟩
      refine ⟨_, rfl, _, rfl, r, b, bl, zs, n, rfl, R6, g, hn7, T6, fun v7 H7 e7 s7 T7 => ?_⟩
      subst e7
      have hq7 := s7 _ _ (T6.lst hq6) hq6
      refine ⟨rfl, _, rfl, JX (by rw [Wh hz]; simp) ?_⟩
      refine ⟨_, rfl, qo, _, rfl, SqL.of hq7, rfl, ?_⟩
      refine kk _ H7 ?_ (S6.trans s7) T7
      have e0 : ((List.range b).map (ofn (zs.map (·.2)) b n)).sum = 0 := by
        have e := VM (ls := zs.map (·.2)) (n := n) b2 (fun _ => 1)
        simp only [Nat.one_mul] at e
        rw [e]; exact Wh hz
      rw [Y6 (ofn (zs.map (·.2)) b n), e0]
      simp
    · refine ⟨_, rfl, rfl, _, rfl, zel (decide_eq_false (fun z => by cases z)) ?_⟩
      refine ⟨_, rfl, _, rfl, _, rfl, r, b, bl, zs, n, rfl, R6, g, hn7, T6, fun v7 H7 e7 s7 T7 => ?_⟩
      subst e7
      have hq7 := s7 _ _ (T6.lst hq6) hq6
      have f1 : gg ≤ tot (gd (zs.map (·.2)) b) (fun k => k) n := by
        have h1 := zb6 (gd (zs.map (·.2)) b) (fun k => k) (show gg + 1 ≤ n from g1)
        rw [tot, if_pos g2] at h1
        omega
      have f2 : tot (gd (zs.map (·.2)) b) (fun k => k) n ≤ many (gd (zs.map (·.2)) b) n * gg := zcu fun k hk hp => V9 g2 (by have := VV _ hk hp; omega)
      have f3 := Jz (gd (zs.map (·.2)) b) n
      refine ⟨_, _, rfl, rfl, _, rfl, JX (decide_eq_true (by omega)) ?_⟩
      refine ⟨_, rfl, _, rfl, _, _, rfl, rfl, .inl ⟨by omega, by omega⟩, _, _, rfl, rfl, _, rfl, JX (decide_eq_true (by rw [← Int.natCast_mul]; omega)) ?_⟩
      refine ⟨_, rfl, qo, _, rfl, SqL.of hq7, _, rfl, _, _, rfl, rfl, ?_⟩
      refine kk _ H7 ?_ (S6.trans s7) T7
      rw [Y6 (ofn (zs.map (·.2)) b n)]
      have := zcp (ls := zs.map (·.2)) (n := n) b2
      exact congrArg V.bl (decide_eq_true (by omega))
end
section
variable {P : Program} {w : World} {K : PySem.W.Frag} {mg : Str → Option Value} {base : Heap} {T0 : Addr}
theorem JM {p : Nat → Bool} {f : Nat → Nat} {g N : Nat} (hg : p g = true) (h : g < N) (hm : many p g + 1 = many p N) : tot p f N = tot p f g + f g := by
  have e : many p (g + 1) = many p N := by rw [many, if_pos hg]; exact hm
  rw [Xi (show g + 1 ≤ N from h) e, tot, if_pos hg]
abbrev uR (T0 : Addr) : Sp := qF T0 Xd zen
theorem wC : zG ["rule", "m", "least", "most", "total", "ahead"] ["rule", "m"] (zu wJ) := ⟨rfl, rfl, rfl, by decide +kernel, rfl, by decide +kernel, by decide +kernel⟩
set_option maxHeartbeats 0 in
theorem XQ {f f1 f2 f3 f4 f5 f6 f7 : Addr} {fd fd1 fd2 fd3 fd4 fd5 fd6 fd7 : FuncData} (D : Df K mg "_law_told_right" wJ ["rule", "m"] f fd) (yV : Df K mg "often_below" wY ["rule", "n", "figure"] f1 fd1) (xH : FnOk P w K mg base CX0 12 f1 fd1 ["rule", "n", "figure"] (vZ T0)) (zX : Df K mg "figures_below" xW ["rule", "n"] f2 fd2) (yd : FnOk P w K mg base CX0 12 f2 fd2 ["rule", "n"] (ww T0)) (zQ : Df K mg "sum_below" vq ["rule", "n"] f3 fd3) (zT : FnOk P w K mg base CX0 12 f3 fd3 ["rule", "n"] (vH T0))
    (tE : Df K mg "last_good" jg ["rule", "n"] f4 fd4) (qz : FnOk P w K mg base CX0 9 f4 fd4 ["rule", "n"] (jN T0)) (tH : Df K mg "sum_long" j8 ["rule", "m"] f5 fd5) (qy : FnOk P w K mg base CX0 12 f5 fd5 ["rule", "m"] (Zx T0)) (ZG : Df K mg "least_long" jB ["rule", "m"] f6 fd6) (YX : FnOk P w K mg base CX0 9 f6 fd6 ["rule", "m"] (qF T0 Xd zaU)) (qm : Df K mg "greatest_long" uM ["rule", "m"] f7 fd7) (Zb : FnOk P w K mg base CX0 9 f7 fd7 ["rule", "m"] (qF T0 Xd WL)) (T : Blt mg) (U : Qd mg) : FnOk P w K mg base CX0 13 f fd ["rule", "m"] (uR T0) := by
  refine D.fn.ok wC (fun vs H Q E h => ?_) (fun cdv A outer s H vs Q E hr h => ?_)
  · obtain ⟨r, b, bl, zs, n, rfl, _⟩ := h; rfl
  · obtain ⟨r, b, bl, zs, m, rfl, R, g, ⟨hm1, hm2⟩, hT, kk⟩ := h
    have b2 := g.b2
    have b16 := g.b16
    have hle := zaY (ls := zs.map (·.2)) (m := m) (show 1 ≤ b by omega)
    have hpw := zeH (m := m) b16 (by omega)
    have lowe := ze0 (ls := zs.map (·.2)) (b := b) (m := m)
    refine ⟨_, (zg (zH (i := 2) wC.nd rfl (Or.inl rfl) (zF ZG YX (hr.mono (by decide)) (zc (pv 0) (zc (pv 1) zf))))
      (zg (zH (i := 3) wC.nd rfl (Or.inr rfl) (zF qm Zb (hr.mono (by decide)) (zc (pv 0) (zc (pv 1) zf))))
      (zg (xP (ym X5 (pv 2) tY (yc _))
        (zq (zJ (jk (wU X5 (pv 3) tY (yc _)) (jq (wU jz (zF tH qy (hr.mono (by decide)) (zc (pv 0) (zc (pv 1) zf))) zj (yc _))))))
        yh)
      (zg (xP (ym Vi (zA xV (zA yN (zF zQ zT (hr.mono (by decide)) (zc (pv 0) (zc (pv 3) zf))) (pv 3)) (zF zQ zT (hr.mono (by decide)) (zc (pv 0) (zc (pv 2) zf)))) (zF tH qy (hr.mono (by decide)) (zc (pv 0) (zc (pv 1) zf))) (yc _))
        (zq (zJ jA))
        yh)
      (zg (zH (i := 4) wC.nd rfl (Or.inl rfl) (zK (QM K rfl) (by rfl) U.n_sum boot_sum (zc (uO (show CScope (zu wJ) _ "figure" ["rule", "m", "least", "most", "total", "ahead"] ["rule", "most"] [0, 3] from ⟨rfl, by decide +kernel, by decide +kernel, rfl, by decide +kernel, rfl, by decide +kernel, by decide +kernel⟩) rfl (yw rfl T.n_range (zc (zP (xM K) (pv 0) zj (fun _ _ => rfl)) zf)) (fun _ _ _ _ => wK) (fun _ _ _ _ => (zA wD (pv 0) (zF yV xH (hr.mono (by decide)) (zc (pv 1) (zc (pv 2) (zc (pv 0) zf))))))) zf)))
      (zg (xP (ym Vi (zF zX yd (hr.mono (by decide)) (zc (pv 0) (zc (pv 3) zf))) (pv 4) (yc _))
        (zq (zJ jA))
        yh)
      (zg (zH (i := 5) wC.nd rfl (Or.inl rfl) (zF tE qz (hr.mono (by decide)) (zc (pv 0) (zc (pv 2) zf))))
      (zg (xP (ym X5 (pv 5) tY (yc _))
        (zq (zJ (jk (wU jz (zF zQ zT (hr.mono (by decide)) (zc (pv 0) (zc (pv 2) zf))) zj (yc _)) (jq (wU jz (zF zX yd (hr.mono (by decide)) (zc (pv 0) (zc (pv 2) zf))) zj (yc _))))))
        yh)
      (zq (zJ (wU jz (zF zQ zT (hr.mono (by decide)) (zc (pv 0) (zc (pv 2) zf))) (zA yN (zF zQ zT (hr.mono (by decide)) (zc (pv 0) (zc (pv 5) zf))) (pv 5)) (yc _)))))))))))), ?_⟩
    refine ⟨_, rfl, _, rfl, r, b, bl, zs, m, rfl, R, g, ⟨hm1, hm2⟩, hT, fun v2 H2 e2 s2 T2 => ?_⟩
    have R2 := R.sameL hT s2
    refine ⟨_, rfl, _, rfl, r, b, bl, zs, m, rfl, R2, g, ⟨hm1, hm2⟩, T2, fun v3 H3 e3 s3 T3 => ?_⟩
    have R3 := R2.sameL T2 s3
    have S3 := s2.trans s3
    by_cases hN : many (gd (zs.map (·.2)) b) (b ^ m) = low (zs.map (·.2)) b m
    · have e2' : v2 = .non := by
        rcases e2 with ⟨e, _⟩ | ⟨g1, _, a1, a2, a3⟩
        · exact e
        · have := VV _ a3 a1; omega
      have e3' : v3 = .non := by
        rcases e3 with ⟨e, _⟩ | ⟨g1, _, _, _, _, a⟩
        · exact e
        · omega
      subst e2'
      subst e3'
      refine ⟨_, rfl, rfl, _, rfl, JX (by simp) ?_⟩
      refine ⟨_, rfl, rfl, _, rfl, JX (by simp) ?_⟩
      refine ⟨_, rfl, _, rfl, r, b, bl, zs, m, rfl, R3, g, ⟨hm1, hm2⟩, T3, fun v4 H4 e4 s4 T4 => ?_⟩
      subst e4
      refine ⟨rfl, kk _ H4 ?_ (S3.trans s4) T4⟩
      rw [Xi (zda b2) (by rw [← lowe]; exact hN.symm), Int.sub_self]
      simp
    · rcases e2 with ⟨_, z⟩ | ⟨l, rfl, l1, l2, l3⟩
      · exact absurd z hN
      rcases e3 with ⟨_, z⟩ | ⟨gg, rfl, g1, g2, g3, g4⟩
      · exact absurd z hN
      have up7 : ∀ k, k < b ^ m → k < 2 ^ 700 := fun k hk => Nat.lt_of_lt_of_le (Nat.lt_of_lt_of_le hk hpw) (Nat.pow_le_pow_right (by decide) (by decide))
      have lowl : Vw b m ≤ l := V9 l1 (by rw [l2, lowe]; exact Nat.le_refl _)
      have et1 : tot (gd (zs.map (·.2)) b) (fun k => k) (b ^ m) = tot (gd (zs.map (·.2)) b) (fun k => k) gg + gg := JM g1 g3 g2
      have et2 : tot (gd (zs.map (·.2)) b) (fun k => k) l = tot (gd (zs.map (·.2)) b) (fun k => k) (Vw b m) := Xi lowl (by rw [l2, lowe])
      refine ⟨_, rfl, rfl, _, rfl, zel (decide_eq_false (fun z => by cases z)) ?_⟩
      refine ⟨_, rfl, _, rfl, r, b, bl, zs, gg, rfl, R3, g, up7 gg g3, T3, fun v4 H4 e4 s4 T4 => ?_⟩
      subst e4
      have R4 := R3.sameL T3 s4
      refine ⟨_, rfl, _, _, rfl, rfl, ?_⟩
      refine ⟨_, rfl, _, rfl, r, b, bl, zs, l, rfl, R4, g, up7 l l3, T4, fun v5 H5 e5 s5 T5 => ?_⟩
      subst e5
      have R5 := R4.sameL T4 s5
      refine ⟨_, _, rfl, rfl, ?_⟩
      refine ⟨_, rfl, _, rfl, r, b, bl, zs, m, rfl, R5, g, ⟨hm1, hm2⟩, T5, fun v6 H6 e6 s6 T6 => ?_⟩
      subst e6
      have R6 := R5.sameL T5 s6
      have S6 := ((S3.trans s4).trans s5).trans s6
      refine ⟨rfl, _, rfl, neF (by rw [et1, et2, Int.natCast_add]) ?_⟩
      refine ⟨_, rfl, r, _, _, V.int b, rfl, rfl, SqT.of R6.tu, rfl, (b : Int), rfl, by omega, by omega, vK (lo := 0) (n := (b : Int).toNat) (fun j ys Hc => SameL T0 H6 Hc ∧ LT T0 Hc ∧ ys = ((List.range j).map fun (c : Nat) => ((c * ofn (zs.map (·.2)) b gg c : Nat) : Int)).map V.int) ⟨fun _ _ _ e => e, T6, rfl⟩ ?_ ?_⟩
      · rintro j ys Hc hj ⟨sc, Tc, rfl⟩
        refine ⟨by rw [List.length_map, List.length_map, List.length_range]; exact Nat.lt_of_lt_of_le (show j < 17 by omega) (by decide), ?_⟩
        unfold YS
        dsimp only
        rw [if_pos rfl]
        refine ⟨_, rfl, _, rfl, _, rfl, _, rfl, r, b, bl, zs, gg, j, by rw [Int.zero_add]; rfl, R6.sameL T6 sc, g, up7 gg g3, by omega, Tc, fun H' s' T' => ⟨_, _, rfl, rfl, .inl ⟨by omega, by omega⟩, sc.trans s', T', ?_⟩⟩
        rw [List.range_succ, List.map_append, List.map_append, Int.zero_add]
        simp [ofn]
      rintro ys Hc ⟨sc, Tc, rfl⟩ q hq
      refine ⟨q, _, rfl, SqL.of zm, ?_⟩
      rw [Int.toNat_natCast, Y6 (fun c => c * ofn (zs.map (·.2)) b gg c), VM b2 (fun c => c)]
      have t7 := zp hq (o := .lst (((List.range b).map fun (c : Nat) => ((c * ofn (zs.map (·.2)) b gg c : Nat) : Int)).map V.int))
      have T7 := Tc.same t7
      have S7 := (S6.trans sc).trans (SameL.of t7)
      generalize upd Hc q (.lst (((List.range b).map fun (c : Nat) => ((c * ofn (zs.map (·.2)) b gg c : Nat) : Int)).map V.int)) = H7 at t7 T7 S7
      have R7 := R.sameL hT S7
      refine ⟨_, rfl, _, rfl, r, b, bl, zs, gg, rfl, R7, g, up7 gg g3, T7, fun v8 H8 e8 s8 T8 => ?_⟩
      subst e8
      have R8 := R7.sameL T7 s8
      refine ⟨_, rfl, rfl, _, rfl, neF rfl ?_⟩
      refine ⟨_, rfl, _, rfl, r, b, bl, zs, l, rfl, R8, g, Nat.lt_trans (up7 l l3) (Nat.pow_lt_pow_right (by decide) (by decide)), T8, fun v9 H9 e9 s9 T9 => ?_⟩
      have R9 := R8.sameL T8 s9
      have S9 := (S7.trans s8).trans s9
      rcases e9 with ⟨rfl, hz⟩ | ⟨a, rfl, a1, a2, a3⟩
      · refine ⟨_, rfl, rfl, _, rfl, JX (by simp) ?_⟩
        refine ⟨_, rfl, _, rfl, r, b, bl, zs, l, rfl, R9, g, up7 l l3, T9, fun v10 H10 e10 s10 T10 => ?_⟩
        subst e10
        have R10 := R9.sameL T9 s10
        refine ⟨rfl, _, rfl, JX (by rw [Wh hz]; simp) ?_⟩
        refine ⟨_, rfl, _, rfl, r, b, bl, zs, l, rfl, R10, g, up7 l l3, T10, fun v11 H11 e11 s11 T11 => ?_⟩
        subst e11
        refine ⟨rfl, kk _ H11 ?_ ((S9.trans s10).trans s11) T11⟩
        rw [Wh hz]; simp
      · refine ⟨_, rfl, rfl, _, rfl, zel (decide_eq_false (fun z => by cases z)) ?_⟩
        refine ⟨_, rfl, _, rfl, r, b, bl, zs, l, rfl, R9, g, up7 l l3, T9, fun v10 H10 e10 s10 T10 => ?_⟩
        subst e10
        have R10 := R9.sameL T9 s10
        refine ⟨_, rfl, _, rfl, r, b, bl, zs, a, rfl, R10, g, up7 a (by omega), T10, fun v11 H11 e11 s11 T11 => ?_⟩
        subst e11
        refine ⟨_, rfl, _, _, rfl, rfl, rfl, kk _ H11 ?_ ((S9.trans s10).trans s11) T11⟩
        refine congrArg V.bl (decide_eq_true (congrArg V.int ?_))
        rw [JM (f := fun k => k) a2 a1 a3, Int.natCast_add]
end
theorem GoodRule.nodup {b : Nat} {ls : List (List Int)} (g : GoodRule b ls) : ls.Nodup := g.up.imp fun {x y} h z => by rw [z, HT.uC] at h; cases h
theorem zcN {n : Nat} (h : n < 2 ^ 700) : CMulB (n : Int) ((n : Int) - 1) := by
  have h1 : (2 : Nat) ^ 700 < 2 ^ 701 := Nat.pow_lt_pow_right (by decide) (by decide)
  have h2 : (2 : Nat) ^ 701 < 2 ^ 100000 := Nat.pow_lt_pow_right (by decide) (by decide)
  have h3 : ((n : Int) - 1).natAbs ≤ n + 1 := by omega
  refine ⟨?_, ?_⟩
  · rw [Int.natAbs_natCast]
    exact Nat.lt_trans h (Nat.lt_trans h1 h2)
  · exact Nat.lt_of_le_of_lt (Nat.le_trans h3 (Nat.le_trans h (Nat.le_of_lt h1))) h2
theorem zcD (b n : Nat) : ((tot (gd [] b) (fun k => k) n : Nat) : Int) = (n : Int) * ((n : Int) - 1) / 2 := by
  have e : tot (gd [] b) (fun k => k) n = tot (fun _ => true) (fun k => k) n := vR (fun _ _ => rfl) (fun _ _ => rfl)
  have h := zbd n
  rw [e]
  cases n with
  | zero => rfl
  | succ n =>
    rw [Nat.add_sub_cancel] at h
    rw [show (((n + 1 : Nat) : Int) - 1) = (n : Int) by omega, ← Int.natCast_mul, ← h, Int.natCast_mul]
    exact (Int.mul_ediv_cancel_left _ (by decide)).symm
section
variable {P : Program} {w : World} {K : PySem.W.Frag} {mg : Str → Option Value} {base : Heap} {T0 : Addr}
def u6 (T0 : Addr) : Sp := fun vs H Q _ => ∃ (s dr : Addr) (ds : List Int) (r : Addr) (b : Nat) (bl : Addr) (zs : List (Addr × List Int)), vs = [.ref s, .ref r] ∧ Sto2 H s dr ds ∧ LT T0 H ∧ RuleAt (aw [s] H) r b bl zs ∧ GoodRule b (zs.map (·.2)) ∧ ∀ (v : V) (H' : Hp), v = .bl true → Fr T0 s dr ds H H' → Q v H'
theorem xq : zG ["store", "rule", "m", "power", "turn", "less"] ["store", "rule"] (zu vV) := ⟨rfl, rfl, rfl, by decide +kernel, rfl, by decide +kernel, by decide +kernel⟩
set_option maxHeartbeats 0 in
theorem X7 {f f1 f2 f3 : Addr} {fd fd1 fd2 fd3 : FuncData} (D : Df K mg "_law_long_right" vV ["store", "rule"] f fd) (zL : Df K mg "_law_take" vz ["store", "many"] f1 fd1) (zQ : Df K mg "sum_below" vq ["rule", "n"] f2 fd2) (zT : FnOk P w K mg base CX0 12 f2 fd2 ["rule", "n"] (vH T0)) (tH : Df K mg "sum_long" j8 ["rule", "m"] f3 fd3) (qy : FnOk P w K mg base CX0 12 f3 fd3 ["rule", "m"] (Zx T0)) (T : Blt mg) :
    FnOk P w K mg base CX0 13 f fd ["store", "rule"] (u6 T0) := by
  have yr : FnOk P w K mg base CX0 1 f1 fd1 ["store", "many"] (vG T0) := uy zL T
  refine D.fn.ok xq (fun vs H Q E h => ?_) (fun cdv A outer s H vs Q E hr h => ?_)
  · obtain ⟨s, dr, ds, r, b, bl, zs, rfl, _⟩ := h; rfl
  · obtain ⟨sa, dr, ds, r, b, bl, zs, rfl, S, hT, R, g, kk⟩ := h
    have hb2 := g.b2
    have hb16 := g.b16
    refine ⟨_, (zg (zH (i := 2) xq.nd rfl (Or.inl rfl) (zA yN zj (zF zL yr (hr.mono (by decide)) (zc (pv 0) (zc zj zf)))))
      (zg (zH (i := 3) xq.nd rfl (Or.inl rfl) zj)
      (zg (vU PassesOwn.never rfl (yw rfl T.n_range (zc (zA xV (pv 2) zj) zf)) (yZ (i := 4) xq.nd rfl (Or.inl rfl))
        (zq (zH (i := 3) xq.nd rfl (Or.inl rfl) (zA wD (pv 3) (zP (xM K) (pv 1) zj (fun _ _ => rfl))))))
      (zg (zH (i := 5) xq.nd rfl (Or.inl rfl) (zP (yR K) (xm (zc (pv 3) (zc zj zf))) (Z5 Vf (by rfl) T.n_int boot_int (zc (wU jz (pv 2) zj (yc _)) zf)) (fun _ _ => rfl)))
      (zq (zJ (wU jz (zA xV (zF zQ zT (hr.mono (by decide)) (zc (pv 1) (zc (zA wD (pv 3) (zP (xM K) (pv 1) zj (fun _ _ => rfl))) zf))) (zF zQ zT (hr.mono (by decide)) (zc (pv 1) (zc (pv 5) zf)))) (zF tH qy (hr.mono (by decide)) (zc (pv 1) (zc (pv 2) zf))) (yc _)))))))), ?_⟩
    refine ⟨_, rfl, sa, dr, ds, 15, rfl, S, (by decide), hT, fun x H1 hx _ q1 t1 => ⟨_, _, rfl, rfl, ?_⟩⟩
    have F1 := Fr.mk q1 t1
    refine ⟨_, rfl, _, _, rfl, rfl, ?_⟩
    refine ⟨_, rfl, by omega, by omega, wy (lo := 0) (n := (1 + (x : Int) - 1).toNat) (fun i σ H2 => ∃ (v4 v5 : Option V), σ = [some (.ref sa), some (.ref r), some (.int (1 + (x : Int))), some (.int (b ^ i : Nat)), v4, v5] ∧ H2 = H1)
      ⟨none, none, rfl, rfl⟩ ?_ ?_⟩
    · rintro i σ H2 hi ⟨v4, v5, rfl, rfl⟩
      have R2 := (R.q hT F1.q).all
      refine ⟨_, rfl, _, rfl, r, _, _, V.int b, rfl, rfl, SqT.of R2.tu, rfl, _, _, rfl, rfl, .inr ⟨by omega, by omega⟩, some (.int (0 + (i : Int))), v5, ?_, rfl⟩
      show _ = [some (V.ref sa), some (V.ref r), some (.int (1 + (x : Int))), some (V.int ((b ^ (i + 1) : Nat) : Int)), some (.int (0 + (i : Int))), v5]
      rw [Nat.pow_succ]
      simp
    · rintro σ H2 ⟨v4, v5, rfl, rfl⟩
      have R2 := (R.q hT F1.q).all
      have hx' : (1 + (x : Int) - 1).toNat = x := by omega
      rw [hx']
      refine ⟨_, rfl, (by show 2 ≤ sizeLine; decide), fun l hl => ?_⟩
      have m3 := zp hl (o := .lst [.int (b ^ x : Nat), .int 0])
      have F3 := F1.same m3
      have R3 := R2.same m3
      have key : ∃ ls : Nat, atI [V.int (b ^ x : Nat), V.int 0] (if decide (V.int (1 + (x : Int)) = V.int 1) = true then 1 else 0) = some (.int ls) ∧ tot (gd (zs.map (·.2)) b) (fun k => k) ls = tot (gd (zs.map (·.2)) b) (fun k => k) (Vw b (1 + x)) ∧ ls < 2 ^ 700 := by
        have hp : b ^ x < 2 ^ 700 := by
          have h1 : b ^ x ≤ 16 ^ x := Nat.pow_le_pow_left hb16 x
          have h2 : 16 ^ x ≤ 16 ^ 18 := Nat.pow_le_pow_right (by decide) (by omega)
          have h3 : 16 ^ 18 < 2 ^ 700 := by decide
          omega
        by_cases z : x = 0
        · subst z
          exact ⟨0, rfl, by rw [Vw, if_pos rfl], by decide⟩
        · refine ⟨b ^ x, ?_, ?_, hp⟩
          · rw [if_neg (by simp; omega)]; rfl
          · rw [Vw, if_neg (by omega), Nat.add_sub_cancel_left]
      obtain ⟨ls, hls, hlow, hls9⟩ := key
      refine ⟨_, rfl, rfl, .inr ⟨_, rfl, l, _, _, _, rfl, rfl, SqL.of zm, hls, ?_⟩⟩
      have hbx : b ^ x * b < 2 ^ 700 := by
        rw [← Nat.pow_succ]
        have h1 : b ^ (x + 1) ≤ 16 ^ (x + 1) := Nat.pow_le_pow_left hb16 _
        have h2 : 16 ^ (x + 1) ≤ 16 ^ 18 := Nat.pow_le_pow_right (by decide) (by omega)
        exact Nat.lt_of_le_of_lt (Nat.le_trans h1 h2) (by decide)
      refine ⟨_, rfl, _, rfl, _, rfl, r, _, _, V.int b, rfl, rfl, SqT.of R3.tu, rfl, _, _, rfl, rfl, .inr ⟨by omega, by omega⟩, r, b, bl, zs, b ^ x * b, by simp, R3, g, hbx, F3.lt, fun v4 H4 e4 m4 T4 => ?_⟩
      subst e4
      have R4 := R3.sameL F3.lt m4
      refine ⟨_, rfl, _, rfl, r, b, bl, zs, ls, rfl, R4, g, hls9, T4, fun v5 H5 e5 m5 T5 => ?_⟩
      subst e5
      refine ⟨_, _, rfl, rfl, ?_⟩
      have R5 := R4.sameL T4 m5
      refine ⟨_, rfl, _, rfl, r, b, bl, zs, 1 + x, by simp, R5, g, ⟨by omega, by omega⟩, T5, fun v H6 hv m6 T6 => ?_⟩
      subst hv
      refine ⟨rfl, kk _ H6 (congrArg V.bl (decide_eq_true (congrArg V.int ?_))) (((F3.sameL m4 T4).sameL m5 T5).sameL m6 T6)⟩
      rw [hlow, ← Nat.pow_succ, Nat.add_comm 1 x]
def u9 (T0 : Addr) : Sp := fun vs H Q _ => ∃ (s dr : Addr) (ds : List Int) (r : Addr) (b : Nat) (bl : Addr) (zs : List (Addr × List Int)) (n : Nat), vs = [.ref s, .ref r, .int n] ∧ Sto2 H s dr ds ∧ LT T0 H ∧ RuleAt (aw [s] H) r b bl zs ∧ GoodRule b (zs.map (·.2)) ∧ n < 2 ^ 600 ∧ ∀ (v : V) (H' : Hp), v = .bl true → Fr T0 s dr ds H H' → Q v H'
theorem uT : zG ["store", "rule", "n", "stretch", "more"] ["store", "rule", "n"] (zu wM) := ⟨rfl, rfl, rfl, by decide +kernel, rfl, by decide +kernel, by decide +kernel⟩
set_option maxHeartbeats 0 in
theorem XX {f f1 f2 f3 : Addr} {fd fd1 fd2 fd3 : FuncData} (D : Df K mg "_law_more_right" wM ["store", "rule", "n"] f fd) (zL : Df K mg "_law_take" vz ["store", "many"] f1 fd1) (zQ : Df K mg "sum_below" vq ["rule", "n"] f2 fd2) (zT : FnOk P w K mg base CX0 12 f2 fd2 ["rule", "n"] (vH T0)) (zX : Df K mg "figures_below" xW ["rule", "n"] f3 fd3) (yd : FnOk P w K mg base CX0 12 f3 fd3 ["rule", "n"] (ww T0)) (T : Blt mg) :
    FnOk P w K mg base CX0 13 f fd ["store", "rule", "n"] (u9 T0) := by
  have yr : FnOk P w K mg base CX0 1 f1 fd1 ["store", "many"] (vG T0) := uy zL T
  refine D.fn.ok uT (fun vs H Q E h => ?_) (fun cdv A outer s H vs Q E hr h => ?_)
  · obtain ⟨s, dr, ds, r, b, bl, zs, n, rfl, _⟩ := h; rfl
  · obtain ⟨sa, dr, ds, r, b, bl, zs, n, rfl, S, hT, R, g, hn, kk⟩ := h
    have HU := zbZ hr
    have hb2 := g.b2
    have hb16 := g.b16
    have hn9 : n < 2 ^ 700 := Nat.lt_trans hn (Nat.pow_lt_pow_right (by decide) (by decide))
    have hz4 : zs.length ≤ 4 := by have := g.len; rwa [List.length_map] at this
    refine ⟨_, (zg (xP (ym Vi (zF zQ zT (hr.mono (by decide)) (zc (Ue (zc (zP (xM K) (pv 1) zj (fun _ _ => rfl)) (zc (xm zf) zf))) (zc (pv 2) zf))) (zA uL (zA zbr (pv 2) (zA xV (pv 2) zj)) zj) (yc _))
        (zq (zJ jA))
        yh)
      (zg (jZ (i := 3) (show CScope (zu wM) _ "k" ["store", "rule", "n", "stretch", "more"] ["store", "rule"] [0, 1] from ⟨rfl, by decide +kernel, by decide +kernel, rfl, by decide +kernel, rfl, by decide +kernel, by decide +kernel⟩) rfl uT.nd rfl (Or.inl rfl) (yw rfl T.n_range (zc (zA yN zj (zF zL yr (hr.mono (by decide)) (zc (pv 0) (zc zj zf)))) zf)) (fun _ _ _ _ => wK) (fun _ _ _ _ => (zF zL yr (hr.mono (by decide)) (zc (pv 1) (zc (zP (xM K) (pv 2) zj (fun _ _ => rfl)) zf)))))
      (zg (xP (PW.pt (Qv (ym (ze8 K HU) (pv 3) (zP (xM K) (pv 1) zj (fun _ _ => rfl)) (by with_unfolding_all rfl)) (W9 (ym jz (zK (vB K) (by rfl) T.n_len PySem.boot_len (zc (zP (xM K) (pv 1) zj (fun _ _ => rfl)) zf)) zj (yc _)))))
        (zq (zJ (wU za8 (zF zQ zT (hr.mono (by decide)) (zc (Ue (zc (zP (xM K) (pv 1) zj (fun _ _ => rfl)) (zc (uH (Xz K) (zP (xM K) (pv 1) zj (fun _ _ => rfl)) (ql zj) jD) zf))) (zc (pv 2) zf))) (zF zQ zT (hr.mono (by decide)) (zc (pv 1) (zc (pv 2) zf))) (yc _))))
        yh)
      (zg (zH (i := 4) uT.nd rfl (Or.inl rfl) (Ue (zc (zP (xM K) (pv 1) zj (fun _ _ => rfl)) (zc (zK (zdk K HU) (by rfl) T.n_sorted boot_sorted (zc (zA Wa (zP (xM K) (pv 1) zj (fun _ _ => rfl)) (xm (zc (pv 3) zf))) zf)) zf))))
      (zg (xP (ym zbh (zF zQ zT (hr.mono (by decide)) (zc (pv 4) (zc (pv 2) zf))) (zF zQ zT (hr.mono (by decide)) (zc (pv 1) (zc (pv 2) zf))) (yc _))
        (zq (zJ jA))
        yh)
      (zq (zJ (wU YQ (zF zX yd (hr.mono (by decide)) (zc (pv 4) (zc (pv 2) zf))) (zF zX yd (hr.mono (by decide)) (zc (pv 1) (zc (pv 2) zf))) (yc _))))))))), ?_⟩
    have R0 := R.all
    refine ⟨_, rfl, r, _, _, V.int b, rfl, rfl, SqT.of R0.tu, rfl, (by decide : 0 ≤ sizeLine), fun l0 hl0 => ⟨(by show 2 ≤ sizeLine; decide), fun tp0 htp0 => ?_⟩⟩
    have u1 := zp hl0 (o := .lst [])
    have u2 := zp htp0 (o := .tup [.int b, .ref l0])
    have Fa := (Fr.refl S hT).same (u1.trans u2)
    refine ⟨_, rfl, tp0, b, l0, [], n, rfl, ⟨zm, u2 _ _ zm, fun z hz => (by cases hz)⟩, ⟨g.b2, g.b16, by simp, fun l hl => (by cases hl), .nil⟩, hn9, Fa.lt, fun va Ha ea ma Ta => ?_⟩
    subst ea
    have Fb := Fa.sameL ma Ta
    refine ⟨_, rfl, _, rfl, _, _, rfl, rfl, _, _, rfl, rfl, zcN hn9, _, _, rfl, rfl, ⟨by decide, by decide⟩, rfl, _, rfl, neF (zcD b n) ?_⟩
    have hT0 := hT
    have R00 := R
    replace R := R.q hT Fb.q
    replace hT := Fb.lt
    replace S := Fb.st
    replace kk := fun (v : V) (H' : Hp) (hv : v = .bl true) (F : Fr T0 sa dr ds Ha H') => kk v H' hv (Fb.trans F)
    refine ⟨_, rfl, sa, dr, ds, 4, rfl, S, (by decide), hT, fun x H1 hx _ q1 t1 => ⟨_, _, rfl, rfl, (1 + (x : Int)), rfl, by omega, by omega, vK (lo := 0) (n := (1 + (x : Int)).toNat) (fun j ys Hc => Fr T0 sa dr ds Ha Hc ∧ ∃ ms : List Int, ys = ms.map V.int ∧ ms.length = j ∧ ∀ f ∈ ms, 0 ≤ f ∧ f < (b : Int)) ⟨⟨q1, t1⟩, [], rfl, rfl, by simp⟩ ?_ ?_⟩⟩
    · rintro j ys Hc hj ⟨Fc, ms, rfl, hml, hmf⟩
      refine ⟨by rw [List.length_map, hml]; exact Nat.lt_of_lt_of_le (show j < 5 by omega) (by decide), ?_⟩
      unfold YS
      dsimp only
      rw [if_pos rfl]
      have Rc := (R.q hT Fc.q).all
      refine ⟨_, rfl, _, rfl, r, _, _, V.int b, rfl, rfl, SqT.of Rc.tu, rfl, sa, dr, ds, b, rfl, Fc.st, by omega, Fc.lt, fun y H3 hy _ q3 t3 => ⟨Fc.trans ⟨q3, t3⟩, ms ++ [(y : Int)], by simp, by simp [hml], fun f hf => ?_⟩⟩
      rcases List.mem_append.mp hf with hf | hf
      · exact hmf f hf
      · have e : f = (y : Int) := by simpa using hf
        omega
    · rintro ys Hc ⟨Fc, ms, rfl, hml, hmf⟩ p hp
      have gms : Uo b ms := ⟨fun z => by rw [z] at hml; simp at hml; omega, by omega, hmf⟩
      have mp := zp hp (o := .lst (ms.map V.int))
      have F2 := Fc.same mp
      have R2 := (R.q hT F2.q).all
      have hp2 : upd Hc p (.lst (ms.map V.int)) p = some (.lst (ms.map V.int)) := zm
      generalize upd Hc p (.lst (ms.map V.int)) = H2 at mp F2 R2 hp2
      refine ⟨_, rfl, _, rfl, r, _, _, V.ref bl, rfl, rfl, SqT.of R2.tu, rfl, bl, _, (zs.map (·.2)).map vX, vX ms, rfl, SqL.of R2.li, TrsAt.lists R2.st, TrAt.ints (a := p) (SqL.of hp2), Nat.le_trans (ZF _) (by decide), _, rfl, ?_⟩
      rw [if_neg (by decide), QK]
      by_cases hin : ms ∈ zs.map (·.2)
      · rw [decide_eq_true hin]
        refine ji (ji ?_)
        refine ⟨_, rfl, r, _, _, V.int b, rfl, rfl, SqT.of R2.tu, rfl, _, rfl, r, _, _, V.ref bl, rfl, rfl, SqT.of R2.tu, rfl, _, rfl, bl, _, rfl, SqL.of R2.li, fun bq hbq => ⟨(by show 2 ≤ sizeLine; decide), fun tp htp => ?_⟩⟩
        have ecut : jm (zs.map fun z => V.ref z.1) (some 1) none = (zs.drop 1).map fun z => V.ref z.1 := by
          rw [show (1 : Int) = ((1 : Nat) : Int) from rfl, jU, List.map_drop]
        have m3 := zp hbq (o := .lst (jm (zs.map fun z => V.ref z.1) (some 1) none))
        have m4 := zp htp (o := .tup [.int b, .ref bq])
        have m34 := m3.trans m4
        have F4 := F2.same m34
        have R4 := R2.same m34
        have Rf := RuleAt.mk (H := upd (upd H2 bq (.lst (jm (zs.map fun z => V.ref z.1) (some 1) none))) tp (.tup [.int b, .ref bq])) (r := tp) (b := b) (bl := bq) (zs := zs.drop 1) zm (by rw [← ecut]; exact m4 _ _ zm) (fun z hz => R4.st z (List.mem_of_mem_drop hz))
        have hsub : ∀ l ∈ (zs.drop 1).map (·.2), l ∈ zs.map (·.2) := fun l hl => by rw [List.map_drop] at hl; exact List.mem_of_mem_drop hl
        have gf : GoodRule b ((zs.drop 1).map (·.2)) := ⟨hb2, hb16, by have := g.len; rw [List.length_map] at this ⊢; rw [List.length_drop]; omega, fun l hl => g.st l (hsub l hl), by rw [List.map_drop]; exact g.up.sublist (List.drop_sublist 1 _)⟩
        refine ⟨_, rfl, tp, b, bq, zs.drop 1, n, rfl, Rf, gf, hn9, F4.lt, fun v5 H5 e5 m5 T5 => ?_⟩
        subst e5
        have R5 := R4.sameL F4.lt m5
        refine ⟨_, rfl, _, rfl, r, b, bl, zs, n, rfl, R5, g, hn9, T5, fun v6 H6 e6 m6 T6 => ?_⟩
        subst e6
        refine ⟨_, _, rfl, rfl, ?_⟩
        exact kk _ H6 (congrArg V.bl (decide_eq_true (Int.ofNat_le.mpr (Wm (fun k q => Z3 hsub q) n)))) ((F4.sameL m5 T5).sameL m6 T6)
      · rw [decide_eq_false hin]
        refine qZ ?_
        refine ⟨_, rfl, r, _, _, V.ref bl, rfl, rfl, SqT.of R2.tu, rfl, bl, _, rfl, .inl (SqL.of R2.li), rfl, _, rfl, ?_⟩
        rw [List.length_map]
        by_cases h4 : zs.length = 4
        · refine zfy (by rw [h4]; rfl) ?_
          refine ⟨_, rfl, r, _, _, V.int b, rfl, rfl, SqT.of R2.tu, rfl, _, rfl, r, _, _, V.ref bl, rfl, rfl, SqT.of R2.tu, rfl, _, rfl, bl, _, rfl, SqL.of R2.li, fun bq hbq => ⟨(by show 2 ≤ sizeLine; decide), fun tp htp => ?_⟩⟩
          have ecut : jm (zs.map fun z => V.ref z.1) (some 1) none = (zs.drop 1).map fun z => V.ref z.1 := by
            rw [show (1 : Int) = ((1 : Nat) : Int) from rfl, jU, List.map_drop]
          have m3 := zp hbq (o := .lst (jm (zs.map fun z => V.ref z.1) (some 1) none))
          have m4 := zp htp (o := .tup [.int b, .ref bq])
          have m34 := m3.trans m4
          have F4 := F2.same m34
          have R4 := R2.same m34
          have Rf := RuleAt.mk (H := upd (upd H2 bq (.lst (jm (zs.map fun z => V.ref z.1) (some 1) none))) tp (.tup [.int b, .ref bq])) (r := tp) (b := b) (bl := bq) (zs := zs.drop 1) zm (by rw [← ecut]; exact m4 _ _ zm) (fun z hz => R4.st z (List.mem_of_mem_drop hz))
          have hsub : ∀ l ∈ (zs.drop 1).map (·.2), l ∈ zs.map (·.2) := fun l hl => by rw [List.map_drop] at hl; exact List.mem_of_mem_drop hl
          have gf : GoodRule b ((zs.drop 1).map (·.2)) := ⟨hb2, hb16, by have := g.len; rw [List.length_map] at this ⊢; rw [List.length_drop]; omega, fun l hl => g.st l (hsub l hl), by rw [List.map_drop]; exact g.up.sublist (List.drop_sublist 1 _)⟩
          refine ⟨_, rfl, tp, b, bq, zs.drop 1, n, rfl, Rf, gf, hn9, F4.lt, fun v5 H5 e5 m5 T5 => ?_⟩
          subst e5
          have R5 := R4.sameL F4.lt m5
          refine ⟨_, rfl, _, rfl, r, b, bl, zs, n, rfl, R5, g, hn9, T5, fun v6 H6 e6 m6 T6 => ?_⟩
          subst e6
          refine ⟨_, _, rfl, rfl, ?_⟩
          exact kk _ H6 (congrArg V.bl (decide_eq_true (Int.ofNat_le.mpr (Wm (fun k q => Z3 hsub q) n)))) ((F4.sameL m5 T5).sameL m6 T6)
        · refine zeO (fun z => h4 (by injection z with z; omega)) ?_
          refine ⟨_, rfl, r, _, _, V.int b, rfl, rfl, SqT.of R2.tu, rfl, _, rfl, r, _, _, V.ref bl, rfl, rfl, SqT.of R2.tu, rfl, _, rfl, (by show 1 ≤ sizeLine; decide), fun l1 hl1 => ?_⟩
          have m3 := zp hl1 (o := .lst [.ref p])
          refine ⟨bl, l1, _, _, rfl, rfl, m3 _ _ R2.li, zm, by rw [List.length_map]; exact Nat.le_trans (show zs.length + 1 ≤ 5 by omega) (by decide), fun l2 hl2 => ?_⟩
          have m4 := zp hl2 (o := .lst (zs.map (fun z => V.ref z.1) ++ [.ref p]))
          have m24 := m3.trans m4
          have nd : ((zs ++ [(p, ms)]).map (·.2)).Nodup := by
            rw [List.map_append]
            refine List.nodup_append.mpr ⟨g.nodup, by simp, fun x hx y hy => ?_⟩
            have e : y = ms := by simpa using hy
            rw [e]
            exact fun z => hin (z ▸ hx)
          have hst : ∀ z ∈ zs ++ [(p, ms)], H2 z.1 = some (.lst (z.2.map V.int)) := fun z hz => by
            rcases List.mem_append.mp hz with hz | hz
            · exact R2.st z hz
            · have e : z = (p, ms) := by simpa using hz
              subst e; exact hp2
          refine ⟨l2, zs ++ [(p, ms)], rfl, SqL.of (by rw [zm]; simp), by rw [List.length_append, List.length_singleton]; omega, fun z hz => SqL.of (m24 _ _ (hst z hz)), nd, fun q zs' hq pm pw => ⟨(by show 2 ≤ sizeLine; decide), fun tp htp => ?_⟩⟩
          have m5 := zp hq (o := .lst (zs'.map fun z => V.ref z.1))
          have m6 := zp htp (o := .tup [.int b, .ref q])
          have m26 := (m24.trans m5).trans m6
          have F6 := F2.same m26
          have R6 := R2.same m26
          have hmem : ∀ z, z ∈ zs' ↔ z ∈ zs ++ [(p, ms)] := fun z => pm.mem_iff
          have hsub : ∀ l ∈ zs.map (·.2), l ∈ zs'.map (·.2) := fun l hl => by
            obtain ⟨z, hz, rfl⟩ := List.mem_map.mp hl
            exact List.mem_map.mpr ⟨z, (hmem z).mpr (List.mem_append_left _ hz), rfl⟩
          have gm : GoodRule b (zs'.map (·.2)) := ⟨hb2, hb16, by rw [List.length_map, pm.length_eq, List.length_append, List.length_singleton]; omega, fun l hl => by
            obtain ⟨z, hz, rfl⟩ := List.mem_map.mp hl
            rcases List.mem_append.mp ((hmem z).mp hz) with hz | hz
            · exact g.st _ (List.mem_map.mpr ⟨z, hz, rfl⟩)
            · have e : z = (p, ms) := by simpa using hz
              subst e; exact gms, by rw [List.pairwise_map]; exact pw⟩
          refine ⟨_, rfl, _, rfl, tp, b, q, zs', n, rfl, ⟨zm, m6 _ _ zm, fun z hz => m26 _ _ (hst z ((hmem z).mp hz))⟩, gm, hn9, F6.lt, fun v7 H7 e7 m7 T7 => ?_⟩
          subst e7
          have Rm7 := (RuleAt.mk (H := _) (r := tp) (b := b) (bl := q) (zs := zs') zm (m6 _ _ zm) (fun z hz => m26 _ _ (hst z ((hmem z).mp hz)))).sameL F6.lt m7
          have R7 := R6.sameL F6.lt m7
          refine ⟨_, rfl, _, rfl, r, b, bl, zs, n, rfl, R7, g, hn9, T7, fun v8 H8 e8 m8 T8 => ?_⟩
          subst e8
          refine ⟨_, _, rfl, rfl, _, rfl, zeO ?_ ?_⟩
          · have := Wm (f := fun k => k) (fun k q => Z3 (fs := yp b k) hsub q) n
            exact Int.not_lt.mpr (Int.ofNat_le.mpr this)
          have F8 := (F6.sameL m7 T7).sameL m8 T8
          have Rm8 := Rm7.sameL T7 m8
          have R8 := R7.sameL T7 m8
          refine ⟨_, rfl, _, rfl, tp, b, q, zs', n, rfl, Rm8, gm, hn9, T8, fun v9 H9 e9 m9 T9 => ?_⟩
          subst e9
          have R9 := R8.sameL T8 m9
          refine ⟨_, rfl, _, rfl, r, b, bl, zs, n, rfl, R9, g, hn9, T9, fun v10 H10 e10 m10 T10 => ?_⟩
          subst e10
          refine ⟨_, _, rfl, rfl, ?_⟩
          exact kk _ H10 (congrArg V.bl (decide_eq_true (Int.ofNat_le.mpr (Wm (fun k q => Z3 hsub q) n)))) ((F8.sameL m9 T9).sameL m10 T10)
end
section
variable {P : Program} {w : World} {K : PySem.W.Frag} {mg : Str → Option Value} {base : Heap} {T0 : Addr}
def Je (K : PySem.W.Frag) (T : Addr) : Sp := fun vs H Q _ => ∃ (a : Addr) (ns : List Int), vs = [.ref a] ∧ SqL K H a (ns.map V.int) ∧ ns.length ≤ 63 ∧ LT T H ∧ ∀ H', Q (.bl true) H'
theorem WT : zG ["script", "store", "turn", "rule", "n", "small"] ["script"] (zu UT) := ⟨rfl, rfl, rfl, by decide +kernel, rfl, by decide +kernel, by decide +kernel⟩
set_option maxHeartbeats 0 in
theorem zdV {f f1 f2 f3 f4 f5 f6 f8 f9 f10 : Addr} {fd fd1 fd2 fd3 fd4 fd5 fd6 fd8 fd9 fd10 : FuncData} (D : Df K mg "law" UT ["script"] f fd) (jh : Df K mg "_law_draws" jF ["script", "many"] f1 fd1) (zL : Df K mg "_law_take" vz ["store", "many"] f2 fd2) (Zi : Df K mg "_law_rule" jb ["store"] f3 fd3) (um : Df K mg "_law_number" qP ["store", "base"] f4 fd4)
    (vY : Df K mg "_law_grown_right" vI ["rule", "n"] f5 fd5) (qe : FnOk P w K mg base CX0 13 f5 fd5 ["rule", "n"] (uF T0)) (uB : Df K mg "_law_more_right" wM ["store", "rule", "n"] f6 fd6) (qu : FnOk P w K mg base CX0 13 f6 fd6 ["store", "rule", "n"] (u9 T0))
    (wW : Df K mg "_law_together_right" yI ["rule", "n"] f8 fd8) (uf : FnOk P w K mg base CX0 13 f8 fd8 ["rule", "n"] (vC T0)) (ur : Df K mg "_law_long_right" vV ["store", "rule"] f9 fd9) (qx : FnOk P w K mg base CX0 13 f9 fd9 ["store", "rule"] (u6 T0))
    (uo : Df K mg "_law_told_right" wJ ["rule", "m"] f10 fd10) (qp : FnOk P w K mg base CX0 13 f10 fd10 ["rule", "m"] (uR T0)) (T : Blt mg) (U : Qd mg) : FnOk P w K mg base CX0 14 f fd ["script"] (Je K T0) := by
  have Vh : FnOk P w K mg base CX0 1 f1 fd1 ["script", "many"] (ZS K) := XH jh T U
  have yr : FnOk P w K mg base CX0 1 f2 fd2 ["store", "many"] (vG T0) := uy zL T
  have Uz : FnOk P w K mg base CX0 2 f3 fd3 ["store"] (Ye T0) := Wv Zi zL T
  have YC : FnOk P w K mg base CX0 2 f4 fd4 ["store", "base"] (j7 T0) := Y5 um zL T
  refine D.fn.ok WT (fun vs H Q E h => ?_) (fun cdv A outer s H vs Q E hr h => ?_)
  · obtain ⟨a, ns, rfl, _⟩ := h; rfl
  · obtain ⟨a, ns, rfl, hS, hlen, hT, kk⟩ := h
    refine ⟨_, (zg (zH (i := 1) WT.nd rfl (Or.inl rfl) (xm (zc (zF jh Vh (hr.mono (by decide)) (zc (pv 0) (zc zj zf))) (zc zj zf))))
      (zg (vU PassesOwn.never rfl (yw rfl T.n_range (zc zj zf)) (yZ (i := 2) WT.nd rfl (Or.inl rfl))
        (zg (zH (i := 3) WT.nd rfl (Or.inl rfl) (zF Zi Uz (hr.mono (by decide)) (zc (pv 1) zf)))
        (zg (zH (i := 4) WT.nd rfl (Or.inl rfl) (zK (QR rfl) (by rfl) T.n_min boot_min (zc (zF um YC (hr.mono (by decide)) (zc (pv 1) (zc (zP (xM K) (pv 3) zj (fun _ _ => rfl)) zf))) (zc (zA xV (zA W6 zj zj) zj) zf))))
        (zg (xP (PW.pt (Qv (tX (uE (zF vY qe (hr.mono (by decide)) (zc (pv 3) (zc (pv 4) zf))))) (W9 (tX (uE (zF uB qu (hr.mono (by decide)) (zc (pv 1) (zc (pv 3) (zc (pv 4) zf)))))))))
          (zq (zJ jA))
          yh)
        (zg (zH (i := 5) WT.nd rfl (Or.inl rfl) (zA yQ (zF um YC (hr.mono (by decide)) (zc (pv 1) (zc (zP (xM K) (pv 3) zj (fun _ _ => rfl)) zf))) (zA W6 zj zj)))
        (zg (xP (PW.pt (Qv (tX (uE (zF wW uf (hr.mono (by decide)) (zc (pv 3) (zc (pv 5) zf))))) (W9 (tX (uE (zF ur qx (hr.mono (by decide)) (zc (pv 1) (zc (pv 3) zf))))))))
          (zq (zJ jA))
          yh)
        (zq (xP (tX (uE (zF uo qp (hr.mono (by decide)) (zc (pv 3) (zc (zA yN zj (zF zL yr (hr.mono (by decide)) (zc (pv 1) (zc zj zf)))) zf)))))
          (zq (zJ jA))
          yh))))))))
      (zq (zJ jA)))), ?_⟩
    refine ⟨_, rfl, a, ns, rfl, hS, hlen, fun p ds H1 hp Dr dne dlen m1 => ⟨(by show 2 ≤ sizeLine; decide), fun st hst => ?_⟩⟩
    have m2 := zp hst (o := .lst [.ref p, .int 0])
    have S : Sto2 (upd H1 st (.lst [.ref p, .int 0])) st p ds := ⟨⟨0, zm⟩, m2 _ _ Dr.li, dne, dlen, Dr.nn⟩
    have T2 := (hT.same m1).same m2
    generalize upd H1 st (.lst [.ref p, .int 0]) = H2 at m2 S T2
    refine ⟨_, rfl, by decide, by decide, wy (lo := 0) (n := (3 : Int).toNat) (fun i σ H3 => ∃ (v2 v3 v4 v5 : Option V), σ = [some (.ref a), some (.ref st), v2, v3, v4, v5] ∧ Fr T0 st p ds H2 H3)
      ⟨none, none, none, none, rfl, .refl S T2⟩ ?_ ?_⟩
    · rintro i σ H3 hi ⟨v2, v3, v4, v5, rfl, F3⟩
      refine ⟨_, rfl, st, p, ds, rfl, F3.st, F3.lt, fun r b bl zs H4 F4 R4 g => ?_⟩
      have R5 := R4.all
      refine ⟨_, rfl, _, rfl, r, _, _, V.int b, rfl, rfl, SqT.of R5.tu, rfl, st, p, ds, b, rfl, F4.st, F4.lt, g.b2, g.b16, fun n0 H6 F6 => ?_⟩
      refine ⟨_, _, rfl, rfl, ⟨by decide, by decide, by decide⟩, _, _, rfl, rfl, _, _, rfl, ?_⟩
      obtain ⟨n, hn, hn6⟩ : ∃ n : Nat, (if ((10 : Int) ^ (26 : Int).toNat - 2) < (n0 : Int) then ((10 : Int) ^ (26 : Int).toNat - 2) else (n0 : Int)) = (n : Int) ∧ n < 2 ^ 600 := by
        rw [show (10 : Int) ^ (26 : Int).toNat - 2 = ((10 ^ 26 - 2 : Nat) : Int) by decide]
        by_cases z : 10 ^ 26 - 2 < n0
        · exact ⟨10 ^ 26 - 2, by rw [if_pos (by omega)], by decide⟩
        · exact ⟨n0, by rw [if_neg (by omega)], Nat.lt_of_le_of_lt (Nat.le_of_not_lt z) (by decide)⟩
      rw [hn]
      have R6 := R4.q F4.lt F6.q
      refine ⟨_, rfl, _, rfl, r, b, bl, zs, n, rfl, R6.all, g, hn6, F6.lt, fun v H7 hv m7 T7 => ?_⟩
      subst hv
      have F7 := F6.sameL m7 T7
      refine ⟨_, rfl, bF (by simp) ?_⟩
      refine ⟨_, rfl, _, rfl, _, rfl, st, p, ds, r, b, bl, zs, n, rfl, F7.st, F7.lt, R4.q F4.lt F7.q, g, hn6, fun v H8 hv f8 => ?_⟩
      subst hv
      have F8 := F7.trans f8
      have R8 := (R4.q F4.lt F8.q).all
      refine ⟨_, rfl, bF (by simp) ?_⟩
      refine ⟨_, rfl, _, rfl, r, _, _, V.int b, rfl, rfl, SqT.of R8.tu, rfl, st, p, ds, b, rfl, F8.st, F8.lt, g.b2, g.b16, fun n1 H9 f9 => ?_⟩
      have F9 := F8.trans f9
      have R9 := R4.q F4.lt F9.q
      refine ⟨_, _, rfl, rfl, ⟨by decide, by decide, by decide⟩, _, _, rfl, rfl, (by decide : (0 : Int) < 10 ^ (9 : Int).toNat), ?_⟩
      have e9 : (n1 : Int) % 10 ^ (9 : Int).toNat = ((n1 % 10 ^ 9 : Nat) : Int) := by rw [Int.natCast_emod]; rfl
      dsimp only
      rw [e9]
      refine ⟨_, rfl, _, rfl, r, b, bl, zs, n1 % 10 ^ 9, rfl, R9.all, g, Nat.lt_of_lt_of_le (Nat.mod_lt _ (by decide)) (by decide), F9.lt, fun v H10 hv m10 T10 => ?_⟩
      subst hv
      have F10 := F9.sameL m10 T10
      refine ⟨_, rfl, bF (by simp) ?_⟩
      refine ⟨_, rfl, _, rfl, st, p, ds, r, b, bl, zs, rfl, F10.st, F10.lt, R4.q F4.lt F10.q, g, fun v H11 hv f11 => ?_⟩
      subst hv
      have F11 := F10.trans f11
      refine ⟨_, rfl, bF (by simp) ?_⟩
      refine ⟨_, rfl, _, rfl, st, p, ds, 60, rfl, F11.st, (by decide), F11.lt, fun x H12 hx _ q12 t12 => ?_⟩
      have F12 := F11.trans ⟨q12, t12⟩
      have R12 := (R4.q F4.lt F12.q).all
      refine ⟨_, _, rfl, rfl, r, b, bl, zs, 1 + x, by simp, R12, g, ⟨by omega, by omega⟩, F12.lt, fun v H13 hv m13 T13 => ?_⟩
      subst hv
      exact ⟨_, rfl, bF (by simp) ⟨_, _, _, _, rfl, (F3.trans F4).trans (F12.sameL m13 T13)⟩⟩
    · rintro σ H3 ⟨v2, v3, v4, v5, rfl, F3⟩
      exact kk H3
end
open PySem L2
theorem fb1 {P : List Value → Prop} (h : ∀ a, P [a]) : ∀ us : List Value, us.length = 1 → P us
  | [a], _ => h a
theorem fb2 {P : List Value → Prop} (h : ∀ a b, P [a, b]) : ∀ us : List Value, us.length = 2 → P us
  | [a, b], _ => h a b
theorem fb3 {P : List Value → Prop} (h : ∀ a b c, P [a, b, c]) : ∀ us : List Value, us.length = 3 → P us
  | [a, b, c], _ => h a b c
def FF (K : PySem.W.Frag) (n q : Str) (st : Stmt) (f : Addr) (cd : Value) : Prop := ∃ (od an : Option Addr) (sl : Array (Option Value)) (oc kV dc pm ct : Value), K.lookup f = some ⟨oc, od, .func (PySem.W.fnOf n q (ux st) (wN st) (zu st) .none kV dc pm an cd ct), sl⟩ ∧ PySem.W.codeIn K cd q = true ∧ PySem.W.keepIn K (.ref f) = true
def FD (K : PySem.W.Frag) (n : Str) (st : Stmt) : Prop := ∃ (f : Addr) (cd : Value), PySem.W.nsIn K mainGlobals n = some (some (.ref f)) ∧ FF K n n st f cd
def FM (K : PySem.W.Frag) (C : Addr) (n q : Str) (st : Stmt) : Prop := ∃ (f : Addr) (cd : Value), PySem.W.findIn K (.ref C) n = some (some (.ref f)) ∧ PySem.W.isFn K (.ref f) = true ∧ FF K n q st f cd
section
variable {K : PySem.W.Frag} {n q : Str} {st : Stmt} {f C : Addr} {cd : Value} {od an : Option Addr} {sl : Array (Option Value)} {oc kV dc pm ct : Value}
theorem fdm (a : PySem.W.nsIn K mainGlobals n = some (some (.ref f))) (l : K.lookup f = some ⟨oc, od, .func (PySem.W.fnOf n n (ux st) (wN st) (zu st) .none kV dc pm an cd ct), sl⟩) (e : PySem.W.codeIn K cd n = true) (k : PySem.W.keepIn K (.ref f) = true) : FD K n st := ⟨f, cd, a, od, an, sl, oc, kV, dc, pm, ct, l, e, k⟩
theorem fmm (a : PySem.W.findIn K (.ref C) n = some (some (.ref f))) (i : PySem.W.isFn K (.ref f) = true) (l : K.lookup f = some ⟨oc, od, .func (PySem.W.fnOf n q (ux st) (wN st) (zu st) .none kV dc pm an cd ct), sl⟩) (e : PySem.W.codeIn K cd q = true) (k : PySem.W.keepIn K (.ref f) = true) : FM K C n q st := ⟨f, cd, a, i, od, an, sl, oc, kV, dc, pm, ct, l, e, k⟩
def FB (n q : Str) (st : Stmt) (ps : List Str) : Prop := ∀ (kV doc pm : Value) (an : Option Addr) (cdv ct : Value) (us : List Value), us.length = ps.length → bindArgs (PySem.W.fnOf n q (ux st) (wN st) (zu st) .none kV doc pm an cdv ct) ⟨us, []⟩ = pure (ps.zip us)
theorem FD.df {h : Heap} {mg : Str → Option Value} {ps : List Str} (x : FD K n st) (X : K.In h) (G : h.Ns mainGlobals mg) (b : FB n n st ps) : ∃ f fd, Df K mg n st ps f fd := by
  obtain ⟨f, cd, a, od, an, sl, oc, kV, dc, pm, ct, l, e, k⟩ := x
  exact ⟨_, _, zcv X G a l e k b⟩
theorem FM.mt {ps : List Str} (x : FM K C n q st) (b : FB n q st ps) : ∃ f fd, Mt K C q n st ps f fd := by
  obtain ⟨f, cd, a, i, od, an, sl, oc, kV, dc, pm, ct, l, e, k⟩ := x
  exact ⟨_, _, ⟨Jt (st := st) l e k, (Jt (st := st) l e k).binds b, ⟨a, i, k⟩⟩⟩
end
set_option maxHeartbeats 0 in
theorem zdP {l : PySem.W.OpenLaw} {w : World} {K : PySem.W.Frag} {h : Heap} {mg : Str → Option Value} {fa T0 c0 : Addr} (X : K.In h) (G : h.Ns mainGlobals mg) (hfa : mg "law" = some (.ref fa)) (hcT : PySem.W.codeHdIn K c0 T0 = true) (hgT : mainGlobals ≠ T0)
    (x0 : FD K "_wall" zdx)
    (x1 : FD K "is_whole" uZ)
    (x2 : FD K "is_number" je)
    (x3 : FD K "is_base" Z2)
    (x4 : FD K "is_figure" jj)
    (x5 : FD K "are_figures" uI)
    (x6 : FD K "is_stretch" jK)
    (x7 : FD K "is_rising" jc)
    (x8 : FD K "is_bad_list" uG)
    (x9 : FD K "is_rule" Xo)
    (x10 : FD K "check_base" jE)
    (x11 : FD K "check_number" tW)
    (x12 : FD K "check_rule" yM)
    (x13 : FD K "stands_within" vN)
    (x14 : FD K "lacks_all" vA)
    (x15 : FD K "figures_of" xG)
    (x16 : FD K "is_good" Xk)
    (x17 : FD K "begins_one" qg)
    (x18 : FD K "longest_stand" uN)
    {f19 : Addr} {od19 an19 : Option Addr} {sl19 : Array (Option Value)} {oc19 kV19 dc19 pm19 ct19 : Value} (a19 : PySem.W.nsIn K mainGlobals "stands_of" = some (some (.ref f19)))
    (l19 : K.lookup f19 = some ⟨oc19, od19, .func (PySem.W.fnOf "stands_of" "stands_of" (ux yH) (wN yH) (zu yH) .none kV19 dc19 pm19 an19 (.ref c0) ct19), sl19⟩) (e19 : PySem.W.codeIn K (.ref c0) "stands_of" = true) (k19 : PySem.W.keepIn K (.ref f19) = true)
    (x20 : FD K "place_behind" tO)
    (x21 : FD K "steps_from" tU)
    (x22 : FD K "all_steps" jd)
    (x23 : FD K "weights_by_left" wO)
    (x24 : FD K "number_totals" vM)
    (x25 : FD K "sum_below" vq)
    (x26 : FD K "figures_below" xW)
    (x27 : FD K "often_below" wY)
    (x28 : FD K "check_length" vg)
    (x29 : FD K "count_shorter" vO)
    (x30 : FD K "least_long" jB)
    (x31 : FD K "greatest_long" uM)
    (x32 : FD K "sum_long" j8)
    (x33 : FD K "count_below" qU)
    (x34 : FD K "last_good" jg)
    (x35 : FD K "_law_draws" jF)
    (x36 : FD K "_law_take" vz)
    (x37 : FD K "_law_rule" jb)
    (x38 : FD K "_law_number" qP)
    (x39 : FD K "_law_grown_right" vI)
    (x40 : FD K "_law_together_right" yI)
    (x41 : FD K "_law_long_right" vV)
    (x42 : FD K "_law_told_right" wJ)
    (x43 : FD K "_law_more_right" wM)
    (x44 : FD K "law" UT)
    {C : Addr} (aC : PySem.W.nsIn K mainGlobals "Tails" = some (some (.ref C)))
    (yC0 : FM K C "__init__" "Tails.__init__" qH)
    (yC1 : FM K C "layer" "Tails.layer" wZ)
    (yC2 : FM K C "many_by" "Tails.many_by" xX)
    (yC3 : FM K C "many_under" "Tails.many_under" xu)
    (yC4 : FM K C "many_below" "Tails.many_below" wB)
    (yC5 : FM K C "many_within" "Tails.many_within" yG)
    (yC6 : FM K C "figure_at" "Tails.figure_at" vW)
    (yC7 : FM K C "number_at" "Tails.number_at" xQ)
    (yC8 : FM K C "are_endless" "Tails.are_endless" Xr)
    (pgC : PySem.W.plainGet K C Str.empty = true) (hdC : PySem.W.hasDictIn K C = true) (poC : PySem.W.plainOver K C = true) (saC : PySem.W.findIn K (.ref C) "__setattr__" = some (some (.builtin "object.__setattr__"))) (mkC : PySem.W.makesIn K C = true) (kcC : PySem.W.keepIn K (.ref C) = true)
    (nC_base : PySem.W.findIn K (.ref C) "base" = some none)
    (nC_outset : PySem.W.findIn K (.ref C) "outset" = some none)
    (nC_steps : PySem.W.findIn K (.ref C) "steps" = some none)
    (nC_layers : PySem.W.findIn K (.ref C) "layers" = some none)
    {CS : Addr} (aCS : PySem.W.nsIn K mainGlobals "Totals" = some (some (.ref CS)))
    (yCS0 : FM K CS "__init__" "Totals.__init__" qd)
    (yCS1 : FM K CS "longer_layer" "Totals.longer_layer" xn)
    (yCS2 : FM K CS "weight_of" "Totals.weight_of" wz)
    (yCS3 : FM K CS "total_under" "Totals.total_under" xN)
    (yCS4 : FM K CS "total_below" "Totals.total_below" yO)
    (yCS5 : FM K CS "total_within" "Totals.total_within" wI)
    (pgCS : PySem.W.plainGet K CS Str.empty = true) (hdCS : PySem.W.hasDictIn K CS = true) (poCS : PySem.W.plainOver K CS = true) (saCS : PySem.W.findIn K (.ref CS) "__setattr__" = some (some (.builtin "object.__setattr__"))) (mkCS : PySem.W.makesIn K CS = true) (kcCS : PySem.W.keepIn K (.ref CS) = true)
    (nCS_tails : PySem.W.findIn K (.ref CS) "tails" = some none)
    (nCS_weights : PySem.W.findIn K (.ref CS) "weights" = some none)
    (nCS_layers : PySem.W.findIn K (.ref CS) "layers" = some none)
    {t0 : Tok} (g0 : PySem.W.nsIn K mainGlobals "LEAST_BASE" = some (some (.int 2 t0)))
    {t1 : Tok} (g1 : PySem.W.nsIn K mainGlobals "GREATEST_BASE" = some (some (.int 16 t1)))
    {t2 : Tok} (g2 : PySem.W.nsIn K mainGlobals "MOST_STRETCHES" = some (some (.int 4 t2)))
    {t3 : Tok} (g3 : PySem.W.nsIn K mainGlobals "LONGEST_STRETCH" = some (some (.int 4 t3)))
    {t4 : Tok} (g4 : PySem.W.nsIn K mainGlobals "MOST_FIGURES" = some (some (.int 60 t4)))
    (z0 : PySem.W.nsIn K mainGlobals "isinstance" = some none)
    (z1 : PySem.W.nsIn K mainGlobals "int" = some none)
    (z2 : PySem.W.nsIn K mainGlobals "bool" = some none)
    (z3 : PySem.W.nsIn K mainGlobals "list" = some none)
    (z4 : PySem.W.nsIn K mainGlobals "tuple" = some none)
    (z5 : PySem.W.nsIn K mainGlobals "reversed" = some none)
    (z6 : PySem.W.nsIn K mainGlobals "len" = some none)
    (z7 : PySem.W.nsIn K mainGlobals "max" = some none)
    (z8 : PySem.W.nsIn K mainGlobals "min" = some none)
    (z9 : PySem.W.nsIn K mainGlobals "range" = some none)
    (z10 : PySem.W.nsIn K mainGlobals "all" = some none)
    (z11 : PySem.W.nsIn K mainGlobals "any" = some none)
    (z12 : PySem.W.nsIn K mainGlobals "sorted" = some none)
    (z13 : PySem.W.nsIn K mainGlobals "enumerate" = some none)
    (z14 : PySem.W.nsIn K mainGlobals "repr" = some none)
    (z15 : PySem.W.nsIn K mainGlobals "sum" = some none)
    (z16 : PySem.W.nsIn K mainGlobals "abs" = some none)
    (z17 : PySem.W.nsIn K mainGlobals "zip" = some none)
    (z18 : PySem.W.nsIn K mainGlobals "str" = some none)
    : ∃ fd : FuncData, (∀ (s : Shared) (v : Value), BindsTo s fd ⟨[v], []⟩ [("script", v)]) ∧ ∀ base : Heap, K.In base → base.Ns mainGlobals mg → base.BuiltinsAt mg T0 → FnOk l.prog w K mg base CX0 14 fa fd ["script"] (Je K T0) := by
  obtain ⟨fL, cd44, aL, od44, an44, sl44, oc44, kV44, dc44, pm44, ct44, lL, eL, kL⟩ := x44
  have e := hfa.symm.trans (PySem.W.mg_of X G aL)
  cases e
  have T : Blt mg := ⟨PySem.W.mg_none_of X G z0, PySem.W.mg_none_of X G z1, PySem.W.mg_none_of X G z2, PySem.W.mg_none_of X G z3, PySem.W.mg_none_of X G z4, PySem.W.mg_none_of X G z5, PySem.W.mg_none_of X G z6, PySem.W.mg_none_of X G z7, PySem.W.mg_none_of X G z8, PySem.W.mg_none_of X G z9, PySem.W.mg_none_of X G z10, PySem.W.mg_none_of X G z11, PySem.W.mg_none_of X G z12, PySem.W.mg_none_of X G z13, PySem.W.mg_none_of X G z14⟩
  have U : Qd mg := ⟨PySem.W.mg_none_of X G z15, PySem.W.mg_none_of X G z16, PySem.W.mg_none_of X G z17, PySem.W.mg_none_of X G z18⟩
  have Yd := PySem.W.mg_of X G g0
  have jo := PySem.W.mg_of X G g1
  have qG := PySem.W.mg_of X G g2
  have tM := PySem.W.mg_of X G g3
  have j6 := PySem.W.mg_of X G g4
  obtain ⟨_, _, D_wall⟩ := x0.df (ps := ["k"]) X G fun _ _ _ _ _ _ => fb1 fun _ => rfl
  obtain ⟨_, _, xg⟩ := x1.df (ps := ["thing"]) X G fun _ _ _ _ _ _ => fb1 fun _ => rfl
  obtain ⟨_, _, ud⟩ := x2.df (ps := ["thing"]) X G fun _ _ _ _ _ _ => fb1 fun _ => rfl
  obtain ⟨_, _, Zh⟩ := x3.df (ps := ["thing"]) X G fun _ _ _ _ _ _ => fb1 fun _ => rfl
  obtain ⟨_, _, tD⟩ := x4.df (ps := ["base", "thing"]) X G fun _ _ _ _ _ _ => fb2 fun _ _ => rfl
  obtain ⟨_, _, jH⟩ := x5.df (ps := ["base", "thing"]) X G fun _ _ _ _ _ _ => fb2 fun _ _ => rfl
  obtain ⟨_, _, Zw⟩ := x6.df (ps := ["base", "thing"]) X G fun _ _ _ _ _ _ => fb2 fun _ _ => rfl
  obtain ⟨_, _, j5⟩ := x7.df (ps := ["stretches"]) X G fun _ _ _ _ _ _ => fb1 fun _ => rfl
  obtain ⟨_, _, jP⟩ := x8.df (ps := ["base", "thing"]) X G fun _ _ _ _ _ _ => fb2 fun _ _ => rfl
  obtain ⟨_, _, Wo⟩ := x9.df (ps := ["thing"]) X G fun _ _ _ _ _ _ => fb1 fun _ => rfl
  obtain ⟨_, _, Zy⟩ := x10.df (ps := ["thing"]) X G fun _ _ _ _ _ _ => fb1 fun _ => rfl
  obtain ⟨_, _, qQ⟩ := x11.df (ps := ["thing"]) X G fun _ _ _ _ _ _ => fb1 fun _ => rfl
  obtain ⟨_, _, zM⟩ := x12.df (ps := ["thing"]) X G fun _ _ _ _ _ _ => fb1 fun _ => rfl
  obtain ⟨_, _, ug⟩ := x13.df (ps := ["stretch", "figures"]) X G fun _ _ _ _ _ _ => fb2 fun _ _ => rfl
  obtain ⟨_, _, xr⟩ := x14.df (ps := ["bad", "figures"]) X G fun _ _ _ _ _ _ => fb2 fun _ _ => rfl
  obtain ⟨_, _, zW⟩ := x15.df (ps := ["base", "n"]) X G fun _ _ _ _ _ _ => fb2 fun _ _ => rfl
  obtain ⟨_, _, Wf⟩ := x16.df (ps := ["rule", "n"]) X G fun _ _ _ _ _ _ => fb2 fun _ _ => rfl
  obtain ⟨_, _, qY⟩ := x17.df (ps := ["bad", "figures"]) X G fun _ _ _ _ _ _ => fb2 fun _ _ => rfl
  obtain ⟨_, _, tQ⟩ := x18.df (ps := ["bad", "figures"]) X G fun _ _ _ _ _ _ => fb2 fun _ _ => rfl
  have Ys : Df K mg "stands_of" yH ["bad"] _ _ := zcv X G a19 l19 e19 k19 fun _ _ _ _ _ _ => fb1 fun _ => rfl
  obtain ⟨_, _, qR⟩ := x20.df (ps := ["bad", "stands", "figures"]) X G fun _ _ _ _ _ _ => fb3 fun _ _ _ => rfl
  obtain ⟨_, _, Zu⟩ := x21.df (ps := ["rule", "stands", "stand"]) X G fun _ _ _ _ _ _ => fb3 fun _ _ _ => rfl
  obtain ⟨_, _, Yo⟩ := x22.df (ps := ["rule", "stands"]) X G fun _ _ _ _ _ _ => fb2 fun _ _ => rfl
  obtain ⟨_, _, ut⟩ := x23.df (ps := ["weights", "scale", "size"]) X G fun _ _ _ _ _ _ => fb3 fun _ _ _ => rfl
  obtain ⟨_, _, wG⟩ := x24.df (ps := ["rule", "size"]) X G fun _ _ _ _ _ _ => fb2 fun _ _ => rfl
  obtain ⟨_, _, zQ⟩ := x25.df (ps := ["rule", "n"]) X G fun _ _ _ _ _ _ => fb2 fun _ _ => rfl
  obtain ⟨_, _, zX⟩ := x26.df (ps := ["rule", "n"]) X G fun _ _ _ _ _ _ => fb2 fun _ _ => rfl
  obtain ⟨_, _, yV⟩ := x27.df (ps := ["rule", "n", "figure"]) X G fun _ _ _ _ _ _ => fb3 fun _ _ _ => rfl
  obtain ⟨_, _, yS⟩ := x28.df (ps := ["thing"]) X G fun _ _ _ _ _ _ => fb1 fun _ => rfl
  obtain ⟨_, _, wA⟩ := x29.df (ps := ["tails", "m"]) X G fun _ _ _ _ _ _ => fb2 fun _ _ => rfl
  obtain ⟨_, _, ZG⟩ := x30.df (ps := ["rule", "m"]) X G fun _ _ _ _ _ _ => fb2 fun _ _ => rfl
  obtain ⟨_, _, qm⟩ := x31.df (ps := ["rule", "m"]) X G fun _ _ _ _ _ _ => fb2 fun _ _ => rfl
  obtain ⟨_, _, tH⟩ := x32.df (ps := ["rule", "m"]) X G fun _ _ _ _ _ _ => fb2 fun _ _ => rfl
  obtain ⟨_, _, jQ⟩ := x33.df (ps := ["rule", "n"]) X G fun _ _ _ _ _ _ => fb2 fun _ _ => rfl
  obtain ⟨_, _, tE⟩ := x34.df (ps := ["rule", "n"]) X G fun _ _ _ _ _ _ => fb2 fun _ _ => rfl
  obtain ⟨_, _, jh⟩ := x35.df (ps := ["script", "many"]) X G fun _ _ _ _ _ _ => fb2 fun _ _ => rfl
  obtain ⟨_, _, zL⟩ := x36.df (ps := ["store", "many"]) X G fun _ _ _ _ _ _ => fb2 fun _ _ => rfl
  obtain ⟨_, _, Zi⟩ := x37.df (ps := ["store"]) X G fun _ _ _ _ _ _ => fb1 fun _ => rfl
  obtain ⟨_, _, um⟩ := x38.df (ps := ["store", "base"]) X G fun _ _ _ _ _ _ => fb2 fun _ _ => rfl
  obtain ⟨_, _, vY⟩ := x39.df (ps := ["rule", "n"]) X G fun _ _ _ _ _ _ => fb2 fun _ _ => rfl
  obtain ⟨_, _, wW⟩ := x40.df (ps := ["rule", "n"]) X G fun _ _ _ _ _ _ => fb2 fun _ _ => rfl
  obtain ⟨_, _, ur⟩ := x41.df (ps := ["store", "rule"]) X G fun _ _ _ _ _ _ => fb2 fun _ _ => rfl
  obtain ⟨_, _, uo⟩ := x42.df (ps := ["rule", "m"]) X G fun _ _ _ _ _ _ => fb2 fun _ _ => rfl
  obtain ⟨_, _, uB⟩ := x43.df (ps := ["store", "rule", "n"]) X G fun _ _ _ _ _ _ => fb3 fun _ _ _ => rfl
  have Dlaw : Df K mg "law" UT ["script"] _ _ := zcv X G aL lL eL kL fun _ _ _ _ _ _ => fb1 fun _ => rfl
  obtain ⟨_, _, ju⟩ := yC0.mt (ps := ["self", "rule"]) fun _ _ _ _ _ _ => fb2 fun _ _ => rfl
  have uX : Mk K C _ := let ⟨a, i, _⟩ := ju.m; ⟨mkC, a, i, kcC⟩
  have uW := ju.b
  obtain ⟨_, _, yL⟩ := yC1.mt (ps := ["self", "left"]) fun _ _ _ _ _ _ => fb2 fun _ _ => rfl
  obtain ⟨_, _, yo⟩ := yC2.mt (ps := ["self", "layer", "place", "stop"]) fun _ _ _ _ _ _ us hl => match us, hl with | [_, _, _, _], _ => rfl
  obtain ⟨_, _, yq⟩ := yC3.mt (ps := ["self", "place", "stop", "left"]) fun _ _ _ _ _ _ us hl => match us, hl with | [_, _, _, _], _ => rfl
  obtain ⟨_, _, yX⟩ := yC4.mt (ps := ["self", "figures"]) fun _ _ _ _ _ _ => fb2 fun _ _ => rfl
  obtain ⟨_, _, zR⟩ := yC5.mt (ps := ["self", "size"]) fun _ _ _ _ _ _ => fb2 fun _ _ => rfl
  obtain ⟨_, _, uv⟩ := yC6.mt (ps := ["self", "place", "k", "left"]) fun _ _ _ _ _ _ us hl => match us, hl with | [_, _, _, _], _ => rfl
  obtain ⟨_, _, yu⟩ := yC7.mt (ps := ["self", "size", "k"]) fun _ _ _ _ _ _ => fb3 fun _ _ _ => rfl
  obtain ⟨_, _, zav⟩ := yC8.mt (ps := ["self"]) fun _ _ _ _ _ _ => fb1 fun _ => rfl
  have zy : ClT K mg C := ⟨⟨pgC, hdC, poC, saC⟩, PySem.W.mg_of X G aC, nC_base, nC_outset, nC_steps, nC_layers⟩
  obtain ⟨_, _, qJ⟩ := yCS0.mt (ps := ["self", "rule", "weights", "scale", "size"]) fun _ _ _ _ _ _ us hl => match us, hl with | [_, _, _, _, _], _ => rfl
  have jO : Mk K CS _ := let ⟨a, i, _⟩ := qJ.m; ⟨mkCS, a, i, kcCS⟩
  have jJ := qJ.b
  obtain ⟨_, _, wR⟩ := yCS1.mt (ps := ["self", "left"]) fun _ _ _ _ _ _ => fb2 fun _ _ => rfl
  obtain ⟨_, _, yU⟩ := yCS2.mt (ps := ["self", "behind", "figure", "left"]) fun _ _ _ _ _ _ us hl => match us, hl with | [_, _, _, _], _ => rfl
  obtain ⟨_, _, yF⟩ := yCS3.mt (ps := ["self", "place", "stop", "left", "ahead"]) fun _ _ _ _ _ _ us hl => match us, hl with | [_, _, _, _, _], _ => rfl
  obtain ⟨_, _, yg⟩ := yCS4.mt (ps := ["self", "figures"]) fun _ _ _ _ _ _ => fb2 fun _ _ => rfl
  obtain ⟨_, _, xO⟩ := yCS5.mt (ps := ["self", "size"]) fun _ _ _ _ _ _ => fb2 fun _ _ => rfl
  have zE : ClS K mg CS := ⟨⟨pgCS, hdCS, poCS, saCS⟩, PySem.W.mg_of X G aCS, nCS_tails, nCS_weights, nCS_layers⟩
  refine ⟨PySem.W.fnOf "law" "law" (ux UT) (wN UT) (zu UT) .none kV44 dc44 pm44 an44 cd44 ct44, fun s v => .of_eq rfl, fun base _ _ hBM => ?_⟩
  have jT : FnOk l.prog w K mg base CX0 1 _ _ ["thing"] q9 := Zt xg T
  have Z4 : FnOk l.prog w K mg base CX0 2 _ _ ["thing"] YG := za3 Zh xg T Yd jo
  have Xj : FnOk l.prog w K mg base CX0 3 _ _ ["thing"] ZM := Qq Zy Zh Z4
  have Zk : FnOk l.prog w K mg base CX0 2 _ _ ["thing"] jR := Wn ud xg T
  have ZQ : FnOk l.prog w K mg base CX0 3 _ _ ["thing"] jx := Vx qQ ud xg T
  have zZ : FnOk l.prog w K mg base CX0 4 _ _ ["base", "n"] xF := Qn zW Zy Xj qQ ZQ T
  have qL : FnOk l.prog w K mg base CX0 2 _ _ ["base", "thing"] jC := QX tD xg T
  have Yu : FnOk l.prog w K mg base CX0 3 _ _ ["base", "thing"] j9 := Ut jH tD qL T
  have Y7 : FnOk l.prog w K mg base CX0 4 _ _ ["base", "thing"] ZL := U9 Zw jH Yu tM T
  have Ui : FnOk l.prog w K mg base CX0 1 _ _ ["stretches"] Yz := Wi j5 T
  have Yw : FnOk l.prog w K mg base CX0 5 _ _ ["base", "thing"] Za := V0 jP Zw Y7 j5 qG T
  have Uh : FnOk l.prog w K mg base CX0 6 _ _ ["thing"] X3 := zaK Wo Zh Z4 jP Yw T
  have zN : FnOk l.prog w K mg base CX0 7 _ _ ["thing"] yK := Qm zM Wo Uh
  have Y9 : FnOk l.prog w K mg base CX0 1 _ _ ["stretch", "figures"] qD := ZZ ug T
  have xY : FnOk l.prog w K mg base CX0 2 _ _ ["bad", "figures"] uq := Js xr ug T
  have Uy : FnOk l.prog w K mg base CX0 8 _ _ ["rule", "n"] X4 := zau Wf zM zN xr xY zW zZ T
  have Vn : FnOk l.prog w K mg base CX0 1 _ _ ["bad", "figures"] ZK := Xx qY T
  have Zn : FnOk l.prog w K mg base CX0 3 _ _ ["bad", "figures"] qt := Va tQ xr xY qY T
  have XR : FnOk l.prog w K mg base CX0 6 _ _ ["bad"] (YF T0) := Ju Ys rfl hcT hBM hgT xr xY T
  have ZV : FnOk l.prog w K mg base CX0 4 _ _ ["bad", "stands", "figures"] jy := VB qR tQ Zn
  have Xg : FnOk l.prog w K mg base CX0 5 _ _ ["rule", "stands", "stand"] ZW := Qi Zu qR ZV T
  have XS : FnOk l.prog w K mg base CX0 6 _ _ ["rule", "stands"] YH := Jf Yo Zu Xg T
  have qb : FnOk l.prog w K mg base CX0 1 _ _ ["self", "layer", "place", "stop"] (Yn C) := XM yo zy T U
  have vJ : FnOk l.prog w K mg base CX0 2 _ _ ["self", "left"] (Xe C) := V8 yL yo zy T U
  have yx : FnOk l.prog w K mg base CX0 3 _ _ ["self", "place", "stop", "left"] (uJ C) := Qs yq yL yo zy T U
  have zV : FnOk l.prog w K mg base CX0 3 _ _ ["self", "size"] (vo C) := UV zR yL yo zy T U
  have xT : FnOk l.prog w K mg base CX0 4 _ _ ["self", "figures"] (qN C) := Qp yX yq yx zy T
  have qI : FnOk l.prog w K mg base CX0 4 _ _ ["self", "place", "k", "left"] (Yy C) := JC uv yq yx zy T
  have yE : FnOk l.prog w K mg base CX0 5 _ _ ["self", "size", "k"] (qi C) := QV yu yq yx uv qI zy T
  have yz : FnOk l.prog w K mg base CX0 7 _ _ ["self", "rule"] (jf T0 C) := zcH ju Ys XR Yo XS xr xY zy T
  have Yi : FnOk l.prog w K mg base CX0 9 _ _ ["rule", "n"] (Zc T0) := U6 jQ zM zN zW zZ uX uW yz yX xT zy
  have qz : FnOk l.prog w K mg base CX0 9 _ _ ["rule", "n"] (jN T0) := Ja tE zM zN zW zZ uX uW yz yX xT yu yE zy T
  have xJ : FnOk l.prog w K mg base CX0 3 _ _ ["thing"] vL := Vz yS ud Zk j6
  have w6 : FnOk l.prog w K mg base CX0 4 _ _ ["tails", "m"] (uz C) := Vb wA zR zV zy
  have YX : FnOk l.prog w K mg base CX0 9 _ _ ["rule", "m"] (qF T0 Xd zaU) := Qa ZG zM zN yS xJ uX uW yz zR zV wA w6 yu yE zy
  have Zb : FnOk l.prog w K mg base CX0 9 _ _ ["rule", "m"] (qF T0 Xd WL) := Vd qm zM zN yS xJ uX uW yz zR zV wA w6 yu yE zy
  have qM : FnOk l.prog w K mg base CX0 1 _ _ ["weights", "scale", "size"] uU := XJ ut T
  have xR : FnOk l.prog w K mg base CX0 1 _ _ ["self", "behind", "figure", "left"] (jL C CS) := Jj yU zy zE
  have xj : FnOk l.prog w K mg base CX0 3 _ _ ["self", "place", "stop", "left", "ahead"] (tV C CS) := Uj yF yL vJ yU xR zy zE T
  have ul : FnOk l.prog w K mg base CX0 4 _ _ ["self", "left"] (jl C CS) := VH wR yF xj zy zE T
  have wQ : FnOk l.prog w K mg base CX0 1 _ _ ["self", "size"] (jw C CS) := VG xO zy zE
  have wj : FnOk l.prog w K mg base CX0 9 _ _ ["self", "rule", "weights", "scale", "size"] (jV T0 C CS) := zbG qJ uX uW yz ut qM zR zV wR ul zy zE T
  have vf : FnOk l.prog w K mg base CX0 11 _ _ ["rule", "size"] (uw T0 C CS) := W4 wG jO jJ wj zE T
  have qy : FnOk l.prog w K mg base CX0 12 _ _ ["rule", "m"] (Zx T0) := JP tH zM zN yS xJ wG vf xO wQ zE
  have yr : FnOk l.prog w K mg base CX0 1 _ _ ["store", "many"] (vG T0) := uy zL T
  have Vh : FnOk l.prog w K mg base CX0 1 _ _ ["script", "many"] (ZS K) := XH jh T U
  have Uz : FnOk l.prog w K mg base CX0 2 _ _ ["store"] (Ye T0) := Wv Zi zL T
  have YC : FnOk l.prog w K mg base CX0 2 _ _ ["store", "base"] (j7 T0) := Y5 um zL T
  have yl : FnOk l.prog w K mg base CX0 4 _ _ ["self", "figures"] (vd C CS) := Ud yg yF xj yU xR zy zE T
  have zT : FnOk l.prog w K mg base CX0 12 _ _ ["rule", "n"] (vH T0) := Q5 zQ zM zN zW zZ wG vf yg yl zE T
  have yd : FnOk l.prog w K mg base CX0 12 _ _ ["rule", "n"] (ww T0) := WM zX zM zN zW zZ jO jJ wj yg yl zE T
  have xH : FnOk l.prog w K mg base CX0 12 _ _ ["rule", "n", "figure"] (vZ T0) := Ul yV zM zN zW zZ tD qL jO jJ wj yg yl zE T
  have qe : FnOk l.prog w K mg base CX0 13 _ _ ["rule", "n"] (uF T0) := Xu vY Wf Uy zW zZ zQ zT zX yd yV xH T U
  have uf : FnOk l.prog w K mg base CX0 13 _ _ ["rule", "n"] (vC T0) := Yl wW yV xH zX yd jQ Yi tE qz zQ zT T U
  have qp : FnOk l.prog w K mg base CX0 13 _ _ ["rule", "m"] (uR T0) := XQ uo yV xH zX yd zQ zT tE qz tH qy ZG YX qm Zb T U
  have qx : FnOk l.prog w K mg base CX0 13 _ _ ["store", "rule"] (u6 T0) := X7 ur zL zQ zT tH qy T
  have qu : FnOk l.prog w K mg base CX0 13 _ _ ["store", "rule", "n"] (u9 T0) := XX uB zL zQ zT zX yd T
  exact zdV Dlaw jh zL Zi um vY qe uB qu wW uf ur qx uo qp T U
theorem walk2 {l : PySem.W.OpenLaw} {q : Program} {loose : List Str} {XP : (Str → Option Value) → Heap → Prop} {YP : World → Heap → Prop} {d : DefRec} {K : Params → PySem.W.Frag} {c T0 : Addr} (hn : l.most = some 63) (hdf : d.params.defaults = [])
    (hY : ∀ (w : World) (h : Heap), YP w h → (K w.params).In h) (hYT : ∀ (w : World) (h : Heap), YP w h → h.get? T0 = some (PySem.W.tabObj #[])) (hKT : ∀ w : World, (K w.params).lookup T0 = none) (hcT : ∀ w : World, PySem.W.codeHdIn (K w.params) c T0 = true)
    (F : ∀ (w : World) (mg : Str → Option Value) (fa : Addr) (h : Heap), (K w.params).In h → h.Ns mainGlobals mg → mg d.name = some (.ref fa) →
      ∃ fd : FuncData, (∀ (s : Shared) (u : Value), BindsTo s fd ⟨[u], []⟩ [("script", u)]) ∧ ∀ base : Heap, (K w.params).In base → base.Ns mainGlobals mg → base.BuiltinsAt mg T0 → FnOk l.prog w (K w.params) mg base CX0 14 fa fd ["script"] (Je (K w.params) T0)) :
    PySem.W.WalkO q loose XP YP l.row.toRowW d [] (fun f vs => PySem.call f vs) :=
  L2.zfa (n := 63) (k := 14) (x := "script") (sp := fun w => Je (K w.params) T0) hn (by decide) hdf ⟨rfl, by decide, by decide⟩ hY hYT hKT hcT F (fun w H a ns hl hT hS => ⟨a, ns, rfl, hS, hl, .inl hT, fun _ => rfl⟩)
end Lw
open PySem PySem.W PyProof.Rows
set_option maxRecDepth 100000 in
set_option maxHeartbeats 0 in
theorem PySem.Challenge.cw_lackstretch_k21_whole_sums_together_holds : PySem.Challenge.rw_lackstretch_k21_whole_sums_together.Holds := by
  w_on; o_law; k_head; (case hw => w_witness2)
  k_fill
  refine Lw.walk2 (l := PySem.Challenge.rw_lackstretch_k21_whole_sums_together) (c := 202) (T0 := 198) rfl rfl (fun w h Y => PySem.W.km_in_of Y) (fun w h Y => PySem.W.km_tabs_of Y 198 (by decide)) (fun w => by kernel_rfl) (fun w => by kernel_rfl) ?F
  case F =>
    intro w mg fa h KX G hmg
    refine' Lw.zdP (c0 := 202) (T0 := 198) KX G hmg (by kernel_rfl) (by decide) ?yyx0 ?yyx1 ?yyx2 ?yyx3 ?yyx4 ?yyx5 ?yyx6 ?yyx7 ?yyx8 ?yyx9 ?yyx10 ?yyx11 ?yyx12 ?yyx13 ?yyx14 ?yyx15 ?yyx16 ?yyx17 ?yyx18 ?yya19 ?yyl19 ?yye19 ?yyk19 ?yyx20 ?yyx21 ?yyx22 ?yyx23 ?yyx24 ?yyx25 ?yyx26 ?yyx27 ?yyx28 ?yyx29 ?yyx30 ?yyx31 ?yyx32 ?yyx33 ?yyx34 ?yyx35 ?yyx36 ?yyx37 ?yyx38 ?yyx39 ?yyx40 ?yyx41 ?yyx42 ?yyx43 ?yyx44 ?yyaC ?yyyC0 ?yyyC1 ?yyyC2 ?yyyC3 ?yyyC4 ?yyyC5 ?yyyC6 ?yyyC7 ?yyyC8 ?yypgC ?yyhdC ?yypoC ?yysaC ?yymkC ?yykcC ?yynC_base ?yynC_outset ?yynC_steps ?yynC_layers ?yyaCS ?yyyCS0 ?yyyCS1 ?yyyCS2 ?yyyCS3 ?yyyCS4 ?yyyCS5 ?yypgCS ?yyhdCS ?yypoCS ?yysaCS ?yymkCS ?yykcCS ?yynCS_tails ?yynCS_weights ?yynCS_layers ?yyg0 ?yyg1 ?yyg2 ?yyg3 ?yyg4 ?yyz0 ?yyz1 ?yyz2 ?yyz3 ?yyz4 ?yyz5 ?yyz6 ?yyz7 ?yyz8 ?yyz9 ?yyz10 ?yyz11 ?yyz12 ?yyz13 ?yyz14 ?yyz15 ?yyz16 ?yyz17 ?yyz18
    (case yyx0 => refine' Lw.fdm ?_ ?_ ?_ ?_ <;> try k_is)
    (case yyx1 => refine' Lw.fdm ?_ ?_ ?_ ?_ <;> try k_is)
    (case yyx2 => refine' Lw.fdm ?_ ?_ ?_ ?_ <;> try k_is)
    (case yyx3 => refine' Lw.fdm ?_ ?_ ?_ ?_ <;> try k_is)
    (case yyx4 => refine' Lw.fdm ?_ ?_ ?_ ?_ <;> try k_is)
    (case yyx5 => refine' Lw.fdm ?_ ?_ ?_ ?_ <;> try k_is)
    (case yyx6 => refine' Lw.fdm ?_ ?_ ?_ ?_ <;> try k_is)
    (case yyx7 => refine' Lw.fdm ?_ ?_ ?_ ?_ <;> try k_is)
    (case yyx8 => refine' Lw.fdm ?_ ?_ ?_ ?_ <;> try k_is)
    (case yyx9 => refine' Lw.fdm ?_ ?_ ?_ ?_ <;> try k_is)
    (case yyx10 => refine' Lw.fdm ?_ ?_ ?_ ?_ <;> try k_is)
    (case yyx11 => refine' Lw.fdm ?_ ?_ ?_ ?_ <;> try k_is)
    (case yyx12 => refine' Lw.fdm ?_ ?_ ?_ ?_ <;> try k_is)
    (case yyx13 => refine' Lw.fdm ?_ ?_ ?_ ?_ <;> try k_is)
    (case yyx14 => refine' Lw.fdm ?_ ?_ ?_ ?_ <;> try k_is)
    (case yyx15 => refine' Lw.fdm ?_ ?_ ?_ ?_ <;> try k_is)
    (case yyx16 => refine' Lw.fdm ?_ ?_ ?_ ?_ <;> try k_is)
    (case yyx17 => refine' Lw.fdm ?_ ?_ ?_ ?_ <;> try k_is)
    (case yyx18 => refine' Lw.fdm ?_ ?_ ?_ ?_ <;> try k_is)
    (case yya19 => k_is)
    (case yyl19 => k_is)
    (case yye19 => k_is)
    (case yyk19 => k_is)
    (case yyx20 => refine' Lw.fdm ?_ ?_ ?_ ?_ <;> try k_is)
    (case yyx21 => refine' Lw.fdm ?_ ?_ ?_ ?_ <;> try k_is)
    (case yyx22 => refine' Lw.fdm ?_ ?_ ?_ ?_ <;> try k_is)
    (case yyx23 => refine' Lw.fdm ?_ ?_ ?_ ?_ <;> try k_is)
    (case yyx24 => refine' Lw.fdm ?_ ?_ ?_ ?_ <;> try k_is)
    (case yyx25 => refine' Lw.fdm ?_ ?_ ?_ ?_ <;> try k_is)
    (case yyx26 => refine' Lw.fdm ?_ ?_ ?_ ?_ <;> try k_is)
    (case yyx27 => refine' Lw.fdm ?_ ?_ ?_ ?_ <;> try k_is)
    (case yyx28 => refine' Lw.fdm ?_ ?_ ?_ ?_ <;> try k_is)
    (case yyx29 => refine' Lw.fdm ?_ ?_ ?_ ?_ <;> try k_is)
    (case yyx30 => refine' Lw.fdm ?_ ?_ ?_ ?_ <;> try k_is)
    (case yyx31 => refine' Lw.fdm ?_ ?_ ?_ ?_ <;> try k_is)
    (case yyx32 => refine' Lw.fdm ?_ ?_ ?_ ?_ <;> try k_is)
    (case yyx33 => refine' Lw.fdm ?_ ?_ ?_ ?_ <;> try k_is)
    (case yyx34 => refine' Lw.fdm ?_ ?_ ?_ ?_ <;> try k_is)
    (case yyx35 => refine' Lw.fdm ?_ ?_ ?_ ?_ <;> try k_is)
    (case yyx36 => refine' Lw.fdm ?_ ?_ ?_ ?_ <;> try k_is)
    (case yyx37 => refine' Lw.fdm ?_ ?_ ?_ ?_ <;> try k_is)
    (case yyx38 => refine' Lw.fdm ?_ ?_ ?_ ?_ <;> try k_is)
    (case yyx39 => refine' Lw.fdm ?_ ?_ ?_ ?_ <;> try k_is)
    (case yyx40 => refine' Lw.fdm ?_ ?_ ?_ ?_ <;> try k_is)
    (case yyx41 => refine' Lw.fdm ?_ ?_ ?_ ?_ <;> try k_is)
    (case yyx42 => refine' Lw.fdm ?_ ?_ ?_ ?_ <;> try k_is)
    (case yyx43 => refine' Lw.fdm ?_ ?_ ?_ ?_ <;> try k_is)
    (case yyx44 => refine' Lw.fdm ?_ ?_ ?_ ?_ <;> try k_is)
    (case yyaC => k_is)
    (case yyyC0 => refine' Lw.fmm ?_ ?_ ?_ ?_ ?_ <;> try k_is)
    (case yyyC1 => refine' Lw.fmm ?_ ?_ ?_ ?_ ?_ <;> try k_is)
    (case yyyC2 => refine' Lw.fmm ?_ ?_ ?_ ?_ ?_ <;> try k_is)
    (case yyyC3 => refine' Lw.fmm ?_ ?_ ?_ ?_ ?_ <;> try k_is)
    (case yyyC4 => refine' Lw.fmm ?_ ?_ ?_ ?_ ?_ <;> try k_is)
    (case yyyC5 => refine' Lw.fmm ?_ ?_ ?_ ?_ ?_ <;> try k_is)
    (case yyyC6 => refine' Lw.fmm ?_ ?_ ?_ ?_ ?_ <;> try k_is)
    (case yyyC7 => refine' Lw.fmm ?_ ?_ ?_ ?_ ?_ <;> try k_is)
    (case yyyC8 => refine' Lw.fmm ?_ ?_ ?_ ?_ ?_ <;> try k_is)
    (case yypgC => k_is)
    (case yyhdC => k_is)
    (case yypoC => k_is)
    (case yysaC => k_is)
    (case yymkC => k_is)
    (case yykcC => k_is)
    (case yynC_base => k_is)
    (case yynC_outset => k_is)
    (case yynC_steps => k_is)
    (case yynC_layers => k_is)
    (case yyaCS => k_is)
    (case yyyCS0 => refine' Lw.fmm ?_ ?_ ?_ ?_ ?_ <;> try k_is)
    (case yyyCS1 => refine' Lw.fmm ?_ ?_ ?_ ?_ ?_ <;> try k_is)
    (case yyyCS2 => refine' Lw.fmm ?_ ?_ ?_ ?_ ?_ <;> try k_is)
    (case yyyCS3 => refine' Lw.fmm ?_ ?_ ?_ ?_ ?_ <;> try k_is)
    (case yyyCS4 => refine' Lw.fmm ?_ ?_ ?_ ?_ ?_ <;> try k_is)
    (case yyyCS5 => refine' Lw.fmm ?_ ?_ ?_ ?_ ?_ <;> try k_is)
    (case yypgCS => k_is)
    (case yyhdCS => k_is)
    (case yypoCS => k_is)
    (case yysaCS => k_is)
    (case yymkCS => k_is)
    (case yykcCS => k_is)
    (case yynCS_tails => k_is)
    (case yynCS_weights => k_is)
    (case yynCS_layers => k_is)
    (case yyg0 => k_is)
    (case yyg1 => k_is)
    (case yyg2 => k_is)
    (case yyg3 => k_is)
    (case yyg4 => k_is)
    (case yyz0 => k_is)
    (case yyz1 => k_is)
    (case yyz2 => k_is)
    (case yyz3 => k_is)
    (case yyz4 => k_is)
    (case yyz5 => k_is)
    (case yyz6 => k_is)
    (case yyz7 => k_is)
    (case yyz8 => k_is)
    (case yyz9 => k_is)
    (case yyz10 => k_is)
    (case yyz11 => k_is)
    (case yyz12 => k_is)
    (case yyz13 => k_is)
    (case yyz14 => k_is)
    (case yyz15 => k_is)
    (case yyz16 => k_is)
    (case yyz17 => k_is)
    (case yyz18 => k_is)
